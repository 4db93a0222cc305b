import PyProof.Rows.All
import Wide.All
import OpenK.AllK
import Wide.FinOn
import Lean
import PyProof.EqAt
import PyProof.EqKinds
import PyProof.NeKinds
import PyProof.ZipIter
import PyProof.Rows.ZipGen
import PyProof.ExcArgs
import PyProof.CompUse
import PyProof.TupleCall
import PyProof.CompFree
import PyProof.Cells
import OpenK.KEqL
import KE.KEqDict
import PyProof.EnumIter
import PyProof.EnumFor
import PyProof.EnumMake
import PyProof.EnumStmt
import PyProof.Rows.EnumRows
import KE.KRevIter
import PyProof.StrWalks
import PyProof.StrCalls2
import PyProof.Rows.StrJoin2
import PyProof.StrLawsTight
import PyProof.StrLawsIn
import PyProof.SliceStr2
import PyProof.StrBlockI
import PyProof.StrLawsOcc
import PyProof.ConsumeS
import PyProof.MinMaxWalk
import PyProof.WalkInts
import KE.KRevSl
import KE.KLam
import KE.KNestM
import OpenK.KRaise
import PyProof.Draws
import PyProof.StrOps2
import KE.KDflt
import PyProof.LongRange
import KE.KUnpack
import PyProof.Rows.IntBool
import KE.RegKIsAll
import PySem.Challenge.RW_cellfolio_k13_joined_and_parted
set_option Elab.async false
set_option linter.all false
set_option maxRecDepth 100000
namespace L2
open PySem PySem.Spec PyProof.Rows
noncomputable abbrev Key := Sum Int Str
noncomputable def keyIs : Key → Value → Bool
 | .inl k, v => Value.isInt k v
 | .inr x, v => Value.isStrOf x v
noncomputable def keyH (w : World) : Key → Int
 | .inl k => hashInt k
 | .inr x => hashStr w x
theorem keyIs_shape : ∀ {k : Key} {v : Value}, keyIs k v = true → (∃ i t, k = Sum.inl i ∧ v = Value.int i t) ∨ (∃ x t, k = Sum.inr x ∧ v = Value.str x t)
 | .inl i, v, h => by
  obtain ⟨t, e⟩ := Value.isInt_shape (k := i) (v := v) h
  exact .inl ⟨i, t, rfl, e⟩
 | .inr x, v, h => by
  obtain ⟨t, e⟩ := Value.isStrOf_shape (x := x) (v := v) h
  exact .inr ⟨x, t, rfl, e⟩
theorem key_ll (a b : Int) : decide ((Sum.inl a : Key) = Sum.inl b) = (a == b) := by
 by_cases e : a = b
 ·subst e; simp
 ·have h : ¬ (Sum.inl a : Key) = Sum.inl b := fun q => e (Sum.inl.inj q)
  rw [decide_eq_false h]
  exact (beq_eq_false_iff_ne.mpr e).symm
theorem key_rr (a b : Str) : decide ((Sum.inr a : Key) = Sum.inr b) = decide (a = b) := by
 by_cases e : a = b
 ·subst e; simp
 ·have h : ¬ (Sum.inr a : Key) = Sum.inr b := fun q => e (Sum.inr.inj q)
  rw [decide_eq_false h, decide_eq_false e]
theorem key_lr (a : Int) (b : Str) : decide ((Sum.inl a : Key) = Sum.inr b) = false := decide_eq_false (fun q => nomatch q)
theorem key_rl (a : Str) (b : Int) : decide ((Sum.inr a : Key) = Sum.inl b) = false := decide_eq_false (fun q => nomatch q)
noncomputable def mixKind (prog : Program) (w : World) : PySem.KeyKind prog w Key where
 is := keyIs
 hash := keyH w
 inj := fun v a b ha hb => by
  rcases keyIs_shape ha with ⟨i, t, rfl, rfl⟩ | ⟨x, t, rfl, rfl⟩
  ·rcases keyIs_shape hb with ⟨j, u, rfl, e⟩ | ⟨y, u, rfl, e⟩
   ·injection e with e1 _; rw [e1]
   ·exact nomatch e
  ·rcases keyIs_shape hb with ⟨j, u, rfl, e⟩ | ⟨y, u, rfl, e⟩
   ·exact nomatch e
   ·injection e with e1 _; rw [e1]
 byValue := fun k v h => by
  rcases keyIs_shape h with ⟨i, t, rfl, rfl⟩ | ⟨x, t, rfl, rfl⟩ <;> rfl
 pyHash := fun hv h => by
  rcases keyIs_shape hv with ⟨i, t, rfl, rfl⟩ | ⟨x, t, rfl, rfl⟩
  ·exact wpAny_pyHash_int h
  ·exact wpAny_pyHash_str h
 eqBool := fun hu hv h => by
  rcases keyIs_shape hu with ⟨i, t, rfl, rfl⟩ | ⟨x, t, rfl, rfl⟩
  ·rcases keyIs_shape hv with ⟨j, u, rfl, rfl⟩ | ⟨y, u, rfl, rfl⟩
   ·rw [key_ll] at h; exact wpAny_eqBool_int h
   ·rw [key_lr] at h; exact SeqAt.EqAt.int_str i t y u _ _ _ _ h
  ·rcases keyIs_shape hv with ⟨j, u, rfl, rfl⟩ | ⟨y, u, rfl, rfl⟩
   ·rw [key_rl] at h; exact SeqAt.EqAt.str_int x t j u _ _ _ _ h
   ·rw [key_rr] at h; exact wpAny_eqBool_str h
 «strs» := fun k x t v h => by
  rcases keyIs_shape h with ⟨i, u, rfl, e⟩ | ⟨y, u, rfl, e⟩
  ·exact nomatch e
  ·injection e with e1 _
   subst e1
   cases v <;> rfl
end L2
namespace L2
open PySem PySem.Spec PyProof.Rows
inductive V where
 | non | bl (b : Bool) | int (i : Int) | str (x : Str) | byt (b : Array UInt8) | flt (b : UInt64) | ref (a : Addr) | ty (n : String)
 deriving DecidableEq
noncomputable def RelV : V → Value → Prop
 | .non, u => u = Value.none
 | .bl b, u => u = Value.bool b
 | .int i, u => ∃ t, u = Value.int i t
 | .str x, u => ∃ t, u = Value.str x t
 | .byt b, u => ∃ t, u = Value.bytes b t
 | .flt b, u => ∃ t, u = Value.float b t
 | .ref a, u => u = Value.ref a
 | .ty n, u => u = Value.type n
noncomputable abbrev Vals : List V → List Value → Prop := Paired RelV
theorem Vals.length {xs : List V} {us : List Value} (r : Vals xs us) : xs.length = us.length := Paired.length r
theorem Vals.get : ∀ {xs : List V} {us : List Value} {i : Nat} {x : V}, Vals xs us → xs[i]? = some x → ∃ u, us[i]? = some u ∧ RelV x u
 | _, _, _, _, .nil, e => by simp at e
 | _, _, 0, _, .cons r _, e => by simp at e; subst e; exact ⟨_, rfl, r⟩
 | _, _, i + 1, x, .cons _ t, e => by
  obtain ⟨u, h1, h2⟩ := Vals.get (i := i) (x := x) t (by simpa using e)
  exact ⟨u, by simpa using h1, h2⟩
theorem Vals.set {x : V} {u : Value} (r : RelV x u) : ∀ {xs : List V} {us : List Value} (i : Nat), Vals xs us → Vals (xs.set i x) (us.set i u)
 | _, _, _, .nil => .nil
 | _, _, 0, .cons _ t => .cons r t
 | _, _, i + 1, .cons q t => .cons q (Vals.set r i t)
theorem Vals.append : ∀ {xs ys : List V} {us ws : List Value}, Vals xs us → Vals ys ws → Vals (xs ++ ys) (us ++ ws)
 | _, _, _, _, .nil, s => s
 | _, _, _, _, .cons r t, s => .cons r (Vals.append t s)
theorem Vals.take : ∀ {xs : List V} {us : List Value} (n : Nat), Vals xs us → Vals (xs.take n) (us.take n)
 | _, _, 0, _ => .nil
 | _, _, _ + 1, .nil => .nil
 | _, _, n + 1, .cons r t => .cons r (Vals.take n t)
theorem Vals.drop : ∀ {xs : List V} {us : List Value} (n : Nat), Vals xs us → Vals (xs.drop n) (us.drop n)
 | _, _, 0, r => r
 | _, _, _ + 1, .nil => .nil
 | _, _, n + 1, .cons _ t => Vals.drop n t
noncomputable def RelO : Option V → Option Value → Prop
 | some v, some u => RelV v u
 | none, none => True
 | _, _ => False
noncomputable def KV {κ : Type} : List (κ × V) → List (κ × Value) → Prop := Paired fun (p : κ × V) (q : κ × Value) => p.1 = q.1 ∧ RelV p.2 q.2
noncomputable def kV : Key → V
 | .inl i => .int i
 | .inr x => .str x
inductive HO where
 | lst (xs : List V)
 | tup (xs : List V)
 | dK (kvs : List (Key × V)) | dT (kvs : List (List Key × V))
 | set (S : Int → Bool) (n : Nat)
 | ins (C dx : Addr) (fs : List (Str × V))
 | own (x : Addr)
 | xd (fs : List (Str × V))
 | met (f x : Addr)
 | rng (lo hi : Int)
 | frz (o : Obj) (u : HO)
 | tbl (ps : Array Value)
 | ext (φ : Heap → Prop)
noncomputable abbrev Hp := Addr → Option HO
noncomputable def upd (H : Hp) (a : Addr) (o : HO) : Hp := fun b => if b = a then some o else H b
theorem upd_same {H : Hp} {a : Addr} {o : HO} : upd H a o a = some o := by unfold upd; rw [if_pos rfl]
theorem upd_ne {H : Hp} {a b : Addr} {o : HO} (h : b ≠ a) : upd H a o b = H b := by unfold upd; rw [if_neg h]
theorem ne_of_none {H : Hp} {a b : Addr} {o : HO} (h : H a = some o) (h' : H b = none) : a ≠ b := by
 intro e; subst e; rw [h] at h'; cases h'
section
variable (P : Program) (w : World)
noncomputable def ObjOk (H : Hp) (h : Heap) (a : Addr) : HO → Prop
 | .lst xs => xs.length ≤ sizeLine ∧ ∃ (its : List Value) (n : Nat), Vals xs its ∧ h.get? a = some { cls := .type "list", data := .seq its.toArray n }
 | .tup xs => xs.length ≤ sizeLine ∧ ∃ its : List Value, Vals xs its ∧ IsTup h a its.toArray
 | .dK kvs => kvs.length ≤ sizeLine ∧ (a == sysModules) = false ∧ ∃ vs, KV kvs vs ∧ h.DictOf (mixKind P w) a vs
 | .dT kvs => kvs.length ≤ sizeLine ∧ (a == sysModules) = false ∧ ∃ xs : List (List Key × Addr × Value),
   Paired (fun (p : List Key × V) (q : List Key × Addr × Value) => p.1 = q.1 ∧ H q.2.1 = some (.tup (p.1.map kV)) ∧ RelV p.2 q.2.2) kvs xs ∧
   ∃ o es ep, h.get? a = some o ∧ o.ExactDict ∧ o.data = .dict es ep ∧ es.toList = xs.map (entryOfKey (tupleKind (mixKind P w))) ∧ (xs.map (·.1)).Nodup
 | .set S n => h.SetOf (intKind P w) a S n
 | .ins C dx fs => H dx = some (.own a) ∧ fs.length ≤ 1000 ∧ dx ≠ a ∧ h.get? a = some (PySem.W.instObj C dx) ∧
   ∃ mA, h.Ns1 dx mA ∧ (∀ f, RelO (fs.lookup f) (mA f)) ∧ PySem.Within mA (fs.map (·.1))
 | .own _ => ∃ o, h.get? a = some o
 | .xd fs => ∃ mA, h.Ns1 a mA ∧ ∀ f, RelO (fs.lookup f) (mA f)
 | .rng lo hi => ∃ t u v, h.get? a = some { cls := .type "range", data := .fields #[.int lo t, .int hi u, .int 1 v] }
 | .frz o u => h.get? a = some o ∧ ObjOk H h a u
 | .tbl ps => h.get? a = some { cls := .none, data := .fields ps }
 | .met f x => h.get? a = some (PySem.W.methodObj (.ref f) (.ref x))
 | .ext φ => φ h ∧ (∃ o, h.get? a = some o) ∧ ∀ h1 h2 : Heap, φ h1 → (∀ o, h1.get? a = some o → h2.get? a = some o) → φ h2
noncomputable def HOk (H : Hp) (h : Heap) : Prop := ∀ a o, H a = some o → ObjOk P w H h a o
end
section
variable {P : Program} {w : World} {H H' : Hp} {h h' : Heap} {a : Addr} {o : HO}
theorem ObjOk.lt (x : ObjOk P w H h a o) : a < h.objs.size := by
 cases o with
 | lst xs => obtain ⟨_, _, _, _, e⟩ := x; exact Heap.lt_size e
 | tup xs => obtain ⟨_, _, _, p⟩ := x; exact p.lt
 | dK kvs => obtain ⟨_, _, _, _, o, _, _, e, _⟩ := x; exact Heap.lt_size e
 | dT kvs => obtain ⟨_, _, _, _, o, _, _, e, _⟩ := x; exact Heap.lt_size e
 | set S n => obtain ⟨o, _, _, _, e, _⟩ := x; exact Heap.lt_size e
 | ins C dx fs => obtain ⟨_, _, _, e, _⟩ := x; exact Heap.lt_size e
 | own y => obtain ⟨_, e⟩ := x; exact Heap.lt_size e
 | xd fs => obtain ⟨_, ⟨_, _, _, e, _⟩, _⟩ := x; exact Heap.lt_size e
 | rng lo hi => obtain ⟨_, _, _, e⟩ := x; exact Heap.lt_size e
 | frz ob u => obtain ⟨e, _⟩ := x; exact Heap.lt_size e
 | tbl ps => exact Heap.lt_size (show h.get? a = some _ from x)
 | met f y => exact Heap.lt_size (show h.get? a = some _ from x)
 | ext φ => obtain ⟨_, ⟨_, e⟩, _⟩ := x; exact Heap.lt_size e
theorem Paired.mapP {α β : Type} {F G : α → β → Prop} : ∀ {l₁ : List α} {l₂ : List β}, Paired F l₁ l₂ → (∀ a b, F a b → G a b) → Paired G l₁ l₂
 | _, _, .nil, _ => .nil
 | _, _, .cons r t, f => .cons (f _ _ r) (Paired.mapP t f)
theorem ObjOk.stay (x : ObjOk P w H h a o) (k : ∀ b u, (b = a ∨ H b = some (.own a)) → h.get? b = some u → h'.get? b = some u)
  (ho : ∀ b, H b = some (.own a) → H' b = some (.own a)) (ht : ∀ b xs, H b = some (.tup xs) → H' b = some (.tup xs)) : ObjOk P w H' h' a o := by
 induction o with
 | lst xs => obtain ⟨z, its, n, r, e⟩ := x; exact ⟨z, its, n, r, k _ _ (.inl rfl) e⟩
 | tup xs => obtain ⟨z, its, r, ob, e, c⟩ := x; exact ⟨z, its, r, ob, k _ _ (.inl rfl) e, c⟩
 | dK kvs => obtain ⟨z, y, vs, r, ob, es, ep, e, c⟩ := x; exact ⟨z, y, vs, r, ob, es, ep, k _ _ (.inl rfl) e, c⟩
 | dT kvs =>
  obtain ⟨z, y, xs, r, ob, es, ep, e, c⟩ := x
  exact ⟨z, y, xs, Paired.mapP r fun p q z => ⟨z.1, ht _ _ z.2.1, z.2.2⟩, ob, es, ep, k _ _ (.inl rfl) e, c⟩
 | set S n => obtain ⟨ob, es, ep, t, e, c⟩ := x; exact ⟨ob, es, ep, t, k _ _ (.inl rfl) e, c⟩
 | ins C dx fs =>
  obtain ⟨d, z, ne, e, mA, ⟨od, es, ep, e2, c⟩, r⟩ := x
  exact ⟨ho _ d, z, ne, k _ _ (.inl rfl) e, mA, ⟨od, es, ep, k _ _ (.inr d) e2, c⟩, r⟩
 | own y => obtain ⟨ob, e⟩ := x; exact ⟨ob, k _ _ (.inl rfl) e⟩
 | xd fs => obtain ⟨mA, ⟨od, es, ep, e, c⟩, r⟩ := x; exact ⟨mA, ⟨od, es, ep, k _ _ (.inl rfl) e, c⟩, r⟩
 | rng lo hi => obtain ⟨t, u, v, e⟩ := x; exact ⟨t, u, v, k _ _ (.inl rfl) e⟩
 | frz ob u ih => obtain ⟨e, q⟩ := x; exact ⟨k _ _ (.inl rfl) e, ih q⟩
 | tbl ps =>
  have e : h.get? a = some { cls := .none, data := .fields ps } := x
  show h'.get? a = some { cls := .none, data := .fields ps }
  exact k a _ (.inl rfl) e
 | met f y =>
  have e : h.get? a = some (PySem.W.methodObj (.ref f) (.ref y)) := x
  show h'.get? a = some (PySem.W.methodObj (.ref f) (.ref y))
  exact k a _ (.inl rfl) e
 | ext φ => obtain ⟨p, ⟨o, e⟩, st⟩ := x; exact ⟨st _ _ p fun o q => k _ _ (.inl rfl) q, ⟨o, k _ _ (.inl rfl) e⟩, st⟩
theorem HOk.lt (x : HOk P w H h) (e : H a = some o) : a < h.objs.size := (x a o e).lt
theorem HOk.fresh (x : HOk P w H h) (e : h.objs.size ≤ a) : H a = none := by
 cases q : H a with
 | none => rfl
 | some u => exact absurd (Nat.lt_of_lt_of_le (x.lt q) e) (Nat.lt_irrefl _)
theorem HOk.kept (x : HOk P w H h) (k : ∀ b u, h.get? b = some u → h'.get? b = some u) : HOk P w H h' := fun a o e =>
 (x a o e).stay (fun b u _ q => k b u q) (fun _ q => q) fun _ _ q => q
theorem HOk.laid (x : HOk P w H h) (k : ∀ b u, h.get? b = some u → h'.get? b = some u) (hp : h.objs.size ≤ a) (new : ObjOk P w (upd H a o) h' a o) : HOk P w (upd H a o) h' := fun b u e => by
 have hn := x.fresh hp
 by_cases hb : b = a
 ·subst hb; rw [upd_same] at e; cases e; exact new
 ·rw [upd_ne hb] at e
  exact (x b u e).stay (fun c v _ q => k c v q) (fun c q => by rw [upd_ne (ne_of_none q hn)]; exact q) fun c xs q => by rw [upd_ne (ne_of_none q hn)]; exact q
end
noncomputable def Rd (H : Hp) (a : Addr) (u : HO) : Prop := H a = some u ∨ ∃ o, H a = some (.frz o u)
theorem Rd.ok {P : Program} {w : World} {H : Hp} {h : Heap} {a : Addr} {u : HO} (r : Rd H a u) (x : HOk P w H h) : ObjOk P w H h a u := by
 rcases r with r | ⟨o, r⟩
 ·exact x a u r
 ·obtain ⟨_, q⟩ := x a _ r
  exact q
noncomputable def Mut : Option HO → Prop
 | some (.lst _) => True
 | some (.dK _) => True
 | some (.dT _) => True
 | some (.set _ _) => True
 | some (.ins _ _ _) => True
 | some (.ext _) => True
 | _ => False
section
variable {P : Program} {w : World} {H : Hp} {h h' : Heap} {x e : Addr} {o' : HO}
theorem HOk.write (ok : HOk P w H h) (mu : Mut (H x)) (he : e = x ∨ H e = some (.own x)) (k : ∀ b u, b ≠ e → h.get? b = some u → h'.get? b = some u) (heo : ∃ u, h'.get? e = some u)
  (new : ObjOk P w (upd H x o') h' x o') : HOk P w (upd H x o') h' := fun b u q => by
 have nown : ∀ c y, H c = some (.own y) → c ≠ x := fun c y r z => by subst z; rw [r] at mu; exact mu
 have ntup : ∀ c xs, H c = some (.tup xs) → c ≠ x := fun c xs r z => by subst z; rw [r] at mu; exact mu
 by_cases hb : b = x
 ·subst hb; rw [upd_same] at q; cases q; exact new
 ·rw [upd_ne hb] at q
  by_cases hbe : b = e
  ·have q' : H b = some (.own x) := by
    rcases he with z | z
    ·exact absurd (hbe.trans z) hb
    ·rw [hbe]; exact z
   rw [q] at q'; cases q'
   obtain ⟨v, hv⟩ := heo
   exact ⟨v, by rw [hbe]; exact hv⟩
  ·refine (ok b u q).stay (fun c v hc r => k c v ?_ r) (fun c r => by rw [upd_ne (nown c b r)]; exact r) fun c xs r => by rw [upd_ne (ntup c xs r)]; exact r
   rcases hc with rfl | hc
   ·exact hbe
   ·rintro rfl
    rcases he with z | z
    ·exact nown c b hc z
    ·rw [hc] at z; cases z; exact hb rfl
end
structure Un (fs ex : List Addr) (H H' : Hp) (h h' : Heap) : Prop where
 keep : ∀ b o, h.get? b = some o → H b = none → b ∉ fs → b ∉ ex → h'.get? b = some o
 slot : ∀ b o, h.get? b = some o → H b = none → b ∈ fs → b ∉ ex → ∃ sl, h'.get? b = some { o with slots := sl }
 free : ∀ b o, h.get? b = some o → H b = none → b ∉ ex → H' b = none
 there : ∀ b o, h.get? b = some o → b ∉ ex → ∃ o', h'.get? b = some o'
 tups : ∀ b xs, H b = some (.tup xs) → H' b = some (.tup xs)
 frzs : ∀ b o u, H b = some (.frz o u) → H' b = some (.frz o u)
 tbls : ∀ b ps, H b = some (.tbl ps) → ∃ more, H' b = some (.tbl (ps ++ more))
section
variable {fs fs' ex ex' : List Addr} {H H1 H2 : Hp} {h h1 h2 h' : Heap} {a x e : Addr} {o : HO}
theorem Un.any (u : Un fs ex H H1 h h1) {b : Addr} {ob : Obj} (q : h.get? b = some ob) (n : H b = none) (hx : b ∉ ex) : ∃ sl, h1.get? b = some { ob with slots := sl } := by
 by_cases hb : b ∈ fs
 ·exact u.slot b ob q n hb hx
 ·exact ⟨ob.slots, u.keep b ob q n hb hx⟩
theorem Un.kept (k : ∀ b u, h.get? b = some u → h'.get? b = some u) : Un fs ex H H h h' :=
 ⟨fun b ob q _ _ _ => k b ob q, fun b ob q _ _ _ => ⟨ob.slots, k b ob q⟩, fun _ _ _ n _ => n, fun b ob q _ => ⟨ob, k b ob q⟩, fun _ _ q => q, fun _ _ _ q => q, fun _ ps q => ⟨#[], by rw [q]; simp⟩⟩
theorem Un.refl : Un fs ex H H h h := Un.kept fun _ _ q => q
theorem Un.laid (k : ∀ b u, h.get? b = some u → h'.get? b = some u) (hp : h.objs.size ≤ a) (hn : H a = none) : Un fs ex H (upd H a o) h h' where
 keep := fun b u q _ _ _ => k b u q
 slot := fun b u q _ _ _ => ⟨u.slots, k b u q⟩
 free := fun b u q n _ => by rw [upd_ne (Nat.ne_of_lt (Nat.lt_of_lt_of_le (Heap.lt_size q) hp))]; exact n
 there := fun b u q _ => ⟨u, k b u q⟩
 tups := fun b xs q => by rw [upd_ne (ne_of_none q hn)]; exact q
 frzs := fun b u xs q => by rw [upd_ne (ne_of_none q hn)]; exact q
 tbls := fun b ps q => ⟨#[], by rw [upd_ne (ne_of_none q hn), q]; simp⟩
theorem Un.write (mu : Mut (H x)) (he : e = x ∨ H e = some (.own x)) (k : ∀ b u, b ≠ e → h.get? b = some u → h'.get? b = some u) (heo : ∃ u, h'.get? e = some u) : Un fs ex H (upd H x o) h h' := by
 have hx : ∀ b, H b = none → b ≠ x := fun b n z => by subst z; rw [n] at mu; exact mu
 have hb : ∀ b, H b = none → b ≠ e := fun b n z => by
  subst z
  rcases he with r | r
  ·exact hx b n r
  ·rw [n] at r; cases r
 have hm : ∀ b u, H b = some u → ¬ Mut (some u) → b ≠ x := fun b u q nm z => by subst z; rw [q] at mu; exact nm mu
 refine ⟨fun b u q n _ _ => k b u (hb b n) q, fun b u q n _ _ => ⟨u.slots, k b u (hb b n) q⟩, fun b u q n _ => by rw [upd_ne (hx b n)]; exact n, fun b u q _ => ?_,
  fun b xs q => by rw [upd_ne (hm b _ q fun z => z)]; exact q, fun b u xs q => by rw [upd_ne (hm b _ q fun z => z)]; exact q, fun b ps q => ⟨#[], by rw [upd_ne (hm b _ q fun z => z), q]; simp⟩⟩
 by_cases hbe : b = e
 ·subst hbe; exact heo
 ·exact ⟨u, k b u hbe q⟩
end
noncomputable def trk (h : Heap) (H : Hp) : List Addr := (List.range h.objs.size).filter fun a => (H a).isSome
noncomputable def hidT (h : Heap) (H : Hp) : Heap := PySem.W.hideAll h (trk h H)
theorem hidT_size (h : Heap) (H : Hp) : (hidT h H).objs.size = h.objs.size := PySem.W.hideAll_size _ _
theorem hidT_get {h : Heap} {H : Hp} {b : Addr} {o : Obj} (e : h.get? b = some o) (n : H b = none) : (hidT h H).get? b = some o :=
 PySem.W.hideAll_get _ e fun hm => by
  have q : (H b).isSome = true := (List.mem_filter.mp hm).2
  rw [n] at q; simp at q
theorem of_hidT {h : Heap} {H : Hp} {b : Addr} {o : Obj} (e : (hidT h H).get? b = some o) : h.get? b = some o ∧ H b = none := by
 have e' : h.get? b = some o := PySem.W.of_hideAll (trk h H) e
 refine ⟨e', ?_⟩
 cases q : H b with
 | none => rfl
 | some x =>
  have hm : b ∈ trk h H := List.mem_filter.mpr ⟨List.mem_range.mpr (Heap.lt_size e'), by simp [q]⟩
  have z : (hidT h H).get? b = none := PySem.W.hideAll_none (trk h H) hm
  rw [z] at e; cases e
end L2
namespace L2
open PySem PySem.Spec PyProof.Rows
structure Mod (K : PySem.W.Frag) (mg : Str → Option Value) (base : Heap) : Prop where
 kin : K.In base
 glob : base.Ns mainGlobals mg
 blt : ∃ mb, base.Ns builtinsNs mb ∧ ∀ x : Str, x ≠ "__name__" → mb x = bootBuiltins x
 nolimit : base.NoLimit
structure Cx where
 prog : Program
 w : World
 K : PySem.W.Frag
 mg : Str → Option Value
 base : Heap
 A : Around
 N : List Str
 s₀ : Shared
 H₀ : Hp
 env : Env
 outer : List Env
 stack : List Env
 ex : List Addr
 fn : Str → Bool
 calm : Bool
 pn : List (Addr × Obj)
 xe : Value → Shared → Prop
noncomputable def frs (l : List Env) : List Addr := l.filterMap (·.frame)
noncomputable abbrev Cx.fs (X : Cx) : List Addr := frs X.outer
noncomputable def Vis (sc : Scope) (x : Str) : Prop := sc.names.lookup x = some .local ∨ sc.names.lookup x = some .cell ∨ sc.names.lookup x = some .free
noncomputable def Loc (sc : Scope) (x : Str) : Prop := sc.names.lookup x = some .local ∨ sc.names.lookup x = some .cell
noncomputable def Look (env : Env) (h : Heap) (m : Str → Option Value) (x : Str) (u : Value) : Prop :=
 (env.kindOf x = some .local ∧ m x = some u) ∨ ((env.kindOf x = some .cell ∨ env.kindOf x = some .free) ∧ ∃ c, env.cells.lookup x = some c ∧ h.IsCell c (some u))
structure Cx.Ok (X : Cx) : Prop where
 mod : Mod X.K X.mg X.base
 kind : X.env.scope.kind = .function
 glob : X.env.globals = mainGlobals
 blt : X.env.builtins = builtinsNs
 above : X.s₀.heap.objs.size ≤ X.env.locals
 inj : ∀ x y c, X.env.cells.lookup x = some c → X.env.cells.lookup y = some c → x = y
 has : ∀ x, (X.env.kindOf x = some .cell ∨ X.env.kindOf x = some .free) → ∃ c, X.env.cells.lookup x = some c
 cab : ∀ x c, X.fn x = true → X.env.cells.lookup x = some c → X.s₀.heap.objs.size ≤ c
 hd : X.calm = true → X.A.handled = none
 frames : X.A.frames = some X.stack
 stk : X.stack = X.outer ∨ (X.stack = X.env :: X.outer ∧ X.env.frame = some X.env.locals)
 exf : ∀ b ∈ X.ex, b ≠ X.env.locals ∧ ∀ x c, X.env.cells.lookup x = some c → c ≠ b
 bs : ∀ b o, X.base.get? b = some o → X.s₀.heap.get? b = some o ∧ X.H₀ b = none
 bsz : X.base.objs.size ≤ X.s₀.heap.objs.size
 noex : ∀ b o, X.base.get? b = some o → b ∉ X.ex
 exfs : ∀ b ∈ X.ex, b ∉ X.fs
 funs : X.s₀.heap.FunFrames X.base X.outer
 frf : ∀ b ∈ X.fs, X.H₀ b = none
structure Inv (X : Cx) (pins : List (Addr × Obj)) (σ : List (Option V)) (H : Hp) (s : Shared) : Prop where
 ok : X.Ok
 os : s.os = X.s₀.os
 bare : AllBare s.gens
 base : Un X.fs X.ex X.H₀ H X.s₀.heap s.heap
 loc : ∃ m, s.heap.Ns X.env.locals m ∧ ∀ (i : Nat) (x : Str) (v : V), X.N[i]? = some x → σ[i]? = some (some v) → Vis X.env.scope x → ∃ u, RelV v u ∧ Look X.env s.heap m x u
 cell : ∀ x c, X.env.cells.lookup x = some c → ∃ v, s.heap.IsCell c v
 free : H X.env.locals = none
 freeC : ∀ x c, X.env.cells.lookup x = some c → H c = none
 pin : ∀ p ∈ X.pn ++ pins, s.heap.get? p.1 = some p.2 ∧ H p.1 = none ∧ p.1 ≠ X.env.locals ∧ p.1 ∉ X.fs ∧ ∀ v, p.2.data ≠ .cell v
 hok : HOk X.prog X.w H s.heap
 len : σ.length = X.N.length
section
variable {X : Cx} {pins : List (Addr × Obj)} {σ : List (Option V)} {H H' : Hp} {s : Shared} {h' : Heap}
theorem Cx.Ok.nofr (ok : X.Ok) {b : Addr} {o : Obj} (e : X.base.get? b = some o) : b ∉ X.fs := fun hb => by
 have := (ok.funs.mem hb).1
 rw [e] at this; cases this
theorem Inv.bs (I : Inv X pins σ H s) : ∀ b o, X.base.get? b = some o → s.heap.get? b = some o ∧ H b = none := fun b o e =>
 ⟨I.base.keep b o (I.ok.bs b o e).1 (I.ok.bs b o e).2 (I.ok.nofr e) (I.ok.noex b o e), I.base.free b o (I.ok.bs b o e).1 (I.ok.bs b o e).2 (I.ok.noex b o e)⟩
theorem Inv.bk (I : Inv X pins σ H s) : ∀ b o, X.base.get? b = some o → s.heap.get? b = some o := fun b o e => (I.bs b o e).1
theorem Inv.mod (I : Inv X pins σ H s) : Mod X.K X.mg X.base := I.ok.mod
theorem Inv.kIn (I : Inv X pins σ H s) : X.K.In s.heap := I.ok.mod.kin.keeps I.bk
theorem Inv.lt (I : Inv X pins σ H s) : X.env.locals < s.heap.objs.size := let ⟨_, hn, _⟩ := I.loc; hn.lt
theorem Inv.sz (I : Inv X pins σ H s) : X.s₀.heap.objs.size ≤ s.heap.objs.size := Nat.le_trans I.ok.above (Nat.le_of_lt I.lt)
theorem Inv.nofs (I : Inv X pins σ H s) {a : Addr} (h : s.heap.objs.size ≤ a) : a ∉ X.fs := fun hb => by
 obtain ⟨_, o, ho, _⟩ := I.ok.funs.mem hb
 exact absurd (Nat.lt_of_lt_of_le (Heap.lt_size ho) (Nat.le_trans I.sz h)) (Nat.lt_irrefl _)
theorem Inv.cne (I : Inv X pins σ H s) : ∀ x c, X.env.cells.lookup x = some c → c ≠ X.env.locals := fun x c e z => by
 obtain ⟨v, o, ho, hd⟩ := I.cell x c e
 obtain ⟨m, ⟨o', es, ep, ho', hd', _⟩, _⟩ := I.loc
 rw [z, ho'] at ho; cases ho; rw [hd'] at hd; cases hd
theorem Inv.funs (I : Inv X pins σ H s) : s.heap.FunFrames X.base X.outer := by
 have all : ∀ (l : List Env), (∀ b ∈ frs l, b ∈ X.fs) → X.s₀.heap.FunFrames X.base l → s.heap.FunFrames X.base l := by
  intro l
  induction l with
  | nil => intro _ _; trivial
  | cons env r ih =>
   intro hs hl
   obtain ⟨hk, ⟨L, o, hf, hn, ho, hd⟩, hr⟩ := hl
   have hL : L ∈ X.fs := hs L (by unfold frs; rw [List.filterMap_cons, hf]; exact List.mem_cons_self)
   obtain ⟨sl, e⟩ := I.base.slot L o ho (I.ok.frf L hL) hL fun z => I.ok.exfs L z hL
   exact ⟨hk, ⟨L, _, hf, hn, e, hd⟩, ih (fun b hb => hs b (by unfold frs; rw [List.filterMap_cons, hf]; exact List.mem_cons_of_mem _ hb)) hr⟩
 exact all X.outer (fun _ hb => hb) I.ok.funs
theorem Inv.stack (I : Inv X pins σ H s) : s.heap.FunFrames X.base X.stack := by
 rcases I.ok.stk with e | ⟨e, hf⟩
 ·rw [e]; exact I.funs
 ·rw [e]
  obtain ⟨m, hn, _⟩ := I.loc
  refine .cons (by rw [I.ok.kind]; decide) hf hn ?_ I.funs
  exact Heap.get?_none_of_le (Nat.le_trans I.ok.bsz I.ok.above)
theorem Inv.stkSub (I : Inv X pins σ H s) : ∀ b ∈ frs X.stack, b ∈ X.env.locals :: X.fs := fun b hb => by
 rcases I.ok.stk with e | ⟨e, hf⟩
 ·rw [e] at hb; exact List.mem_cons_of_mem _ hb
 ·rw [e] at hb
  unfold frs at hb
  rw [List.filterMap_cons, hf] at hb
  exact hb
theorem Inv.stkFree (I : Inv X pins σ H s) : ∀ b ∈ frs X.stack, H b = none := fun b hb => by
 rcases List.mem_cons.mp (I.stkSub b hb) with e | hb
 ·rw [e]; exact I.free
 ·obtain ⟨_, o, ho, _⟩ := I.ok.funs.mem hb
  exact I.base.free b o ho (I.ok.frf b hb) fun z => I.ok.exfs b z hb
theorem Inv.step {g' : Array GenState} {t' : Nat} {d' : Drawn} {ch : List Addr} (I : Inv X pins σ H s)
  (hch : ∀ b ∈ ch, (b ∈ X.ex ∨ X.s₀.heap.objs.size ≤ b) ∧ b ≠ X.env.locals ∧ (∀ x c, X.env.cells.lookup x = some c → c ≠ b) ∧ ∀ p ∈ X.pn ++ pins, p.1 ≠ b)
  (keep : ∀ b o, b ≠ X.env.locals → b ∉ X.fs → b ∉ ch → s.heap.get? b = some o → H b = none → h'.get? b = some o)
  (slot : ∀ b o, b ≠ X.env.locals → b ∈ X.fs → b ∉ ch → s.heap.get? b = some o → H b = none → ∃ sl, h'.get? b = some { o with slots := sl }) (free : ∀ b o, b ∉ ch → s.heap.get? b = some o → H b = none → H' b = none)
  (there : ∀ b o, b ∉ ch → s.heap.get? b = some o → ∃ o', h'.get? b = some o')
  (tups : ∀ b xs, H b = some (.tup xs) → H' b = some (.tup xs)) (frzs : ∀ b o u, H b = some (.frz o u) → H' b = some (.frz o u)) (tbls : ∀ b ps, H b = some (.tbl ps) → ∃ more, H' b = some (.tbl (ps ++ more)))
  (ns : ∀ m, s.heap.Ns X.env.locals m → h'.Ns X.env.locals m) (hok : HOk X.prog X.w H' h') (hg : AllBare g') :
  Inv X pins σ H' { s with heap := h', gens := g', drawn := d', toks := t' } := by
 have neL : ∀ b o, X.s₀.heap.get? b = some o → b ≠ X.env.locals := fun b o e => Nat.ne_of_lt (Nat.lt_of_lt_of_le (Heap.lt_size e) I.ok.above)
 have neC : ∀ b o, X.s₀.heap.get? b = some o → b ∉ X.ex → b ∉ ch := fun b o e hx hb => by
  rcases (hch b hb).1 with z | z
  ·exact hx z
  ·exact absurd (Nat.lt_of_lt_of_le (Heap.lt_size e) z) (Nat.lt_irrefl _)
 have cellK : ∀ x c, X.env.cells.lookup x = some c → ∀ v, s.heap.IsCell c v → h'.IsCell c v := fun x c e v ⟨o, ho, hd⟩ => by
  have nch : c ∉ ch := fun z => (hch c z).2.2.1 x c e rfl
  by_cases hc : c ∈ X.fs
  ·obtain ⟨sl, q⟩ := slot c o (I.cne x c e) hc nch ho (I.freeC x c e)
   exact ⟨_, q, hd⟩
  ·exact ⟨o, keep c o (I.cne x c e) hc nch ho (I.freeC x c e), hd⟩
 refine ⟨I.ok, I.os, hg, ⟨fun b o e n hb hx => ?_, fun b o e n hb hx => ?_, fun b o e n hx => ?_, fun b o e hx => ?_, fun b xs e => tups b xs (I.base.tups b xs e), fun b o xs e => frzs b o xs (I.base.frzs b o xs e), fun b ps e => ?_⟩, ?_, fun x c e => ?_, ?_, fun x c e => ?_, fun p hp => ?_, hok, I.len⟩
 ·exact keep b o (neL b o e) hb (neC b o e hx) (I.base.keep b o e n hb hx) (I.base.free b o e n hx)
 ·obtain ⟨sl, e1⟩ := I.base.slot b o e n hb hx
  obtain ⟨sl', e2⟩ := slot b _ (neL b o e) hb (neC b o e hx) e1 (I.base.free b o e n hx)
  exact ⟨sl', e2⟩
 ·obtain ⟨o', e1⟩ := I.base.there b o e hx
  exact free b o' (neC b o e hx) e1 (I.base.free b o e n hx)
 ·obtain ⟨o', e1⟩ := I.base.there b o e hx
  exact there b o' (neC b o e hx) e1
 ·obtain ⟨m1, e1⟩ := I.base.tbls b ps e
  obtain ⟨m2, e2⟩ := tbls b _ e1
  exact ⟨m1 ++ m2, by rw [e2, Array.append_assoc]⟩
 ·obtain ⟨m, hn, hl⟩ := I.loc
  refine ⟨m, ns m hn, fun i x v e1 e2 e3 => ?_⟩
  obtain ⟨u, r, l⟩ := hl i x v e1 e2 e3
  refine ⟨u, r, ?_⟩
  rcases l with l | ⟨k, c, e, z⟩
  ·exact .inl l
  ·exact .inr ⟨k, c, e, cellK x c e _ z⟩
 ·obtain ⟨v, z⟩ := I.cell x c e
  exact ⟨v, cellK x c e v z⟩
 ·obtain ⟨m, ⟨o, _, _, ho, _⟩, _⟩ := I.loc
  exact free _ o (fun z => (hch _ z).2.1 rfl) ho I.free
 ·obtain ⟨v, o, ho, hd⟩ := I.cell x c e
  exact free c o (fun z => (hch c z).2.2.1 x c e rfl) ho (I.freeC x c e)
 ·obtain ⟨e, n, ne, nf, d⟩ := I.pin p hp
  have nch : p.1 ∉ ch := fun z => (hch p.1 z).2.2.2 p hp rfl
  exact ⟨keep p.1 p.2 ne nf nch e n, free p.1 p.2 nch e n, ne, nf, d⟩
theorem Inv.un {t' : Nat} (I : Inv X pins σ H s) (u : Un X.fs [] H H' s.heap h') (hok : HOk X.prog X.w H' h') : Inv X pins σ H' { s with heap := h', toks := t' } := by
 obtain ⟨m, ⟨o, es, ep, ho, r⟩, _⟩ := id I.loc
 obtain ⟨sl, hL⟩ := u.any ho I.free (by simp)
 exact I.step (g' := s.gens) (d' := s.drawn) (ch := []) (fun _ z => nomatch z) (fun b o _ hb _ e n => u.keep b o e n hb (by simp)) (fun b o _ hb _ e n => u.slot b o e n hb (by simp)) (fun b o _ e n => u.free b o e n (by simp)) (fun b o _ e => u.there b o e (by simp)) u.tups u.frzs u.tbls (fun m' hm => by
  obtain ⟨o', es', ep', ho', r'⟩ := hm
  rw [ho] at ho'; cases ho'
  exact ⟨_, es', ep', hL, r'⟩) hok I.bare
theorem Inv.call {g' : Array GenState} {t' : Nat} {d' : Drawn} {ch : List Addr} (I : Inv X pins σ H s) (u : Un (frs X.stack) ch H H' s.heap h') (hok : HOk X.prog X.w H' h') (hg : AllBare g')
  (hch : ∀ b ∈ ch, (b ∈ X.ex ∨ X.s₀.heap.objs.size ≤ b) ∧ b ≠ X.env.locals ∧ (∀ x c, X.env.cells.lookup x = some c → c ≠ b) ∧ ∀ p ∈ X.pn ++ pins, p.1 ≠ b) :
  Inv X pins σ H' { s with heap := h', gens := g', drawn := d', toks := t' } := by
 obtain ⟨m, ⟨o, es, ep, ho, r⟩, _⟩ := id I.loc
 obtain ⟨sl, hL⟩ := u.any ho I.free fun z => (hch _ z).2.1 rfl
 exact I.step (ch := ch) hch (fun b o hL hb hc e n => u.keep b o e n (fun z => (List.mem_cons.mp (I.stkSub b z)).elim hL hb) hc) (fun b o _ _ hc e n => u.any e n hc) (fun b o hc e n => u.free b o e n hc) (fun b o hc e => u.there b o e hc) u.tups u.frzs u.tbls (fun m' hm => by
  obtain ⟨o', es', ep', ho', r'⟩ := hm
  rw [ho] at ho'; cases ho'
  exact ⟨_, es', ep', hL, r'⟩) hok hg
theorem Inv.turned {t' : Nat} {it : Addr} (I : Inv X pins σ H s) (k : ∀ b o, b ≠ it → s.heap.get? b = some o → h'.get? b = some o) (hn : H it = none) (hL : it ≠ X.env.locals)
  (h1 : it ∈ X.ex ∨ X.s₀.heap.objs.size ≤ it) (h2 : ∀ x c, X.env.cells.lookup x = some c → c ≠ it) (h3 : ∀ p ∈ X.pn ++ pins, p.1 ≠ it) : Inv X pins σ H { s with heap := h', toks := t' } := by
 have nit : ∀ b u, H b = some u → b ≠ it := fun b u e z => by rw [z, hn] at e; cases e
 refine I.step (g' := s.gens) (d' := s.drawn) (ch := [it]) (fun b hb => ?_) (fun b o _ _ hc e _ => k b o (fun z => hc (by simp [z])) e) (fun b o _ _ hc e _ => ⟨o.slots, k b o (fun z => hc (by simp [z])) e⟩) (fun _ _ _ _ n => n)
  (fun b o hc e => ⟨o, k b o (fun z => hc (by simp [z])) e⟩) (fun _ _ e => e) (fun _ _ _ e => e) (fun b ps e => ⟨#[], by rw [e]; simp⟩) (fun m hm => ?_) (fun b u e => ?_) I.bare
 ·have e : b = it := by simpa using hb
  subst e
  exact ⟨h1, hL, h2, h3⟩
 ·obtain ⟨o, es, ep, ho, r⟩ := hm
  exact ⟨o, es, ep, k _ o (Ne.symm hL) ho, r⟩
 ·refine (I.hok b u e).stay (fun c v hc q => k c v ?_ q) (fun _ q => q) fun _ _ q => q
  rcases hc with z | z
  ·rw [z]; exact nit b u e
  ·exact nit c _ z
theorem Inv.tok (I : Inv X pins σ H s) (t : Nat) : Inv X pins σ H { s with toks := t } := I.un (h' := s.heap) (t' := t) Un.refl I.hok
theorem Inv.kept {t' : Nat} (I : Inv X pins σ H s) (k : ∀ b u, s.heap.get? b = some u → h'.get? b = some u) : Inv X pins σ H { s with heap := h', toks := t' } := I.un (Un.kept k) (I.hok.kept k)
theorem Inv.laid {a : Addr} {o : HO} {t' : Nat} (I : Inv X pins σ H s) (k : ∀ b u, s.heap.get? b = some u → h'.get? b = some u) (hp : s.heap.objs.size ≤ a) (new : ObjOk X.prog X.w (upd H a o) h' a o) :
  Inv X pins σ (upd H a o) { s with heap := h', toks := t' } := I.un (Un.laid k hp (I.hok.fresh hp)) (I.hok.laid k hp new)
theorem Inv.write {x e : Addr} {o : HO} {t' : Nat} (I : Inv X pins σ H s) (mu : Mut (H x)) (he : e = x ∨ H e = some (.own x)) (k : ∀ b u, b ≠ e → s.heap.get? b = some u → h'.get? b = some u) (heo : ∃ u, h'.get? e = some u)
  (new : ObjOk X.prog X.w (upd H x o) h' x o) : Inv X pins σ (upd H x o) { s with heap := h', toks := t' } := I.un (Un.write mu he k heo) (I.hok.write mu he k heo new)
theorem Inv.pins_of {pins' : List (Addr × Obj)} (I : Inv X pins σ H s) (h : ∀ p ∈ pins', s.heap.get? p.1 = some p.2 ∧ H p.1 = none ∧ p.1 ≠ X.env.locals ∧ p.1 ∉ X.fs ∧ ∀ v, p.2.data ≠ .cell v) : Inv X pins' σ H s :=
 ⟨I.ok, I.os, I.bare, I.base, I.loc, I.cell, I.free, I.freeC, fun p hp => (List.mem_append.mp hp).elim (fun z => I.pin p (List.mem_append_left _ z)) (h p), I.hok, I.len⟩
theorem nodup_ix {N : List Str} (hN : N.Nodup) {i j : Nat} {x : Str} (a : N[i]? = some x) (b : N[j]? = some x) : i = j := by
 obtain ⟨h1, e1⟩ := List.getElem?_eq_some_iff.mp a
 obtain ⟨h2, e2⟩ := List.getElem?_eq_some_iff.mp b
 exact (List.getElem_inj hN).mp (e1.trans e2.symm)
theorem store_ok2 {M : Model} {A : Around} {E : Value → Shared → Prop} {i : Nat} {x : Str} {v : V} {u : Value} {Q : Unit → Shared → Prop} (I : Inv X pins σ H s) (hN : X.N.Nodup) (hi : X.N[i]? = some x) (hx : Loc X.env.scope x) (r : RelV v u)
    (h : ∀ s', Inv X pins (σ.set i (some v)) H s' → (∃ a, Heap.SameBut a s.heap s'.heap ∧ (a = X.env.locals ∨ X.env.cells.lookup x = some a)) → Q () s') (hf : X.fn x = true ∨ X.env.scope.names.lookup x = some .local := by first | exact .inl rfl | exact .inr rfl | assumption) : wpAny M A (storeName X.env x u) Q E s := by
  obtain ⟨m, hn, hl⟩ := id I.loc
  have hcls : (X.env.scope.kind == .class || (X.env.scope.kind == .module && X.env.locals != X.env.globals)) = false := by rw [I.ok.kind]; rfl
  have hiσ : i < σ.length := by rw [I.len]; exact (List.getElem?_eq_some_iff.mp hi).1
  have cne := I.cne
  have tracked : ∀ {a : Addr} {h' : Heap}, (∃ o, s.heap.get? a = some o ∧ H a = none) → Heap.SameBut a s.heap h' → HOk X.prog X.w H h' := fun {a h'} ha hs b ob e => by
    obtain ⟨_, _, hfree⟩ := ha
    refine (I.hok b ob e).stay (fun c w' hc q => (hs.2 c ?_).trans q) (fun _ q => q) fun _ _ q => q
    rintro rfl
    rcases hc with rfl | hc
    · rw [hfree] at e; cases e
    · rw [hfree] at hc; cases hc
  rcases hx with hk | hk
  · refine wpAny_storeName_local hk hn (fun h' hn' hs => ?_) hcls
    obtain ⟨oL, _, _, hoL, _⟩ := id hn
    refine h _ ⟨I.ok, I.os, I.bare, ⟨fun b o e n hb hx => ?_, fun b o e n hb hx => ?_, I.base.free, fun b o e hx => ?_, I.base.tups, I.base.frzs, I.base.tbls⟩, ⟨_, hn', fun j y v' e1 e2 e3 => ?_⟩, fun y c e => ?_, I.free, I.freeC, fun p hp => ?_, tracked ⟨oL, hoL, I.free⟩ hs, by simpa using I.len⟩ ⟨_, hs, .inl rfl⟩
    · exact (hs.2 b (Nat.ne_of_lt (Nat.lt_of_lt_of_le (Heap.lt_size e) I.ok.above))).trans (I.base.keep b o e n hb hx)
    · obtain ⟨sl, e1⟩ := I.base.slot b o e n hb hx
      exact ⟨sl, (hs.2 b (Nat.ne_of_lt (Nat.lt_of_lt_of_le (Heap.lt_size e) I.ok.above))).trans e1⟩
    · obtain ⟨o', e1⟩ := I.base.there b o e hx
      exact ⟨o', (hs.2 b (Nat.ne_of_lt (Nat.lt_of_lt_of_le (Heap.lt_size e) I.ok.above))).trans e1⟩
    · by_cases hj : j = i
      · subst hj
        rw [hi] at e1; cases e1
        rw [List.getElem?_set_self hiσ] at e2
        cases e2
        exact ⟨u, r, .inl ⟨hk, by simp⟩⟩
      · rw [List.getElem?_set_ne (Ne.symm hj)] at e2
        obtain ⟨u', r', q⟩ := hl j y v' e1 e2 e3
        refine ⟨u', r', ?_⟩
        rcases q with ⟨k, e⟩ | ⟨k, c, e, z⟩
        · refine .inl ⟨k, ?_⟩
          have : y ≠ x := fun e => hj (nodup_ix hN e1 (e ▸ hi))
          simp [this, e]
        · exact .inr ⟨k, c, e, z.sameBut hs (cne y c e)⟩
    · obtain ⟨w', z⟩ := I.cell y c e
      exact ⟨w', z.sameBut hs (cne y c e)⟩
    · obtain ⟨e, n, ne, nf, d⟩ := I.pin p hp
      exact ⟨(hs.2 p.1 ne).trans e, n, ne, nf, d⟩
  · have hfn : X.fn x = true := by
      rcases hf with z | z
      · exact z
      · rw [z] at hk; cases hk
    obtain ⟨c, hc⟩ := I.ok.has x (.inl hk)
    obtain ⟨w', z⟩ := I.cell x c hc
    refine wpAny_storeName_cell I.ok.kind hk hc z (fun h' hc' hs => ?_)
    obtain ⟨oc, hoc, hocd⟩ := id z
    refine h { s with heap := h' } ⟨I.ok, I.os, I.bare, ⟨fun b o e n hb hx => ?_, fun b o e n hb hx => ?_, I.base.free, fun b o e hx => ?_, I.base.tups, I.base.frzs, I.base.tbls⟩, ⟨m, hn.sameBut hs (Ne.symm (cne x c hc)), fun j y v' e1 e2 e3 => ?_⟩, fun y c' e => ?_, I.free, I.freeC, fun p hp => ?_, tracked ⟨oc, hoc, I.freeC x c hc⟩ hs, by simpa using I.len⟩ ⟨c, hs, .inr hc⟩
    · exact (hs.2 b (Nat.ne_of_lt (Nat.lt_of_lt_of_le (Heap.lt_size e) (I.ok.cab x c hfn hc)))).trans (I.base.keep b o e n hb hx)
    · obtain ⟨sl, e1⟩ := I.base.slot b o e n hb hx
      exact ⟨sl, (hs.2 b (Nat.ne_of_lt (Nat.lt_of_lt_of_le (Heap.lt_size e) (I.ok.cab x c hfn hc)))).trans e1⟩
    · obtain ⟨o', e1⟩ := I.base.there b o e hx
      exact ⟨o', (hs.2 b (Nat.ne_of_lt (Nat.lt_of_lt_of_le (Heap.lt_size e) (I.ok.cab x c hfn hc)))).trans e1⟩
    · by_cases hj : j = i
      · subst hj
        rw [hi] at e1; cases e1
        rw [List.getElem?_set_self hiσ] at e2
        cases e2
        exact ⟨u, r, .inr ⟨.inl hk, c, hc, hc'⟩⟩
      · rw [List.getElem?_set_ne (Ne.symm hj)] at e2
        obtain ⟨u', r', q⟩ := hl j y v' e1 e2 e3
        refine ⟨u', r', ?_⟩
        rcases q with q | ⟨k, c', e, z'⟩
        · exact .inl q
        · refine .inr ⟨k, c', e, z'.sameBut hs ?_⟩
          rintro rfl
          exact hj (nodup_ix hN e1 (I.ok.inj _ _ _ e hc ▸ hi))
    · by_cases hcc : c' = c
      · subst hcc; exact ⟨_, hc'⟩
      · obtain ⟨w2, z2⟩ := I.cell y c' e
        exact ⟨w2, z2.sameBut hs hcc⟩
    · obtain ⟨e, n, ne, nf, d⟩ := I.pin p hp
      refine ⟨(hs.2 p.1 ?_).trans e, n, ne, nf, d⟩
      intro q
      rw [q, hoc] at e
      have q' : oc = p.2 := Option.some.inj e
      exact d w' (by rw [← q']; exact hocd)
theorem store_ok {M : Model} {A : Around} {E : Value → Shared → Prop} {i : Nat} {x : Str} {v : V} {u : Value} {Q : Unit → Shared → Prop} (I : Inv X pins σ H s) (hN : X.N.Nodup) (hi : X.N[i]? = some x) (hx : Loc X.env.scope x) (r : RelV v u)
  (h : ∀ s', Inv X pins (σ.set i (some v)) H s' → Q () s') (hf : X.fn x = true ∨ X.env.scope.names.lookup x = some .local := by first | exact .inl rfl | exact .inr rfl | assumption) : wpAny M A (storeName X.env x u) Q E s :=
 store_ok2 I hN hi hx r (fun s' I' _ => h s' I') hf
theorem Inv.call' {s' : Shared} {ch : List Addr} (I : Inv X pins σ H s) (ho : s'.os = s.os) (u : Un (frs X.stack) ch H H' s.heap s'.heap) (hok : HOk X.prog X.w H' s'.heap) (hg : AllBare s'.gens)
  (hch : ∀ b ∈ ch, (b ∈ X.ex ∨ X.s₀.heap.objs.size ≤ b) ∧ b ≠ X.env.locals ∧ (∀ x c, X.env.cells.lookup x = some c → c ≠ b) ∧ ∀ p ∈ X.pn ++ pins, p.1 ≠ b) : Inv X pins σ H' s' := by
 obtain ⟨h', g', d', t', o'⟩ := s'
 have e : o' = s.os := ho
 subst e
 exact I.call (g' := g') (t' := t') (d' := d') u hok hg hch
end
noncomputable abbrev XK := Value → Option Addr → Hp → Prop
noncomputable abbrev St := List (Option V)
noncomputable abbrev VK := V → Hp → Prop
noncomputable abbrev TE := St → Hp → VK → Prop
noncomputable abbrev TT := St → Hp → (Bool → Hp → Prop) → Prop
noncomputable abbrev TA := St → Hp → (List V → Hp → Prop) → Prop
structure Ends where
 nx : St → Hp → Prop
 rt : VK
 bk : St → Hp → Prop := fun _ _ => False
 ct : St → Hp → Prop := fun _ _ => False
noncomputable abbrev TS := Ends → St → Hp → Prop
noncomputable def EP (X : Cx) (pins : List (Addr × Obj)) (σ : St) (Q : VK) (u : Value) (s' : Shared) : Prop := ∃ v H', Inv X pins σ H' s' ∧ RelV v u ∧ Q v H'
noncomputable def TP (X : Cx) (pins : List (Addr × Obj)) (σ : St) (Q : Bool → Hp → Prop) (b : Bool) (s' : Shared) : Prop := ∃ H', Inv X pins σ H' s' ∧ Q b H'
noncomputable def AP (X : Cx) (pins : List (Addr × Obj)) (σ : St) (Q : List V → Hp → Prop) (us : List Value) (s' : Shared) : Prop := ∃ vs H', Inv X pins σ H' s' ∧ Vals vs us ∧ Q vs H'
noncomputable def SP (X : Cx) (pins : List (Addr × Obj)) (D : Ends) (f : Flow) (s' : Shared) : Prop :=
 match f with
 | .next => ∃ σ' H', Inv X pins σ' H' s' ∧ D.nx σ' H'
 | .brk => ∃ σ' H', Inv X pins σ' H' s' ∧ D.bk σ' H'
 | .cont => ∃ σ' H', Inv X pins σ' H' s' ∧ D.ct σ' H'
 | .ret u => ∃ v σ' H', Inv X pins σ' H' s' ∧ RelV v u ∧ D.rt v H'
noncomputable def PE (X : Cx) (e : Expr) (t : TE) : Prop :=
 ∀ (pins : List (Addr × Obj)) (s : Shared) (σ : St) (H : Hp) (Q : VK), Inv X pins σ H s → t σ H Q → wpAny (model X.prog X.w) X.A (eval e X.env) (EP X pins σ Q) X.xe s
noncomputable def PT (X : Cx) (e : Expr) (t : TT) : Prop :=
 ∀ (pins : List (Addr × Obj)) (s : Shared) (σ : St) (H : Hp) (Q : Bool → Hp → Prop), Inv X pins σ H s → t σ H Q → wpAny (model X.prog X.w) X.A (isTrue e X.env (eval e X.env)) (TP X pins σ Q) X.xe s
noncomputable def PW (X : Cx) (e : Expr) (t : TT) : Prop :=
 ∀ (whole : Sem Value) (pins : List (Addr × Obj)) (s : Shared) (σ : St) (H : Hp) (Q : Bool → Hp → Prop), Inv X pins σ H s → t σ H Q → wpAny (model X.prog X.w) X.A (isTrue e X.env whole) (TP X pins σ Q) X.xe s
theorem PW.pt {X : Cx} {e : Expr} {t : TT} (h : PW X e t) : PT X e t := h _
noncomputable def PA (X : Cx) (es : List Expr) (t : TA) : Prop :=
 ∀ (pos : Pos) (pins : List (Addr × Obj)) (s : Shared) (σ : St) (H : Hp) (Q : List V → Hp → Prop), Inv X pins σ H s → t σ H Q → wpAny (model X.prog X.w) X.A (spliced (backTo pos (starEach es X.env))) (AP X pins σ Q) X.xe s
noncomputable def PS (X : Cx) (st : Stmt) (t : TS) : Prop :=
 ∀ (pins : List (Addr × Obj)) (s : Shared) (σ : St) (H : Hp) (D : Ends), Inv X pins σ H s → t D σ H → wpAny (model X.prog X.w) X.A (exec st X.env) (SP X pins D) X.xe s
noncomputable def PSs (X : Cx) (st : List Stmt) (t : TS) : Prop :=
 ∀ (pins : List (Addr × Obj)) (s : Shared) (σ : St) (H : Hp) (D : Ends), Inv X pins σ H s → t D σ H → wpAny (model X.prog X.w) X.A (execs st X.env) (SP X pins D) X.xe s
theorem thn {α : Type} {t : Sem α} {Q Q' : α → Shared → Prop} {M : Model} {A : Around} {E : Value → Shared → Prop} {s : Shared} (h : wpAny M A t Q E s) (hQ : ∀ a s, Q a s → Q' a s) : wpAny M A t Q' E s := wpAny_mono h hQ fun _ _ x => x
end L2
namespace L2
open PySem PySem.Spec PyProof.Rows
section
variable {X : Cx}
noncomputable def tVar (i : Nat) : TE := fun σ H Q => ∃ v, σ[i]? = some (some v) ∧ Q v H
noncomputable def tC (v : V) : TE := fun _ H Q => Q v H
theorem pe_var {i : Nat} {x : Str} {pos : Pos} (hN : X.N[i]? = some x) (hv : Vis X.env.scope x) (hd : (x == ("__debug__" : Str)) = false := by decide) (hcd : (x == ("__classdict__" : Str)) = false := by decide) : PE X (.Name x pos) (tVar i) := by
 intro pins s σ H Q I h
 obtain ⟨v, e, h⟩ := h
 obtain ⟨m, hn, hl⟩ := I.loc
 obtain ⟨u, r, l⟩ := hl i x v hN e hv
 have fin : EP X pins σ Q u s := ⟨v, H, I, r, h⟩
 rcases l with ⟨hk, hm⟩ | ⟨hk, c, hc, hcell⟩
 ·exact wpAny_Name (wpAny_loadName_local I.ok.kind hk hn hm fin) hd
 ·rcases hk with hk | hk
  ·exact wpAny_Name (wpAny_loadName_cell I.ok.kind hk hc hcell fin) hd
  ·exact wpAny_Name (wpAny_loadName_free I.ok.kind hk hc hcell fin hcd) hd
theorem pe_int {i j pos} : PE X (.Constant (.int i) j pos) (tC (.int i)) := fun _ _ _ H _ I h => wpAny_Constant_int ⟨.int i, H, I.tok _, ⟨_, rfl⟩, h⟩
theorem pe_bl {b j pos} : PE X (.Constant (.bool b) j pos) (tC (.bl b)) := fun _ _ _ H _ I h => Constant_bool ⟨.bl b, H, I, rfl, h⟩
theorem pe_non {j pos} : PE X (.Constant .none j pos) (tC .non) := fun _ _ _ H _ I h => Constant_none ⟨.non, H, I, rfl, h⟩
theorem pe_str {x j pos} : PE X (.Constant (.str x) j pos) (tC (.str x)) := fun _ _ _ H _ I h => Calls.Constant_str ⟨.str x, H, I.tok _, ⟨_, rfl⟩, h⟩
noncomputable def Gl (X : Cx) (x : Str) : Prop := X.env.kindOf x = some .globalImplicit
theorem ld_glob {E : Value → Shared → Prop} {pins : List (Addr × Obj)} {s : Shared} {σ : St} {H : Hp} {x : Str} {u : Value} {pos : Pos} {Q : Value → Shared → Prop} (I : Inv X pins σ H s) (hg : Gl X x) (hm : X.mg x = some u) (h : Q u s)
  (hd : (x == ("__debug__" : Str)) = false := by decide) : wpAny (model X.prog X.w) X.A (eval (.Name x pos) X.env) Q E s :=
 Calls.Name_function_global I.ok.kind hg (Calls.loadGlobal_global (by rw [I.ok.glob]; exact I.mod.glob.keeps I.bk) hm h) hd
theorem ld_blt {E : Value → Shared → Prop} {pins : List (Addr × Obj)} {s : Shared} {σ : St} {H : Hp} {x : Str} {u : Value} {pos : Pos} {Q : Value → Shared → Prop} (I : Inv X pins σ H s) (hg : Gl X x) (hm : X.mg x = none) (hv : bootBuiltins x = some u) (h : Q u s)
  (hn : x ≠ "__name__" := by decide) (hd : (x == ("__debug__" : Str)) = false := by decide) : wpAny (model X.prog X.w) X.A (eval (.Name x pos) X.env) Q E s := by
 obtain ⟨mb, h1, h2⟩ := I.mod.blt
 exact Calls.Name_function_global I.ok.kind hg (Calls.loadGlobal_builtin (by rw [I.ok.glob]; exact I.mod.glob.keeps I.bk) hm (by rw [I.ok.blt]; exact h1.keeps I.bk) ((h2 x hn).trans hv) h) hd
theorem pe_glob {x : Str} {v : V} {u : Value} {pos : Pos} (hg : Gl X x) (hm : X.mg x = some u) (r : RelV v u) (hd : (x == ("__debug__" : Str)) = false := by decide) : PE X (.Name x pos) (tC v) :=
 fun _ _ _ H _ I h => ld_glob I hg hm ⟨v, H, I, r, h⟩ hd
theorem pe_bltn {x : Str} {v : V} {u : Value} {pos : Pos} (hg : Gl X x) (hm : X.mg x = none) (hv : bootBuiltins x = some u) (r : RelV v u) (hn : x ≠ "__name__" := by decide) (hd : (x == ("__debug__" : Str)) = false := by decide) : PE X (.Name x pos) (tC v) :=
 fun _ _ _ H _ I h => ld_blt I hg hm hv ⟨v, H, I, r, h⟩ hn hd
variable {a b : Expr} {ta tb : TE} {pos : Pos}
noncomputable def PC (X : Cx) (op : CmpOp) (a b : Expr) (t : TE) : Prop :=
 ∀ (pins : List (Addr × Obj)) (s : Shared) (σ : St) (H : Hp) (Q : VK), Inv X pins σ H s → t σ H Q →
  wpAny (model X.prog X.w) X.A (eval a X.env) (fun v s₁ => wpAny (model X.prog X.w) X.A (eval b X.env) (fun u s₂ => wpAny (model X.prog X.w) X.A (compareOp op v u) (EP X pins σ Q) X.xe s₂) X.xe s₁) X.xe s
theorem nobehind (b : Expr) {op : CmpOp} (h : op ≠ .In) (h2 : op ≠ .NotIn) : behindInMarks op b = false := by
 have e1 : (op == CmpOp.In) = false := by cases op <;> first | rfl | exact absurd rfl h
 have e2 : (op == CmpOp.NotIn) = false := by cases op <;> first | rfl | exact absurd rfl h2
 cases b <;> simp [behindInMarks, e1, e2]
noncomputable def tNotN (ta : TE) : TE := fun σ H Q => ta σ H fun x H1 => Q (.bl (!decide (x = .non))) H1
theorem RelV.none_iff {x : V} {v : Value} (r : RelV x v) : (v == Value.none) = decide (x = .non) := by
 cases x with
 | non => cases r; rfl
 | bl _ => cases r; rfl
 | int _ => obtain ⟨t, rfl⟩ := r; rfl
 | str _ => obtain ⟨t, rfl⟩ := r; rfl
 | byt _ => obtain ⟨t, rfl⟩ := r; rfl
 | flt _ => obtain ⟨t, rfl⟩ := r; rfl
 | ref _ => cases r; rfl
 | ty _ => cases r; rfl
theorem pc_notN {j pos'} (ha : PE X a ta) : PC X .IsNot a (.Constant .none j pos') (tNotN ta) := by
 intro pins s σ H Q I h
 refine thn (ha pins s σ H _ I h) fun v s1 ⟨x, H1, I1, r1, q1⟩ => ?_
 exact Constant_none (isnot_none_gen ⟨.bl _, H1, I1, by rw [r1.none_iff]; rfl, q1⟩)
noncomputable def tB (t : TE) : TT := fun σ H Q => t σ H fun x H1 => ∃ c, x = .bl c ∧ Q c H1
theorem pt_cmp {op : CmpOp} {t : TE} (h : PC X op a b t) (h1 : behindInMarks op b = false := by first | exact nobehind _ (by decide) (by decide) | rfl) : PT X (.Compare a [op] [b] pos) (tB t) := by
 intro pins s σ H Q I hw
 refine wpAny_isTrue_Compare1 (thn (h pins s σ H _ I hw) fun v s1 h1 => thn h1 fun u s2 h2 => thn h2 fun c s3 ⟨x, H1, I1, r1, q1⟩ => ?_) h1
 obtain ⟨d, rfl, q⟩ := q1
 cases r1
 exact wpAny_truthy_bool ⟨H1, I1, q⟩
theorem pt_val {e : Expr} {t : TE} (h : PE X e t) (he : ∀ whole, isTrue e X.env whole = (do let v ← whole; standAt e.pos; holding [v] (truthy v)) := by intro _; rfl) : PT X e (tB t) := by
 intro pins s σ H Q I hw
 refine isTrue_plain (thn (h pins s σ H _ I hw) fun v s1 ⟨x, H1, I1, r1, q1⟩ => ?_) (he _)
 obtain ⟨d, rfl, q⟩ := q1
 cases r1
 exact wpAny_truthy_bool ⟨H1, I1, q⟩
variable {tA tB' : TT} {rest : List Expr}
noncomputable def tAnd (t u : TT) : TT := fun σ H Q => t σ H fun c H1 => if c = true then u σ H1 Q else Q false H1
noncomputable def tOr (t u : TT) : TT := fun σ H Q => t σ H fun c H1 => if c = true then Q true H1 else u σ H1 Q
noncomputable def tNot (t : TT) : TT := fun σ H Q => t σ H fun c H1 => Q (!c) H1
theorem pw_and1 (ha : PT X a tA) : PW X (.BoolOp .And [a] pos) tA := by
 intro wh pins s σ H Q I h
 refine isTrue_and (thn (ha pins s σ H Q I h) fun c s1 e => ?_)
 cases c with
 | true => exact isTrue_and_nil e
 | false => exact e
theorem pw_or1 (ha : PT X a tA) : PW X (.BoolOp .Or [a] pos) tA := by
 intro wh pins s σ H Q I h
 refine isTrue_or (thn (ha pins s σ H Q I h) fun c s1 e => ?_)
 cases c with
 | false => exact isTrue_or_nil e
 | true => exact e
theorem pw_and (ha : PT X a tA) (hb : PW X (.BoolOp .And (b :: rest) pos) tB') : PW X (.BoolOp .And (a :: b :: rest) pos) (tAnd tA tB') := by
 intro wh pins s σ H Q I h
 refine isTrue_and (thn (ha pins s σ H _ I h) fun c s1 ⟨H1, I1, q1⟩ => ?_)
 cases c with
 | true => exact hb wh pins s1 σ H1 Q I1 q1
 | false => exact ⟨H1, I1, q1⟩
theorem pw_or (ha : PT X a tA) (hb : PW X (.BoolOp .Or (b :: rest) pos) tB') : PW X (.BoolOp .Or (a :: b :: rest) pos) (tOr tA tB') := by
 intro wh pins s σ H Q I h
 refine isTrue_or (thn (ha pins s σ H _ I h) fun c s1 ⟨H1, I1, q1⟩ => ?_)
 cases c with
 | true => exact ⟨H1, I1, q1⟩
 | false => exact hb wh pins s1 σ H1 Q I1 q1
theorem pt_not (ha : PT X a tA) : PT X (.UnaryOp .Not a pos) (tNot tA) := by
 intro pins s σ H Q I h
 exact isTrue_not (ha pins s σ H (fun c H1 => Q (!c) H1) I h)
noncomputable def tAndV (ta tb : TE) : TE := fun σ H Q => ta σ H fun x H1 => ∃ c, x = .bl c ∧ if c = true then tb σ H1 Q else Q (.bl false) H1
noncomputable def tNotV (ta : TE) : TE := fun σ H Q => ta σ H fun x H1 => ∃ c, x = .bl c ∧ Q (.bl (!c)) H1
theorem pe_one {op} {t : TE} (h : PE X a t) : PE X (.BoolOp op [a] pos) t := fun pins s σ H Q I hw => BoolOp_one (h pins s σ H Q I hw)
theorem pe_and (ha : PE X a ta) (hb : PE X (.BoolOp .And (b :: rest) pos) tb) : PE X (.BoolOp .And (a :: b :: rest) pos) (tAndV ta tb) := by
 intro pins s σ H Q I h
 refine BoolOp_and (thn (ha pins s σ H _ I h) fun v s1 ⟨x, H1, I1, r1, q1⟩ => ?_)
 obtain ⟨c, rfl, q1⟩ := q1
 cases r1
 refine wpAny_truthy_bool ?_
 cases c with
 | true => exact hb pins s1 σ H1 Q I1 q1
 | false => exact ⟨.bl false, H1, I1, rfl, q1⟩
theorem pe_not (ha : PE X a ta) : PE X (.UnaryOp .Not a pos) (tNotV ta) := by
 intro pins s σ H Q I h
 refine UnaryOp_ (thn (ha pins s σ H _ I h) fun v s1 ⟨x, H1, I1, r1, q1⟩ => ?_)
 obtain ⟨c, rfl, q1⟩ := q1
 cases r1
 exact not_of (wpAny_truthy_bool ⟨.bl (!c), H1, I1, rfl, q1⟩)
noncomputable def tIf (t : TT) (ta tb : TE) : TE := fun σ H Q => t σ H fun c H1 => if c = true then ta σ H1 Q else tb σ H1 Q
theorem pe_ifExp {c : Expr} (hc : PT X c tA) (ha : PE X a ta) (hb : PE X b tb) : PE X (.IfExp c a b pos) (tIf tA ta tb) := by
 intro pins s σ H Q I h
 refine wpAny_IfExp (thn (hc pins s σ H _ I h) fun d s1 ⟨H1, I1, q1⟩ => ?_)
 cases d with
 | true => exact ha pins s1 σ H1 Q I1 q1
 | false => exact hb pins s1 σ H1 Q I1 q1
end
end L2
namespace L2
open PySem PySem.Spec PyProof.Rows
noncomputable def SqL (K : PySem.W.Frag) (H : Hp) (a : Addr) (xs : List V) : Prop :=
 Rd H a (.lst xs) ∨
  ∃ (o : Obj) (its : Array Value) (n : Nat), K.lookup a = some o ∧ o.cls = .type "list" ∧ o.dict = none ∧ o.data = .seq its n ∧ its.size ≤ sizeLine ∧ Vals xs its.toList
noncomputable def SqT (K : PySem.W.Frag) (H : Hp) (a : Addr) (xs : List V) : Prop :=
 Rd H a (.tup xs) ∨
  ∃ (o : Obj) (its : Array Value) (n : Nat), K.lookup a = some o ∧ o.cls = .type "tuple" ∧ o.data = .seq its n ∧ its.size ≤ sizeLine ∧ Vals xs its.toList
noncomputable def absV : Value → Option V
 | .none => some .non
 | .bool b => some (.bl b)
 | .int i _ => some (.int i)
 | .str x _ => some (.str x)
 | .bytes b _ => some (.byt b)
 | .float b _ => some (.flt b)
 | .ref a => some (.ref a)
 | .type n => some (.ty n)
 | _ => none
theorem RelV.abs {x : V} {u : Value} (r : RelV x u) : absV u = some x := by
 cases x with
 | non => cases r; rfl
 | bl _ => cases r; rfl
 | int _ => obtain ⟨t, rfl⟩ := r; rfl
 | str _ => obtain ⟨t, rfl⟩ := r; rfl
 | byt _ => obtain ⟨t, rfl⟩ := r; rfl
 | flt _ => obtain ⟨t, rfl⟩ := r; rfl
 | ref _ => cases r; rfl
 | ty _ => cases r; rfl
theorem RelV.inj {x y : V} {u : Value} (r : RelV x u) (q : RelV y u) : x = y := Option.some.inj (r.abs.symm.trans q.abs)
theorem Vals.inj : ∀ {xs ys : List V} {us : List Value}, Vals xs us → Vals ys us → xs = ys
 | _, _, _, .nil, .nil => rfl
 | _, _, _, .cons r t, .cons r' t' => by rw [r.inj r', Vals.inj t t']
section
variable {X : Cx} {pins : List (Addr × Obj)} {σ : St} {H : Hp} {s : Shared} {a : Addr} {xs ys : List V}
theorem SqL.of {K : PySem.W.Frag} (h : H a = some (.lst xs)) : SqL K H a xs := .inl (.inl h)
theorem SqT.of {K : PySem.W.Frag} (h : H a = some (.tup xs)) : SqT K H a xs := .inl (.inl h)
theorem Inv.list (I : Inv X pins σ H s) (h : SqL X.K H a xs) : ∃ its : List Value, Vals xs its ∧ PlainL s.heap a its.toArray ∧ xs.length ≤ sizeLine := by
 rcases h with h | ⟨o, its, n, hk, hc, hd, hs, hz, r⟩
 ·obtain ⟨z, its, n, r, e⟩ := h.ok I.hok
  exact ⟨its, r, ⟨_, n, e, rfl, rfl, rfl⟩, z⟩
 ·refine ⟨its.toList, r, ⟨o, n, I.kIn a o hk, hc, hd, by simpa using hs⟩, ?_⟩
  have e := r.length
  simp only [Array.length_toList] at e
  omega
theorem Inv.tuple (I : Inv X pins σ H s) (h : SqT X.K H a xs) : ∃ its : List Value, Vals xs its ∧ IsTup s.heap a its.toArray ∧ xs.length ≤ sizeLine := by
 rcases h with h | ⟨o, its, n, hk, hc, hs, hz, r⟩
 ·obtain ⟨z, its, r, p⟩ := h.ok I.hok
  exact ⟨its, r, p, z⟩
 ·refine ⟨its.toList, r, ⟨o, I.kIn a o hk, hc, n, by simpa using hs⟩, ?_⟩
  have e := r.length
  simp only [Array.length_toList] at e
  omega
theorem Inv.list_inj (I : Inv X pins σ H s) (h : SqL X.K H a xs) (h' : SqL X.K H a ys) : xs = ys := by
 obtain ⟨its, r, ⟨o, n, e, _, _, d⟩, _⟩ := I.list h
 obtain ⟨its', r', ⟨o', n', e', _, _, d'⟩, _⟩ := I.list h'
 rw [e] at e'; cases e'
 rw [d] at d'
 injection d' with d1 _
 have : its = its' := by simpa using congrArg Array.toList d1
 subst this
 exact r.inj r'
theorem Inv.tuple_inj (I : Inv X pins σ H s) (h : SqT X.K H a xs) (h' : SqT X.K H a ys) : xs = ys := by
 obtain ⟨its, r, ⟨o, e, _, n, d⟩, _⟩ := I.tuple h
 obtain ⟨its', r', ⟨o', e', _, n', d'⟩, _⟩ := I.tuple h'
 rw [e] at e'; cases e'
 rw [d] at d'
 injection d' with d1 _
 have : its = its' := by simpa using congrArg Array.toList d1
 subst this
 exact r.inj r'
end
noncomputable abbrev Cx.wish (X : Cx) (E : Value → Shared → Prop) : Cx := { X with xe := E }
noncomputable abbrev Cx.nox (X : Cx) : Cx := X.wish fun _ _ => False
theorem Cx.Ok.wish {X : Cx} (ok : X.Ok) (E : Value → Shared → Prop) : (X.wish E).Ok :=
 ⟨ok.mod, ok.kind, ok.glob, ok.blt, ok.above, ok.inj, ok.has, ok.cab, ok.hd, ok.frames, ok.stk, ok.exf, ok.bs, ok.bsz, ok.noex, ok.exfs, ok.funs, ok.frf⟩
theorem Cx.Ok.unwish {X : Cx} {E : Value → Shared → Prop} (ok : (X.wish E).Ok) : X.Ok :=
 ⟨ok.mod, ok.kind, ok.glob, ok.blt, ok.above, ok.inj, ok.has, ok.cab, ok.hd, ok.frames, ok.stk, ok.exf, ok.bs, ok.bsz, ok.noex, ok.exfs, ok.funs, ok.frf⟩
section
variable {X : Cx} {pins : List (Addr × Obj)} {σ : St} {H : Hp} {s : Shared} {E : Value → Shared → Prop}
theorem Inv.wish (I : Inv X pins σ H s) (E : Value → Shared → Prop) : Inv (X.wish E) pins σ H s := ⟨I.ok.wish E, I.os, I.bare, I.base, I.loc, I.cell, I.free, I.freeC, I.pin, I.hok, I.len⟩
theorem Inv.unwish (I : Inv (X.wish E) pins σ H s) : Inv X pins σ H s := ⟨I.ok.unwish, I.os, I.bare, I.base, I.loc, I.cell, I.free, I.freeC, I.pin, I.hok, I.len⟩
theorem SP.unwish {D : Ends} {f : Flow} {s' : Shared} (h : SP (X.wish E) pins D f s') : SP X pins D f s' := by
 cases f with
 | next => obtain ⟨σ', H', I, q⟩ := h; exact ⟨σ', H', I.unwish, q⟩
 | brk => obtain ⟨σ', H', I, q⟩ := h; exact ⟨σ', H', I.unwish, q⟩
 | cont => obtain ⟨σ', H', I, q⟩ := h; exact ⟨σ', H', I.unwish, q⟩
 | ret u => obtain ⟨v, σ', H', I, r, q⟩ := h; exact ⟨v, σ', H', I.unwish, r, q⟩
theorem PSs.nox {st : List Stmt} {t : TS} (h : PSs X.nox st t) : PSs X st t := fun pins s σ H D I hw =>
 wpAny_mono (h pins s σ H D (I.wish _) hw) (fun _ _ q => q.unwish) fun _ _ z => False.elim z
end
section
variable {X : Cx} {st : Stmt} {rest : List Stmt} {t u : TS} {e : Expr} {te : TE} {pos : Pos}
noncomputable def tNext : TS := fun D σ H => D.nx σ H
noncomputable def tSeq (t u : TS) : TS := fun D σ H => t { D with nx := u D } σ H
theorem pss_nil : PSs X [] tNext := fun _ _ σ H _ I h => wpAny_execs_nil ⟨σ, H, I, h⟩
theorem pss_cons (h1 : PS X st t) (h2 : PSs X rest u) : PSs X (st :: rest) (tSeq t u) := by
 intro pins s σ H D I h
 refine wpAny_execs_cons (thn (h1 pins s σ H { D with nx := u D } I h) fun f s1 q => ?_)
 cases f with
 | next =>
  obtain ⟨σ', H', I', q⟩ := q
  exact h2 pins s1 σ' H' D I' q
 | ret v => exact q
 | brk => exact q
 | cont => exact q
theorem pss_one (h1 : PS X st t) : PSs X [st] t := by
 intro pins s σ H D I h
 refine wpAny_execs_cons (thn (h1 pins s σ H D I h) fun f s1 q => ?_)
 cases f with
 | next => exact wpAny_execs_nil q
 | ret v => exact q
 | brk => exact q
 | cont => exact q
theorem Inv.quiet {pins : List (Addr × Obj)} {σ : St} {H : Hp} {s : Shared} (I : Inv X pins σ H s) : interactive X.env = false := by simp [interactive, I.ok.kind]
noncomputable def tDrop (te : TE) : TS := fun D σ H => te σ H fun _ H1 => D.nx σ H1
theorem ps_expr (he : PE X e te) (hs : swapsWith e none pos.line X.env = pure false := by rfl) : PS X (.Expr e pos) (tDrop te) := by
 intro pins s σ H D I h
 exact wpAny_Expr_any (thn (he pins s σ H _ I h) fun v s1 ⟨x, H1, I1, r1, q1⟩ => ⟨σ, H1, I1, q1⟩) I.quiet hs
noncomputable def tRet (te : TE) : TS := fun D σ H => te σ H D.rt
theorem ps_ret (he : PE X e te) : PS X (.Return (some e) pos) (tRet te) := by
 intro pins s σ H D I h
 exact wpAny_Return_some (thn (he pins s σ H _ I h) fun v s1 ⟨x, H1, I1, r1, q1⟩ => ⟨x, σ, H1, I1, r1, q1⟩)
noncomputable def tIfS (c : TT) (t u : TS) : TS := fun D σ H => c σ H fun b H1 => if b = true then t D σ H1 else u D σ H1
theorem ps_if {c : Expr} {a b : List Stmt} {tc : TT} (hc : PT X c tc) (ha : PSs X a t) (hb : PSs X b u) : PS X (.If c a b pos) (tIfS tc t u) := by
 intro pins s σ H D I h
 refine wpAny_If (thn (hc pins s σ H _ I h) fun d s1 ⟨H1, I1, q1⟩ => ?_)
 cases d with
 | true => exact ha pins s1 σ H1 D I1 q1
 | false => exact hb pins s1 σ H1 D I1 q1
end
noncomputable abbrev TG := V → St → Hp → (St → Hp → Prop) → Prop
noncomputable abbrev TGs := List V → St → Hp → (St → Hp → Prop) → Prop
noncomputable def PG (X : Cx) (target : Expr) (t : TG) : Prop :=
 ∀ (pins : List (Addr × Obj)) (s : Shared) (σ : St) (H : Hp) (v : V) (u : Value) (Q : St → Hp → Prop), Inv X pins σ H s → RelV v u → t v σ H Q →
  wpAny (model X.prog X.w) X.A (assign target X.env u) (fun _ s' => ∃ σ' H', Inv X pins σ' H' s' ∧ Q σ' H') X.xe s
noncomputable def PGs (X : Cx) (ts : List Expr) (t : TGs) : Prop :=
 ∀ (pins : List (Addr × Obj)) (s : Shared) (σ : St) (H : Hp) (vs : List V) (us : List Value) (Q : St → Hp → Prop), Inv X pins σ H s → Vals vs us → t vs σ H Q →
  wpAny (model X.prog X.w) X.A (assignInOrder ((assignEach ts X.env).map (·.2)) us) (fun _ s' => ∃ σ' H', Inv X pins σ' H' s' ∧ Q σ' H') X.xe s
noncomputable abbrev TSet := V → V → V → Hp → (Hp → Prop) → Prop
noncomputable def PSet (X : Cx) (t : TSet) : Prop :=
 ∀ (pins : List (Addr × Obj)) (s : Shared) (σ : St) (H : Hp) (o i v : V) (ov iv u : Value) (Q : Hp → Prop), Inv X pins σ H s → RelV o ov → RelV i iv → RelV v u → t o i v H Q →
  wpAny (model X.prog X.w) X.A (setItem ov iv u) (fun _ s' => ∃ H', Inv X pins σ H' s' ∧ Q H') X.xe s
section
variable {X : Cx} {pos : Pos}
noncomputable def gName (i : Nat) : TG := fun v σ H Q => Q (σ.set i (some v)) H
theorem pg_name {i : Nat} {x : Str} (hN : X.N.Nodup) (hi : X.N[i]? = some x) (hx : Loc X.env.scope x) (hf : X.fn x = true ∨ X.env.scope.names.lookup x = some .local := by first | exact .inl rfl | exact .inr rfl | assumption) : PG X (.Name x pos) (gName i) := by
 intro pins s σ H v u Q I r h
 exact wpAny_assign_Name (store_ok I hN hi hx r (fun s' I' => ⟨_, H, I', h⟩) hf)
noncomputable def gNil : TGs := fun vs σ H Q => vs = [] ∧ Q σ H
noncomputable def gCons (t : TG) (u : TGs) : TGs := fun vs σ H Q => ∃ v r, vs = v :: r ∧ t v σ H fun σ' H' => u r σ' H' Q
theorem pgs_nil : PGs X [] gNil := by
 intro pins s σ H vs us Q I r h
 obtain ⟨e, h⟩ := h
 subst e
 cases r
 exact assignInOrder_nil ⟨σ, H, I, h⟩
theorem pgs_cons {e : Expr} {es : List Expr} {t : TG} {u : TGs} (h1 : PG X e t) (h2 : PGs X es u)
  (hs : (assignEach (e :: es) X.env).map (·.2) = assign e X.env :: (assignEach es X.env).map (·.2) := by rfl) : PGs X (e :: es) (gCons t u) := by
 intro pins s σ H vs us Q I r h
 obtain ⟨v, vr, e1, h⟩ := h
 subst e1
 cases r with
 | cons r rr =>
  rw [hs]
  refine assignInOrder_cons (thn (h1 pins s σ H _ _ _ I r h) fun _ s1 ⟨σ1, H1, I1, q1⟩ => ?_)
  exact h2 pins s1 σ1 H1 _ _ Q I1 rr q1
noncomputable def gTup (K : PySem.W.Frag) (n : Nat) (t : TGs) : TG := fun v σ H Q => ∃ a xs, v = .ref a ∧ SqT K H a xs ∧ xs.length = n ∧ t xs σ H Q
theorem pg_tup {es : List Expr} {k : Nat} {t : TGs} {n : Nat} (hc : X.calm = true) (h : PGs X es t)
  (hn : (assignEach es X.env).length = n := by rfl) (hst : (assignEach es X.env).findIdx? (·.1) = none := by rfl) : PG X (.Tuple es k pos) (gTup X.K n t) := by
 intro pins s σ H v u Q I r hw
 obtain ⟨a, xs, e1, hq, hl, hw⟩ := hw
 subst e1
 cases r
 obtain ⟨its, rv, ht, hz⟩ := I.tuple hq
 refine assign_Tuple_tuple (I.ok.hd hc) ht (by simp [hn, ← hl, rv.length]) hst fun h' hx => ?_
 have I1 : Inv X pins σ H { s with heap := h' } := I.kept (t' := s.toks) fun b o e => hx b o (Nat.ne_of_lt (Heap.lt_size e)) e
 exact h pins _ σ H xs _ Q I1 (by simpa using rv) hw
noncomputable def gSub (to ti : TE) (t : TSet) : TG := fun v σ H Q => to σ H fun o H1 => ti σ H1 fun i H2 => t o i v H2 fun H3 => Q σ H3
theorem pg_sub {o i : Expr} {to ti : TE} {t : TSet} (ho : PE X o to) (hi : PE X i ti) (hs : PSet X t)
  (ha : ∀ v, assign (.Subscript o i pos) X.env v = (do
   let ov ← holding [v] (eval o X.env)
   let iv ← holding [v, ov] (eval i X.env)
   standAt pos
   holding [v, ov, iv] (setItem ov iv v)
   release [v, ov, iv] []) := by intro _; rfl) : PG X (.Subscript o i pos) (gSub to ti t) := by
 intro pins s σ H v u Q I r h
 rw [ha]
 refine wpAny_bind (wpAny_holding (thn (ho pins s σ H _ I h) fun ov s1 ⟨x, H1, I1, r1, q1⟩ => ?_))
 refine wpAny_bind (wpAny_holding (thn (hi pins s1 σ H1 _ I1 q1) fun iv s2 ⟨y, H2, I2, r2, q2⟩ => ?_))
 refine wpAny_bind (wpAny_standAt (wpAny_bind (wpAny_holding (thn (hs pins s2 σ H2 x y v ov iv u _ I2 r1 r2 r q2) fun _ s3 ⟨H3, I3, q3⟩ => ?_))))
 exact wpAny_release ⟨σ, H3, I3, q3⟩
noncomputable def tAsg (te : TE) (g : TG) : TS := fun D σ H => te σ H fun x H1 => g x σ H1 D.nx
theorem ps_asg {tg e : Expr} {te : TE} {g : TG} (he : PE X e te) (hg : PG X tg g) (hs : swapsWithSole [tg] e pos.line X.env = pure false := by rfl) (hw : swappedStores [tg] e X.env = pure none := by rfl)
  (h1 : (assignEach [tg] X.env).map (·.2) = [assign tg X.env] := by rfl) : PS X (.Assign [tg] e pos) (tAsg te g) := by
 intro pins s σ H D I h
 refine wpAny_Assign_stores (thn (he pins s σ H _ I h) fun v s1 ⟨x, H1, I1, r1, q1⟩ => ?_) hs hw
 rw [h1]
 exact thn (hg pins s1 σ H1 x v _ I1 r1 q1) fun _ s2 q => q
theorem ps_set {i : Nat} {x : Str} {e : Expr} {te : TE} {pos' : Pos} (hN : X.N.Nodup) (hi : X.N[i]? = some x) (hx : Loc X.env.scope x) (he : PE X e te) (hs : swapsWith e (some (.Name x pos')) pos.line X.env = pure false := by rfl) (hf : X.fn x = true ∨ X.env.scope.names.lookup x = some .local := by first | exact .inl rfl | exact .inr rfl | assumption) :
  PS X (.Assign [.Name x pos'] e pos) (tAsg te (gName i)) := by
 intro pins s σ H D I h
 refine wpAny_Assign_Name (thn (he pins s σ H _ I h) fun v s1 ⟨y, H1, I1, r1, q1⟩ => ?_) hs
 exact store_ok I1 hN hi hx r1 (fun s2 I2 => ⟨_, H1, I2, q1⟩) hf
end
section
variable {X : Cx} {pos : Pos}
end
structure It where
 go : Nat → Hp → Prop
 yld : Nat → Hp → V → Hp → Prop
 stop : Nat → Hp → Prop
noncomputable def FpOk (X : Cx) (pins : List (Addr × Obj)) (H : Hp) (b : Addr) : Prop :=
 H b = none ∧ b ≠ X.env.locals ∧ b ∉ X.fs ∧ (b ∈ X.ex ∨ X.s₀.heap.objs.size ≤ b) ∧ (∀ x c, X.env.cells.lookup x = some c → c ≠ b) ∧ ∀ p ∈ X.pn ++ pins, p.1 ≠ b
theorem Inv.fpOk {X : Cx} {pins : List (Addr × Obj)} {σ : St} {H H' : Hp} {s : Shared} {b : Addr} (I : Inv X pins σ H s) (hb : s.heap.objs.size ≤ b) (hn : H' b = none) : FpOk X pins H' b := by
 refine ⟨hn, Nat.ne_of_gt (Nat.lt_of_lt_of_le I.lt hb), I.nofs hb, .inr (Nat.le_trans I.sz hb), fun x c e z => ?_, fun p hp z => ?_⟩
 ·obtain ⟨v, q⟩ := I.cell x c e
  exact absurd (Nat.lt_of_lt_of_le q.lt (by rw [z]; exact hb)) (Nat.lt_irrefl _)
 ·exact absurd (Nat.lt_of_lt_of_le (Heap.lt_size (I.pin p hp).1) (by rw [z]; exact hb)) (Nat.lt_irrefl _)
structure Turn (P : Program) (w : World) (K : PySem.W.Frag) (tg : Expr) (J : It) (fp : List Addr) (it : Addr) (tn : Nat → Heap → Prop) : Prop where
 mem : it ∈ fp
 obj : ∀ i h, tn i h → ∀ b ∈ fp, ∃ o, h.get? b = some o ∧ ∀ v, o.data ≠ .cell v
 keep : ∀ i h h', tn i h → (∀ b ∈ fp, ∀ o, h.get? b = some o → h'.get? b = some o) → tn i h'
 item : ∀ (X : Cx), X.prog = P → X.w = w → X.K = K → X.calm = true → ∀ (i : Nat) (pins : List (Addr × Obj)) (s : Shared) (σ : St) (H : Hp) (E : Value → Shared → Prop), Inv X pins σ H s → (∀ b ∈ fp, FpOk X pins H b) → tn i s.heap → J.go i H →
  wpAny (model P w) X.A (pyNext (.ref it)) (fun r s1 => ∃ u, r = some u ∧
   wpAny (model P w) X.A (letOwnedTupleGo tg (.ref it) u) (fun _ s2 => ∃ x H', Inv X pins σ H' s2 ∧ RelV x u ∧ J.yld i H x H' ∧ tn (i + 1) s2.heap ∧ ∀ b ∈ fp, H' b = none) E s1) E s
 done : ∀ (X : Cx), X.prog = P → X.w = w → X.K = K → X.calm = true → ∀ (i : Nat) (pins : List (Addr × Obj)) (s : Shared) (σ : St) (H : Hp) (E : Value → Shared → Prop), Inv X pins σ H s → (∀ b ∈ fp, FpOk X pins H b) → tn i s.heap → J.stop i H →
  wpAny (model P w) X.A (pyNext (.ref it)) (fun r s1 => r = none ∧ Inv X pins σ H s1) E s
 self : ∀ (A : Around) (i : Nat) (s : Shared) (Q : Value → Shared → Prop) (E : Value → Shared → Prop), tn i s.heap → Q (.ref it) s → wpAny (model P w) A (pyIter (.ref it)) Q E s
noncomputable abbrev TI := St → Hp → (It → Hp → Prop) → Prop
noncomputable def PIE (X : Cx) (pins : List (Addr × Obj)) (σ : St) (tg : Expr) (R : It → Hp → Prop) (itv : Value) (s2 : Shared) : Prop :=
 ∃ (it : Addr) (fp : List Addr) (tn : Nat → Heap → Prop) (J : It) (H' : Hp), itv = .ref it ∧ Inv X pins σ H' s2 ∧ Turn X.prog X.w X.K tg J fp it tn ∧ tn 0 s2.heap ∧ (∀ b ∈ fp, FpOk X pins H' b) ∧ R J H'
noncomputable def PI (X : Cx) (tg iter : Expr) (wi : TI) : Prop :=
 ∀ (pins : List (Addr × Obj)) (s : Shared) (σ : St) (H : Hp) (R : It → Hp → Prop), Inv X pins σ H s → wi σ H R →
  wpAny (model X.prog X.w) X.A (eval iter X.env) (fun v s1 => wpAny (model X.prog X.w) X.A (pyIter v) (PIE X pins σ tg R) X.xe s1) X.xe s
theorem go_of {M : Model} {A : Around} {E : Value → Shared → Prop} {s : Shared} {tg : Expr} {it : Addr} {u : Value} {o : Obj} {n : String} {vs : Array Value} {Q : Unit → Shared → Prop} (ho : s.heap.get? it = some o) (hc : o.cls = .type n) (hd : o.data = .fields vs)
    (hn : ["enumerate", "zip", "dict_itemiterator", "dict_reverseitemiterator", "odict_iterator", "itertools.zip_longest", "itertools.pairwise"].contains n = false) (hQ : Q () s) : wpAny M A (letOwnedTupleGo tg (.ref it) u) Q E s := by
  unfold letOwnedTupleGo
  cases tg <;> first
    | exact wpAny_pure hQ
    | (cases u <;> first
        | exact wpAny_pure hQ
        | (refine wpAny_bind (wpAny_load ho ?_)
           rw [hc, hd]
           show wpAny M A (if (["enumerate", "zip", "dict_itemiterator", "dict_reverseitemiterator", "odict_iterator", "itertools.zip_longest", "itertools.pairwise"].contains n && vs[0]? == some (rawInt _)) = true then _ else _) Q E s
           rw [if_neg (by intro h; rw [hn, Bool.false_and] at h; cases h)]
           exact wpAny_pure hQ))
noncomputable def Itl (K : PySem.W.Frag) (a : Addr) : It :=
 ⟨fun i H => ∃ xs x, SqL K H a xs ∧ xs[i]? = some x, fun i H x H' => H' = H ∧ ∀ xs, SqL K H a xs → xs[i]? = some x, fun i H => ∃ xs, SqL K H a xs ∧ xs.length ≤ i⟩
noncomputable def Itt (K : PySem.W.Frag) (a : Addr) : It :=
 ⟨fun i H => ∃ xs x, SqT K H a xs ∧ xs[i]? = some x, fun i H x H' => H' = H ∧ ∀ xs, SqT K H a xs → xs[i]? = some x, fun i H => ∃ xs, SqT K H a xs ∧ xs.length ≤ i⟩
noncomputable def Itr (lo : Int) (n : Nat) : It := ⟨fun i _ => i < n, fun i H x H' => H' = H ∧ x = .int (lo + i), fun i _ => n ≤ i⟩
theorem turn_list {P : Program} {w : World} {K : PySem.W.Frag} {tg : Expr} (a it : Addr) : Turn P w K tg (Itl K a) [it] it (fun i h => h.IsListIter it a i) where
 mem := by simp
 obj := fun i h st b hb => by
  have e : b = it := by simpa using hb
  subst e
  obtain ⟨o, e, c, d⟩ := st
  exact ⟨o, e, fun v z => by rw [d] at z; cases z⟩
 keep := fun i h h' st k => st.at fun o e => k it (by simp) o e
 item := by
  intro X hP hw hK hc i pins s σ H E I hf st hg
  subst hP hw hK
  obtain ⟨xs, x, hq, hx⟩ := hg
  obtain ⟨its, rv, p, hz⟩ := I.list hq
  obtain ⟨u, hu, ru⟩ := rv.get hx
  obtain ⟨f0, f1, f2, f3, f4, f5⟩ := hf it (by simp)
  refine wpAny_pyNext_list_item st p.isList (x := u) (by simpa using hu) fun h' st' sb => ?_
  have I1 : Inv X pins σ H { s with heap := h' } := I.turned (t' := s.toks) (fun b o hb e => (sb.2 b hb).trans e) f0 f1 f3 f4 f5
  obtain ⟨o, e, c, d⟩ := id st'
  exact ⟨u, rfl, go_of (s := { s with heap := h' }) e c d (by decide) ⟨x, H, I1, ru, ⟨rfl, fun ys hy => by rw [I.list_inj hy hq]; exact hx⟩, st', fun b hb => (hf b hb).1⟩⟩
 done := by
  intro X hP hw hK hc i pins s σ H E I hf st hg
  subst hP hw hK
  obtain ⟨xs, hq, hx⟩ := hg
  obtain ⟨its, rv, p, hz⟩ := I.list hq
  obtain ⟨f0, f1, f2, f3, f4, f5⟩ := hf it (by simp)
  have hl := rv.length
  exact wpAny_pyNext_list_end (I.ok.hd hc) st p.isList (by simp; omega) fun h' eb => ⟨rfl, I.turned (t' := s.toks) (fun b o hb e => eb b o hb e) f0 f1 f3 f4 f5⟩
 self := fun _ _ _ _ _ st h => wpAny_pyIter_listiter st h
theorem turn_tuple {P : Program} {w : World} {K : PySem.W.Frag} {tg : Expr} (a it : Addr) : Turn P w K tg (Itt K a) [it] it (fun i h => h.IsTupleIter it a i) where
 mem := by simp
 obj := fun i h st b hb => by
  have e : b = it := by simpa using hb
  subst e
  obtain ⟨o, e, c, d⟩ := st
  exact ⟨o, e, fun v z => by rw [d] at z; cases z⟩
 keep := fun i h h' st k => st.at fun o e => k it (by simp) o e
 item := by
  intro X hP hw hK hc i pins s σ H E I hf st hg
  subst hP hw hK
  obtain ⟨xs, x, hq, hx⟩ := hg
  obtain ⟨its, rv, p, hz⟩ := I.tuple hq
  obtain ⟨u, hu, ru⟩ := rv.get hx
  obtain ⟨f0, f1, f2, f3, f4, f5⟩ := hf it (by simp)
  refine wpAny_pyNext_tuple_item st (show s.heap.IsTuple a its.toArray from p) (x := u) (by simpa using hu) fun h' st' sb => ?_
  have I1 : Inv X pins σ H { s with heap := h' } := I.turned (t' := s.toks) (fun b o hb e => (sb.2 b hb).trans e) f0 f1 f3 f4 f5
  obtain ⟨o, e, c, d⟩ := id st'
  exact ⟨u, rfl, go_of (s := { s with heap := h' }) e c d (by decide) ⟨x, H, I1, ru, ⟨rfl, fun ys hy => by rw [I.tuple_inj hy hq]; exact hx⟩, st', fun b hb => (hf b hb).1⟩⟩
 done := by
  intro X hP hw hK hc i pins s σ H E I hf st hg
  subst hP hw hK
  obtain ⟨xs, hq, hx⟩ := hg
  obtain ⟨its, rv, p, hz⟩ := I.tuple hq
  obtain ⟨f0, f1, f2, f3, f4, f5⟩ := hf it (by simp)
  have hl := rv.length
  exact wpAny_pyNext_tuple_end (I.ok.hd hc) st (show s.heap.IsTuple a its.toArray from p) (by simp; omega) fun h' eb => ⟨rfl, I.turned (t' := s.toks) (fun b o hb e => eb b o hb e) f0 f1 f3 f4 f5⟩
 self := fun _ _ _ _ _ st h => wpAny_pyIter_tupleiter st h
theorem turn_range {P : Program} {w : World} {K : PySem.W.Frag} {tg : Expr} (it : Addr) (lo : Int) (n : Nat) : Turn P w K tg (Itr lo n) [it] it (fun i h => IsRangeIter h it (lo + (i : Nat) * 1) ((n : Int) - (i : Nat)) 1) where
 mem := by simp
 obj := fun i h st b hb => by
  have e : b = it := by simpa using hb
  subst e
  exact ⟨_, st, fun v z => by
   have z' : Data.fields _ = Data.cell v := z
   cases z'⟩
 keep := fun i h h' st k => k it (by simp) _ st
 item := by
  intro X hP hw hK hc i pins s σ H E I hf st hg
  subst hP hw hK
  obtain ⟨f0, f1, f2, f3, f4, f5⟩ := hf it (by simp)
  have W := Walks.range (prog := X.prog) (w := X.w) (I.ok.hd hc) it lo 1 n
  refine W.item i s _ _ hg st fun v h' tk hv st' kk => ?_
  obtain ⟨t, rfl⟩ := hv
  have I1 : Inv X pins σ H { s with heap := h', toks := tk } := I.turned (fun b o hb e => kk b o (by simpa using hb) e) f0 f1 f3 f4 f5
  refine ⟨_, rfl, go_of (s := { s with heap := h', toks := tk }) (n := "range_iterator") st' rfl rfl (by decide) ⟨.int (lo + i), H, I1, ⟨t, ?_⟩, ⟨rfl, rfl⟩, st', fun b hb => (hf b hb).1⟩⟩
  rw [Int.mul_one]
 done := by
  intro X hP hw hK hc i pins s σ H E I hf st hg
  subst hP hw hK
  obtain ⟨f0, f1, f2, f3, f4, f5⟩ := hf it (by simp)
  exact wpAny_pyNext_range_end (I.ok.hd hc) st (by have : n ≤ i := hg; omega) fun h' eb => ⟨rfl, I.turned (t' := s.toks) (fun b o hb e => eb b o hb e) f0 f1 f3 f4 f5⟩
 self := fun _ _ _ _ _ st h => wpAny_pyIter_rangeiter st h
end L2
namespace L2
open PySem PySem.Spec PyProof.Rows
section
variable {X : Cx} {tg : Expr}
noncomputable def iList (K : PySem.W.Frag) (tl : TE) : TI := fun σ H R => tl σ H fun x H1 => ∃ a, x = .ref a ∧ (∃ xs, SqL K H1 a xs) ∧ R (Itl K a) H1
noncomputable def iTup (K : PySem.W.Frag) (tl : TE) : TI := fun σ H R => tl σ H fun x H1 => ∃ a, x = .ref a ∧ (∃ xs, SqT K H1 a xs) ∧ R (Itt K a) H1
theorem pi_list {l : Expr} {tl : TE} (hl : PE X l tl) : PI X tg l (iList X.K tl) := by
 intro pins s σ H R I h
 refine thn (hl pins s σ H _ I h) fun v s1 ⟨x, H1, I1, r1, q1⟩ => ?_
 obtain ⟨a, e, ⟨xs, hq⟩, q⟩ := q1
 subst e
 cases r1
 obtain ⟨its, rv, p, hz⟩ := I1.list hq
 refine wpAny_pyIter_list p.isList ?_
 refine ⟨s1.heap.objs.size, [s1.heap.objs.size], _, _, H1, rfl, I1.kept (t' := s1.toks) fun b o e => Heap.get?_push_of_some _ e, turn_list a _, ⟨_, Heap.get?_push_size _ rfl, rfl, rfl⟩, fun b hb => ?_, q⟩
 have e : b = s1.heap.objs.size := by simpa using hb
 subst e
 exact I1.fpOk (Nat.le_refl _) (I1.hok.fresh (Nat.le_refl _))
theorem pi_tup {l : Expr} {tl : TE} (hl : PE X l tl) : PI X tg l (iTup X.K tl) := by
 intro pins s σ H R I h
 refine thn (hl pins s σ H _ I h) fun v s1 ⟨x, H1, I1, r1, q1⟩ => ?_
 obtain ⟨a, e, ⟨xs, hq⟩, q⟩ := q1
 subst e
 cases r1
 obtain ⟨its, rv, p, hz⟩ := I1.tuple hq
 refine wpAny_pyIter_tuple (show s1.heap.IsTuple a its.toArray from p) ?_
 refine ⟨s1.heap.objs.size, [s1.heap.objs.size], _, _, H1, rfl, I1.kept (t' := s1.toks) fun b o e => Heap.get?_push_of_some _ e, turn_tuple a _, ⟨_, Heap.get?_push_size _ rfl, rfl, rfl⟩, fun b hb => ?_, q⟩
 have e : b = s1.heap.objs.size := by simpa using hb
 subst e
 exact I1.fpOk (Nat.le_refl _) (I1.hok.fresh (Nat.le_refl _))
theorem range_it {pins : List (Addr × Obj)} {σ : St} {H : Hp} {s : Shared} {R : It → Hp → Prop} {E : Value → Shared → Prop} {lo hi : Int} {t u v : Tok} {tk : Nat} (I : Inv X pins σ H s) (h1 : -(2 ^ 62) ≤ lo) (h2 : lo < 2 ^ 62) (h3 : -(2 ^ 62) ≤ hi) (h4 : hi < 2 ^ 62)
  (q : R (Itr lo (hi - lo).toNat) H) : wpAny (model X.prog X.w) X.A (pyIter (.ref s.heap.objs.size)) (PIE X pins σ tg R) E { s with heap := s.heap.push { cls := .type "range", data := .fields #[.int lo t, .int hi u, .int 1 v] }, toks := tk } := by
 refine wpAny_pyIter_range (IsRange.new ..) (small_one h1 h2 h3 h4) ?_
 have I1 : Inv X pins σ H { s with heap := s.heap.push { cls := .type "range", data := .fields #[.int lo t, .int hi u, .int 1 v] }, toks := tk } := I.kept fun b o e => Heap.get?_push_of_some _ e
 refine ⟨(s.heap.push { cls := .type "range", data := .fields #[.int lo t, .int hi u, .int 1 v] }).objs.size, [(s.heap.push { cls := .type "range", data := .fields #[.int lo t, .int hi u, .int 1 v] }).objs.size], _, _, H, rfl,
  I1.kept (t' := tk) fun b o e => Heap.get?_push_of_some _ e, turn_range _ lo (hi - lo).toNat, ?_, fun b hb => ?_, q⟩
 ·have e1 : lo + ((0 : Nat) : Int) * 1 = lo := by simp
  have e2 : (((hi - lo).toNat : Nat) : Int) - ((0 : Nat) : Int) = Builtin.Range.rangeSize lo hi 1 := by rw [rangeSize_one]; split <;> omega
  show IsRangeIter _ _ (lo + ((0 : Nat) : Int) * 1) ((((hi - lo).toNat : Nat) : Int) - ((0 : Nat) : Int)) 1
  rw [e1, e2]
  exact Heap.get?_push_size _ rfl
 ·have e : b = (s.heap.push { cls := .type "range", data := .fields #[.int lo t, .int hi u, .int 1 v] }).objs.size := by simpa using hb
  subst e
  exact I1.fpOk (Nat.le_refl _) (I1.hok.fresh (Nat.le_refl _))
noncomputable def iRng1 (ta : TA) : TI := fun σ H R => ta σ H fun vs H1 => ∃ j : Int, vs = [.int j] ∧ -(2 ^ 62) ≤ j ∧ j < 2 ^ 62 ∧ R (Itr 0 j.toNat) H1
noncomputable def iRng2 (ta : TA) : TI := fun σ H R => ta σ H fun vs H1 => ∃ i j : Int, vs = [.int i, .int j] ∧ (-(2 ^ 62) ≤ i ∧ i < 2 ^ 62 ∧ -(2 ^ 62) ≤ j ∧ j < 2 ^ 62) ∧ R (Itr i (j - i).toNat) H1
theorem pi_range1 {a : Expr} {ta : TA} {p pos : Pos} (hg : Gl X "range") (hm : X.mg "range" = none) (ha : PA X [a] ta) (hs : starEach [a] X.env = [(false, eval a X.env)] := by rfl) : PI X tg (.Call (.Name "range" p) [a] [] pos) (iRng1 ta) := by
 intro pins s σ H R I h
 refine Call_ (ld_blt I hg hm boot_range (PyProof.Rows.callWith_type1 (thn (ha pos pins s σ H _ I h) fun us s1 ⟨vs, H1, I1, r1, q1⟩ => ?_) hs rfl))
 obtain ⟨j, e, q1, q2, q⟩ := q1
 subst e
 cases r1 with
 | cons r rr =>
  cases rr
  obtain ⟨t, rfl⟩ := r
  exact call_range_1 (range_it I1 (by omega) (by omega) q1 q2 (by simpa using q))
theorem pi_range2 {a b : Expr} {ta : TA} {p pos : Pos} (hg : Gl X "range") (hm : X.mg "range" = none) (ha : PA X [a, b] ta) (hs : starEach [a, b] X.env = [(false, eval a X.env), (false, eval b X.env)] := by rfl) (hs2 : starEach [b] X.env = [(false, eval b X.env)] := by rfl) :
  PI X tg (.Call (.Name "range" p) [a, b] [] pos) (iRng2 ta) := by
 intro pins s σ H R I h
 refine Call_ (ld_blt I hg hm boot_range (PyProof.Rows.callWith_type1 (thn (ha pos pins s σ H _ I h) fun us s1 ⟨vs, H1, I1, r1, q1⟩ => ?_) (by rw [hs, hs2]) (by rw [hs2]; rfl)))
 obtain ⟨i, j, e, ⟨q1, q2, q3, q4⟩, q⟩ := q1
 subst e
 cases r1 with
 | cons r rr =>
  cases rr with
  | cons r' rr =>
   cases rr
   obtain ⟨t, rfl⟩ := r
   obtain ⟨t', rfl⟩ := r'
   exact call_range_2 (range_it I1 q1 q2 q3 q4 q)
noncomputable def tFor (wi : TI) (g : TG) (tb : TS) : TS := fun D σ H => wi σ H fun J H1 => ∃ W : Nat → Nat → St → Hp → Prop, (∃ m, W 0 m σ H1) ∧ ∀ i m σ H, W i m σ H →
 (J.stop i H ∧ D.nx σ H) ∨ (J.go i H ∧ ∃ N : St → Hp → Prop, (∀ σ' H', N σ' H' → ∃ m', m' < m ∧ W (i + 1) m' σ' H') ∧ ∀ x H', J.yld i H x H' → g x σ H' fun σ2 H2 => tb { D with nx := N, ct := N, bk := D.nx } σ2 H2)
noncomputable def pinsAt (fp : List Addr) (h : Heap) : List (Addr × Obj) := fp.filterMap fun b => (h.get? b).map fun o => (b, o)
theorem mem_pinsAt {fp : List Addr} {h : Heap} {b : Addr} {o : Obj} (hb : b ∈ fp) (e : h.get? b = some o) : (b, o) ∈ pinsAt fp h := List.mem_filterMap.mpr ⟨b, hb, by rw [e]; rfl⟩
theorem of_pinsAt {fp : List Addr} {h : Heap} {p : Addr × Obj} (hp : p ∈ pinsAt fp h) : p.1 ∈ fp ∧ h.get? p.1 = some p.2 := by
 obtain ⟨b, hb, e⟩ := List.mem_filterMap.mp hp
 cases q : h.get? b with
 | none => rw [q] at e; cases e
 | some o =>
  rw [q] at e
  have e' : (b, o) = p := Option.some.inj e
  subst e'
  exact ⟨hb, q⟩
theorem Inv.pinned {pins : List (Addr × Obj)} {σ : St} {H : Hp} {s : Shared} {fp : List Addr} (I : Inv X pins σ H s) (hf : ∀ b ∈ fp, FpOk X pins H b) (ho : ∀ b ∈ fp, ∃ o, s.heap.get? b = some o ∧ ∀ v, o.data ≠ .cell v) : Inv X (pins ++ pinsAt fp s.heap) σ H s :=
 I.pins_of fun p hp => (List.mem_append.mp hp).elim (fun z => I.pin p (List.mem_append_right _ z)) fun z => by
  obtain ⟨hb, e⟩ := of_pinsAt z
  obtain ⟨f0, f1, f2, _⟩ := hf p.1 hb
  obtain ⟨o, e', d⟩ := ho p.1 hb
  rw [e] at e'; cases e'
  exact ⟨e, f0, f1, f2, d⟩
theorem Inv.unpinned {pins pl : List (Addr × Obj)} {σ : St} {H : Hp} {s : Shared} (I : Inv X (pins ++ pl) σ H s) : Inv X pins σ H s := I.pins_of fun p hp => I.pin p (List.mem_append_right _ (List.mem_append_left _ hp))
theorem ps_for {iter : Expr} {body : List Stmt} {wi : TI} {g : TG} {tb : TS} {pos : Pos} (hp : PassesOwn (model X.prog X.w) X.A X.env X.xe) (hc : X.calm = true) (hi : PI X tg iter wi) (hg : PG X tg g) (hb : PSs X body tb)
  (hs : ∀ x, foldedSetIterable iter X.env x = pure x := by intro _; rfl) : PS X (.For tg iter body [] pos) (tFor wi g tb) := by
 intro pins s σ H D I h
 refine wpAny_For (thn (hi pins s σ H _ I h) fun v s1 h1 => thn h1 fun itv s2 h2 => ?_) hs
 obtain ⟨it, fp, tn, J, H2, e, I2, T, st2, f2, W, ⟨m0, w0⟩, turn⟩ := h2
 subst e
 have stat : ∀ {H' : Hp}, (∀ b ∈ fp, H' b = none) → ∀ b ∈ fp, FpOk X pins H' b := fun hn b hb => ⟨hn b hb, (f2 b hb).2⟩
 refine codeAny_forLoop_any (fun n s' => ∃ i σ' H', Inv X pins σ' H' s' ∧ tn i s'.heap ∧ (∀ b ∈ fp, H' b = none) ∧ W i n σ' H') ?_ m0 ⟨0, σ, H2, I2, st2, fun b hb => (f2 b hb).1, w0⟩
 rintro n s3 ⟨i, σ3, H3, I3, st3, fr3, w3⟩
 rcases turn i n σ3 H3 w3 with ⟨stop, qn⟩ | ⟨go, N, hN, step⟩
 ·refine wpAny_passesOwn hp (thn (T.done X rfl rfl rfl hc i pins s3 σ3 H3 X.xe I3 (stat fr3) st3 stop) fun r s4 ⟨hr, I4⟩ => ?_)
  subst hr
  exact wpAny_execs_nil ⟨σ3, H3, I4, qn⟩
 ·refine wpAny_passesOwn hp (thn (T.item X rfl rfl rfl hc i pins s3 σ3 H3 X.xe I3 (stat fr3) st3 go) fun r s4 ⟨u, hr, h4⟩ => ?_)
  subst hr
  refine wpAny_passesOwn hp (thn h4 fun _ s5 ⟨x, H5, I5, r5, y5, st5, fr5⟩ => ?_)
  have I5' := I5.pinned (stat fr5) (T.obj _ _ st5)
  refine wpAny_passesOwn hp (thn (hg _ s5 σ3 H5 x u _ I5' r5 (step x H5 y5)) fun _ s6 ⟨σ6, H6, I6, q6⟩ => ?_)
  refine wpAny_passesOwn hp (thn (hb _ s6 σ6 H6 _ I6 q6) fun f s7 q7 => ?_)
  have again : ∀ {σ7 : St} {H7 : Hp}, Inv X (pins ++ pinsAt fp s5.heap) σ7 H7 s7 → N σ7 H7 → ∃ m, m < n ∧ ∃ i σ' H', Inv X pins σ' H' s7 ∧ tn i s7.heap ∧ (∀ b ∈ fp, H' b = none) ∧ W i m σ' H' := fun {σ7 H7} I7 n7 => by
   obtain ⟨m', hm, w7⟩ := hN σ7 H7 n7
   refine ⟨m', hm, i + 1, σ7, H7, I7.unpinned, T.keep _ _ _ st5 fun b hb o e => (I7.pin (b, o) (List.mem_append_right _ (List.mem_append_right _ (mem_pinsAt hb e)))).1, fun b hb => ?_, w7⟩
   obtain ⟨o, e, d⟩ := T.obj _ _ st5 b hb
   exact (I7.pin (b, o) (List.mem_append_right _ (List.mem_append_right _ (mem_pinsAt hb e)))).2.1
  cases f with
  | next => obtain ⟨σ7, H7, I7, n7⟩ := q7; exact again I7 n7
  | cont => obtain ⟨σ7, H7, I7, n7⟩ := q7; exact again I7 n7
  | brk => obtain ⟨σ7, H7, I7, q7⟩ := q7; exact ⟨σ7, H7, I7.unpinned, q7⟩
  | ret v => obtain ⟨x7, σ7, H7, I7, r7, q7⟩ := q7; exact ⟨x7, σ7, H7, I7.unpinned, r7, q7⟩
end
theorem for_list {K : PySem.W.Frag} {a : Addr} {xs : List V} {g : TG} {tb : TS} {D : Ends} {σ : St} {H : Hp} (Pv : Nat → St → Hp → Prop) (h0 : Pv 0 σ H) (hl : ∀ i σ H, i ≤ xs.length → Pv i σ H → SqL K H a xs)
  (hs : ∀ i x σ H, xs[i]? = some x → Pv i σ H → g x σ H fun σ2 H2 => tb { D with nx := Pv (i + 1), ct := Pv (i + 1), bk := D.nx } σ2 H2) (hd : ∀ σ H, Pv xs.length σ H → D.nx σ H) :
  ∃ W : Nat → Nat → St → Hp → Prop, (∃ m, W 0 m σ H) ∧ ∀ i m σ H, W i m σ H →
   ((Itl K a).stop i H ∧ D.nx σ H) ∨ ((Itl K a).go i H ∧ ∃ N : St → Hp → Prop, (∀ σ' H', N σ' H' → ∃ m', m' < m ∧ W (i + 1) m' σ' H') ∧ ∀ x H', (Itl K a).yld i H x H' → g x σ H' fun σ2 H2 => tb { D with nx := N, ct := N, bk := D.nx } σ2 H2) := by
 refine ⟨fun i m σ H => m = xs.length - i ∧ i ≤ xs.length ∧ Pv i σ H, ⟨xs.length, by simp, Nat.zero_le _, h0⟩, ?_⟩
 rintro i m σ H ⟨rfl, hi, p⟩
 have q := hl i σ H hi p
 by_cases hlt : i < xs.length
 ·refine .inr ⟨⟨xs, xs[i], q, by simp [hlt]⟩, Pv (i + 1), fun σ' H' p' => ⟨xs.length - (i + 1), by omega, rfl, hlt, p'⟩, fun x H' y => ?_⟩
  obtain ⟨e, y⟩ := y
  subst e
  exact hs i x σ _ (y xs q) p
 ·have e : i = xs.length := by omega
  subst e
  exact .inl ⟨⟨xs, q, Nat.le_refl _⟩, hd σ H p⟩
theorem for_tup {K : PySem.W.Frag} {a : Addr} {xs : List V} {g : TG} {tb : TS} {D : Ends} {σ : St} {H : Hp} (Pv : Nat → St → Hp → Prop) (h0 : Pv 0 σ H) (hl : ∀ i σ H, i ≤ xs.length → Pv i σ H → SqT K H a xs)
  (hs : ∀ i x σ H, xs[i]? = some x → Pv i σ H → g x σ H fun σ2 H2 => tb { D with nx := Pv (i + 1), ct := Pv (i + 1), bk := D.nx } σ2 H2) (hd : ∀ σ H, Pv xs.length σ H → D.nx σ H) :
  ∃ W : Nat → Nat → St → Hp → Prop, (∃ m, W 0 m σ H) ∧ ∀ i m σ H, W i m σ H →
   ((Itt K a).stop i H ∧ D.nx σ H) ∨ ((Itt K a).go i H ∧ ∃ N : St → Hp → Prop, (∀ σ' H', N σ' H' → ∃ m', m' < m ∧ W (i + 1) m' σ' H') ∧ ∀ x H', (Itt K a).yld i H x H' → g x σ H' fun σ2 H2 => tb { D with nx := N, ct := N, bk := D.nx } σ2 H2) := by
 refine ⟨fun i m σ H => m = xs.length - i ∧ i ≤ xs.length ∧ Pv i σ H, ⟨xs.length, by simp, Nat.zero_le _, h0⟩, ?_⟩
 rintro i m σ H ⟨rfl, hi, p⟩
 have q := hl i σ H hi p
 by_cases hlt : i < xs.length
 ·refine .inr ⟨⟨xs, xs[i], q, by simp [hlt]⟩, Pv (i + 1), fun σ' H' p' => ⟨xs.length - (i + 1), by omega, rfl, hlt, p'⟩, fun x H' y => ?_⟩
  obtain ⟨e, y⟩ := y
  subst e
  exact hs i x σ _ (y xs q) p
 ·have e : i = xs.length := by omega
  subst e
  exact .inl ⟨⟨xs, q, Nat.le_refl _⟩, hd σ H p⟩
theorem for_range {lo : Int} {n : Nat} {g : TG} {tb : TS} {D : Ends} {σ : St} {H : Hp} (Pv : Nat → St → Hp → Prop) (h0 : Pv 0 σ H)
  (hs : ∀ i σ H, i < n → Pv i σ H → g (.int (lo + i)) σ H fun σ2 H2 => tb { D with nx := Pv (i + 1), ct := Pv (i + 1), bk := D.nx } σ2 H2) (hd : ∀ σ H, Pv n σ H → D.nx σ H) :
  ∃ W : Nat → Nat → St → Hp → Prop, (∃ m, W 0 m σ H) ∧ ∀ i m σ H, W i m σ H →
   ((Itr lo n).stop i H ∧ D.nx σ H) ∨ ((Itr lo n).go i H ∧ ∃ N : St → Hp → Prop, (∀ σ' H', N σ' H' → ∃ m', m' < m ∧ W (i + 1) m' σ' H') ∧ ∀ x H', (Itr lo n).yld i H x H' → g x σ H' fun σ2 H2 => tb { D with nx := N, ct := N, bk := D.nx } σ2 H2) := by
 refine ⟨fun i m σ H => m = n - i ∧ i ≤ n ∧ Pv i σ H, ⟨n, by simp, Nat.zero_le _, h0⟩, ?_⟩
 rintro i m σ H ⟨rfl, hi, p⟩
 by_cases hlt : i < n
 ·refine .inr ⟨hlt, Pv (i + 1), fun σ' H' p' => ⟨n - (i + 1), by omega, rfl, hlt, p'⟩, fun x H' y => ?_⟩
  obtain ⟨e, y⟩ := y
  subst e y
  exact hs i σ _ hlt p
 ·have e : i = n := by omega
  subst e
  exact .inl ⟨Nat.le_refl _, hd σ H p⟩
end L2
namespace L2
open PySem PySem.Spec PyProof.Rows
noncomputable abbrev R2 := V → V → Hp → VK → Prop
noncomputable def OpR (X : Cx) (f : Value → Value → Sem Value) (r : R2) : Prop :=
 ∀ (pins : List (Addr × Obj)) (s : Shared) (σ : St) (H : Hp) (x y : V) (v u : Value) (Q : VK), Inv X pins σ H s → RelV x v → RelV y u → r x y H Q →
  wpAny (model X.prog X.w) X.A (f v u) (EP X pins σ Q) X.xe s
noncomputable def UnR (X : Cx) (f : Value → Sem Value) (r : V → Hp → VK → Prop) : Prop :=
 ∀ (pins : List (Addr × Obj)) (s : Shared) (σ : St) (H : Hp) (x : V) (v : Value) (Q : VK), Inv X pins σ H s → RelV x v → r x H Q →
  wpAny (model X.prog X.w) X.A (f v) (EP X pins σ Q) X.xe s
noncomputable def CallR (X : Cx) (f : Value) (r : List V → Hp → VK → Prop) : Prop :=
 ∀ (pins : List (Addr × Obj)) (s : Shared) (σ : St) (H : Hp) (xs : List V) (us : List Value) (Q : VK), Inv X pins σ H s → Vals xs us → r xs H Q →
  wpAny (model X.prog X.w) X.A (call f us) (EP X pins σ Q) X.xe s
noncomputable def tOp (r : R2) (ta tb : TE) : TE := fun σ H Q => ta σ H fun x H1 => tb σ H1 fun y H2 => r x y H2 Q
noncomputable def tUn (r : V → Hp → VK → Prop) (ta : TE) : TE := fun σ H Q => ta σ H fun x H1 => r x H1 Q
noncomputable def rI (C : Int → Int → Prop) (g : Int → Int → V) : R2 := fun x y H Q => ∃ i j, x = .int i ∧ y = .int j ∧ C i j ∧ Q (g i j) H
noncomputable def rI0 (g : Int → Int → V) : R2 := fun x y H Q => ∃ i j, x = .int i ∧ y = .int j ∧ Q (g i j) H
noncomputable def rU (g : Int → V) : V → Hp → VK → Prop := fun x H Q => ∃ i, x = .int i ∧ Q (g i) H
section
variable {X : Cx} {a b c : Expr} {ta tb tc : TE} {pos : Pos}
theorem binT (ha : PE X a ta) (hb : PE X b tb) {pins : List (Addr × Obj)} {s : Shared} {σ : St} {H : Hp} {R : V → V → Hp → Prop} (I : Inv X pins σ H s)
  (h : ta σ H fun x H1 => tb σ H1 fun y H2 => R x y H2) {Q : Value → Shared → Prop} {f : Value → Value → Sem Value}
  (hf : ∀ v u s2 x y H2, Inv X pins σ H2 s2 → RelV x v → RelV y u → R x y H2 → wpAny (model X.prog X.w) X.A (f v u) Q X.xe s2) :
  wpAny (model X.prog X.w) X.A (eval a X.env) (fun v s₁ => wpAny (model X.prog X.w) X.A (eval b X.env) (fun u s₂ => wpAny (model X.prog X.w) X.A (f v u) Q X.xe s₂) X.xe s₁) X.xe s := by
 refine thn (ha pins s σ H _ I h) fun v s1 ⟨x, H1, I1, r1, q1⟩ => ?_
 refine thn (hb pins s1 σ H1 _ I1 q1) fun u s2 ⟨y, H2, I2, r2, q2⟩ => ?_
 exact hf v u s2 x y H2 I2 r1 r2 q2
theorem pe_op {op : Operator} {r : R2} (ho : OpR X (binaryOp op) r) (ha : PE X a ta) (hb : PE X b tb) : PE X (.BinOp a op b pos) (tOp r ta tb) := by
 intro pins s σ H Q I h
 exact wpAny_BinOp (binT ha hb I h fun v u s2 x y H2 I2 rx ry q => ho pins s2 σ H2 x y v u Q I2 rx ry q)
theorem pe_un {op : UnaryOp} {r : V → Hp → VK → Prop} (ho : UnR X (unaryOp op) r) (ha : PE X a ta) : PE X (.UnaryOp op a pos) (tUn r ta) := by
 intro pins s σ H Q I h
 exact UnaryOp_ (thn (ha pins s σ H _ I h) fun v s1 ⟨x, H1, I1, r1, q1⟩ => ho pins s1 σ H1 x v Q I1 r1 q1)
theorem opI {f : Value → Value → Sem Value} {C : Int → Int → Prop} {g : Int → Int → Int}
  (rule : ∀ (i j : Int) (t u : Tok) (s : Shared) (Q : Value → Shared → Prop) (E : Value → Shared → Prop), C i j → Q (.int (g i j) s.toks) { s with toks := s.toks + 1 } → wpAny (model X.prog X.w) X.A (f (.int i t) (.int j u)) Q E s) :
  OpR X f (rI C fun i j => .int (g i j)) := by
 intro pins s σ H x y v u Q I rx ry h
 obtain ⟨i, j, rfl, rfl, hc, q⟩ := h
 obtain ⟨t, rfl⟩ := rx
 obtain ⟨t', rfl⟩ := ry
 exact rule i j t t' s _ _ hc ⟨.int (g i j), H, I.tok _, ⟨_, rfl⟩, q⟩
theorem opI0 {f : Value → Value → Sem Value} {g : Int → Int → Int}
  (rule : ∀ (i j : Int) (t u : Tok) (s : Shared) (Q : Value → Shared → Prop) (E : Value → Shared → Prop), Q (.int (g i j) s.toks) { s with toks := s.toks + 1 } → wpAny (model X.prog X.w) X.A (f (.int i t) (.int j u)) Q E s) :
  OpR X f (rI0 fun i j => .int (g i j)) := by
 intro pins s σ H x y v u Q I rx ry h
 obtain ⟨i, j, rfl, rfl, q⟩ := h
 obtain ⟨t, rfl⟩ := rx
 obtain ⟨t', rfl⟩ := ry
 exact rule i j t t' s _ _ ⟨.int (g i j), H, I.tok _, ⟨_, rfl⟩, q⟩
theorem opB0 {f : Value → Value → Sem Value} {g : Int → Int → Bool}
  (rule : ∀ (i j : Int) (t u : Tok) (s : Shared) (Q : Value → Shared → Prop) (E : Value → Shared → Prop), Q (.bool (g i j)) s → wpAny (model X.prog X.w) X.A (f (.int i t) (.int j u)) Q E s) :
  OpR X f (rI0 fun i j => .bl (g i j)) := by
 intro pins s σ H x y v u Q I rx ry h
 obtain ⟨i, j, rfl, rfl, q⟩ := h
 obtain ⟨t, rfl⟩ := rx
 obtain ⟨t', rfl⟩ := ry
 exact rule i j t t' s _ _ ⟨.bl (g i j), H, I, rfl, q⟩
noncomputable def CDiv (i j : Int) : Prop := 0 < j ∧ j < 1073741824
noncomputable def CPow (i j : Int) : Prop := 0 ≤ j ∧ j ≤ 1000000 ∧ i.natAbs < 2 ^ 64
noncomputable def CMul (i j : Int) : Prop := (-(2 ^ 64) < i ∧ i < 2 ^ 64) ∨ (-(2 ^ 64) < j ∧ j < 2 ^ 64)
theorem CMul.ok {i j : Int} (h : CMul i j) : IntMulOk i j := by
 rcases h with ⟨h1, h2⟩ | ⟨h1, h2⟩
 ·exact .of_left (intBits_le_64 h1 h2)
 ·exact .of_right (intBits_le_64 h1 h2)
theorem op_add : OpR X (binaryOp .Add) (rI0 fun i j => .int (i + j)) := opI0 fun _ _ _ _ _ _ _ q => add_int q
theorem op_sub : OpR X (binaryOp .Sub) (rI0 fun i j => .int (i - j)) := opI0 fun _ _ _ _ _ _ _ q => sub_int q
theorem op_mul : OpR X (binaryOp .Mult) (rI CMul fun i j => .int (i * j)) := opI fun _ _ _ _ _ _ _ hc q => mul_int q hc.ok
theorem op_fdiv : OpR X (binaryOp .FloorDiv) (rI CDiv fun i j => .int (i / j)) := opI fun i j _ _ _ _ _ hc q => by
 have h1 : (0 : Int) < j := hc.1
 have h2 : j < 1073741824 := hc.2
 exact floordiv_int (by omega) (by rw [Int.fdiv_eq_ediv_of_nonneg i (by omega)]; exact q) (.inl (PyProof.noPylong_small (by omega)))
theorem op_mod : OpR X (binaryOp .Mod) (rI (fun _ j => 0 < j) fun i j => .int (i % j)) := opI fun i j _ _ _ _ _ hc q => by
 have h1 : (0 : Int) < j := hc
 exact mod_int' (by omega) (by rw [Int.fmod_eq_emod_of_nonneg i (by omega)]; exact q)
theorem op_pow : OpR X (binaryOp .Pow) (rI CPow fun i j => .int (i ^ j.toNat)) := opI fun _ _ _ _ _ _ _ hc q => pow_int_small hc.1 hc.2.1 hc.2.2 q
theorem unI {f : Value → Sem Value} {g : Int → Int}
  (rule : ∀ (i : Int) (t : Tok) (s : Shared) (Q : Value → Shared → Prop) (E : Value → Shared → Prop), Q (.int (g i) s.toks) { s with toks := s.toks + 1 } → wpAny (model X.prog X.w) X.A (f (.int i t)) Q E s) :
  UnR X f (rU fun i => .int (g i)) := by
 intro pins s σ H x v Q I rx h
 obtain ⟨i, rfl, q⟩ := h
 obtain ⟨t, rfl⟩ := rx
 exact rule i t s _ _ ⟨.int (g i), H, I.tok _, ⟨_, rfl⟩, q⟩
theorem un_neg : UnR X (unaryOp .USub) (rU fun i => .int (-i)) := unI fun _ _ _ _ _ q => neg_int q
end
noncomputable def scal : V → V → Bool
 | .non, .non => true | .non, .int _ => true | .int _, .non => true | .non, .bl _ => true | .bl _, .non => true | .non, .str _ => true | .str _, .non => true
 | .int _, .int _ => true | .bl _, .bl _ => true | .str _, .str _ => true | .byt _, .byt _ => true
 | .int _, .str _ => true | .str _, .int _ => true | .bl _, .str _ => true | .str _, .bl _ => true
 | _, _ => false
noncomputable def rEq : R2 := fun x y H Q => scal x y = true ∧ Q (.bl (decide (x = y))) H
noncomputable def rNe : R2 := fun x y H Q => scal x y = true ∧ Q (.bl (!decide (x = y))) H
theorem dec_int {i j : Int} : decide (V.int i = V.int j) = (i == j) := by
 rw [Bool.eq_iff_iff]
 simp
theorem dec_bl {i j : Bool} : decide (V.bl i = V.bl j) = (i == j) := by
 rw [Bool.eq_iff_iff]
 simp
theorem dec_str {i j : Str} : decide (V.str i = V.str j) = (i == j) := by
 rw [Bool.eq_iff_iff]
 simp
theorem dec_byt {i j : Array UInt8} : decide (V.byt i = V.byt j) = (i.toList == j.toList) := by
 rw [Bool.eq_iff_iff]
 cases i
 cases j
 simp
section
variable {X : Cx} {a b c : Expr} {ta tb tc : TE} {pos : Pos}
theorem fin_bl {pins : List (Addr × Obj)} {σ : St} {H : Hp} {s : Shared} {Q : VK} {k k' : Bool} (I : Inv X pins σ H s) (q : Q (.bl k) H) (e : k = k') : EP X pins σ Q (.bool k') s := by
 subst e
 exact ⟨.bl k, H, I, rfl, q⟩
theorem op_eq : OpR X (compareOp .Eq) rEq := by
 intro pins s σ H x y v u Q I rx ry h
 obtain ⟨hs, q⟩ := h
 cases x with
 | non =>
  cases rx
  cases y with
  | non => cases ry; exact PySem.EqNone.eq_none_none (fin_bl I q (by simp))
  | bl j => cases ry; exact PySem.EqNone.eq_none_bool (fin_bl I q (by simp))
  | int j => obtain ⟨t', rfl⟩ := ry; exact PySem.EqNone.eq_none_int (fin_bl I q (by simp))
  | str j => obtain ⟨t', rfl⟩ := ry; exact PySem.EqNone.eq_none_str (fin_bl I q (by simp))
  | _ => exact absurd (show false = true from hs) Bool.false_ne_true
 | bl i =>
  cases rx
  cases y with
  | non => cases ry; exact PySem.EqNone.eq_bool_none (fin_bl I q (by simp))
  | bl j => cases ry; exact eq_bool (fin_bl I q dec_bl)
  | str j => obtain ⟨t', rfl⟩ := ry; exact PySem.EqMixed.eq_bool_str (fin_bl I q (by simp))
  | _ => exact absurd (show false = true from hs) Bool.false_ne_true
 | int i =>
  obtain ⟨t, rfl⟩ := rx
  cases y with
  | non => cases ry; exact PySem.EqNone.eq_int_none (fin_bl I q (by simp))
  | int j => obtain ⟨t', rfl⟩ := ry; exact eq_int (fin_bl I q dec_int)
  | str j => obtain ⟨t', rfl⟩ := ry; exact PySem.EqMixed.eq_int_str (fin_bl I q (by simp))
  | _ => exact absurd (show false = true from hs) Bool.false_ne_true
 | str i =>
  obtain ⟨t, rfl⟩ := rx
  cases y with
  | non => cases ry; exact PySem.EqNone.eq_str_none (fin_bl I q (by simp))
  | bl j => cases ry; exact PySem.EqMixed.eq_str_bool (fin_bl I q (by simp))
  | int j => obtain ⟨t', rfl⟩ := ry; exact PySem.EqMixed.eq_str_int (fin_bl I q (by simp))
  | str j => obtain ⟨t', rfl⟩ := ry; exact eq_str (fin_bl I q dec_str)
  | _ => exact absurd (show false = true from hs) Bool.false_ne_true
 | byt i =>
  obtain ⟨t, rfl⟩ := rx
  cases y with
  | byt j => obtain ⟨t', rfl⟩ := ry; exact PySem.W.eq_bytes (fin_bl I q dec_byt)
  | _ => exact absurd (show false = true from hs) Bool.false_ne_true
 | _ => cases y <;> exact absurd (show false = true from hs) Bool.false_ne_true
theorem op_ne : OpR X (compareOp .NotEq) rNe := by
 intro pins s σ H x y v u Q I rx ry h
 obtain ⟨hs, q⟩ := h
 cases x with
 | non =>
  cases rx
  cases y with
  | non => cases ry; exact PySem.EqNone.ne_none_none (fin_bl I q (by simp))
  | bl j => cases ry; exact PySem.EqNone.ne_none_bool (fin_bl I q (by simp))
  | int j => obtain ⟨t', rfl⟩ := ry; exact PySem.EqNone.ne_none_int (fin_bl I q (by simp))
  | str j => obtain ⟨t', rfl⟩ := ry; exact PySem.EqNone.ne_none_str (fin_bl I q (by simp))
  | _ => exact absurd (show false = true from hs) Bool.false_ne_true
 | bl i =>
  cases rx
  cases y with
  | non => cases ry; exact PySem.EqNone.ne_bool_none (fin_bl I q (by simp))
  | bl j => cases ry; exact ne_bool (fin_bl I q (congrArg not dec_bl))
  | str j => obtain ⟨t', rfl⟩ := ry; exact PySem.EqMixed.ne_bool_str (fin_bl I q (by simp))
  | _ => exact absurd (show false = true from hs) Bool.false_ne_true
 | int i =>
  obtain ⟨t, rfl⟩ := rx
  cases y with
  | non => cases ry; exact PySem.EqNone.ne_int_none (fin_bl I q (by simp))
  | int j => obtain ⟨t', rfl⟩ := ry; exact ne_int (fin_bl I q (congrArg not dec_int))
  | str j => obtain ⟨t', rfl⟩ := ry; exact PySem.EqMixed.ne_int_str (fin_bl I q (by simp))
  | _ => exact absurd (show false = true from hs) Bool.false_ne_true
 | str i =>
  obtain ⟨t, rfl⟩ := rx
  cases y with
  | non => cases ry; exact PySem.EqNone.ne_str_none (fin_bl I q (by simp))
  | bl j => cases ry; exact PySem.EqMixed.ne_str_bool (fin_bl I q (by simp))
  | int j => obtain ⟨t', rfl⟩ := ry; exact PySem.EqMixed.ne_str_int (fin_bl I q (by simp))
  | str j => obtain ⟨t', rfl⟩ := ry; exact ne_str (fin_bl I q (congrArg not dec_str))
  | _ => exact absurd (show false = true from hs) Bool.false_ne_true
 | byt i =>
  obtain ⟨t, rfl⟩ := rx
  cases y with
  | byt j => obtain ⟨t', rfl⟩ := ry; exact PySem.W.ne_bytes (fin_bl I q (congrArg not dec_byt))
  | _ => exact absurd (show false = true from hs) Bool.false_ne_true
 | _ => cases y <;> exact absurd (show false = true from hs) Bool.false_ne_true
theorem op_lt : OpR X (compareOp .Lt) (rI0 fun i j => .bl (decide (i < j))) := opB0 fun _ _ _ _ _ _ _ q => lt_int q
theorem op_le : OpR X (compareOp .LtE) (rI0 fun i j => .bl (decide (i ≤ j))) := opB0 fun _ _ _ _ _ _ _ q => le_int q
theorem op_gt : OpR X (compareOp .Gt) (rI0 fun i j => .bl (decide (j < i))) := opB0 fun _ _ _ _ _ _ _ q => gt_int q
theorem nomark (b : Expr) {op : CmpOp} (h : op ≠ .In := by decide) (h2 : op ≠ .NotIn := by decide) : behindInMarks op b = false := by
 have e1 : (op == CmpOp.In) = false := by cases op <;> first | rfl | exact absurd rfl h
 have e2 : (op == CmpOp.NotIn) = false := by cases op <;> first | rfl | exact absurd rfl h2
 cases b <;> simp [behindInMarks, e1, e2]
theorem pe_cmpR {op : CmpOp} {r : R2} (ho : OpR X (compareOp op) r) (ha : PE X a ta) (hb : PE X b tb) (hm : behindInMarks op b = false) : PE X (.Compare a [op] [b] pos) (tOp r ta tb) := by
 intro pins s σ H Q I h
 exact wpAny_Compare1 (binT ha hb I h fun v u s2 x y H2 I2 rx ry q => ho pins s2 σ H2 x y v u Q I2 rx ry q) hm
noncomputable def tTest (t : TE) : TT := fun σ H Q => t σ H fun x H' => ∃ k, x = .bl k ∧ Q k H'
theorem pt_cmpR {op : CmpOp} {r : R2} (ho : OpR X (compareOp op) r) (ha : PE X a ta) (hb : PE X b tb) (hm : behindInMarks op b = false) : PT X (.Compare a [op] [b] pos) (tTest (tOp r ta tb)) := by
 intro pins s σ H Q I h
 refine wpAny_isTrue_Compare1 (thn (ha pins s σ H _ I h) fun v s1 ⟨x, H1, I1, r1, q1⟩ => thn (hb pins s1 σ H1 _ I1 q1) fun u s2 ⟨y, H2, I2, r2, q2⟩ =>
  thn (ho pins s2 σ H2 x y v u _ I2 r1 r2 q2) fun c s3 ⟨z, H3, I3, r3, k, e, q3⟩ => ?_) hm
 subst e
 cases r3
 exact wpAny_truthy_bool ⟨H3, I3, q3⟩
theorem line63 : (sizeLine : Nat) < 2 ^ 63 := by rw [sizeLine_eq]; decide
theorem vals1 {x : V} {us : List Value} (r : Vals [x] us) : ∃ u, us = [u] ∧ RelV x u := by
 cases r with
 | cons r1 r2 => cases r2; exact ⟨_, rfl, r1⟩
theorem vals2 {x y : V} {us : List Value} (r : Vals [x, y] us) : ∃ u w', us = [u, w'] ∧ RelV x u ∧ RelV y w' := by
 cases r with
 | cons r1 r2 =>
  cases r2 with
  | cons r3 r4 => cases r4; exact ⟨_, _, rfl, r1, r3⟩
theorem call_max2 (hc : X.calm = true) : CallR X (.builtin "max") (fun xs H Q => ∃ i j, xs = [.int i, .int j] ∧ Q (.int (if j > i then j else i)) H) := by
 intro pins s σ H xs us Q I r h
 obtain ⟨i, j, rfl, q⟩ := h
 obtain ⟨u, w', rfl, ⟨t, rfl⟩, ⟨t', rfl⟩⟩ := vals2 r
 refine max_two_ints (I.ok.hd hc) fun h' tk k => ⟨_, H, I.kept k, ?_, q⟩
 by_cases hj : j > i
 ·rw [if_pos hj, if_pos hj]; exact ⟨_, rfl⟩
 ·rw [if_neg hj, if_neg hj]; exact ⟨_, rfl⟩
theorem call_int1 : CallR X (.type "int") (fun xs H Q => (∃ i, xs = [.int i] ∧ Q (.int i) H) ∨ ∃ k, xs = [.bl k] ∧ Q (.int (if k then 1 else 0)) H) := by
 intro pins s σ H xs us Q I r h
 rcases h with ⟨i, rfl, q⟩ | ⟨k, rfl, q⟩
 ·obtain ⟨u, rfl, t, rfl⟩ := vals1 r
  exact call_int_int ⟨.int i, H, I, ⟨_, rfl⟩, q⟩
 ·obtain ⟨u, rfl, r1⟩ := vals1 r
  cases r1
  exact call_int_bool ⟨.int (if k then 1 else 0), H, I.tok _, ⟨_, rfl⟩, q⟩
end
end L2
namespace L2
open PySem PySem.Spec PyProof.Rows
structure ObjM (h : Heap) (x dx C : Addr) (mA : Str → Option Value) : Prop where
 obj : h.get? x = some (PySem.W.instObj C dx)
 ns : h.Ns1 dx mA
 ne : dx ≠ x
theorem lookIn_ns {h : Heap} {dx : Addr} {mA : Str → Option Value} (n : h.Ns1 dx mA) : ∃ od, h.get? dx = some od ∧ ∀ name, PySem.W.lookIn name od = some (mA name) := by
 obtain ⟨o, es, ep, ho, hd, hk, _, hm⟩ := n
 refine ⟨o, ho, fun name => ?_⟩
 have e := hm name
 unfold nsFind findBy at e
 rw [← Array.find?_toList] at e
 unfold PySem.W.lookIn
 rw [hd]
 dsimp only
 split
 ·rename_i y q
  rw [q] at e
  exact congrArg some e
 ·rename_i q
  rw [q] at e
  have a : es.toList.any (·.refKey) = false := by
   rw [List.any_eq_false]
   intro y hy
   obtain ⟨z, t, hkey⟩ := hk y (Array.mem_toList_iff.mp hy)
   simp [DictEntry.refKey, hkey]
  have a' : ¬ es.toList.any (·.refKey) = true := by rw [a]; exact Bool.false_ne_true
  rw [if_neg a']
  exact congrArg some e
theorem ObjM.look {h : Heap} {x dx C : Addr} {mA : Str → Option Value} (I : ObjM h x dx C mA) : ∃ od, PySem.W.InstAt h x (PySem.W.instObj C dx) C (some od) ∧ ∀ name, PySem.W.lookIn name od = some (mA name) :=
 let ⟨od, ho, hl⟩ := lookIn_ns I.ns
 ⟨od, ⟨I.obj, rfl, rfl, ho⟩, hl⟩
section
variable {prog : Program} {w : World} {A : Around} {E : Value → Shared → Prop} {s : Shared} {K : PySem.W.Frag} {x dx C f : Addr} {mA : Str → Option Value} {name : Str} {v : Value}
end
section
variable {P : Program} {w : World} {H H' : Hp} {h h' : Heap} {a C dx : Addr} {fs fs' : List (Str × V)}
theorem ins_get (hok : HOk P w H h) (e : H a = some (.ins C dx fs)) : ∃ mA, ObjM h a dx C mA ∧ (∀ f, RelO (fs.lookup f) (mA f)) ∧ PySem.Within mA (fs.map (·.1)) ∧ fs.length ≤ 1000 ∧ H dx = some (.own a) := by
 obtain ⟨d, z, ne, ob, mA, n, r, q⟩ := (show ObjOk P w H h a (.ins C dx fs) from hok a _ e)
 exact ⟨mA, ⟨ob, n, ne⟩, r, q, z, d⟩
end
structure Cls (K : PySem.W.Frag) (C : Addr) : Prop where
 pg : PySem.W.plainGet K C Str.empty = true
 hd : PySem.W.hasDictIn K C = true
 po : PySem.W.plainOver K C = true
 sa : PySem.W.findIn K (.ref C) "__setattr__" = some (some (.builtin "object.__setattr__"))
theorem Cls.get {K : PySem.W.Frag} {C : Addr} (c : Cls K C) (f : Str) : PySem.W.plainGet K C f = true := c.pg
section
variable {X : Cx} {pins : List (Addr × Obj)} {σ : St} {H : Hp} {s : Shared} {a C dx : Addr} {fs : List (Str × V)} {f : Str} {v : V} {A : Around} {E : Value → Shared → Prop}
end
section
variable {X : Cx} {o e value : Expr} {f : Str} {pos pos' tpos : Pos} {ta tv : TE}
end
section
variable {X : Cx} {pins : List (Addr × Obj)} {σ : St} {H : Hp} {s : Shared} {A : Around} {E : Value → Shared → Prop} {Q : Value → Shared → Prop} {c : Value} {b : Bool}
inductive TyOf (K : PySem.W.Frag) (H : Hp) : V → Value → Prop where
 | non : TyOf K H .non (.type "NoneType")
 | bl (x : Bool) : TyOf K H (.bl x) (.type "bool")
 | int (i : Int) : TyOf K H (.int i) (.type "int")
 | str (x : Str) : TyOf K H (.str x) (.type "str")
 | flt (x : UInt64) : TyOf K H (.flt x) (.type "float")
 | lst {a : Addr} {xs : List V} (e : H a = some (.lst xs)) : TyOf K H (.ref a) (.type "list")
 | frz {a : Addr} {o : Obj} {xs : List V} (e : H a = some (.frz o (.lst xs))) : TyOf K H (.ref a) (.type "list")
 | tup {a : Addr} {xs : List V} (e : H a = some (.tup xs)) : TyOf K H (.ref a) (.type "tuple")
 | dK {a : Addr} {kvs : List (Key × V)} (e : H a = some (.dK kvs)) : TyOf K H (.ref a) (.type "dict")
 | dT {a : Addr} {kvs : List (List Key × V)} (e : H a = some (.dT kvs)) : TyOf K H (.ref a) (.type "dict")
 | ins {a C dx : Addr} {fs : List (Str × V)} (e : H a = some (.ins C dx fs)) (cl : Cls K C) (ha : PySem.W.findIn K (.ref C) "__class__" = some (some (.builtin "object.__class__")))
   (hn : PySem.W.specialIn K (.builtin "object.__class__") "__get__" = some (some (.builtin "getset_descriptor.__get__"))) (htk : PySem.W.takesIn K (.builtin "object.__class__") = some true)
   (hm : PySem.W.mroIn K C (.type "object") = some true) : TyOf K H (.ref a) (.ref C)
theorem isinst_ok {x : V} {u t : Value} (I : Inv X pins σ H s) (rx : RelV x u) (ty : TyOf X.K H x t) (e : PySem.W.kitOne X.K t c = some b) (h : ∀ tk, Q (.bool b) { s with toks := tk }) :
  wpAny (model X.prog X.w) A (call (.builtin "isinstance") [u, c]) Q E s := by
 cases ty with
 | non => cases (show u = Value.none from rx); exact PySem.W.kia_one PySem.W.kitx_none I.kIn True.intro e (fun z => nomatch z) h
 | bl y => cases (show u = Value.bool y from rx); exact PySem.W.kia_one PySem.W.kitx_bool I.kIn True.intro e (fun z => nomatch z) h
 | int i => obtain ⟨t, q⟩ := (show ∃ t, u = Value.int i t from rx); cases q; exact PySem.W.kia_one PySem.W.kitx_int I.kIn True.intro e (fun z => nomatch z) h
 | str y => obtain ⟨t, q⟩ := (show ∃ t, u = Value.str y t from rx); cases q; exact PySem.W.kia_one PySem.W.kitx_str I.kIn True.intro e (fun z => nomatch z) h
 | flt y => obtain ⟨t, q⟩ := (show ∃ t, u = Value.float y t from rx); cases q; exact PySem.W.kia_one PySem.W.kitx_float I.kIn True.intro e (fun z => nomatch z) h
 | @lst a xs ea =>
  cases (show u = Value.ref a from rx)
  obtain ⟨_, _, n, _, h1⟩ := (show ObjOk X.prog X.w H s.heap a (.lst xs) from I.hok a _ ea)
  exact PySem.W.kia_one PySem.W.kitx_list I.kIn ⟨_, h1, rfl⟩ e (fun z => nomatch z) h
 | @frz a ob xs ea =>
  cases (show u = Value.ref a from rx)
  obtain ⟨_, _, _, n, _, h1⟩ := (show ObjOk X.prog X.w H s.heap a (.frz ob (.lst xs)) from I.hok a _ ea)
  exact PySem.W.kia_one PySem.W.kitx_list I.kIn ⟨_, h1, rfl⟩ e (fun z => nomatch z) h
 | @tup a xs ea =>
  cases (show u = Value.ref a from rx)
  obtain ⟨_, _, _, p⟩ := (show ObjOk X.prog X.w H s.heap a (.tup xs) from I.hok a _ ea)
  obtain ⟨o, h1, h2, _⟩ := p
  exact PySem.W.kia_one PySem.W.kitx_tuple I.kIn ⟨o, h1, h2⟩ e (fun z => nomatch z) h
 | @dK a kvs ea =>
  cases (show u = Value.ref a from rx)
  obtain ⟨_, _, vs, _, p⟩ := (show ObjOk X.prog X.w H s.heap a (.dK kvs) from I.hok a _ ea)
  obtain ⟨o, es, ep, h1, h2, _⟩ := p
  exact PySem.W.kia_one PySem.W.kitx_dict I.kIn ⟨o, h1, h2.1⟩ e (fun z => nomatch z) h
 | @dT a kvs ea =>
  cases (show u = Value.ref a from rx)
  obtain ⟨_, _, xs, _, o, es, ep, h1, h2, _⟩ := (show ObjOk X.prog X.w H s.heap a (.dT kvs) from I.hok a _ ea)
  exact PySem.W.kia_one PySem.W.kitx_dict I.kIn ⟨o, h1, h2.1⟩ e (fun z => nomatch z) h
 | @ins a C dx fs ea cl ha hn htk hm =>
  cases (show u = Value.ref a from rx)
  obtain ⟨mA, O, _⟩ := ins_get I.hok ea
  obtain ⟨od, J, _⟩ := O.look
  exact PySem.W.kia_one (PySem.W.kitx_own (cl.get _) cl.hd ha hn htk hm) I.kIn J e (fun z => nomatch z) h
end
end L2
namespace L2
open PySem PySem.Spec PyProof.Rows
structure Room (k : Nat) (A : Around) : Prop where
 hd : A.handled = none
 dp : A.depth + 3 * k + 5 < recursionLimit
 un : A.units + 16 * k + 200 < cLine
theorem Room.mono {j k : Nat} {A : Around} (r : Room k A) (h : j ≤ k) : Room j A := ⟨r.hd, by have := r.dp; omega, by have := r.un; omega⟩
theorem Room.deeper {k : Nat} {A : Around} (r : Room (k + 1) A) (env : Env) : Room k (A.deeper env) :=
 ⟨r.hd, by have := r.dp; show A.depth + 1 + 3 * k + 5 < _; omega, by have := r.un; show A.units + 3 + 16 * k + 200 < _; omega⟩
theorem Room.depth {k : Nat} {A : Around} (r : Room k A) : A.depth < recursionLimit := by have := r.dp; omega
theorem Room.units {k : Nat} {A : Around} (r : Room k A) : A.units + 64 < cLine := by have := r.un; omega
noncomputable def tNil : TA := fun _ H Q => Q [] H
noncomputable def tCons (ta : TE) (tr : TA) : TA := fun σ H Q => ta σ H fun x H1 => tr σ H1 fun xs H2 => Q (x :: xs) H2
section
variable {X : Cx} {e : Expr} {es : List Expr} {te : TE} {t : TA} {pos : Pos}
theorem pa_nil : PA X [] tNil := fun _ _ _ _ H Q I h => Calls.spliced_nil ⟨[], H, I, .nil, h⟩
theorem pa_cons (ha : PE X e te) (hr : PA X es t) (hs : starEach (e :: es) X.env = (false, eval e X.env) :: starEach es X.env := by rfl) : PA X (e :: es) (tCons te t) := by
 intro pos pins s σ H Q I h
 rw [hs]
 show wpAny _ _ (spliced ((false, eval e X.env) :: backTo pos (starEach es X.env))) _ _ s
 refine Calls.spliced_cons (thn (ha pins s σ H _ I h) fun u s1 ⟨x, H1, I1, r1, q1⟩ => ?_)
 exact thn (hr pos pins s1 σ H1 _ I1 q1) fun us s2 ⟨xs, H2, I2, r2, q2⟩ => ⟨x :: xs, H2, I2, .cons r1 r2, q2⟩
noncomputable def tTup (t : TA) : TE := fun σ H Q => t σ H fun xs H1 => xs.length ≤ sizeLine ∧ ∀ p, H1 p = none → Q (.ref p) (upd H1 p (.tup xs))
noncomputable def tLst (t : TA) : TE := fun σ H Q => t σ H fun xs H1 => xs.length ≤ sizeLine ∧ ∀ p, H1 p = none → Q (.ref p) (upd H1 p (.lst xs))
theorem pe_tup {x1} (h : PA X es t) : PE X (.Tuple es x1 pos) (tTup t) := by
 intro pins s σ H Q I hq
 refine wpAny_Tuple_spliced (thn (h pos pins s σ H _ I hq) fun us s1 ⟨xs, H1, I1, r, z, q⟩ => ⟨by rw [← r.length]; exact z, ?_⟩)
 have hf : H1 s1.heap.objs.size = none := I1.hok.fresh (Nat.le_refl _)
 refine ⟨.ref s1.heap.objs.size, upd H1 s1.heap.objs.size (.tup xs), I1.laid (t' := s1.toks) (fun b u e => Heap.get?_push_of_some _ e) (Nat.le_refl _) ?_, rfl, q _ hf⟩
 exact ⟨z, us, r, ⟨_, Heap.get?_push_size _ rfl, rfl, _, rfl⟩⟩
theorem pe_lst (h : PA X es t) : PE X (.List es pos) (tLst t) := by
 intro pins s σ H Q I hq
 refine wpAny_List_spliced (thn (h pos pins s σ H _ I hq) fun us s1 ⟨xs, H1, I1, r, z, q⟩ => ⟨by rw [← r.length]; exact z, ?_⟩)
 have hf : H1 s1.heap.objs.size = none := I1.hok.fresh (Nat.le_refl _)
 refine ⟨.ref s1.heap.objs.size, upd H1 s1.heap.objs.size (.lst xs), I1.laid (t' := s1.toks) (fun b u e => Heap.get?_push_of_some _ e) (Nat.le_refl _) ?_, rfl, q _ hf⟩
 exact ⟨z, us, 0, r, Heap.get?_push_size _ rfl⟩
end
noncomputable abbrev Sp := List V → Hp → VK → XK → Prop
noncomputable abbrev CXT := List Env → Hp → Shared → XK → Value → Shared → Prop
structure Env0 (P : Program) (w : World) (K : PySem.W.Frag) (mg : Str → Option Value) (base : Heap) (A : Around) (outer : List Env) (s : Shared) (H : Hp) : Prop where
 frames : A.frames = some outer
 mod : Mod K mg base
 bs : ∀ b o, base.get? b = some o → s.heap.get? b = some o ∧ H b = none
 bsz : base.objs.size ≤ s.heap.objs.size
 funs : s.heap.FunFrames base outer
 frf : ∀ b ∈ frs outer, H b = none
 hok : HOk P w H s.heap
 bare : AllBare s.gens
noncomputable def CE (outer : List Env) (P : Program) (w : World) (H : Hp) (s : Shared) (Q : VK) (u : Value) (s' : Shared) : Prop :=
 ∃ v H', s'.os = s.os ∧ AllBare s'.gens ∧ Un (frs outer) [] H H' s.heap s'.heap ∧ HOk P w H' s'.heap ∧ RelV v u ∧ Q v H'
noncomputable def CR (CX : CXT) (outer : List Env) (P : Program) (w : World) (H : Hp) (s : Shared) (Q : VK) (E : XK) (r : Result) (s' : Shared) : Prop :=
 match r with
 | .ok (.ret u) => CE outer P w H s Q u s'
 | .ok _ => False
 | .error e => CX outer H s E e s'
structure FnOk (P : Program) (w : World) (K : PySem.W.Frag) (mg : Str → Option Value) (base : Heap) (CX : CXT) (k : Nat) (f : Addr) (fd : FuncData) (ps : List Str) (sp : Sp) : Prop where
 len : ∀ vs H Q E, sp vs H Q E → vs.length = ps.length
 run : ∀ (A : Around) (outer : List Env) (s : Shared) (H : Hp) (args : Args) (us : List Value) (vs : List V) (Q : VK) (E : XK), Room k A → Env0 P w K mg base A outer s H → BindsTo s fd args (ps.zip us) → Vals vs us → sp vs H Q E →
  codeAny (model P w) A (.call (.ref f) args) (CR CX outer P w H s Q E) s
section
variable {X : Cx} {pins : List (Addr × Obj)} {σ : St} {H : Hp} {s s' : Shared}
theorem Inv.env0 (I : Inv X pins σ H s) : Env0 X.prog X.w X.K X.mg X.base X.A X.stack s H :=
 ⟨I.ok.frames, I.ok.mod, I.bs, Nat.le_trans I.ok.bsz I.sz, I.stack, I.stkFree, I.hok, I.bare⟩
theorem Inv.after {Q : VK} {u : Value} (I : Inv X pins σ H s) (h : CE X.stack X.prog X.w H s Q u s') : EP X pins σ Q u s' := by
 obtain ⟨v, H', os, bare, un, hok, r, q⟩ := h
 obtain ⟨hh, g, d, t, os'⟩ := s'
 obtain rfl : os' = s.os := os
 exact ⟨v, H', I.call (h' := hh) (g' := g) (d' := d) (t' := t) (ch := []) un hok bare (fun b z => absurd z (by simp)), r, q⟩
end
noncomputable def tCall (sp : Sp) (dvs : List V) (E : XK) (t : TA) : TE := fun σ H Q => t σ H fun vs H1 => sp (vs ++ dvs) H1 Q E
noncomputable def Binds (K : PySem.W.Frag) (fd : FuncData) (ps : List Str) (ds : List Value) : Prop :=
 ∀ (s : Shared) (us : List Value), K.In s.heap → (us ++ ds).length = ps.length → BindsTo s fd ⟨us, []⟩ (ps.zip (us ++ ds))
theorem Binds.all {K : PySem.W.Frag} {fd : FuncData} {ps : List Str} (h : ∀ us : List Value, us.length = ps.length → bindArgs fd ⟨us, []⟩ = pure (ps.zip us)) : Binds K fd ps [] := fun s us _ hl => by
 rw [List.append_nil] at hl ⊢
 exact .of_eq (h us hl)
noncomputable def Passes (CX : CXT) (X : Cx) (E : XK) : Prop := ∀ (pins : List (Addr × Obj)) (σ : St) (H : Hp) (s : Shared) (e : Value) (s' : Shared), Inv X pins σ H s → CX X.stack H s E e s' → X.xe e s'
section
variable {X : Cx} {CX : CXT} {k : Nat} {f C : Addr} {fd : FuncData} {ps : List Str} {sp : Sp} {dvs : List V} {ds : List Value} {E : XK} {x m : Str} {p pos apos : Pos} {e o : Expr} {es : List Expr} {ta : TE} {t : TA}
theorem run_fn {pins : List (Addr × Obj)} {σ : St} {H : Hp} {s : Shared} {Q : VK} {us : List Value} {vs : List V} (F : FnOk X.prog X.w X.K X.mg X.base CX k f fd ps sp) (hr : Room k X.A) (hb : Binds X.K fd ps ds) (hd : Vals dvs ds) (hx : Passes CX X E)
  (I : Inv X pins σ H s) (r : Vals vs us) (h : sp (vs ++ dvs) H Q E) : wpAny (model X.prog X.w) X.A (call (.ref f) us) (EP X pins σ Q) X.xe s := by
 have r2 : Vals (vs ++ dvs) (us ++ ds) := r.append hd
 have hl : (us ++ ds).length = ps.length := by rw [← r2.length]; exact F.len _ _ _ _ h
 refine wpAny_call (codeAny_mono (F.run X.A X.stack s H ⟨us, []⟩ (us ++ ds) (vs ++ dvs) Q E hr I.env0 (hb s us I.kIn hl) r2 h) fun r s' hq => ?_)
 cases r with
 | error e => exact hx pins σ H s e s' I hq
 | ok fl =>
  cases fl with
  | ret u => exact I.after hq
  | next => exact False.elim hq
  | brk => exact False.elim hq
  | cont => exact False.elim hq
theorem pe_call (F : FnOk X.prog X.w X.K X.mg X.base CX k f fd ps sp) (hr : Room k X.A) (hg : Gl X x) (hm : X.mg x = some (.ref f)) (hk : PySem.W.keepIn X.K (.ref f) = true) (hb : Binds X.K fd ps ds) (hd : Vals dvs ds) (hx : Passes CX X E)
  (ha : PA X (e :: es) t) (hdb : (x == ("__debug__" : Str)) = false := by decide) (he : starEach (e :: es) X.env = (false, eval e X.env) :: starEach es X.env := by rfl) (hpl : (backTo pos (starEach es X.env)).any (·.1) = false := by rfl) :
  PE X (.Call (.Name x p) (e :: es) [] pos) (tCall sp dvs E t) := by
 intro pins s σ H Q I h
 refine wpAny_Call_Name_kw (ld_glob I hg hm ?_ hdb)
 refine PySem.W.callWith_K (h₀ := X.base) I.ok.mod.kin hk (thn (ha pos pins s σ H _ I h) fun us s1 ⟨vs, H1, I1, r, q⟩ => ⟨I1.kIn, ?_⟩) he hpl
 exact run_fn F hr hb hd hx I1 r q
end
section
variable {X : Cx} {CX : CXT} {k : Nat} {f C : Addr} {fd : FuncData} {ps ks : List Str} {sp : Sp} {E : XK} {x m : Str} {p pos apos kpos : Pos} {e o : Expr} {es : List Expr} {kws : List Keyword} {te ta : TE} {t tk : TA} {nm : Option Str}
variable {g : List Value → List Value → List Value} {gV : List V → List V → List V}
end
structure FnScope (N P : List Str) (sc : Scope) : Prop where
 kind : sc.kind = .function
 co : sc.isCoroutine = false
 gen : sc.isGenerator = false
 nd : N.Nodup
 pre : N.take P.length = P
 par : ∀ x ∈ P, sc.names.lookup x = some .local ∨ sc.names.lookup x = some .cell
 nofree : ∀ y ∈ sc.names, y.2 ≠ .free
theorem bindL_out {kindOf : Str → Option NameKind} {x : Str} : ∀ {binds : List (Str × Value)} {m : Str → Option Value}, (∀ v, (x, v) ∉ binds) → bindL kindOf binds m x = m x
  | [], _, _ => rfl
  | (n, v) :: r, m, h => by
    unfold bindL
    rw [bindL_out fun w hw => h w (List.mem_cons_of_mem _ hw)]
    split
    · have : x ≠ n := by rintro rfl; exact h v List.mem_cons_self
      simp [this]
    · rfl
theorem bindC_out {kindOf : Str → Option NameKind} {x : Str} : ∀ {binds : List (Str × Value)} {m : Str → Option Value}, (∀ v, (x, v) ∉ binds) → bindC kindOf binds m x = m x
  | [], _, _ => rfl
  | (n, v) :: r, m, h => by
    unfold bindC
    rw [bindC_out fun w hw => h w (List.mem_cons_of_mem _ hw)]
    split
    · rfl
    · have : x ≠ n := by rintro rfl; exact h v List.mem_cons_self
      simp [this]
theorem bindL_get {kindOf : Str → Option NameKind} {x : Str} {v : Value} : ∀ {P : List Str} {vs : List Value} {i : Nat} {m : Str → Option Value}, P.Nodup → P[i]? = some x → vs[i]? = some v → kindOf x = some .local →
  bindL kindOf (P.zip vs) m x = some v
 | [], _, _, _, _, h, _, _ => by simp at h
 | _ :: _, [], _, _, _, _, h, _ => by simp at h
 | p :: P, w :: vs, 0, m, nd, h1, h2, hk => by
  simp at h1 h2; subst h1; subst h2
  show bindL kindOf ((p, w) :: P.zip vs) m p = _
  unfold bindL
  rw [bindL_out fun v hv => (List.nodup_cons.mp nd).1 (List.of_mem_zip hv).1, if_pos hk]
  simp
 | p :: P, w :: vs, i + 1, m, nd, h1, h2, hk => by
  show bindL kindOf ((p, w) :: P.zip vs) m x = _
  unfold bindL
  exact bindL_get (i := i) (List.nodup_cons.mp nd).2 (by simpa using h1) (by simpa using h2) hk
theorem bindC_get {kindOf : Str → Option NameKind} {x : Str} {v : Value} : ∀ {P : List Str} {vs : List Value} {i : Nat} {m : Str → Option Value}, P.Nodup → P[i]? = some x → vs[i]? = some v → kindOf x ≠ some .local →
  bindC kindOf (P.zip vs) m x = some v
 | [], _, _, _, _, h, _, _ => by simp at h
 | _ :: _, [], _, _, _, _, h, _ => by simp at h
 | p :: P, w :: vs, 0, m, nd, h1, h2, hk => by
  simp at h1 h2; subst h1; subst h2
  show bindC kindOf ((p, w) :: P.zip vs) m p = _
  unfold bindC
  rw [bindC_out fun v hv => (List.nodup_cons.mp nd).1 (List.of_mem_zip hv).1, if_neg hk]
  simp
 | p :: P, w :: vs, i + 1, m, nd, h1, h2, hk => by
  show bindC kindOf ((p, w) :: P.zip vs) m x = _
  unfold bindC
  exact bindC_get (i := i) (List.nodup_cons.mp nd).2 (by simpa using h1) (by simpa using h2) hk
noncomputable def start (N : List Str) (vs : List V) : St := vs.map some ++ List.replicate (N.length - vs.length) none
noncomputable def cxOf (CX : CXT) (P : Program) (w : World) (K : PySem.W.Frag) (mg : Str → Option Value) (base : Heap) (N : List Str) (qual : Str) (scope : Scope) (f : Addr) (cd : Value) (A : Around) (outer : List Env) (s : Shared) (H : Hp) (E : XK) : Cx where
 prog := P
 w := w
 K := K
 mg := mg
 base := base
 A := A.deeper (envOfC qual scope s.heap.objs.size f cd)
 N := N
 s₀ := s
 H₀ := H
 env := envOfC qual scope s.heap.objs.size f cd
 outer := outer
 stack := envOfC qual scope s.heap.objs.size f cd :: outer
 ex := []
 calm := true
 fn := fun _ => true
 pn := []
 xe := fun e s' => wpAny (model P w) (A.deeper (envOfC qual scope s.heap.objs.size f cd)) (leaving (envOfC qual scope s.heap.objs.size f cd) e) (fun _ s'' => CX outer H s E e s'') (fun e' s'' => CX outer H s E e' s'') s'
theorem cell_has {sc : Scope} {n : Nat} {x : Str} (h : sc.names.lookup x = some .cell) : ∃ c, (cellsFrom n sc.names []).lookup x = some c := by
 have q := PySem.W.cellsFrom_some sc.names n [] (.inl h)
 exact Option.isSome_iff_exists.mp q
theorem inv_start {CX : CXT} {P : Program} {w : World} {K : PySem.W.Frag} {mg : Str → Option Value} {base : Heap} {N ps : List Str} {qual : Str} {scope : Scope} {f : Addr} {cd : Value} {A : Around} {outer : List Env} {s s1 : Shared} {H : Hp} {E : XK} {us : List Value} {vs : List V}
  (S : FnScope N ps scope) (hd : A.handled = none) (e0 : Env0 P w K mg base A outer s H) (hl : vs.length = ps.length) (r : Vals vs us)
  (x : InCallC s s.heap.objs.size (bindL (envOfC qual scope s.heap.objs.size f cd).kindOf (ps.zip us) fun _ => none) (cellsFrom (s.heap.objs.size + 1) scope.names []) (bindC (envOfC qual scope s.heap.objs.size f cd).kindOf (ps.zip us) fun _ => none) s1) :
  Inv (cxOf CX P w K mg base N qual scope f cd A outer s H E) [] (start N vs) H s1 := by
 have hpl : ps.length ≤ N.length := by have := congrArg List.length S.pre; rw [List.length_take] at this; omega
 obtain ⟨h1, tk, rfl, hk⟩ := x.done
 have noA : ∀ b : Addr, b ∉ (cxOf CX P w K mg base N qual scope f cd A outer s H E).ex := fun b z => absurd (show b ∈ ([] : List Addr) from z) (by simp)
 refine ⟨⟨e0.mod, S.kind, rfl, rfl, Nat.le_refl _, fun y z c h1 h2 => ?_, fun y hy => ?_, fun y c _ h => ?_, fun _ => hd, Around.frames_deeper e0.frames, .inr ⟨rfl, rfl⟩, fun b z => absurd z (noA b), e0.bs, e0.bsz, fun b _ _ => noA b, fun b z => absurd z (noA b), e0.funs, e0.frf⟩,
  rfl, e0.bare, Un.kept hk, ⟨_, x.toInCall.ns, fun i y v h1 h2 h3 => ?_⟩, fun y c h => ⟨_, x.cell y c h⟩, e0.hok.fresh (Nat.le_refl _), fun y c h => ?_, fun p hp => absurd (show p ∈ ([] : List (Addr × Obj)) from hp) (by simp), e0.hok.kept hk, ?_⟩
 ·exact name_of_addr x.apart (PySem.mem_of_lookup h1) (PySem.mem_of_lookup h2)
 ·have hy : scope.names.lookup y = some .cell ∨ scope.names.lookup y = some .free := hy
  rcases hy with hy | hy
  ·exact cell_has hy
  ·exact absurd rfl (S.nofree _ (PySem.mem_of_lookup hy))
 ·exact Nat.le_of_lt (x.above y c (PySem.mem_of_lookup h))
 ·have hi : i < vs.length := by
   unfold start at h2
   by_cases hi : i < vs.length
   ·exact hi
   ·rw [List.getElem?_append_right (by simpa using hi)] at h2
    rw [List.getElem?_replicate] at h2
    split at h2 <;> cases h2
  have ha : vs[i]? = some v := by
   unfold start at h2
   rw [List.getElem?_append_left (by simpa using hi), List.getElem?_map] at h2
   cases e : vs[i]? with
   | none => rw [e] at h2; cases h2
   | some a => rw [e] at h2; cases h2; rfl
  obtain ⟨u, hu, rv⟩ := r.get ha
  have hp : ps[i]? = some y := by
   rw [← S.pre, List.getElem?_take_of_lt (by omega)]; exact h1
  have ndP : ps.Nodup := by rw [← S.pre]; exact S.nd.sublist (List.take_sublist _ _)
  refine ⟨u, rv, ?_⟩
  rcases S.par y (List.mem_of_getElem? hp) with k | k
  ·exact .inl ⟨k, bindL_get ndP hp hu k⟩
  ·obtain ⟨c, e⟩ := cell_has (n := s.heap.objs.size + 1) k
   refine .inr ⟨.inl k, c, e, ?_⟩
   have q := x.cell y c e
   rw [bindC_get ndP hp hu (by show scope.names.lookup y ≠ _; rw [k]; decide)] at q
   exact q
 ·exact e0.hok.fresh (Nat.le_of_lt (x.above y c (PySem.mem_of_lookup h)))
 ·unfold start
  show _ = N.length
  rw [List.length_append, List.length_map, List.length_replicate]
  omega
theorem fn_of {CX : CXT} {P : Program} {w : World} {K : PySem.W.Frag} {mg : Str → Option Value} {base : Heap} {k : Nat} {f : Addr} {name qual : Str} {params : Arguments} {body : List Stmt} {scope : Scope} {dV kV doc pm cdv ct oc : Value} {an od : Option Addr}
  {osl : Array (Option Value)} {N ps : List Str} {sp : Sp} (lk : K.lookup f = some ⟨oc, od, .func (PySem.W.fnOf name qual params body scope dV kV doc pm an cdv ct), osl⟩) (hcd : PySem.W.codeIn K cdv qual = true) (S : FnScope N ps scope)
  (len : ∀ vs H Q E, sp vs H Q E → vs.length = ps.length)
  (hbody : ∀ (A : Around) (outer : List Env) (s : Shared) (H : Hp) (vs : List V) (Q : VK) (E : XK), Room k (A.deeper (envOfC qual scope s.heap.objs.size f cdv)) → sp vs H Q E →
   ∃ t, PSs (cxOf CX P w K mg base N qual scope f cdv A outer s H E) body t ∧ t { nx := fun _ H' => Q .non H', rt := Q } (start N vs) H) :
  FnOk P w K mg base CX (k + 1) f (PySem.W.fnOf name qual params body scope dV kV doc pm an cdv ct) ps sp := by
 refine ⟨len, fun A outer s H args us vs Q E hr e0 hb r hsp => ?_⟩
 have hl := len _ _ _ _ hsp
 have KX : K.In s.heap := e0.mod.kin.keeps fun b o e => (e0.bs b o e).1
 have lim : s.heap.NoLimit := e0.mod.nolimit.keeps fun b o e => (e0.bs b o e).1
 have hkind : ∀ y ∈ ps.zip us, scope.names.lookup y.1 = some .local ∨ (scope.names.lookup y.1 = some .cell ∧ ((cellsFrom (s.heap.objs.size + 1) scope.names []).lookup y.1).isSome = true) := fun ⟨n, v⟩ hy => by
  rcases S.par n (List.of_mem_zip hy).1 with q | q
  ·exact .inl q
  ·exact .inr ⟨q, PySem.W.cellsFrom_some _ _ _ (.inl q)⟩
 refine codeAny_call_function hr.depth (KX _ _ lk) rfl S.co S.gen rfl (PySem.W.codeRec_of KX hcd) (hb _ _ _ _ ?_)
 refine wpAny_newFunctionEnv_cells S.kind hkind fun env he s1 x => ?_
 subst he
 refine ⟨lim.keeps x.toInCall.keep, codeAny_func ?_⟩
 obtain ⟨t, ht, hq⟩ := hbody A outer s H vs Q E (hr.deeper _) hsp
 have I : Inv (cxOf CX P w K mg base N qual scope f cdv A outer s H E) [] (start N vs) H s1 := inv_start S hr.hd e0 hl r x
 refine wpAny_mono (ht [] s1 (start N vs) H _ I hq) (fun fl s' hs => ?_) fun e s' hs => hs
 have fin : ∀ {σ' : St} {H' : Hp} {v : V} {u : Value}, Inv (cxOf CX P w K mg base N qual scope f cdv A outer s H E) [] σ' H' s' → RelV v u → Q v H' → CE outer P w H s Q u s' :=
  fun {σ' H' v u} J rv q => ⟨v, H', J.os, J.bare, J.base, J.hok, rv, q⟩
 cases fl with
 | ret u =>
  obtain ⟨v, σ', H', J, rv, q⟩ := hs
  exact fin J rv q
 | next =>
  obtain ⟨σ', H', J, q⟩ := hs
  exact fin (v := V.non) (u := Value.none) J rfl q
 | brk =>
  obtain ⟨_, _, _, q⟩ := hs
  exact False.elim q
 | cont =>
  obtain ⟨_, _, _, q⟩ := hs
  exact False.elim q
end L2
namespace L2
open PySem PySem.Spec PyProof.Rows
section
variable {X : Cx} {x : Str} {p pos : Pos} {e : Expr} {es : List Expr} {t : TA} {id T : String} {r : List V → Hp → VK → Prop}
noncomputable def tCB (r : List V → Hp → VK → Prop) (t : TA) : TE := fun σ H Q => t σ H fun vs H1 => r vs H1 Q
theorem pe_callB (hc : CallR X (.builtin id) r) (hg : Gl X x) (hm : X.mg x = none) (hv : bootBuiltins x = some (.builtin id)) (ha : PA X (e :: es) t) (hn : x ≠ "__name__" := by decide) (hdb : (x == ("__debug__" : Str)) = false := by decide)
  (he : starEach (e :: es) X.env = (false, eval e X.env) :: starEach es X.env := by rfl) (hpl : (backTo pos (starEach es X.env)).any (·.1) = false := by rfl) : PE X (.Call (.Name x p) (e :: es) [] pos) (tCB r t) := by
 intro pins s σ H Q I h
 refine wpAny_Call_Name_kw (ld_blt I hg hm hv ?_ hn hdb)
 exact PyProof.Rows.callWith_builtin1 (thn (ha pos pins s σ H _ I h) fun us s1 ⟨vs, H1, I1, r1, q1⟩ => hc pins s1 σ H1 vs us Q I1 r1 q1) he hpl
theorem pe_callTy (hc : CallR X (.type T) r) (hg : Gl X x) (hm : X.mg x = none) (hv : bootBuiltins x = some (.type T)) (ha : PA X (e :: es) t) (hn : x ≠ "__name__" := by decide) (hdb : (x == ("__debug__" : Str)) = false := by decide)
  (he : starEach (e :: es) X.env = (false, eval e X.env) :: starEach es X.env := by rfl) (hpl : (backTo pos (starEach es X.env)).any (·.1) = false := by rfl) : PE X (.Call (.Name x p) (e :: es) [] pos) (tCB r t) := by
 intro pins s σ H Q I h
 refine wpAny_Call_Name_kw (ld_blt I hg hm hv ?_ hn hdb)
 exact PyProof.Rows.callWith_type1 (thn (ha pos pins s σ H _ I h) fun us s1 ⟨vs, H1, I1, r1, q1⟩ => hc pins s1 σ H1 vs us Q I1 r1 q1) he hpl
end
end L2
namespace HT
open PySem PyProof.Rows
section
open PySem.SeqAt
open PySem.AutoSeq1 (wpAny_loadPart')
open PySem.MeetsSeq PySem.MeetsSeq2 PySem.MeetsSeq3
end
section
variable {prog : Program} {w : World} {A : Around} {E : Value → Shared → Prop} {s : Shared}
noncomputable def sIx (n d : Nat) : Option Int → Nat
 | none => d
 | some v => if v < 0 then (v + (n : Int)).toNat else min v.toNat n
theorem sIx_nat (n d k : Nat) : sIx n d (some (k : Int)) = min k n := by
 show (if (k : Int) < 0 then ((k : Int) + (n : Int)).toNat else min (k : Int).toNat n) = min k n
 rw [if_neg (by omega), Int.toNat_natCast]
end
end HT
namespace L2
open PySem PySem.Spec PyProof.Rows
noncomputable abbrev TO := St → Hp → (Option Int → Hp → Prop) → Prop
noncomputable def PO (X : Cx) (e : Option Expr) (t : TO) : Prop :=
 ∀ (pins : List (Addr × Obj)) (s : Shared) (σ : St) (H : Hp) (Q : Option Int → Hp → Prop), Inv X pins σ H s → t σ H Q →
  wpAny (model X.prog X.w) X.A (evalPart e X.env) (fun u s' => ∃ o H', Inv X pins σ H' s' ∧ IsPart u o ∧ Q o H') X.xe s
noncomputable def tNoPart : TO := fun _ H Q => Q none H
noncomputable def tPart (t : TE) : TO := fun σ H Q => t σ H fun x H1 => ∃ i, x = .int i ∧ Q (some i) H1
section
variable {X : Cx} {e : Expr} {te : TE} {lo hi : Option Expr} {tl th : TO} {pos p2 : Pos}
theorem po_none : PO X none tNoPart := by
 intro pins s σ H Q I h
 rw [evalPart_none]
 exact wpAny_pure ⟨none, H, I, .none, h⟩
theorem po_some (h : PE X e te) : PO X (some e) (tPart te) := by
 intro pins s σ H Q I hw
 rw [evalPart_some]
 refine thn (h pins s σ H _ I hw) fun u s1 ⟨x, H1, I1, r1, q1⟩ => ?_
 obtain ⟨i, rfl, q⟩ := q1
 obtain ⟨t, rfl⟩ := r1
 exact ⟨some i, H1, I1, .int i t, q⟩
noncomputable def SlR (X : Cx) (r : V → Option Int → Option Int → Hp → VK → Prop) : Prop :=
 ∀ (pins : List (Addr × Obj)) (s : Shared) (σ : St) (H : Hp) (x : V) (v vl vu : Value) (lo hi : Option Int) (sl : Addr) (Q : VK), Inv X pins σ H s → RelV x v → s.heap.IsSliceOf sl vl vu .none → IsPart vl lo → IsPart vu hi → r x lo hi H Q →
  ∃ T id, typeLookup (.type T) "__getitem__" = pure (some (.builtin id)) ∧ s.TypeIs v T ∧ wpAny (model X.prog X.w) X.A (getItem v (.ref sl)) (EP X pins σ Q) X.xe s
noncomputable def tSl (r : V → Option Int → Option Int → Hp → VK → Prop) (te : TE) (tl th : TO) : TE := fun σ H Q => te σ H fun x H1 => tl σ H1 fun l H2 => th σ H2 fun u H3 => r x l u H3 Q
theorem pe_slice {r : V → Option Int → Option Int → Hp → VK → Prop} (hr : SlR X r) (he : PE X e te) (hl : PO X lo tl) (hu : PO X hi th) : PE X (.Subscript e (.Slice lo hi none p2) pos) (tSl r te tl th) := by
 intro pins s σ H Q I h
 refine Subscript_ (thn (he pins s σ H _ I h) fun v s1 ⟨x, H1, I1, r1, q1⟩ => ?_)
 refine wpAny_Slice (thn (hl pins s1 σ H1 _ I1 q1) fun vl s2 ⟨l, H2, I2, pl, q2⟩ => thn (hu pins s2 σ H2 _ I2 q2) fun vu s3 ⟨u, H3, I3, pu, q3⟩ => ?_)
 rw [evalPart_none]
 refine wpAny_pure ?_
 have I4 : Inv X pins σ H3 { s3 with heap := s3.heap.push { cls := .type "slice", data := .fields #[vl, vu, .none] } } := I3.kept (t' := s3.toks) fun b ob q => Heap.get?_push_of_some _ q
 obtain ⟨T, id, hT, ht, hg⟩ := hr pins { s3 with heap := s3.heap.push { cls := .type "slice", data := .fields #[vl, vu, .none] } } σ H3 x v vl vu l u s3.heap.objs.size Q I4 r1 (Heap.IsSliceOf.new ..) pl pu q3
 show wpAny (model X.prog X.w) X.A (subscriptTail e (.Slice lo hi none p2) v (.ref s3.heap.objs.size)) (EP X pins σ Q) X.xe { s3 with heap := s3.heap.push { cls := .type "slice", data := .fields #[vl, vu, .none] } }
 exact tail_any (ops := [.ref s3.heap.objs.size, v]) ht hT hg (by with_unfolding_all rfl)
noncomputable def cutV (xs : List V) (lo hi : Option Int) : List V := (xs.drop (HT.sIx xs.length 0 lo)).take (HT.sIx xs.length xs.length hi - HT.sIx xs.length 0 lo)
theorem cutV_length (xs : List V) (lo hi : Option Int) : (cutV xs lo hi).length ≤ xs.length := by
 unfold cutV
 rw [List.length_take, List.length_drop]
 omega
end
end L2
namespace L2
open PySem PySem.Spec PyProof.Rows
noncomputable def ixN (n : Nat) (i : Int) : Option Nat := if 0 ≤ i then (if i < n then some i.toNat else none) else if -(n : Int) ≤ i then some (i + n).toNat else none
noncomputable def atI {α : Type} (xs : List α) (i : Int) : Option α := (ixN xs.length i).bind fun j => xs[j]?
theorem ixN_seq {n : Nat} {i : Int} {j : Nat} (h : ixN n i = some j) : seqIndex? i n = some j ∧ j < n ∧ -(n : Int) ≤ i ∧ i < n := by
 unfold ixN at h
 by_cases h0 : 0 ≤ i
 ·rw [if_pos h0] at h
  by_cases h1 : i < n
  ·rw [if_pos h1] at h
   have e : i.toNat = j := Option.some.inj h
   exact ⟨by rw [seqIndex_of h0 h1, e], by omega, by omega, h1⟩
  ·rw [if_neg h1] at h; cases h
 ·rw [if_neg h0] at h
  by_cases h1 : -(n : Int) ≤ i
  ·rw [if_pos h1] at h
   have e : (i + n).toNat = j := Option.some.inj h
   exact ⟨by rw [seqIndex_neg (by omega) h1, e], by omega, h1, by omega⟩
  ·rw [if_neg h1] at h; cases h
theorem atI_get {α : Type} {xs : List α} {i : Int} {v : α} (h : atI xs i = some v) : ∃ j, seqIndex? i xs.length = some j ∧ xs[j]? = some v ∧ j < xs.length ∧ -(xs.length : Int) ≤ i ∧ i < xs.length := by
 unfold atI at h
 cases e : ixN xs.length i with
 | none => rw [e] at h; cases h
 | some j =>
  rw [e] at h
  obtain ⟨h1, h2, h3, h4⟩ := ixN_seq e
  exact ⟨j, h1, h, h2, h3, h4⟩
theorem atI_nat {α : Type} {xs : List α} {j : Nat} {v : α} (h : xs[j]? = some v) : atI xs (j : Int) = some v := by
 have hj : j < xs.length := (List.getElem?_eq_some_iff.mp h).1
 have e : ixN xs.length (j : Int) = some j := by
  unfold ixN
  rw [if_pos (by omega), if_pos (by omega)]; simp
 unfold atI; rw [e]; exact h
noncomputable def PlainIx (b : Expr) : Prop := ∀ o i, subscripted b false o i = operate [o, i] (getItem o i)
noncomputable def IxR (X : Cx) (r : R2) : Prop :=
 ∀ (value slice : Expr) (pins : List (Addr × Obj)) (s : Shared) (σ : St) (H : Hp) (x y : V) (v u : Value) (Q : VK), Inv X pins σ H s → RelV x v → RelV y u → r x y H Q →
  subscripted slice false v u = operate [v, u] (getItem v u) → wpAny (model X.prog X.w) X.A (subscriptTail value slice v u) (EP X pins σ Q) X.xe s
noncomputable def MtR (X : Cx) (id : String) (r : V → List V → Hp → VK → Prop) : Prop :=
 ∀ (pins : List (Addr × Obj)) (s : Shared) (σ : St) (H : Hp) (x : V) (xs : List V) (v : Value) (us : List Value) (Q : VK), Inv X pins σ H s → RelV x v → Vals xs us → r x xs H Q →
  wpAny (model X.prog X.w) X.A (call (.builtin id) (v :: us)) (EP X pins σ Q) X.xe s
section
variable {X : Cx} {a b : Expr} {ta tb : TE} {pos : Pos}
theorem pe_ix {r : R2} (hr : IxR X r) (ha : PE X a ta) (hb : PE X b tb) (hs : PlainIx b) : PE X (.Subscript a b pos) (tOp r ta tb) := by
 intro pins s σ H Q I h
 exact Subscript_ (binT ha hb I h fun v u s2 x y H2 I2 rx ry q => hr a b pins s2 σ H2 x y v u Q I2 rx ry q (hs _ _))
noncomputable def rIxL (K : PySem.W.Frag) : R2 := fun x y H Q => ∃ p xs i v, x = .ref p ∧ y = .int i ∧ SqL K H p xs ∧ atI xs i = some v ∧ Q v H
noncomputable def rIxT (K : PySem.W.Frag) : R2 := fun x y H Q => ∃ p xs i v, x = .ref p ∧ y = .int i ∧ SqT K H p xs ∧ atI xs i = some v ∧ Q v H
theorem ix_list : IxR X (rIxL X.K) := by
 intro value slice pins s σ H x y v u Q I rx ry h hs
 obtain ⟨p, xs, i, z, rfl, rfl, hq, he, q⟩ := h
 cases rx
 obtain ⟨t, rfl⟩ := ry
 obtain ⟨its, r, pl, hz⟩ := I.list hq
 obtain ⟨j, h1, h2, h3, h4, h5⟩ := atI_get he
 obtain ⟨w, ew, rw'⟩ := r.get h2
 have hl := r.length
 have hn := line63
 have fin : EP X pins σ Q w s := ⟨z, H, I, rw', q⟩
 by_cases h0 : 0 ≤ i
 ·have hj : i.toNat = j := by
   rw [seqIndex_of h0 h5] at h1
   exact Option.some.inj h1
  exact item_listR pl.isList h0 (by omega) (by rw [hj]; simpa using ew) fin hs
 ·have hj : (i + (its.toArray.size : Int)).toNat = j := by
   rw [seqIndex_neg (by omega) h4] at h1
   rw [List.size_toArray, ← hl]
   exact Option.some.inj h1
  exact subscriptTail_builtinR (x := w) pl.isList.typeIs slot_list_getitem.lookup
   (wpAny_getItem_list_neg (Q := fun r s' => r = w ∧ EP X pins σ Q r s') pl.isList (by omega) (by rw [List.size_toArray] <;> omega) (by omega) (by rw [hj]; simpa using ew) ⟨rfl, fin⟩) hs
theorem ix_tup : IxR X (rIxT X.K) := by
 intro value slice pins s σ H x y v u Q I rx ry h hs
 obtain ⟨p, xs, i, z, rfl, rfl, hq, he, q⟩ := h
 cases rx
 obtain ⟨t, rfl⟩ := ry
 obtain ⟨its, r, pl, hz⟩ := I.tuple hq
 obtain ⟨j, h1, h2, h3, h4, h5⟩ := atI_get he
 obtain ⟨w, ew, rw'⟩ := r.get h2
 have hl := r.length
 have hn := line63
 have fin : EP X pins σ Q w s := ⟨z, H, I, rw', q⟩
 exact subscriptTail_builtinR (x := w) pl.typeIs slot_tuple_getitem.lookup
  (getItem_tuple (j := j) (Q := fun r s' => r = w ∧ EP X pins σ Q r s') pl (by omega) (by omega) (by rw [List.size_toArray, ← hl]; exact h1) (by simpa using ew) ⟨rfl, fin⟩) hs
theorem mapSeq_set (its : List Value) (n j : Nat) (u : Value) : Obj.mapSeq (·.setIfInBounds j u) { cls := .type "list", data := .seq its.toArray n } = { cls := .type "list", data := .seq (its.set j u).toArray n } := by
 simp [Obj.mapSeq]
theorem Inv.lst {pins : List (Addr × Obj)} {σ : St} {H : Hp} {s : Shared} {p : Addr} {xs : List V} (I : Inv X pins σ H s) (h : H p = some (.lst xs)) :
  ∃ (its : List Value) (n : Nat), Vals xs its ∧ s.heap.get? p = some { cls := .type "list", data := .seq its.toArray n } ∧ xs.length ≤ sizeLine := by
 obtain ⟨z, its, n, r, e⟩ := I.hok p _ h
 exact ⟨its, n, r, e, z⟩
theorem Inv.lstUpd {pins : List (Addr × Obj)} {σ : St} {H : Hp} {s : Shared} {p : Addr} {xs ys : List V} {its its' : List Value} {n n' : Nat} {f : Obj → Obj} (I : Inv X pins σ H s) (h : H p = some (.lst xs))
  (ho : s.heap.get? p = some { cls := .type "list", data := .seq its.toArray n }) (hf : f { cls := .type "list", data := .seq its.toArray n } = { cls := .type "list", data := .seq its'.toArray n' }) (r : Vals ys its') (hz : ys.length ≤ sizeLine) (t : Nat) :
  Inv X pins σ (upd H p (.lst ys)) { s with heap := s.heap.update p f, toks := t } := by
 have e : (s.heap.update p f).get? p = some { cls := .type "list", data := .seq its'.toArray n' } := by
  rw [Heap.get?_update_self f ho (by rw [hf] <;> rfl), hf]
 refine I.write (x := p) (e := p) (by rw [h]; trivial) (.inl rfl) (fun b u hb q => (Heap.get?_update_other _ _ (Ne.symm hb)).trans q) ⟨_, e⟩ ?_
 exact ⟨hz, its', n', r, e⟩
noncomputable def rSetL : V → V → V → Hp → (Hp → Prop) → Prop := fun o i v H Q => ∃ p xs k j, o = .ref p ∧ i = .int k ∧ H p = some (.lst xs) ∧ ixN xs.length k = some j ∧ Q (upd H p (.lst (xs.set j v)))
theorem set_list : PSet X rSetL := by
 intro pins s σ H o i v ov iv u Q I ro ri rv h
 obtain ⟨p, xs, k, j, rfl, rfl, hp, hj, q⟩ := h
 cases ro
 obtain ⟨t, rfl⟩ := ri
 obtain ⟨its, n, r, ho, hz⟩ := I.lst hp
 obtain ⟨h1, h2, h3, h4⟩ := ixN_seq hj
 have hl := r.length
 have hn := line63
 have I' : Inv X pins σ (upd H p (.lst (xs.set j v))) { s with heap := s.heap.update p (Obj.mapSeq (·.setIfInBounds j u)) } :=
  I.lstUpd hp ho (mapSeq_set its n j u) (r.set rv j) (by rw [List.length_set]; exact hz) s.toks
 by_cases h0 : 0 ≤ k
 ·have hk : k.toNat = j := by
   rw [seqIndex_of h0 h4] at h1
   exact Option.some.inj h1
  exact PySem.W.ki_setAt ho h0 (by omega) (by rw [List.size_toArray, ← hl]; exact h4) (by rw [hk]; exact ⟨_, I', q⟩)
 ·have hk : (k + (its.toArray.size : Int)).toNat = j := by
   rw [seqIndex_neg (by omega) h3] at h1
   rw [List.size_toArray, ← hl]
   exact Option.some.inj h1
  exact PySem.W.ki_setBack ho (by omega) (by rw [List.size_toArray, ← hl]; exact h3) (by omega) (by rw [hk]; exact ⟨_, I', q⟩)
theorem slice_bounds (lo hi : Option Int) (n : Nat) : (sliceBounds lo hi none n).1 = ((HT.sIx n 0 lo : Nat) : Int) ∧ (sliceBounds lo hi none n).2.1 = ((HT.sIx n n hi : Nat) : Int) ∧ (sliceBounds lo hi none n).2.2 = 1 := by
 refine ⟨?_, ?_, rfl⟩
 ·cases lo with
  | none => simp [sliceBounds, HT.sIx]
  | some i =>
   simp only [sliceBounds, HT.sIx, Option.getD_none, show (1 : Int) > 0 by decide, if_true]
   by_cases h : i < 0
   ·simp only [h, if_true] <;> omega
   ·simp only [h, if_false] <;> omega
 ·cases hi with
  | none => simp [sliceBounds, HT.sIx]
  | some i =>
   simp only [sliceBounds, HT.sIx, Option.getD_none, show (1 : Int) > 0 by decide, if_true]
   by_cases h : i < 0
   ·simp only [h, if_true] <;> omega
   ·simp only [h, if_false] <;> omega
theorem slicePick_cut (its : List Value) (lo hi : Option Int) : slicePick its.toArray lo hi none = ((its.drop (HT.sIx its.length 0 lo)).take (HT.sIx its.length its.length hi - HT.sIx its.length 0 lo)).toArray := by
 obtain ⟨h1, h2, h3⟩ := slice_bounds lo hi its.toArray.size
 unfold slicePick
 rw [h1, h2, h3]
 simp only [sliceRange_one, pick_run, List.size_toArray] <;> rfl
noncomputable def rSlL (K : PySem.W.Frag) : V → Option Int → Option Int → Hp → VK → Prop := fun x lo hi H Q => ∃ a xs, x = .ref a ∧ SqL K H a xs ∧ ∀ p, H p = none → Q (.ref p) (upd H p (.lst (cutV xs lo hi)))
theorem sl_list : SlR X (rSlL X.K) := by
 intro pins s σ H x v vl vu lo hi sl Q I rx hs pl pu h
 obtain ⟨a, xs, rfl, hx, q⟩ := h
 cases rx
 obtain ⟨its, r, ht, hz⟩ := I.list hx
 have hlen := r.length
 refine ⟨"list", _, slot_list_getitem.lookup, ht.isList.typeIs, ?_⟩
 refine wpAny_getItem_list_slice ht.isList hs pl pu .none (by simp) ?_ (by rw [List.size_toArray] <;> omega)
 rw [slicePick_cut, ← hlen]
 refine ⟨.ref s.heap.objs.size, _, I.laid (t' := s.toks) (o := .lst (cutV xs lo hi)) (fun b ob q => Heap.get?_push_of_some _ q) (Nat.le_refl _) ?_, rfl, q _ (I.hok.fresh (Nat.le_refl _))⟩
 exact ⟨Nat.le_trans (cutV_length xs lo hi) hz, _, 0, (r.drop (HT.sIx xs.length 0 lo)).take (HT.sIx xs.length xs.length hi - HT.sIx xs.length 0 lo), Heap.get?_push_size _ rfl⟩
noncomputable def flatV : V → Bool
 | .non => true
 | .bl _ => true
 | .int _ => true
 | .str _ => true
 | _ => false
noncomputable def eqV : V → V → Bool
 | .non, .non => true
 | .bl a, .bl b => a == b
 | .bl a, .int b => (if a then 1 else 0) == b
 | .int a, .bl b => a == (if b then 1 else 0)
 | .int a, .int b => a == b
 | .str a, .str b => a == b
 | _, _ => false
theorem eqAt_V {A : Around} {s : Shared} {y x : V} {u v : Value} (ry : RelV y u) (rx : RelV x v) (fy : flatV y = true) (fx : flatV x = true) : SeqAt.EqAt A s u v (eqV y x) := by
 cases y with
 | non =>
  cases ry
  cases x with
  | non => cases rx; exact SeqAt.EqAt.same _
  | bl b => cases rx; exact SeqAt.EqAt.none_bool b
  | int b => obtain ⟨t, rfl⟩ := rx; exact SeqAt.EqAt.none_int b t
  | str b => obtain ⟨t, rfl⟩ := rx; exact SeqAt.EqAt.none_str b t
  | _ => exact absurd (show false = true from fx) Bool.false_ne_true
 | bl a =>
  cases ry
  cases x with
  | non => cases rx; exact SeqAt.EqAt.bool_none a
  | bl b => cases rx; exact SeqAt.EqAt.bool_bool a b
  | int b => obtain ⟨t, rfl⟩ := rx; exact SeqAt.EqAt.bool_int a b t
  | str b => obtain ⟨t, rfl⟩ := rx; exact SeqAt.EqAt.bool_str a b t
  | _ => exact absurd (show false = true from fx) Bool.false_ne_true
 | int a =>
  obtain ⟨t', rfl⟩ := ry
  cases x with
  | non => cases rx; exact SeqAt.EqAt.int_none a t'
  | bl b => cases rx; exact SeqAt.EqAt.int_bool a t' b
  | int b => obtain ⟨t, rfl⟩ := rx; exact SeqAt.EqAt.int_int a t' b t
  | str b => obtain ⟨t, rfl⟩ := rx; exact SeqAt.EqAt.int_str a t' b t
  | _ => exact absurd (show false = true from fx) Bool.false_ne_true
 | str a =>
  obtain ⟨t', rfl⟩ := ry
  cases x with
  | non => cases rx; exact SeqAt.EqAt.str_none a t'
  | bl b => cases rx; exact SeqAt.EqAt.str_bool a t' b
  | int b => obtain ⟨t, rfl⟩ := rx; exact SeqAt.EqAt.str_int a t' b t
  | str b => obtain ⟨t, rfl⟩ := rx; exact SeqAt.EqAt.str_str a t' b t
  | _ => exact absurd (show false = true from fx) Bool.false_ne_true
 | _ => exact absurd (show false = true from fy) Bool.false_ne_true
theorem call_len_seq : CallR X (.builtin "len") (fun xs H Q => ∃ p ys, xs = [.ref p] ∧ (SqL X.K H p ys ∨ SqT X.K H p ys) ∧ Q (.int ys.length) H) := by
 intro pins s σ H xs us Q I r h
 obtain ⟨p, ys, rfl, hq, q⟩ := h
 obtain ⟨u, rfl, rx⟩ := vals1 r
 cases rx
 have hn := line63
 rcases hq with hq | hq
 ·obtain ⟨its, r', pl, hz⟩ := I.list hq
  have hlen := r'.length
  exact Calls.call_len_list pl.isList (by simp only [List.size_toArray] <;> omega) ⟨.int ys.length, H, I.tok _, ⟨s.toks + 1, by rw [List.size_toArray, hlen]⟩, q⟩
 ·obtain ⟨its, r', pl, hz⟩ := I.tuple hq
  have hlen := r'.length
  exact len_tuple pl (by simp only [List.size_toArray] <;> omega) ⟨.int ys.length, H, I.tok _, ⟨s.toks + 1, by rw [List.size_toArray, hlen]⟩, q⟩
theorem call_list_of : CallR X (.type "list") (fun xs H Q => ∃ p ys, xs = [.ref p] ∧ (SqL X.K H p ys ∨ SqT X.K H p ys) ∧ ∀ l, H l = none → Q (.ref l) (upd H l (.lst ys))) := by
 intro pins s σ H xs us Q I r h
 obtain ⟨p, ys, rfl, hq, q⟩ := h
 obtain ⟨u, rfl, rx⟩ := vals1 r
 cases rx
 have fin : ∀ (its : List Value), Vals ys its → ys.length ≤ sizeLine → ∀ (h' : Heap) (c' : Nat), (∀ b o', s.heap.get? b = some o' → h'.get? b = some o') →
   h'.get? s.heap.objs.size = some { cls := .type "list", dict := none, data := .seq its.toArray c', slots := #[] } → EP X pins σ Q (.ref s.heap.objs.size) { s with heap := h' } := fun its r' hz h' c' kp e =>
  ⟨.ref s.heap.objs.size, _, I.laid (t' := s.toks) kp (Nat.le_refl _) (show ObjOk X.prog X.w _ h' _ (.lst ys) from ⟨hz, its, c', r', e⟩), rfl, q _ (I.hok.fresh (Nat.le_refl _))⟩
 rcases hq with hq | hq
 ·obtain ⟨its, r', pl, hz⟩ := I.list hq
  have hlen := r'.length
  obtain ⟨o, ho, hc, n, hd⟩ := pl.isList
  exact call_list_seq p (.inl rfl) ho hc hd (fun h' c' kp e => fin its r' hz h' c' kp e) (by simp only [List.size_toArray] <;> omega)
 ·obtain ⟨its, r', pl, hz⟩ := I.tuple hq
  have hlen := r'.length
  obtain ⟨o, ho, hc, n, hd⟩ := pl
  exact call_list_seq p (.inr rfl) ho hc hd (fun h' c' kp e => fin its r' hz h' c' kp e) (by simp only [List.size_toArray] <;> omega)
theorem call_tuple_of : CallR X (.type "tuple") (fun xs H Q => ∃ p ys, xs = [.ref p] ∧ ((SqL X.K H p ys ∧ ∀ l, H l = none → Q (.ref l) (upd H l (.tup ys))) ∨ (SqT X.K H p ys ∧ Q (.ref p) H))) := by
 intro pins s σ H xs us Q I r h
 obtain ⟨p, ys, rfl, h⟩ := h
 obtain ⟨u, rfl, rx⟩ := vals1 r
 cases rx
 rcases h with ⟨hq, q⟩ | ⟨hq, q⟩
 ·obtain ⟨its, r', pl, hz⟩ := I.list hq
  have hlen := r'.length
  refine call_tuple_list pl.isList (fun h' kp => ?_) (by simp only [List.size_toArray] <;> omega)
  have I1 : Inv X pins σ H { s with heap := h' } := I.kept (t' := s.toks) kp
  have I2 : Inv X pins σ (upd H h'.objs.size (.tup ys)) { s with heap := h'.push { cls := .type "tuple", data := .seq its.toArray } } :=
   I1.laid (t' := s.toks) (fun b o e => Heap.get?_push_of_some _ e) (Nat.le_refl _) (show ObjOk X.prog X.w _ _ _ (.tup ys) from ⟨hz, its, r', IsTup.new _ _⟩)
  exact ⟨.ref h'.objs.size, _, I2, rfl, q _ (I1.hok.fresh (Nat.le_refl _))⟩
 ·obtain ⟨its, r', pl, hz⟩ := I.tuple hq
  exact call_tuple_same pl ⟨.ref p, H, I, rfl, q⟩
noncomputable def tyV (K : PySem.W.Frag) (T : String) (x : V) (H : Hp) : Prop := match x with
 | .str _ => T = "str"
 | .int _ => T = "int"
 | .ref p => (T = "list" ∧ ∃ xs, SqL K H p xs) ∨ (T = "tuple" ∧ ∃ o, K.lookup p = some o ∧ o.cls = .type "tuple" ∧ o.dict = none) ∨
   (T = "dict" ∧ ((∃ kvs, H p = some (.dK kvs)) ∨ ∃ kvs, H p = some (.dT kvs))) ∨ (T = "set" ∧ ∃ S n, H p = some (.set S n))
 | _ => False
theorem tyV_is {pins : List (Addr × Obj)} {σ : St} {H : Hp} {s : Shared} {T : String} {x : V} {v : Value} (I : Inv X pins σ H s) (r : RelV x v) (ty : tyV X.K T x H) :
  s.TypeIs v T ∧ ∀ a, v = .ref a → ∃ ob, s.heap.get? a = some ob ∧ ob.dict = none := by
 cases x with
 | str z =>
  obtain ⟨t, rfl⟩ := r
  cases (show T = "str" from ty)
  exact ⟨typeIs_str s z t, fun _ e => nomatch e⟩
 | int i =>
  obtain ⟨t, rfl⟩ := r
  cases (show T = "int" from ty)
  exact ⟨typeIs_int s i t, fun _ e => nomatch e⟩
 | ref p =>
  cases r
  rcases ty with ⟨rfl, xs, hq⟩ | ⟨rfl, o, hk, hc, hd⟩ | ⟨rfl, hk⟩ | ⟨rfl, S, n, hk⟩
  ·obtain ⟨its, _, pl, _⟩ := I.list hq
   refine ⟨pl.isList.typeIs, fun a e => ?_⟩
   cases e
   obtain ⟨o, n, e, c, hd, _⟩ := pl
   exact ⟨o, e, hd⟩
  ·refine ⟨⟨o, I.kIn p o hk, hc⟩, fun a e => ?_⟩
   cases e
   exact ⟨o, I.kIn _ o hk, hd⟩
  ·have z : ∃ o, s.heap.get? p = some o ∧ o.ExactDict := by
    rcases hk with ⟨kvs, hk⟩ | ⟨kvs, hk⟩
    ·obtain ⟨_, _, _, _, o, _, _, e, ex, _⟩ := I.hok p _ hk
     exact ⟨o, e, ex⟩
    ·obtain ⟨_, _, _, _, o, _, _, e, ex, _⟩ := I.hok p _ hk
     exact ⟨o, e, ex⟩
   obtain ⟨o, e, ex⟩ := z
   refine ⟨⟨o, e, ex.1⟩, fun a e2 => ?_⟩
   cases e2
   exact ⟨o, e, ex.2.1⟩
  ·obtain ⟨o, _, _, _, e, ex, _⟩ := I.hok p _ hk
   refine ⟨⟨o, e, ex.1⟩, fun a e2 => ?_⟩
   cases e2
   exact ⟨o, e, ex.2.1⟩
 | _ => exact False.elim ty
noncomputable def tBM0 (K : PySem.W.Frag) (T : String) (r : V → List V → Hp → VK → Prop) (to : TE) : TE := fun σ H Q => to σ H fun x H1 => tyV K T x H1 ∧ r x [] H1 Q
noncomputable def tBM (K : PySem.W.Frag) (T : String) (r : V → List V → Hp → VK → Prop) (to : TE) (t : TA) : TE := fun σ H Q => to σ H fun x H1 => tyV K T x H1 ∧ t σ H1 fun xs H2 => r x xs H2 Q
variable {o e : Expr} {es : List Expr} {to : TE} {t : TA} {name : Str} {apos cpos : Pos} {T id : String} {r : V → List V → Hp → VK → Prop}
theorem pe_bm0 (pa : PlainAttrs T) (slot : Slot T name id) (hty : typeOf (.builtin id) = pure (.type "method_descriptor")) (hm : MtR X id r) (ho : PE X o to)
  (hbase : attributeBase o name X.env (eval o X.env) = eval o X.env := by rfl) (hline : (apos.endLine == cpos.line) = true := by rfl) : PE X (.Call (.Attribute o name apos) [] [] cpos) (tBM0 X.K T r to) := by
 intro pins s σ H Q I h
 refine wpAny_Call_method0_late hbase hline (thn (ho pins s σ H _ I h) fun v s1 ⟨x, H1, I1, r1, ty, q1⟩ => ?_)
 obtain ⟨h1, h2⟩ := tyV_is I1 r1 ty
 exact ⟨T, id, pa, slot, hty, h1, h2, Calls.callWith_builtin rfl (PySem.evalArgs_none (hm pins s1 σ H1 x [] v [] Q I1 r1 .nil q1))⟩
theorem pe_bm (pa : PlainAttrs T) (slot : Slot T name id) (hty : typeOf (.builtin id) = pure (.type "method_descriptor")) (hm : MtR X id r) (ho : PE X o to) (ha : PA X (e :: es) t)
    (hbase : attributeBase o name X.env (eval o X.env) = eval o X.env := by rfl)
    (hfew : ((backTo cpos (starEach (e :: es) X.env)).all (fun x => !x.1) && (backToKw cpos (keywordEach [] X.env)).all (fun x => x.1.isSome)
      && decide ((e :: es).length + ([] : List Keyword).length + (if ([] : List Keyword).isEmpty then 0 else 1) < 30)) = true := by rfl)
    (hline : (apos.endLine == cpos.line) = true := by rfl) (hs : starEach (e :: es) X.env = (false, eval e X.env) :: starEach es X.env := by rfl) (hplain : (backTo cpos (starEach es X.env)).any (·.1) = false := by rfl) :
    PE X (.Call (.Attribute o name apos) (e :: es) [] cpos) (tBM X.K T r to t) := by
  intro pins s σ H Q I h
  refine wpAny_Call_method_late hbase hfew hline rfl (thn (ho pins s σ H _ I h) fun v s1 ⟨x, H1, I1, r1, ty, q1⟩ => ?_)
  obtain ⟨h1, h2⟩ := tyV_is I1 r1 ty
  refine ⟨T, id, pa, slot, hty, h1, h2, ?_⟩
  have hA := ha cpos pins s1 σ H1 _ I1 q1
  rw [hs] at hA ⊢
  refine Calls.callWith_builtin (by show (false || (backTo cpos (starEach es X.env)).any (·.1)) = false; rw [hplain] <;> rfl) (Calls.evalArgs_plain ?_)
  exact thn hA fun us s2 ⟨vs, H2, I2, r2, q2⟩ => hm pins s2 σ H2 x vs v us Q I2 r1 r2 q2
end
end L2
namespace L2
open PySem PySem.Spec PyProof.Rows
noncomputable def MtM (X : Cx) (id : String) (r : V → List V → Hp → VK → Prop) : Prop :=
 ∀ (pins : List (Addr × Obj)) (s : Shared) (σ : St) (H : Hp) (x : V) (xs : List V) (v : Value) (us : List Value) (Q : VK), Inv X pins σ H s → RelV x v → Vals xs us → r x xs H Q →
  wpAny (model X.prog X.w) X.A (call (.builtin id) (v :: us)) (EP X pins σ Q) X.xe s
theorem Vals.one : ∀ {x : V} {us : List Value}, Vals [x] us → ∃ u, us = [u] ∧ RelV x u
 | _, _, .cons r .nil => ⟨_, rfl, r⟩
theorem Vals.two : ∀ {x y : V} {us : List Value}, Vals [x, y] us → ∃ u v, us = [u, v] ∧ RelV x u ∧ RelV y v
 | _, _, _, .cons r (.cons q .nil) => ⟨_, _, rfl, r, q⟩
theorem Vals.zero : ∀ {us : List Value}, Vals [] us → us = []
 | _, .nil => rfl
theorem Vals.dropLast {xs : List V} {us : List Value} (h : Vals xs us) : Vals xs.dropLast us.dropLast := by
 induction h with
 | nil => exact .nil
 | cons r t ih =>
  cases t with
  | nil => exact .nil
  | cons q t' => exact .cons r ih
theorem Vals.rep {xs : List V} {us : List Value} (h : Vals xs us) : ∀ k : Nat, Vals (List.replicate k xs).flatten (List.replicate k us).flatten
 | 0 => .nil
 | k + 1 => by
  rw [List.replicate_succ, List.replicate_succ, List.flatten_cons, List.flatten_cons]
  exact Vals.append h (Vals.rep h k)
theorem erase_last {α : Type} (l : List α) : l.eraseIdx (l.length - 1) = l.dropLast := by
 induction l with
 | nil => rfl
 | cons a r ih =>
  cases r with
  | nil => rfl
  | cons b r =>
   have e : (a :: b :: r).length - 1 = ((b :: r).length - 1) + 1 := by
    have h1 : (a :: b :: r).length = r.length + 2 := rfl
    have h2 : (b :: r).length = r.length + 1 := rfl
    omega
   rw [e, List.eraseIdx_cons_succ, ih]
   all_goals rfl
theorem foldl_rep (its : List Value) : ∀ (k : Nat) (acc : List Value),
  List.foldl (fun x1 x2 => x1 ++ x2) acc.toArray (List.replicate k its.toArray) = (acc ++ (List.replicate k its).flatten).toArray
 | 0, acc => by simp
 | k + 1, acc => by
  have e : acc.toArray ++ its.toArray = (acc ++ its).toArray := by simp
  have e2 : (acc ++ its) ++ (List.replicate k its).flatten = acc ++ (List.replicate (k + 1) its).flatten := by
   rw [List.replicate_succ, List.flatten_cons, List.append_assoc]
  rw [← e2, ← foldl_rep its k (acc ++ its), ← e, List.replicate_succ, List.foldl_cons]
section
variable {X : Cx} {pins : List (Addr × Obj)} {σ : St} {H : Hp} {s : Shared} {l b : Addr} {xs ys zs : List V}
theorem Inv.lset {its its' : List Value} {n : Nat} {f : Array Value → Array Value} {t' : Nat} (I : Inv X pins σ H s) (hH : H l = some (.lst xs))
  (e : s.heap.get? l = some { cls := .type "list", data := .seq its.toArray n }) (hf : f its.toArray = its'.toArray) (hv : Vals ys its') (hz : ys.length ≤ sizeLine) :
  Inv X pins σ (upd H l (.lst ys)) { s with heap := s.heap.update l (Obj.mapSeq f), toks := t' } := by
 have q := PySem.IsL.update e f
 rw [hf] at q
 refine I.write (x := l) (e := l) (by rw [hH]; exact trivial) (.inl rfl) (fun b' u hb hu => (Heap.get?_update_other s.heap (Obj.mapSeq f) (Ne.symm hb)).trans hu) ⟨_, q⟩ ?_
 exact ⟨hz, its', _, hv, q⟩
theorem Inv.lnew {its : List Value} {t' : Nat} (I : Inv X pins σ H s) (hv : Vals ys its) (hz : ys.length ≤ sizeLine) :
  Inv X pins σ (upd H s.heap.objs.size (.lst ys)) { s with heap := s.heap.push { cls := .type "list", data := .seq its.toArray }, toks := t' } :=
 I.laid (fun _ _ q => Heap.get?_push_of_some _ q) (Nat.le_refl _) ⟨hz, its, 0, hv, Heap.get?_push_size _ rfl⟩
theorem Inv.fresh (I : Inv X pins σ H s) : H s.heap.objs.size = none := I.hok.fresh (Nat.le_refl _)
theorem Inv.lstM (I : Inv X pins σ H s) (hH : H l = some (.lst xs)) : xs.length ≤ sizeLine ∧ ∃ (its : List Value) (n : Nat), Vals xs its ∧ xs.length = its.length ∧ s.heap.get? l = some { cls := .type "list", data := .seq its.toArray n } := by
 obtain ⟨z, its, n, r, e⟩ := I.hok l _ hH
 exact ⟨z, its, n, r, r.length, e⟩
theorem notLongL {n : Nat} (h : n ≤ sizeLine) : Builtin.List.listTooLong n = false := by
 unfold Builtin.List.listTooLong
 exact decide_eq_false (by omega)
end
section
variable {X : Cx}
noncomputable def rAppend : V → List V → Hp → VK → Prop := fun x vs H Q => ∃ l xs y, x = .ref l ∧ vs = [y] ∧ H l = some (.lst xs) ∧ xs.length < sizeLine ∧ Q .non (upd H l (.lst (xs ++ [y])))
theorem mt_append : MtM X "list.append" rAppend := by
 intro pins s σ H x vs v us Q I rx rv h
 obtain ⟨l, xs, y, rfl, rfl, hH, hz, q⟩ := h
 cases rx
 obtain ⟨u, rfl, ru⟩ := rv.one
 obtain ⟨z, its, n, r, hl, e⟩ := I.lstM hH
 refine call_meets F.slot_list_append ⟨_, e, rfl⟩ F.entry_list_append (F.args_list_append_2 _ _) (PySem.list_append l its.toArray n u (by rw [List.size_toArray]; omega)) ⟨e, ?_⟩
 refine ⟨.non, _, I.lset (its' := its ++ [u]) hH e (by simp) (r.append (.cons ru .nil)) ?_, rfl, q⟩
 rw [List.length_append, List.length_singleton]
 omega
noncomputable def rExtend : V → List V → Hp → VK → Prop := fun x vs H Q => ∃ l b xs zs, x = .ref l ∧ vs = [.ref b] ∧ H l = some (.lst xs) ∧ H b = some (.lst zs) ∧ xs.length + zs.length ≤ sizeLine ∧ Q .non (upd H l (.lst (xs ++ zs)))
theorem mt_extend : MtM X "list.extend" rExtend := by
 intro pins s σ H x vs v us Q I rx rv h
 obtain ⟨l, b, xs, zs, rfl, rfl, hH, hB, hz, q⟩ := h
 cases rx
 obtain ⟨u, rfl, ru⟩ := rv.one
 cases ru
 obtain ⟨z, its, n, r, hl, e⟩ := I.lstM hH
 obtain ⟨z2, its2, n2, r2, hl2, e2⟩ := I.lstM hB
 have hsz : its.toArray.size + its2.toArray.size ≤ sizeLine := by rw [List.size_toArray, List.size_toArray]; omega
 have hlong : ¬ (!its.toArray.isEmpty && Builtin.List.listTooLong (its.toArray.size + its2.toArray.size)) = true := by
  rw [notLongL hsz, Bool.and_false]
  exact Bool.false_ne_true
 refine call_meets F.slot_list_extend ⟨_, e, rfl⟩ F.entry_list_extend (F.args_list_extend_2 _ _)
  (AutoSeq1.list_extend_list_list_0 l its.toArray n b its2.toArray n2 hlong (by rw [List.size_toArray]; omega) (by omega)) ⟨e, e2, ?_⟩
 refine ⟨.non, _, I.lset (its' := its ++ its2) hH e (by simp) (r.append r2) ?_, rfl, q⟩
 rw [List.length_append]
 omega
noncomputable def rPop : V → List V → Hp → VK → Prop := fun x vs H Q => ∃ l xs y, x = .ref l ∧ vs = [] ∧ H l = some (.lst xs) ∧ xs[xs.length - 1]? = some y ∧ Q y (upd H l (.lst xs.dropLast))
theorem mt_pop : MtM X "list.pop" rPop := by
 intro pins s σ H x vs v us Q I rx rv h
 obtain ⟨l, xs, y, rfl, rfl, hH, hy, q⟩ := h
 cases rx
 have hus := rv.zero
 subst hus
 obtain ⟨z, its, n, r, hl, e⟩ := I.lstM hH
 obtain ⟨u, hu, ru⟩ := r.get hy
 have hy' : its.toArray[its.toArray.size - 1]? = some u := by
  show its.toArray[its.length - 1]? = some u
  rw [← Array.getElem?_toList, ← hl]
  exact hu
 refine call_meets F.slot_list_pop ⟨_, e, rfl⟩ F.entry_list_pop (F.args_list_pop_1 _) (MeetsSeq.list_pop_last l its.toArray n u hy' (by rw [List.size_toArray]; omega)) ⟨e, ?_⟩
 refine ⟨y, _, I.lset (its' := its.dropLast) hH e ?_ r.dropLast ?_, ru, q⟩
 ·show its.toArray.eraseIdxIfInBounds (its.toArray.size - 1) = its.dropLast.toArray
  rw [List.size_toArray, List.eraseIdxIfInBounds_toArray, erase_last]
 ·rw [List.length_dropLast]
  omega
noncomputable def rCat : R2 := fun x y H Q => ∃ l b xs zs, x = .ref l ∧ y = .ref b ∧ H l = some (.lst xs) ∧ H b = some (.lst zs) ∧ xs.length + zs.length ≤ sizeLine ∧ ∀ p, H p = none → Q (.ref p) (upd H p (.lst (xs ++ zs)))
theorem op_cat : OpR X (binaryOp .Add) rCat := by
 intro pins s σ H x y v u Q I rx ry h
 obtain ⟨l, b, xs, zs, rfl, rfl, hH, hB, hz, q⟩ := h
 cases rx
 cases ry
 obtain ⟨z, its, n, r, hl, e⟩ := I.lstM hH
 obtain ⟨z2, its2, n2, r2, hl2, e2⟩ := I.lstM hB
 refine PySem.P.add_list e e2 ?_ (by rw [List.size_toArray, List.size_toArray]; omega)
 have ea : its.toArray ++ its2.toArray = (its ++ its2).toArray := by simp
 rw [ea]
 exact ⟨.ref _, _, I.lnew (t' := s.toks) (r.append r2) (by rw [List.length_append]; omega), rfl, q _ I.fresh⟩
noncomputable def rRep : R2 := fun x y H Q => ∃ l k xs, x = .ref l ∧ y = .int k ∧ H l = some (.lst xs) ∧ -(2 ^ 63) ≤ k ∧ k < 2 ^ 63 ∧ xs.length * k.toNat ≤ sizeLine ∧
 ∀ p, H p = none → Q (.ref p) (upd H p (.lst (List.replicate k.toNat xs).flatten))
theorem len_rep {α : Type} (xs : List α) (k : Nat) : (List.replicate k xs).flatten.length = k * xs.length := by
 induction k with
 | zero => simp
 | succ k ih => rw [List.replicate_succ, List.flatten_cons, List.length_append, ih, Nat.succ_mul, Nat.add_comm]
theorem op_rep : OpR X (binaryOp .Mult) rRep := by
 intro pins s σ H x y v u Q I rx ry h
 obtain ⟨l, k, xs, rfl, rfl, hH, h1, h2, hz, q⟩ := h
 cases rx
 obtain ⟨t, rfl⟩ := ry
 obtain ⟨z, its, n, r, hl, e⟩ := I.lstM hH
 have hlen : its.toArray.size * k.toNat ≤ sizeLine := by rw [List.size_toArray, ← hl]; exact hz
 have hcap : ¬ its.toArray.size * k.toNat > (2 ^ 63 - 1) / 8 := by
  have : (sizeLine : Nat) ≤ (2 ^ 63 - 1) / 8 := by decide
  omega
 have hfit : ¬ (!Builtin.List.listFitsIndex k) = true := by
  rw [fitsIndex_both h1 h2]
  exact Bool.false_ne_true
 have hlong : ¬ Builtin.List.listTooLong (its.toArray.size * k.toNat) = true := by
  rw [notLongL hlen]
  exact Bool.false_ne_true
 have hnew : List.foldl (fun x1 x2 => x1 ++ x2) #[] (List.replicate (if its.toArray.isEmpty = true then 0 else k.toNat) its.toArray) = (List.replicate k.toNat its).flatten.toArray := by
  have f0 : ∀ m : Nat, List.foldl (fun x1 x2 => x1 ++ x2) #[] (List.replicate m its.toArray) = (List.replicate m its).flatten.toArray := fun m => by
   have := foldl_rep its m []
   rw [List.nil_append] at this
   exact this
  rw [f0]
  cases its with
  | nil => simp
  | cons a r' => rw [if_neg (by simp)]
 refine wpAny_binaryOp_repeat_ref (T := "list") (U := "int") (by decide) ⟨_, e, rfl⟩ (fun s' => typeIs_int s' k t) noFill_list_mul F.fills_int_mul F.slot_int_rmul repeat_list F.slot_int_index.lookup
  (call_meets F.slot_int_rmul (typeIs_int s k t) F.entry_int_rmul (F.args_int_rmul_2 _ _) (int___rmul___int_list k t l its.toArray n)
   ⟨e, rfl, ⟨_, e, rfl⟩, call_meets F.slot_list_mul ⟨_, e, rfl⟩ F.entry_list_mul (F.args_list_mul_2 _ _) (AutoListH.list___mul___list_int_3 l its.toArray n k t hfit hcap hlong) ⟨e, ?_⟩⟩)
 rw [hnew]
 exact ⟨.ref _, _, I.lnew (t' := s.toks) (r.rep k.toNat) (by rw [len_rep, Nat.mul_comm]; exact hz), rfl, q _ I.fresh⟩
end
section
variable {prog : Program} {w : World} {A : Around} {E : Value → Shared → Prop} {s : Shared}
end
section
variable {X : Cx}
end
end L2
namespace Att
open PySem PySem.W PySem.Calls PyProof.Rows
theorem ints_of_wellAll {P : Params} {h : Heap} : ∀ (ns : List Int) (vs : List Value), WellAll P h vs (ns.map WData.int) → IntsAre vs ns := by
 intro ns
 induction ns with
 | nil =>
  intro vs w
  rw [List.map_nil] at w
  cases w
  exact .nil
 | cons n ns ih =>
  intro vs w
  rw [List.map_cons] at w
  cases w with
  | cons a b =>
   cases a
   exact .cons _ _ (ih _ b)
theorem script_of {l : OpenLaw} {n : Nat} (hn : l.most = some n) {P : Params} {h : Heap} {args : List WData} {vals : List Value}
    (hpre : l.row.toRowW.claim.pre args = true) (hwl : WellAll P h vals args) :
    ∃ a vs ns, vals = [Value.ref a] ∧ args = [WData.list (ns.map WData.int)] ∧ h.get? a = some { cls := .type "list", data := .seq vs.toArray } ∧ IntsAre vs ns ∧ ns.length ≤ n := by
  have hsh : WShape.hasAll [] args [.list .int] = true := (pre_splitW hpre).1
  have hc : l.pre.holds [] { args := args } = true := (pre_splitW hpre).2
  obtain ⟨d, r, rfl, h1, h2⟩ := hasAllW_cons hsh
  obtain rfl := hasAllW_nil h2
  obtain ⟨xs, rfl, h3⟩ := hasW_list h1
  obtain ⟨ns, rfl⟩ := items_int h3
  have hlen : ns.length ≤ n := by
    unfold OpenLaw.pre at hc
    have h4 : (WTm.not (.lt (.lit (.int (n : Int))) (.len (.arg 0)))).holds [] { args := [.list (ns.map .int)] } = true := by
      have h4 := (holds_andW hc).1
      rw [hn] at h4
      exact h4
    have h5 := condW_of h4 (w_not (w_lt w_lit (w_len_list (w_arg rfl))))
    rw [List.length_map] at h5
    refine Nat.le_of_not_lt fun q => ?_
    have q' : (n : Int) < ((ns.length : Nat) : Int) := by omega
    first
      | (rw [decide_eq_true q'] at h5; exact absurd h5 (by decide))
      | (simp at h5; omega)
  cases hwl with
  | cons w1 w2 =>
    cases w2
    cases w1 with
    | list ho hall => exact ⟨_, _, ns, rfl, rfl, ho, ints_of_wellAll ns _ hall, hlen⟩
theorem post_true (l : OpenLaw) (args : List WData) : l.row.toRowW.claim.post args (.bool true) args = true :=
 postW_of (r := l.row.toRowW) (X := (true == true))
  (show WShape.has [] (.bool true) .bool = true by first | rfl | decide | simp [WShape.has, WShape.arms, WShape.armsAll])
  (show (WTm.eq .res (.lit (.bool true))).value [] { args := args, res := some (.bool true), after := args } = some (.bool (true == true)) from w_eq_bool (w_res rfl) w_lit) rfl
section
variable {prog : Program} {w : World} {A : Around} {E : Value → Shared → Prop} {s : Shared} {K : Frag}
end
end Att
namespace L2
open PySem PySem.Spec PyProof.Rows
theorem vals_ints : ∀ {vs : List Value} {ns : List Int}, IntsAre vs ns → Vals (ns.map V.int) vs
 | _, _, .nil => .nil
 | _, _, .cons n t h => .cons ⟨t, rfl⟩ (vals_ints h)
end L2
namespace L2
open PySem PySem.Spec PyProof.Rows
end L2
namespace L2
open PySem PySem.Spec PyProof.Rows
noncomputable def defArgs (s : Stmt) : Arguments := match s with
 | .FunctionDef _ a _ _ _ _ _ _ _ _ => a
 | _ => { posonlyargs := [], args := [], vararg := none, kwonlyargs := [], kw_defaults := [], kwarg := none, defaults := [] }
noncomputable def defBody (s : Stmt) : List Stmt := match s with
 | .FunctionDef _ _ b _ _ _ _ _ _ _ => b
 | _ => []
noncomputable def defScope (s : Stmt) : Scope := match s with
 | .FunctionDef _ _ _ _ _ _ sc _ _ _ => sc
 | _ => { kind := .function, names := [], isGenerator := false, isCoroutine := false }
noncomputable abbrev CX0 : CXT := fun _ _ _ _ _ _ => False
noncomputable abbrev E0 : XK := fun _ _ _ => False
theorem pass0 {X : Cx} : Passes CX0 X E0 := fun _ _ _ _ _ _ _ h => h.elim
section
variable {P : Program} {w : World} {K : PySem.W.Frag} {mg : Str → Option Value} {base : Heap}
end
section
variable {X : Cx}
theorem pv (i : Nat) {x : Str} {pos : Pos} (hN : X.N[i]? = some x := by rfl) (hv : Vis X.env.scope x := by first | exact Or.inl rfl | exact Or.inr (Or.inl rfl) | exact Or.inr (Or.inr rfl)) (hd : (x == ("__debug__" : Str)) = false := by decide)
  (hcd : (x == ("__classdict__" : Str)) = false := by decide) : PE X (.Name x pos) (tVar i) := pe_var hN hv hd hcd
end
theorem iteF {A B : Prop} (h : B) : if false = true then A else B := by
 rw [if_neg Bool.false_ne_true]
 exact h
theorem iteT {A B : Prop} (h : A) : if true = true then A else B := by
 rw [if_pos rfl]
 exact h
theorem ite2 {c A B : Prop} [Decidable c] (h1 : c → A) (h2 : ¬ c → B) : if c then A else B := by
 by_cases h : c
 ·rw [if_pos h]
  exact h1 h
 ·rw [if_neg h]
  exact h2 h
noncomputable def Same (H H' : Hp) : Prop := ∀ b o, H b = some o → H' b = some o
theorem Same.refl (H : Hp) : Same H H := fun _ _ h => h
theorem Same.trans {H H1 H2 : Hp} (a : Same H H1) (b : Same H1 H2) : Same H H2 := fun c o h => b c o (a c o h)
theorem Same.free {H H' : Hp} (e : Same H H') {l : Addr} (h : H' l = Option.none) : H l = Option.none := by
 cases q : H l with
 | none => rfl
 | some o =>
  rw [e l o q] at h
  cases h
theorem Same.seq {K : PySem.W.Frag} {H H' : Hp} {a : Addr} {xs : List V} (e : Same H H') (h : SqL K H a xs) : SqL K H' a xs := by
 rcases h with (h | ⟨o, h⟩) | h
 ·exact .inl (.inl (e _ _ h))
 ·exact .inl (.inr ⟨o, e _ _ h⟩)
 ·exact .inr h
end L2
namespace C5
open PySem
section
variable {M : Model} {A : Around} {E : Value → Shared → Prop} {s : Shared}
noncomputable def clGo (env : Env) : List (Str × NameKind) → List (Str × Addr) → List (Str × Addr)
  | [], cs => cs
  | (n, k) :: r, cs => clGo env r (if k == .free then (n, (env.cells.lookup n).getD 0) :: cs else cs)
theorem clGo_cons (env : Env) (n : Str) (k : NameKind) (r : List (Str × NameKind)) (cs : List (Str × Addr)) : clGo env ((n, k) :: r) cs = clGo env r (if k == .free then (n, (env.cells.lookup n).getD 0) :: cs else cs) := rfl
noncomputable def clOf (sc : Scope) (env : Env) : List (Str × Addr) := clGo env sc.names []
theorem clGo_run {env : Env} (f : Str × NameKind → List (Str × Addr) → Sem (ForInStep (List (Str × Addr))))
    (hf : ∀ n k cs, f (n, k) cs = if k == .free then (do let a ← cellOf env n; pure (.yield ((n, a) :: cs))) else pure (.yield cs)) :
    ∀ (l : List (Str × NameKind)) (cs : List (Str × Addr)), (∀ y ∈ l, y.2 = .free → ∃ c, env.cells.lookup y.1 = some c) → forIn l cs f = pure (clGo env l cs)
  | [], cs, _ => by rw [List.forIn_nil]; rfl
  | (n, k) :: r, cs, h => by
    rw [List.forIn_cons, hf]
    have hr := fun cs' => clGo_run f hf r cs' fun y hy => h y (List.mem_cons_of_mem _ hy)
    cases hk : k == NameKind.free with
    | false =>
      simp only [Bool.false_eq_true, if_false, pure_bind]
      rw [hr, clGo_cons, hk]; rfl
    | true =>
      obtain ⟨c, hc⟩ := h (n, k) List.mem_cons_self (by simpa using hk)
      have hc' : cellOf env n = pure c := by
        unfold cellOf
        rw [show env.cells.lookup n = some c from hc]
      simp only [if_true, hc', pure_bind]
      rw [hr, clGo_cons, hk, show env.cells.lookup n = some c from hc]; rfl
theorem clos_of {sc : Scope} {env : Env} (h : ∀ y ∈ sc.names, y.2 = .free → ∃ c, env.cells.lookup y.1 = some c) : closureFor sc env = pure (clOf sc env) := by
 unfold closureFor clOf
 dsimp only
 rw [clGo_run (env := env) _ (fun n k cs => by cases hk : k == NameKind.free <;> simp [hk]) sc.names [] h]
 exact pure_bind _ _
theorem clGo_mem {env : Env} : ∀ (l : List (Str × NameKind)) (cs : List (Str × Addr)) (x : Str) (c : Addr), (x, c) ∈ clGo env l cs → (x, c) ∈ cs ∨ ((x, NameKind.free) ∈ l ∧ c = (env.cells.lookup x).getD 0)
  | [], cs, x, c, h => .inl h
  | (n, k) :: r, cs, x, c, h => by
    unfold clGo at h
    rcases clGo_mem r _ x c h with h | ⟨h, e⟩
    · cases hk : k == NameKind.free with
      | false => rw [hk, if_neg Bool.false_ne_true] at h; exact .inl h
      | true =>
        rw [hk, if_pos rfl] at h
        have hk' : k = .free := by simpa using hk
        rcases List.mem_cons.mp h with e | h
        · cases e; subst hk'; exact .inr ⟨List.mem_cons_self, rfl⟩
        · exact .inl h
    · exact .inr ⟨List.mem_cons_of_mem _ h, e⟩
theorem clGo_keep {env : Env} : ∀ (l : List (Str × NameKind)) (cs : List (Str × Addr)) (p : Str × Addr), p ∈ cs → p ∈ clGo env l cs
  | [], _, _, h => h
  | (n, k) :: r, cs, p, h => by
    unfold clGo
    refine clGo_keep r _ p ?_
    split
    · exact List.mem_cons_of_mem _ h
    · exact h
theorem clGo_has {env : Env} : ∀ (l : List (Str × NameKind)) (cs : List (Str × Addr)) (x : Str), (x, NameKind.free) ∈ l → (x, (env.cells.lookup x).getD 0) ∈ clGo env l cs
  | (n, k) :: r, cs, x, h => by
    unfold clGo
    rcases List.mem_cons.mp h with e | h
    · cases e
      refine clGo_keep r _ _ ?_
      simp
    · exact clGo_has r _ x h
theorem lookup_of_mem {α : Type} : ∀ {l : List (Str × α)} {x : Str} {c : α}, (x, c) ∈ l → (∀ c', (x, c') ∈ l → c' = c) → l.lookup x = some c
  | (k, v) :: r, x, c, h, u => by
    rw [List.lookup_cons]
    cases hb : x == k with
    | true =>
      have e := beq_iff_eq.mp hb
      subst e
      rw [u v List.mem_cons_self]
    | false =>
      rcases List.mem_cons.mp h with e | h
      · cases e; simp at hb
      · exact lookup_of_mem h fun c' h' => u c' (List.mem_cons_of_mem _ h')
theorem clOf_sub {sc : Scope} {env : Env} (h : ∀ y ∈ sc.names, y.2 = .free → ∃ c, env.cells.lookup y.1 = some c) {x : Str} {c : Addr} (e : (clOf sc env).lookup x = some c) :
  env.cells.lookup x = some c ∧ (x, NameKind.free) ∈ sc.names := by
 rcases clGo_mem sc.names [] x c (mem_of_lookup e) with z | ⟨z, q⟩
 ·exact absurd z (by simp)
 ·obtain ⟨c', hc⟩ := h _ z rfl
  have hc : env.cells.lookup x = some c' := hc
  rw [hc] at q
  exact ⟨by rw [hc, q]; rfl, z⟩
theorem clOf_has {sc : Scope} {env : Env} {x : Str} (e : (x, NameKind.free) ∈ sc.names) : (clOf sc env).lookup x = some ((env.cells.lookup x).getD 0) :=
 lookup_of_mem (clGo_has sc.names [] x e) fun c' h' => by
  rcases clGo_mem sc.names [] x c' h' with z | ⟨_, q⟩
  ·exact absurd z (by simp)
  ·exact q
theorem cellsFrom_app : ∀ (names : List (Str × NameKind)) (n : Nat) (acc : List (Str × Addr)), cellsFrom n names acc = cellsFrom n names [] ++ acc
  | [], _, _ => rfl
  | (x, k) :: r, n, acc => by
    unfold cellsFrom
    split
    · rw [cellsFrom_app r (n + 1) ((x, n) :: acc), cellsFrom_app r (n + 1) [(x, n)]]; simp
    · exact cellsFrom_app r n acc
theorem cellsFrom_key : ∀ (names : List (Str × NameKind)) (n : Nat) (x : Str) (c : Addr), (x, c) ∈ cellsFrom n names [] → (x, NameKind.cell) ∈ names
  | [], _, _, _, h => by simp [cellsFrom] at h
  | (y, k) :: r, n, x, c, h => by
    unfold cellsFrom at h
    split at h
    · rename_i hk
      have hk' : k = .cell := by simpa using hk
      rw [cellsFrom_app] at h
      rcases List.mem_append.mp h with h | h
      · exact List.mem_cons_of_mem _ (cellsFrom_key r _ x c h)
      · have e : (x, c) = (y, n) := by simpa using h
        cases e; subst hk'; exact List.mem_cons_self
    · exact List.mem_cons_of_mem _ (cellsFrom_key r _ x c h)
noncomputable def bkEnv (sc : Scope) (cl : List (Str × Addr)) (C : Addr) (env : Env) : Env :=
 { scope := relabel sc env, locals := C, globals := env.globals, cells := cellsFrom (C + 1) sc.names cl, qual := env.qual, func := none, code := env.code, frame := env.frame, builtins := env.builtins }
theorem newBlock {sc : Scope} {cl : List (Str × Addr)} {env : Env} {Q : Env → Shared → Prop}
  (h : Q (newEnv sc s.heap.objs.size env.globals (cellsFrom (s.heap.objs.size + 1) sc.names cl) env.qual none .none (some env) builtinsNs) { s with heap := pushCells (s.heap.push { cls := .type "dict", data := .dict #[] }) sc.names }) :
  wpAny M A (newFunctionEnv sc env.globals cl [] env.qual none .none (some env)) Q E s := by
 simp only [newFunctionEnv, Option.isSome_some, if_true]
 refine wpAny_bind (wpAny_alloc ?_)
 refine wpAny_bind (wpAny_layCells _ (fun name kind cells => by cases hkc : kind == NameKind.cell <;> simp [hkc]) _ _ _ _ ?_)
 rw [show ({ s with heap := s.heap.push { cls := .type "dict", data := .dict #[] } } : Shared).heap.objs.size = s.heap.objs.size + 1 from Heap.size_push ..]
 rw [List.forIn_nil]
 exact wpAny_bind (wpAny_pure (wpAny_pure h))
theorem relabel_cell {sc : Scope} {env : Env} : ∀ {l : List (Str × NameKind)} {x : Str},
    (l.map fun (n, k) => if (k == NameKind.free && env.scope.kind == .function && env.kindOf n == some .cell) then (n, NameKind.cell) else (n, k)).lookup x = some .cell → l.lookup x = some .cell ∨ l.lookup x = some .free
  | [], x, h => by simp at h
  | (n, k) :: r, x, h => by
    rw [List.map_cons] at h
    rw [List.lookup_cons]
    cases hx : x == n with
    | true =>
      dsimp only at h
      split at h
      · rename_i hc
        rw [Bool.and_eq_true, Bool.and_eq_true] at hc
        have : k = .free := by simpa using hc.1.1
        rw [this]; exact .inr rfl
      · simp only [List.lookup_cons, hx] at h
        exact .inl h
    | false =>
      refine relabel_cell (sc := sc) (env := env) (l := r) ?_
      dsimp only at h
      split at h <;> simpa only [List.lookup_cons, hx] using h
theorem relabel_free {env : Env} : ∀ {l : List (Str × NameKind)} {x : Str},
    (l.map fun (n, k) => if (k == NameKind.free && env.scope.kind == .function && env.kindOf n == some .cell) then (n, NameKind.cell) else (n, k)).lookup x = some .free → l.lookup x = some .free
  | [], x, h => by simp at h
  | (n, k) :: r, x, h => by
    rw [List.map_cons] at h
    rw [List.lookup_cons]
    cases hx : x == n with
    | true =>
      dsimp only at h
      split at h
      · simp only [List.lookup_cons, hx] at h
        cases h
      · simp only [List.lookup_cons, hx] at h
        exact h
    | false =>
      refine relabel_free (env := env) (l := r) ?_
      dsimp only at h
      split at h <;> simpa only [List.lookup_cons, hx] using h
theorem relabel_of_free {env : Env} : ∀ {l : List (Str × NameKind)} {x : Str}, l.lookup x = some .free →
    (l.map fun (n, k) => if (k == NameKind.free && env.scope.kind == .function && env.kindOf n == some .cell) then (n, NameKind.cell) else (n, k)).lookup x = some .cell ∨
    (l.map fun (n, k) => if (k == NameKind.free && env.scope.kind == .function && env.kindOf n == some .cell) then (n, NameKind.cell) else (n, k)).lookup x = some .free
  | [], x, h => by simp at h
  | (n, k) :: r, x, h => by
    rw [List.map_cons]
    rw [List.lookup_cons] at h
    cases hx : x == n with
    | true =>
      rw [hx] at h
      cases h
      dsimp only
      split
      · exact .inl (by simp only [List.lookup_cons, hx])
      · exact .inr (by simp only [List.lookup_cons, hx])
    | false =>
      rw [hx] at h
      have := relabel_of_free (env := env) (l := r) h
      dsimp only
      split <;> simpa only [List.lookup_cons, hx] using this
end
section
variable {prog : Program} {w : World} {A : Around} {R : Result → Shared → Prop} {s : Shared}
theorem compLoop_go {elt target iter : Expr} {ifs : List Expr} {scope : Scope} {pos : Pos} {it acc : Value} {env : Env} (I : Nat → Shared → Prop)
  (turn : ∀ n s, I n s → wpAny (model prog w) A (pyNext it) (fun r s₁ => match r with
   | none => R (.ok .next) s₁
   | some v => wpAny (model prog w) A (letOwnedTupleGo target it v) (fun _ s₁' => wpAny (model prog w) A (assign target env v) (fun _ s₂ =>
     wpAny (model prog w) A (forIn ifs true fun c r => if r = true then do let ok ← isTrue c env (eval c env); pure (ForInStep.yield ok) else pure (ForInStep.yield r)) (fun ok s₃ =>
      if ok = true then wpAny (model prog w) A (eval elt env) (fun x s₄ =>
       wpAny (model prog w) A (call (.builtin "list.append") [acc, x]) (fun _ s₅ => ∃ m, m < n ∧ I m s₅) (fun _ _ => False) s₄) (fun _ _ => False) s₃
      else ∃ m, m < n ∧ I m s₃) (fun _ _ => False) s₂) (fun _ _ => False) s₁') (fun _ _ => False) s₁) (fun _ _ => False) s)
  (n : Nat) (h : I n s) :
  codeAny (model prog w) A (.compLoop (.ListComp elt [⟨target, iter, ifs, 0⟩] scope pos) 0 it acc env) R s := by
 refine codeAny_loop rfl I (fun n s hI => ?_) n h
 show wpAny _ A ((compTurn (.ListComp elt [⟨target, iter, ifs, 0⟩] scope pos) 0 it acc env).onRaise (fun x => do noteFrame x env; theTreesLotGoes x)) _ _ s
 refine wpAny_noted ?_
 rw [compTurn_list]
 refine wpAny_bind (wpAny_standAt (wpAny_bind (wpAny_mono (turn n s hI) (fun r s₁ h₁ => ?_) fun _ _ h' => h'.elim)))
 cases r with
 | none => exact wpAny_pure h₁
 | some v =>
  refine wpAny_bind (wpAny_mono h₁ (fun _ s₁' h₁' => ?_) fun _ _ h' => h'.elim)
  refine wpAny_bind (wpAny_mono h₁' (fun _ s₂ h₂ => wpAny_bind (wpAny_mono h₂ (fun ok s₃ h₃ => ?_) fun _ _ h' => h'.elim)) fun _ _ h' => h'.elim)
  cases ok with
  | false => exact wpAny_pure ⟨rfl, h₃⟩
  | true =>
   exact wpAny_bind (wpAny_bind (wpAny_mono h₃ (fun x s₄ h₄ => wpAny_bind (wpAny_mono h₄ (fun _ s₅ h₅ => wpAny_pure (wpAny_pure ⟨rfl, h₅⟩)) fun _ _ h' => h'.elim)) fun _ _ h' => h'.elim))
end
end C5
set_option Elab.async false
set_option linter.all false
set_option maxRecDepth 100000
namespace L2
open PySem PySem.Spec PyProof.Rows C5
noncomputable def entry (src : List (Option Nat)) (σ : St) : St := src.map fun o => o.bind fun i => (σ[i]?).join
structure BkScope (so sc : Scope) (No N : List Str) (src : List (Option Nat)) : Prop where
  kind : sc.kind = .function
  free : sc.names.all (fun y => !(y.2 == .free) || (so.names.lookup y.1 == some .cell || so.names.lookup y.1 == some .free)) = true
  uniq : sc.names.all (fun y => sc.names.lookup y.1 == some y.2) = true
  len : src.length = N.length
  src : (src.zip N).all (fun p => match p.1 with | none => true | some i => No[i]? == some p.2 && sc.names.lookup p.2 == some .free) = true
  nd : N.Nodup
noncomputable def cxB (X : Cx) (sc : Scope) (N : List Str) (fp : List Addr) (C : Addr) (s : Shared) (H : Hp) : Cx :=
 { X with N := N, s₀ := s, H₀ := H, env := bkEnv sc (clOf sc X.env) C X.env, outer := X.stack, stack := X.stack, ex := fp, fn := fun x => sc.names.lookup x == some .cell, pn := [], xe := fun _ _ => False }
section
variable {X : Cx} {pins : List (Addr × Obj)} {σ : St} {H : Hp} {s : Shared} {sc : Scope} {N : List Str} {src : List (Option Nat)}
theorem BkScope.has {so : Scope} {No : List Str} (B : BkScope so sc No N src) (hso : X.env.scope = so) (ok : X.Ok) : ∀ y ∈ sc.names, y.2 = .free → ∃ c, X.env.cells.lookup y.1 = some c := by
 intro y hy hk
 have h := List.all_eq_true.mp B.free y hy
 rw [hk] at h
 simp only [beq_self_eq_true, Bool.not_true, Bool.false_or, Bool.or_eq_true, beq_iff_eq] at h
 rw [← hso] at h
 rcases h with h | h
 ·exact ok.has y.1 (.inl h)
 ·exact ok.has y.1 (.inr h)
theorem BkScope.look {so : Scope} {No : List Str} (B : BkScope so sc No N src) {x : Str} {k : NameKind} (h : (x, k) ∈ sc.names) : sc.names.lookup x = some k := by
 have := List.all_eq_true.mp B.uniq (x, k) h
 simpa using this
theorem lookup_app {α : Type} : ∀ {l r : List (Str × α)} {x : Str} {c : α}, (l ++ r).lookup x = some c → l.lookup x = some c ∨ r.lookup x = some c
  | [], _, _, _, h => .inr h
  | (k, v) :: l, r, x, c, h => by
    rw [List.cons_append, List.lookup_cons] at h
    rw [List.lookup_cons]
    cases hb : x == k with
    | true => rw [hb] at h; exact .inl h
    | false => rw [hb] at h; exact lookup_app h
theorem lookup_app_r {α : Type} : ∀ {l r : List (Str × α)} {x : Str}, (∀ c, (x, c) ∉ l) → (l ++ r).lookup x = r.lookup x
  | [], _, _, _ => rfl
  | (k, v) :: l, r, x, h => by
    rw [List.cons_append, List.lookup_cons]
    have hb : (x == k) = false := beq_eq_false_iff_ne.mpr fun e => h v (by rw [e]; exact List.mem_cons_self)
    rw [hb]
    exact lookup_app_r fun c hc => h c (List.mem_cons_of_mem _ hc)
theorem Inv.block {fp : List Addr} {h1 : Heap} {C : Nat} {t : Nat} (I : Inv X pins σ H s) (B : BkScope X.env.scope sc X.N N src) (hf : ∀ b ∈ fp, FpOk X pins H b) (hlt : ∀ b ∈ fp, b < s.heap.objs.size)
  (hC : C = s.heap.objs.size + 1) (e1 : h1 = pushCells ((s.heap.push { cls := .type "list", data := .seq #[] }).push { cls := .type "dict", data := .dict #[] }) sc.names) :
  Inv (cxB X sc N fp C s H) [] (entry src σ) (upd H s.heap.objs.size (.lst [])) { s with heap := h1, toks := t } := by
 have has := B.has rfl I.ok
 have szL : (s.heap.push { cls := .type "list", data := .seq #[] } : Heap).objs.size = C := by rw [Heap.size_push, hC]
 have szD : ((s.heap.push { cls := .type "list", data := .seq #[] }).push { cls := .type "dict", data := .dict #[] } : Heap).objs.size = C + 1 := by rw [Heap.size_push, szL]
 have own := cellsFrom_ok sc.names ((s.heap.push { cls := .type "list", data := .seq #[] }).push { cls := .type "dict", data := .dict #[] }) (C + 1) [] ⟨fun _ _ hm => (nomatch hm), List.Pairwise.nil⟩ (by rw [szD]; exact Nat.le_refl _)
 rw [szD, ← e1] at own
 have keep0 : ∀ b o, ((s.heap.push { cls := .type "list", data := .seq #[] }).push { cls := .type "dict", data := .dict #[] } : Heap).get? b = some o → h1.get? b = some o := fun b o e => by rw [e1]; exact pushCells_keeps _ _ b o e
 have keep : ∀ b o, s.heap.get? b = some o → h1.get? b = some o := fun b o e => keep0 b o (Heap.get?_push_of_some _ (Heap.get?_push_of_some _ e))
 have atD : h1.get? s.heap.objs.size = some { cls := .type "list", data := .seq #[] } := keep0 _ _ (Heap.get?_push_of_some _ (Heap.get?_push_size _ rfl))
 have nsC : h1.Ns C (fun _ => none) := by
  have q := Heap.Ns.new (s.heap.push { cls := .type "list", data := .seq #[] }) (.type "dict")
  rw [szL] at q
  exact q.keeps keep0
 have fresh : ∀ b, s.heap.objs.size ≤ b → H b = none := fun b hb => I.hok.fresh hb
 have cells : ∀ x c, (cellsFrom (C + 1) sc.names (clOf sc X.env)).lookup x = some c →
   ((x, c) ∈ cellsFrom (C + 1) sc.names [] ∧ h1.IsCell c none ∧ C + 1 ≤ c) ∨ (X.env.cells.lookup x = some c ∧ (x, NameKind.free) ∈ sc.names) := fun x c e => by
  rw [cellsFrom_app] at e
  rcases lookup_app e with e | e
  ·have hm := mem_of_lookup e
   obtain ⟨q1, q2⟩ := own.empty x c hm
   exact .inl ⟨hm, q1, q2⟩
  ·exact .inr (clOf_sub has e)
 have cellLt : ∀ x c, X.env.cells.lookup x = some c → @LT.lt Nat instLTNat c s.heap.objs.size := fun x c e => by
  obtain ⟨v, z⟩ := I.cell x c e
  exact z.lt
 have freeIn : ∀ x, (x, NameKind.free) ∈ sc.names → (cellsFrom (C + 1) sc.names (clOf sc X.env)).lookup x = X.env.cells.lookup x := fun x hx => by
  rw [cellsFrom_app, lookup_app_r (fun c hc => ?_), clOf_has hx]
  ·obtain ⟨c, hc⟩ := has _ hx rfl
   have hc : X.env.cells.lookup x = some c := hc
   rw [hc]; rfl
  ·have k1 := B.look (cellsFrom_key sc.names _ x c hc)
   have k2 := B.look hx
   rw [k1] at k2; cases k2
 have ex : (cxB X sc N fp C s H).ex = fp := rfl
 refine ⟨⟨I.ok.mod, B.kind, I.ok.glob, I.ok.blt, ?_, ?_, ?_, ?_, I.ok.hd, I.ok.frames, .inl rfl, ?_, I.bs, Nat.le_trans I.ok.bsz I.sz, ?_, ?_, I.stack, I.stkFree⟩, rfl, I.bare, Un.laid keep (Nat.le_refl _) (fresh _ (Nat.le_refl _)), ?_, ?_, ?_, ?_, ?_, ?_, ?_⟩
 ·-- above
  show s.heap.objs.size ≤ C
  omega
 ·-- inj
  intro x y c h1' h2'
  rcases cells x c h1' with ⟨m1, _, g1⟩ | ⟨e1', _⟩
  ·rcases cells y c h2' with ⟨m2, _, _⟩ | ⟨e2', _⟩
   ·exact name_of_addr own.apart m1 m2
   ·have := cellLt y c e2'; omega
  ·rcases cells y c h2' with ⟨_, _, g2⟩ | ⟨e2', _⟩
   ·have := cellLt x c e1'; omega
   ·exact I.ok.inj x y c e1' e2'
 ·-- has
  intro x hx
  show ∃ c, (cellsFrom (C + 1) sc.names (clOf sc X.env)).lookup x = some c
  have hx' : sc.names.lookup x = some .cell ∨ sc.names.lookup x = some .free := by
   rcases hx with hx | hx
   ·exact relabel_cell (sc := sc) (env := X.env) hx
   ·exact .inr (relabel_free (env := X.env) hx)
  rcases hx' with hx' | hx'
  ·exact Option.isSome_iff_exists.mp (PySem.W.cellsFrom_some sc.names (C + 1) (clOf sc X.env) (.inl hx'))
  ·rw [freeIn x (PySem.mem_of_lookup hx')]
   exact has _ (PySem.mem_of_lookup hx') rfl
 ·-- cab
  intro x c hfn hc
  have hfn' : sc.names.lookup x = some .cell := by simpa [cxB] using hfn
  show s.heap.objs.size ≤ c
  rcases cells x c hc with ⟨_, _, g⟩ | ⟨_, hfr⟩
  ·omega
  ·have := B.look hfr
   rw [hfn'] at this; cases this
 ·-- exf
  intro b hb
  rw [ex] at hb
  have hb' : @LT.lt Nat instLTNat b s.heap.objs.size := hlt b hb
  obtain ⟨f0, f1, f2, f3, f4, f5⟩ := hf b hb
  refine ⟨Nat.ne_of_lt (show @LT.lt Nat instLTNat b C by omega), fun x c hc => ?_⟩
  rcases cells x c hc with ⟨_, _, g⟩ | ⟨e, _⟩
  ·exact Nat.ne_of_gt (show @LT.lt Nat instLTNat b c by omega)
  ·exact f4 x c e
 ·-- noex
  intro b o e hb
  rw [ex] at hb
  obtain ⟨f0, f1, f2, f3, f4, f5⟩ := hf b hb
  rcases f3 with f3 | f3
  ·exact I.ok.noex b o e f3
  ·exact absurd (Nat.lt_of_lt_of_le (Heap.lt_size e) (Nat.le_trans I.ok.bsz f3)) (Nat.lt_irrefl _)
 ·-- exfs
  intro b hb hb2
  rw [ex] at hb
  obtain ⟨f0, f1, f2, f3, f4, f5⟩ := hf b hb
  rcases List.mem_cons.mp (I.stkSub b hb2) with z | z
  ·exact f1 z
  ·exact f2 z
 ·-- loc
  refine ⟨fun _ => none, nsC, fun j x v hj hv _ => ?_⟩
  have hj : N[j]? = some x := hj
  unfold entry at hv
  rw [List.getElem?_map] at hv
  cases hs : src[j]? with
  | none => rw [hs] at hv; cases hv
  | some o =>
   rw [hs] at hv
   cases o with
   | none => cases hv
   | some i =>
    have hv : ((σ[i]?).join) = some v := by simpa using hv
    have hm : (some i, x) ∈ src.zip N := by
     rw [List.mem_iff_getElem?]
     exact ⟨j, by rw [List.getElem?_zip_eq_some]; exact ⟨hs, hj⟩⟩
    have q := List.all_eq_true.mp B.src _ hm
    simp only [Bool.and_eq_true, beq_iff_eq] at q
    obtain ⟨q1, q2⟩ := q
    have hfr := PySem.mem_of_lookup q2
    have hσ : σ[i]? = some (some v) := by
     cases e : σ[i]? with
     | none => rw [e] at hv; cases hv
     | some u => rw [e] at hv; cases u with
      | none => cases hv
      | some w' => cases hv; rfl
    obtain ⟨m, hn, hl⟩ := I.loc
    have hso := List.all_eq_true.mp B.free _ hfr
    simp only [beq_self_eq_true, Bool.not_true, Bool.false_or, Bool.or_eq_true, beq_iff_eq] at hso
    have hvis : Vis X.env.scope x := by
     rcases hso with z | z
     ·exact .inr (.inl z)
     ·exact .inr (.inr z)
    obtain ⟨u, ru, lk⟩ := hl i x v q1 hσ hvis
    refine ⟨u, ru, .inr ⟨?_, ?_⟩⟩
    ·exact relabel_of_free (env := X.env) q2
    ·rcases lk with ⟨kk, _⟩ | ⟨_, c, hc, hcell⟩
     ·have kk : X.env.scope.names.lookup x = some .local := kk
      rcases hso with z | z
      ·rw [kk] at z; cases z
      ·rw [kk] at z; cases z
     ·refine ⟨c, ?_, hcell.keeps keep⟩
      show (cellsFrom (C + 1) sc.names (clOf sc X.env)).lookup x = some c
      rw [freeIn x hfr]; exact hc
 ·-- cell
  intro x c hc
  rcases cells x c hc with ⟨_, g, _⟩ | ⟨e, _⟩
  ·exact ⟨none, g⟩
  ·obtain ⟨v, z⟩ := I.cell x c e
   exact ⟨v, z.keeps keep⟩
 ·-- free
  show upd H s.heap.objs.size (.lst []) C = none
  rw [upd_ne (Nat.ne_of_gt (show @LT.lt Nat instLTNat s.heap.objs.size C by omega))]
  exact fresh _ (show @LE.le Nat instLENat s.heap.objs.size C by omega)
 ·-- freeC
  intro x c hc
  rcases cells x c hc with ⟨_, _, g⟩ | ⟨e, _⟩
  ·rw [upd_ne (Nat.ne_of_gt (show @LT.lt Nat instLTNat s.heap.objs.size c by omega))]; exact fresh _ (show @LE.le Nat instLENat s.heap.objs.size c by omega)
  ·rw [upd_ne (Nat.ne_of_lt (cellLt x c e))]; exact I.freeC x c e
 ·-- pin
  intro p hp
  exact absurd (show p ∈ ([] : List (Addr × Obj)) from hp) (by simp)
 ·-- hok
  refine I.hok.laid keep (Nat.le_refl _) ?_
  exact ⟨Nat.zero_le _, [], 0, .nil, atD⟩
 ·-- len
  unfold entry
  rw [List.length_map]
  exact B.len
noncomputable def PTs (X : Cx) (ifs : List Expr) (t : TT) : Prop :=
 ∀ (pins : List (Addr × Obj)) (s : Shared) (σ : St) (H : Hp) (Q : Bool → Hp → Prop), Inv X pins σ H s → t σ H Q →
  wpAny (model X.prog X.w) X.A (forIn ifs true fun c r => if r = true then do let ok ← isTrue c X.env (eval c X.env); pure (ForInStep.yield ok) else pure (ForInStep.yield r)) (TP X pins σ Q) X.xe s
noncomputable def tTrue : TT := fun _ H Q => Q true H
theorem pts_nil : PTs X [] tTrue := fun _ _ _ H _ I h => wpAny_tests_nil ⟨H, I, h⟩
theorem pts_one {c : Expr} {t : TT} (h : PT X c t) : PTs X [c] t := fun pins s σ H Q I hw => wpAny_tests_one (h pins s σ H Q I hw)
noncomputable def tComp (src : List (Option Nat)) (wi : TI) (g : TG) (tt : TT) (te : TE) : TE := fun σ H Q => wi σ H fun J H1 => ∀ D, H1 D = none →
 ∃ W : Nat → Nat → St → Hp → Prop, (∃ m, W 0 m (entry src σ) (upd H1 D (.lst []))) ∧ ∀ i m σ' H', W i m σ' H' →
  (J.stop i H' ∧ Q (.ref D) H') ∨ (J.go i H' ∧ ∃ N : St → Hp → Prop, (∀ σ2 H2, N σ2 H2 → ∃ m', m' < m ∧ W (i + 1) m' σ2 H2) ∧ ∀ x H2, J.yld i H' x H2 → g x σ' H2 fun σ3 H3 => tt σ3 H3 fun b H4 =>
   if b = true then te σ3 H4 fun v H5 => ∃ xs, H5 D = some (.lst xs) ∧ xs.length < sizeLine ∧ N σ3 (upd H5 D (.lst (xs ++ [v]))) else N σ3 H4)
theorem pe_comp {elt tgt iter : Expr} {ifs : List Expr} {wi : TI} {g : TG} {tt : TT} {te : TE} {pos : Pos} (hc : X.calm = true) (B : BkScope X.env.scope sc X.N N src) (hi : PI X tgt iter wi)
  (hg : ∀ (s : Shared) (H : Hp) (C : Addr) (fp : List Addr), PG (cxB X sc N fp C s H) tgt g) (ht : ∀ (s : Shared) (H : Hp) (C : Addr) (fp : List Addr), PTs (cxB X sc N fp C s H) ifs tt)
  (he : ∀ (s : Shared) (H : Hp) (C : Addr) (fp : List Addr), PE (cxB X sc N fp C s H) elt te) (hs : ∀ x, foldedSetIterable iter X.env x = pure x := by intro _; rfl) :
  PE X (.ListComp elt [⟨tgt, iter, ifs, 0⟩] sc pos) (tComp src wi g tt te) := by
 intro pins s σ H Q I h
 rw [eval_ListComp]
 have has := B.has rfl I.ok
 refine wpAny_comprehension_free (use := none) rfl hs (clos_of has) B.kind (fun y hy hk => by have := B.look (x := y.1) (k := y.2) hy; rw [hk] at this; exact this)
  (thn (hi pins s σ H _ I h) fun v s1 h1 => thn h1 fun itv s2 h2 => ?_)
 obtain ⟨it, fp, tn, J, H2, e, I2, T, st2, f2, q⟩ := h2
 subst e
 refine wpAny_newObj_type (newBlock ?_)
 obtain ⟨W, ⟨m0, w0⟩, turn⟩ := q s2.heap.objs.size (I2.hok.fresh (Nat.le_refl _))
 have hlt : ∀ b ∈ fp, b < s2.heap.objs.size := fun b hb => by
  obtain ⟨o, ho, _⟩ := T.obj 0 _ st2 b hb
  exact Heap.lt_size ho
 have szL : (s2.heap.push { cls := .type "list", dict := none, data := .seq ([] : List Value).toArray } : Heap).objs.size = s2.heap.objs.size + 1 := Heap.size_push ..
 generalize hh1 : pushCells ((s2.heap.push { cls := .type "list", dict := none, data := .seq ([] : List Value).toArray } : Heap).push { cls := .type "dict", data := .dict #[] }) sc.names = hB
 have IB := I2.block (C := (s2.heap.push { cls := .type "list", dict := none, data := .seq ([] : List Value).toArray } : Heap).objs.size) (t := s2.toks) B f2 hlt szL hh1.symm
 generalize (s2.heap.push { cls := .type "list", dict := none, data := .seq ([] : List Value).toArray } : Heap).objs.size = C at IB szL ⊢
 have keepB : ∀ b o, s2.heap.get? b = some o → hB.get? b = some o := fun b o e => by
  rw [← hh1]
  exact pushCells_keeps _ _ b o (Heap.get?_push_of_some _ (Heap.get?_push_of_some _ e))
 have stB : tn 0 hB := T.keep 0 _ _ st2 fun b _ o e => keepB b o e
 have frB : ∀ b ∈ fp, upd H2 s2.heap.objs.size (.lst []) b = none := fun b hb => by
  rw [upd_ne (Nat.ne_of_lt (hlt b hb))]
  exact (f2 b hb).1
 have stat : ∀ {H' : Hp}, (∀ b ∈ fp, H' b = none) → ∀ b ∈ fp, FpOk (cxB X sc N fp C s2 H2) [] H' b := fun {H'} hn b hb => by
  obtain ⟨z1, z2⟩ := IB.ok.exf b hb
  exact ⟨hn b hb, z1, IB.ok.exfs b hb, .inl hb, z2, fun p hp => absurd (show p ∈ ([] : List (Addr × Obj)) from hp) (by simp)⟩
 show codeAny (model X.prog X.w) X.A (.compStart (.ListComp elt [⟨tgt, iter, ifs, 0⟩] sc pos) 0 (.ref it) (.ref s2.heap.objs.size) (bkEnv sc (clOf sc X.env) C X.env)) (compPost (model X.prog X.w) X.A X.xe none (EP X pins σ Q) (.ref s2.heap.objs.size) C) { s2 with heap := hB }
 have loop : codeAny (model X.prog X.w) X.A (.compLoop (.ListComp elt [⟨tgt, iter, ifs, 0⟩] sc pos) 0 (.ref it) (.ref s2.heap.objs.size) (bkEnv sc (clOf sc X.env) C X.env))
   (compPost (model X.prog X.w) X.A X.xe none (EP X pins σ Q) (.ref s2.heap.objs.size) C) { s2 with heap := hB } := by
  refine compLoop_go (fun n s' => ∃ i σ' H', Inv (cxB X sc N fp C s2 H2) [] σ' H' s' ∧ tn i s'.heap ∧ (∀ b ∈ fp, H' b = none) ∧ W i n σ' H') ?_ m0 ⟨0, _, _, IB, stB, frB, w0⟩
  rintro n s3 ⟨i, σ3, H3, I3, st3, fr3, w3⟩
  rcases turn i n σ3 H3 w3 with ⟨stop, qn⟩ | ⟨go, N', hN, step⟩
  ·refine thn (T.done (cxB X sc N fp C s2 H2) rfl rfl rfl hc i [] s3 σ3 H3 _ I3 (stat fr3) st3 stop) fun r s4 ⟨hr, I4⟩ => ?_
   subst hr
   obtain ⟨m, hn, _⟩ := I4.loc
   refine ⟨m, hn, fun h' hs' => ?_⟩
   refine ⟨.ref s2.heap.objs.size, H3, ?_, rfl, qn⟩
   have ltC : ∀ b o, s2.heap.get? b = some o → b ≠ C := fun b o e => Nat.ne_of_lt (show @LT.lt Nat instLTNat b C by have : @LT.lt Nat instLTNat b s2.heap.objs.size := Heap.lt_size e; omega)
   have base := I4.base
   have freeC : H3 C = none := I4.free
   refine I2.call' (s' := { s4 with heap := h' }) (ch := fp) I4.os ⟨fun b o e n hb hx => ?_, fun b o e n hb hx => ?_, base.free, fun b o e hx => ?_, base.tups, base.frzs, base.tbls⟩ (fun b ob e => ?_) I4.bare (fun b hb => ?_)
   ·exact (hs'.2 b (ltC b o e)).trans (base.keep b o e n hb hx)
   ·obtain ⟨sl, e1⟩ := base.slot b o e n hb hx
    exact ⟨sl, (hs'.2 b (ltC b o e)).trans e1⟩
   ·obtain ⟨o', e1⟩ := base.there b o e hx
    exact ⟨o', (hs'.2 b (ltC b o e)).trans e1⟩
   ·refine (I4.hok b ob e).stay (fun c w' hc' q' => (hs'.2 c ?_).trans q') (fun _ q' => q') fun _ _ q' => q'
    intro z
    rcases hc' with z' | z'
    ·rw [← z', z, freeC] at e; cases e
    ·rw [z, freeC] at z'; cases z'
   ·obtain ⟨f0, f1, f2', f3, f4, f5⟩ := f2 b hb
    exact ⟨f3, f1, f4, f5⟩
  ·refine thn (T.item (cxB X sc N fp C s2 H2) rfl rfl rfl hc i [] s3 σ3 H3 _ I3 (stat fr3) st3 go) fun r s4 ⟨u, hr, h4⟩ => ?_
   subst hr
   refine thn h4 fun _ s5 ⟨x, H5, I5, r5, y5, st5, fr5⟩ => ?_
   have I5' := I5.pinned (stat fr5) (T.obj _ _ st5)
   have again : ∀ {s7 : Shared} {σ7 : St} {H7 : Hp}, Inv (cxB X sc N fp C s2 H2) ([] ++ pinsAt fp s5.heap) σ7 H7 s7 → N' σ7 H7 → ∃ m, m < n ∧ ∃ i σ' H', Inv (cxB X sc N fp C s2 H2) [] σ' H' s7 ∧ tn i s7.heap ∧ (∀ b ∈ fp, H' b = none) ∧ W i m σ' H' := fun {s7 σ7 H7} I7 n7 => by
    obtain ⟨m', hm, w7⟩ := hN σ7 H7 n7
    refine ⟨m', hm, i + 1, σ7, H7, I7.unpinned, T.keep _ _ _ st5 fun b hb o e => (I7.pin (b, o) (List.mem_append_right _ (List.mem_append_right _ (mem_pinsAt hb e)))).1, fun b hb => ?_, w7⟩
    obtain ⟨o, e, d⟩ := T.obj _ _ st5 b hb
    exact (I7.pin (b, o) (List.mem_append_right _ (List.mem_append_right _ (mem_pinsAt hb e)))).2.1
   refine thn (hg s2 H2 C fp _ s5 σ3 H5 x u _ I5' r5 (step x H5 y5)) fun _ s6 ⟨σ6, H6, I6, q6⟩ => ?_
   refine thn (ht s2 H2 C fp _ s6 σ6 H6 _ I6 q6) fun b s7 ⟨H7, I7, q7⟩ => ?_
   cases b with
   | false =>
    rw [if_neg Bool.false_ne_true] at q7 ⊢
    exact again I7 q7
   | true =>
    rw [if_pos rfl] at q7 ⊢
    refine thn (he s2 H2 C fp _ s7 σ6 H7 _ I7 q7) fun u8 s8 ⟨v8, H8, I8, r8, xs, hD, hz, n8⟩ => ?_
    exact thn (mt_append (X := cxB X sc N fp C s2 H2) _ s8 σ6 H8 (.ref s2.heap.objs.size) [v8] (.ref s2.heap.objs.size) [u8] (fun _ H => N' σ6 H) I8 rfl (.cons r8 .nil) ⟨_, xs, v8, rfl, rfl, hD, hz, n8⟩) fun _ s9 ⟨_, H9, I9, _, n9⟩ => again I9 n9
 exact codeAny_compStart_list loop (T.self _ 0 _ _ _ stB loop)
end
section
variable {X : Cx}
noncomputable def rAll (K : PySem.W.Frag) : List V → Hp → VK → Prop := fun xs H Q => ∃ (p : Addr) (bs : List Bool), xs = [.ref p] ∧ SqL K H p (bs.map V.bl) ∧ Q (.bl (bs.all id)) H
theorem all_range (bs : List Bool) : ((List.range bs.length).all fun i => bs.getD i false) = bs.all id := by
 induction bs with
 | nil => rfl
 | cons b r ih =>
  rw [List.length_cons, List.range_succ_eq_map, List.all_cons, List.all_map, List.all_cons, ← ih]
  rfl
theorem call_all (hc : X.calm = true) : CallR X (.builtin "all") (rAll X.K) := by
 intro pins s σ H xs us Q I rs h
 obtain ⟨p, bs, rfl, hq, q⟩ := h
 obtain ⟨u, rfl, r1⟩ := vals1 rs
 cases r1
 obtain ⟨its, r, pl, hz⟩ := I.list hq
 have hlen : its.length = bs.length := by have := r.length; rw [List.length_map] at this; exact this.symm
 refine call_function_tree F.kind_all F.plain_all F.entry_all (F.args_all1 _) ?_
 show wpAny _ X.A.in1 (pyIter (.ref p) >>= _) _ _ s
 refine wpAny_bind (wpAny_pyIter_list pl.isList ?_)
 have hne : p ≠ s.heap.objs.size := by
  obtain ⟨o, ho, _⟩ := pl.isList
  exact Nat.ne_of_lt (Heap.lt_size ho)
 refine wpAny_pure ⟨plainId_quiet F.plain_all_loop _, ?_⟩
 refine codeAny_all_loop (Walks.list (A := X.A.in1) (I.ok.hd hc) s.heap.objs.size p hne its.toArray) (fun i => bs.getD i false) (fun i v s' Q' E' hP hQ' => ?_) its.toArray.size 0 _ rfl (Nat.zero_le _)
  ⟨⟨_, Heap.get?_push_size _ rfl, rfl, rfl⟩, (show s.heap.IsList p its.toArray from pl.isList).at fun o e => Heap.get?_push_of_some _ e⟩ fun h' tk hk => ?_
 ·have hP' : its[i]? = some v := by simpa using hP
  have hi : i < bs.length := by rw [← hlen]; exact (List.getElem?_eq_some_iff.mp hP').1
  obtain ⟨u, hu, ru⟩ := r.get (i := i) (x := V.bl (bs[i])) (by simp [hi])
  rw [hP'] at hu; cases hu
  obtain rfl : v = Value.bool bs[i] := ru
  have e : bs.getD i false = bs[i] := by simp [List.getD, hi]
  dsimp only at hQ'
  rw [e] at hQ'
  exact wpAny_truthy_bool hQ'
 ·refine ⟨.bl (bs.all id), H, I.kept (t' := tk) fun b o e => hk b o (fun z => ?_) (Heap.get?_push_of_some _ e), ?_, q⟩
  ·have z' : b = s.heap.objs.size := by simpa using z
   exact absurd (Heap.lt_size e) (by rw [z']; exact Nat.lt_irrefl _)
  ·show Value.bool _ = Value.bool _
   rw [List.drop_zero, List.size_toArray, hlen, all_range]
end
end L2
set_option Elab.async false
set_option linter.all false
set_option maxRecDepth 100000
namespace L2
open PySem PySem.Spec PyProof.Rows
structure FunD (K : PySem.W.Frag) (x qual : Str) (st : Stmt) (dV : Value) (f : Addr) (fd : FuncData) : Prop where
 ex : ∃ (oc : Value) (od : Option Addr) (kV doc pm : Value) (an : Option Addr) (cdv ct : Value) (osl : Array (Option Value)),
  fd = PySem.W.fnOf x qual (defArgs st) (defBody st) (defScope st) dV kV doc pm an cdv ct ∧ K.lookup f = some ⟨oc, od, .func fd, osl⟩ ∧ PySem.W.codeIn K cdv qual = true
 kp : PySem.W.keepIn K (.ref f) = true
theorem funD_mk {K : PySem.W.Frag} {x qual : Str} {st : Stmt} {dV : Value} {f : Addr} {oc : Value} {od an : Option Addr} {osl : Array (Option Value)} {kV doc pm cdv ct : Value}
  (l : K.lookup f = some ⟨oc, od, .func (PySem.W.fnOf x qual (defArgs st) (defBody st) (defScope st) dV kV doc pm an cdv ct), osl⟩)
  (c : PySem.W.codeIn K cdv qual = true) (k : PySem.W.keepIn K (.ref f) = true) : FunD K x qual st dV f (PySem.W.fnOf x qual (defArgs st) (defBody st) (defScope st) dV kV doc pm an cdv ct) := ⟨⟨oc, od, kV, doc, pm, an, cdv, ct, osl, rfl, l, c⟩, k⟩
structure Def (P : Program) (w : World) (K : PySem.W.Frag) (mg : Str → Option Value) (base : Heap) (k : Nat) (x : Str) (ps : List Str) (ds : List V) (sp : Sp) : Prop where
 ex : ∃ (f : Addr) (fd : FuncData) (dvs : List Value), FnOk P w K mg base CX0 k f fd ps sp ∧ mg x = some (.ref f) ∧ PySem.W.keepIn K (.ref f) = true ∧ Binds K fd ps dvs ∧ Vals ds dvs
section
variable {P : Program} {w : World} {K : PySem.W.Frag} {mg : Str → Option Value} {base : Heap}
theorem FunD.ok {x qual : Str} {st : Stmt} {dV : Value} {f : Addr} {fd : FuncData} {N ps : List Str} {k : Nat} {sp : Sp} (F : FunD K x qual st dV f fd) (S : FnScope N ps (defScope st)) (len : ∀ vs H Q E, sp vs H Q E → vs.length = ps.length)
  (hbody : ∀ (cdv : Value) (A : Around) (outer : List Env) (s : Shared) (H : Hp) (vs : List V) (Q : VK) (E : XK), Room k (A.deeper (envOfC qual (defScope st) s.heap.objs.size f cdv)) → sp vs H Q E →
   ∃ t, PSs (cxOf CX0 P w K mg base N qual (defScope st) f cdv A outer s H E).nox (defBody st) t ∧ t { nx := fun _ H' => Q .non H', rt := Q } (start N vs) H) : FnOk P w K mg base CX0 (k + 1) f fd ps sp := by
 obtain ⟨oc, od, kV, doc, pm, an, cdv, ct, osl, rfl, lk, hcd⟩ := F.ex
 refine fn_of lk hcd S len fun A outer s H vs Q E hr hsp => ?_
 obtain ⟨t, h, q⟩ := hbody cdv A outer s H vs Q E hr hsp
 exact ⟨t, h.nox, q⟩
theorem FunD.def {x qual : Str} {st : Stmt} {f : Addr} {fd : FuncData} {ps : List Str} {k : Nat} {sp : Sp} (F : FunD K x qual st .none f fd) (G : FnOk P w K mg base CX0 k f fd ps sp) (hm : mg x = some (.ref f))
  (h : ∀ (kV doc pm : Value) (an : Option Addr) (cdv ct : Value) (us : List Value), us.length = ps.length → bindArgs (PySem.W.fnOf x qual (defArgs st) (defBody st) (defScope st) .none kV doc pm an cdv ct) ⟨us, []⟩ = pure (ps.zip us)) : Def P w K mg base k x ps [] sp := by
 obtain ⟨oc, od, kV, doc, pm, an, cdv, ct, osl, rfl, lk, hcd⟩ := F.ex
 exact ⟨f, _, [], G, hm, F.kp, .all (h kV doc pm an cdv ct), .nil⟩
end
section
variable {X : Cx}
theorem pe_callD {k : Nat} {x : Str} {ps : List Str} {ds : List V} {sp : Sp} {e : Expr} {es : List Expr} {t : TA} {p pos : Pos} (D : Def X.prog X.w X.K X.mg X.base k x ps ds sp) (hr : Room k X.A) (hg : Gl X x)
  (ha : PA X (e :: es) t) (hdb : (x == ("__debug__" : Str)) = false := by decide) (he : starEach (e :: es) X.env = (false, eval e X.env) :: starEach es X.env := by rfl) (hpl : (backTo pos (starEach es X.env)).any (·.1) = false := by rfl) :
  PE X (.Call (.Name x p) (e :: es) [] pos) (tCall sp ds E0 t) := by
 obtain ⟨f, fd, dvs, F, hm, hk, hb, hd⟩ := D.ex
 exact pe_call F hr hg hm hk hb hd pass0 ha hdb he hpl
end
end L2
namespace Att
open PySem PySem.W PySem.Calls PyProof.Rows
theorem weight_mem : ∀ {ns : List Int} {x : Int}, x ∈ ns → Builtin.Int.intBits x ≤ WData.weightAll (ns.map WData.int)
 | n :: r, x, h => by
  rw [List.map_cons]
  unfold WData.weightAll
  rcases List.mem_cons.mp h with e | h
  ·subst e
   have : WData.weight (.int x) = Builtin.Int.intBits x := by unfold WData.weight Builtin.Int.intBits; rfl
   omega
  ·have := weight_mem h
   omega
theorem bits_of_lay {ns : List Int} (h : WData.layableAll [WData.list (ns.map WData.int)] = true) : ∀ x ∈ ns, Builtin.Int.intBits x ≤ 2 ^ 20 := fun x hx => by
 have h1 : WData.layable (WData.list (ns.map WData.int)) = true := by simpa [WData.layableAll] using h
 unfold WData.layable at h1
 rw [Bool.and_eq_true] at h1
 have h2 : WData.weight (WData.list (ns.map WData.int)) ≤ 2 ^ 20 := of_decide_eq_true h1.2
 have h3 : WData.weight (WData.list (ns.map WData.int)) = WData.weightAll (ns.map WData.int) := by unfold WData.weight; rfl
 have h4 := weight_mem hx
 omega
theorem attach_callB {l : OpenLaw} {n : Nat} {q : Program} {loose : List Str} {XP : (Str → Option Value) → Heap → Prop} {YP : World → Heap → Prop} {d : DefRec}
  (hn : l.most = some n) (hdf : d.params.defaults = [])
  (call : ∀ (w : World) (s₀ s₁ : Shared) (mg mb : Str → Option Value) (fa : Addr) (o : Obj) (pm cd doc : Value) (a : Addr) (vs : List Value) (ns : List Int),
   Ground q loose [] XP w s₀ mg mb s₁.heap → YP w s₁.heap →
   s₁.heap.get? fa = some o → o.data = .func (docDef d.name d.params d.body d.scope pm cd doc) → s₁.heap.CodeRec cd d.name → mg d.name = some (.ref fa) →
   s₁.heap.get? a = some { cls := .type "list", data := .seq vs.toArray } → IntsAre vs ns → ns.length ≤ n → (∀ x ∈ ns, Builtin.Int.intBits x ≤ 2 ^ 20) → s₁.gens = #[] →
   codeAny (model l.prog w) callerA (.call (.ref fa) ⟨[.ref a], []⟩) (fun r s' => r = .ok (.ret (.bool true)) ∧ OldK s₁.heap s'.heap ∧ s'.os = s₁.os ∧ AllBare s'.gens) s₁) :
  WalkO q loose XP YP l.row.toRowW d [] (fun f vs => PySem.call f vs) := by
 intro w s₀ s₁ mg mb G Y fa o pm cd doc dV kV ho hd hcd hD hmg hg args vals as hpre hlay hrd hwl hlo
 obtain rfl : dV = .none := Dflts.none hD hdf
 obtain rfl : kV = .none := Dflts.noKw hD
 obtain ⟨a, vs, ns, rfl, rfl, hobj, hints, hlen⟩ := script_of hn hpre hwl
 refine enter_call (codeAny_mono (call w s₀ s₁ mg mb fa o pm cd doc a vs ns G Y ho (fd_plain hd) hcd hmg hobj hints hlen (bits_of_lay hlay) hg) fun r s' hq => ?_)
 obtain ⟨rfl, h2, h3, h4⟩ := hq
 exact ⟨.inl ⟨.bool true, .bool true, [], rfl, fun _ => rfl, .bool true, post_true l _, fun _ => ⟨List.Pairwise.nil, fun _ hm => (nomatch hm)⟩⟩, h2, h3, h4⟩
end Att
namespace L2
open PySem PySem.Spec PyProof.Rows
end L2
set_option Elab.async false
set_option linter.all false
set_option maxRecDepth 100000
namespace L2
open PySem PySem.Spec PyProof.Rows
structure Flew (P : Program) (w : World) (outer : List Env) (H H' : Hp) (h B h' : Heap) (ea : Addr) : Prop where
 hok : HOk P w H' B
 keep : ∀ b o, h.get? b = some o → H b = none → b ∉ frs outer → B.get? b = some o
 slot : ∀ b o, h.get? b = some o → b ∈ frs outer → ∃ sl, h'.get? b = some { o with slots := sl }
 free : ∀ b o, h.get? b = some o → H b = none → H' b = none
 there : ∀ b o, h.get? b = some o → b ∉ frs outer → ∃ o', B.get? b = some o'
 tups : ∀ b xs, H b = some (.tup xs) → H' b = some (.tup xs)
 frzs : ∀ b o u, H b = some (.frz o u) → H' b = some (.frz o u)
 tbls : ∀ b ps, H b = some (.tbl ps) → ∃ more, H' b = some (.tbl (ps ++ more))
 exc : H' ea = none
noncomputable def CX1 (P : Program) (w : World) : CXT := fun outer H s E e s' =>
 ∃ (ea : Addr) (cls a0 : Value) (H' : Hp) (B : Heap), e = .ref ea ∧ Heap.FlyingW B outer ea cls a0 s'.heap ∧ s'.os = s.os ∧ AllBare s'.gens ∧ Flew P w outer H H' s.heap B s'.heap ea ∧ E cls none H'
section
variable {P : Program} {w : World} {outer : List Env} {H H' : Hp} {h B h' h'' : Heap} {ea : Addr}
theorem Flew.up {cls a0 : Value} (f : Flew P w outer H H' h B h' ea) (fl : Heap.FlyingW B outer ea cls a0 h') (up : h'.UpToSlots h'') : Flew P w outer H H' h B h'' ea :=
 ⟨f.hok, f.keep, fun b o e hb => by
  obtain ⟨sl, e1⟩ := f.slot b o e hb
  obtain ⟨_, o1, e2, nf⟩ := fl.2.2.1.mem hb
  rw [e1] at e2
  cases e2
  obtain ⟨sl', e3⟩ := up b _ e1 nf
  exact ⟨sl', e3⟩, f.free, f.there, f.tups, f.frzs, f.tbls, f.exc⟩
theorem Flew.un (f : Flew P w outer H H' h B h' ea) (st : B.StaysIn h') : Un (frs outer) [] H H' h h' where
 keep := fun b o e n hb _ => st b o (f.keep b o e n hb)
 slot := fun b o e _ hb _ => f.slot b o e hb
 free := fun b o e n _ => f.free b o e n
 there := fun b o e _ => by
  by_cases hb : b ∈ frs outer
  ·obtain ⟨sl, e1⟩ := f.slot b o e hb
   exact ⟨_, e1⟩
  ·obtain ⟨o', e1⟩ := f.there b o e hb
   exact ⟨o', st b o' e1⟩
 tups := f.tups
 frzs := f.frzs
 tbls := f.tbls
theorem Flew.ok (f : Flew P w outer H H' h B h' ea) (st : B.StaysIn h') : HOk P w H' h' := f.hok.kept st
end
section
variable {P : Program} {w : World} {K : PySem.W.Frag} {mg : Str → Option Value} {base : Heap} {N : List Str} {qual : Str} {scope : Scope} {f : Addr} {cd : Value} {A : Around} {outer : List Env} {s₀ : Shared} {H₀ : Hp} {E : XK}
theorem passes1 : Passes (CX1 P w) (cxOf (CX1 P w) P w K mg base N qual scope f cd A outer s₀ H₀ E) E := by
 intro pins σ H s e s' I hc
 obtain ⟨ea, cls, a0, H', B, rfl, fl, os, bare, fw, q⟩ := hc
 have fr : frs (envOfC qual scope s₀.heap.objs.size f cd :: outer) = s₀.heap.objs.size :: frs outer := rfl
 have neL : ∀ b o, s₀.heap.get? b = some o → b ∉ frs outer → b ∉ frs (envOfC qual scope s₀.heap.objs.size f cd :: outer) := fun b o e hb z => by
  rw [fr] at z
  rcases List.mem_cons.mp z with z | z
  ·have := Heap.lt_size e
   rw [z] at this
   exact absurd this (Nat.lt_irrefl _)
  ·exact hb z
 show wpAny (model P w) (A.deeper (envOfC qual scope s₀.heap.objs.size f cd)) (leaving (envOfC qual scope s₀.heap.objs.size f cd) (.ref ea)) (fun _ s'' => CX1 P w outer H₀ s₀ E (.ref ea) s'') (fun e' s'' => CX1 P w outer H₀ s₀ E e' s'') s'
 refine wpAny_leaves_onW I.ok.frames rfl fl fun h'' fl'' up => ?_
 have fu := fw.up fl up
 have ub : Un (frs outer) [] H₀ H s₀.heap s.heap := I.base
 refine ⟨ea, cls, a0, H', B, rfl, fl'', os.trans I.os, bare, ⟨fw.hok, fun b o e n hb => ?_, fun b o e hb => ?_, fun b o e n => ?_, fun b o e hb => ?_, fun b xs e => fw.tups b xs (ub.tups b xs e), fun b o u e => fw.frzs b o u (ub.frzs b o u e), fun b ps e => ?_, fw.exc⟩, q⟩
 ·exact fw.keep b o (ub.keep b o e n hb (by simp)) (ub.free b o e n (by simp)) (neL b o e hb)
 ·obtain ⟨sl, e1⟩ := ub.slot b o e (I.ok.frf b hb) hb (by simp)
  obtain ⟨sl', e2⟩ := fu.slot b _ e1 (show b ∈ frs (envOfC qual scope s₀.heap.objs.size f cd :: outer) by rw [fr]; exact List.mem_cons_of_mem _ hb)
  exact ⟨sl', e2⟩
 ·obtain ⟨o', e1⟩ := ub.there b o e (by simp)
  exact fw.free b o' e1 (ub.free b o e n (by simp))
 ·obtain ⟨o', e1⟩ := ub.there b o e (by simp)
  exact fw.there b o' e1 (neL b o e hb)
 ·obtain ⟨m1, e1⟩ := ub.tbls b ps e
  obtain ⟨m2, e2⟩ := fw.tbls b _ e1
  exact ⟨m1 ++ m2, by rw [e2, Array.append_assoc]⟩
noncomputable def Raises (X : Cx) (E : XK) (cls : Value) : Prop := ∀ (pins : List (Addr × Obj)) (σ : St) (H : Hp) (s : Shared) (ea : Addr) (h' : Heap) (vs : List Value), Inv X pins σ H s → Heap.MadeExcOf s.heap h' ea cls vs → E cls none H → X.xe (.ref ea) { s with heap := h' }
theorem raises1 {cls : Value} : Raises (cxOf (CX1 P w) P w K mg base N qual scope f cd A outer s₀ H₀ E) E cls := by
 intro pins σ H s ea h' vs I hx q
 have fr : frs (envOfC qual scope s₀.heap.objs.size f cd :: outer) = s₀.heap.objs.size :: frs outer := rfl
 have neL : ∀ b o, s₀.heap.get? b = some o → b ∉ frs outer → b ∉ frs (envOfC qual scope s₀.heap.objs.size f cd :: outer) := fun b o e hb z => by
  rw [fr] at z
  rcases List.mem_cons.mp z with z | z
  ·have := Heap.lt_size e
   rw [z] at this
   exact absurd this (Nat.lt_irrefl _)
  ·exact hb z
 have stk : s.heap.FunFrames base (envOfC qual scope s₀.heap.objs.size f cd :: outer) := I.stack
 have hin : ∀ env ∈ (envOfC qual scope s₀.heap.objs.size f cd :: outer), ∀ b, env.frame = some b → b ∈ frs (envOfC qual scope s₀.heap.objs.size f cd :: outer) := fun env he b hb => List.mem_filterMap.mpr ⟨env, he, hb⟩
 have sf : ∀ b u, H b = some u → b ∉ frs (envOfC qual scope s₀.heap.objs.size f cd :: outer) := fun b u e z => by
  have n := I.stkFree b z
  rw [e] at n; cases n
 show wpAny (model P w) (A.deeper (envOfC qual scope s₀.heap.objs.size f cd)) (leaving (envOfC qual scope s₀.heap.objs.size f cd) (.ref ea)) (fun _ s'' => CX1 P w outer H₀ s₀ E (.ref ea) s'') (fun e' s'' => CX1 P w outer H₀ s₀ E e' s'') { s with heap := h' }
 refine wpAny_leaves_madeW (base := PySem.W.hideAll s.heap (frs (envOfC qual scope s₀.heap.objs.size f cd :: outer))) (h := s.heap) I.ok.frames rfl (fun b o e => PySem.W.of_hideAll _ e) (PySem.W.funFrames_hide stk hin) hx fun h'' t fl tup hbt up => ?_
 have ub : Un (frs outer) [] H₀ H s₀.heap s.heap := I.base
 have toB : ∀ b o, s.heap.get? b = some o → b ∉ frs (envOfC qual scope s₀.heap.objs.size f cd :: outer) → (PySem.W.hideAll s.heap (frs (envOfC qual scope s₀.heap.objs.size f cd :: outer))).get? b = some o := fun b o e hb => PySem.W.hideAll_get _ e hb
 refine ⟨ea, cls, .ref t, H, _, rfl, fl, I.os, I.bare, ⟨fun a o e => ?_, fun b o e n hb => ?_, fun b o e hb => ?_, fun b o e n => ?_, fun b o e hb => ?_, ub.tups, ub.frzs, ub.tbls, ?_⟩, q⟩
 ·refine (I.hok a o e).stay (fun b u hb g => toB b u g ?_) (fun _ g => g) fun _ _ g => g
  rcases hb with hb | hb
  ·rw [hb]; exact sf a o e
  ·exact sf b _ hb
 ·exact toB b o (ub.keep b o e n hb (by simp)) (neL b o e hb)
 ·obtain ⟨sl, e1⟩ := ub.slot b o e (I.ok.frf b hb) hb (by simp)
  obtain ⟨_, o1, e2, nf⟩ := I.funs.mem hb
  rw [e1] at e2
  cases e2
  obtain ⟨sl', e3⟩ := up b _ (hx.keeps b _ e1) nf
  exact ⟨sl', e3⟩
 ·exact ub.free b o e n (by simp)
 ·obtain ⟨o', e1⟩ := ub.there b o e (by simp)
  exact ⟨o', toB b o' e1 (neL b o e hb)⟩
 ·cases g : H ea with
  | none => rfl
  | some u =>
   have z : ∃ o, s.heap.get? ea = some o := by
    have := (I.hok ea u g)
    cases u with
    | lst xs => obtain ⟨_, _, _, _, e⟩ := this; exact ⟨_, e⟩
    | tup xs => obtain ⟨_, _, _, o, e, _⟩ := this; exact ⟨o, e⟩
    | dK kvs => obtain ⟨_, _, _, _, o, _, _, e, _⟩ := this; exact ⟨o, e⟩
    | dT kvs => obtain ⟨_, _, _, _, o, _, _, e, _⟩ := this; exact ⟨o, e⟩
    | set S n => obtain ⟨o, _, _, _, e, _⟩ := this; exact ⟨o, e⟩
    | ins C dx fs => obtain ⟨_, _, _, e, _⟩ := this; exact ⟨_, e⟩
    | own y => exact this
    | xd fs => obtain ⟨_, ⟨o, _, _, e, _⟩, _⟩ := this; exact ⟨o, e⟩
    | rng lo hi => obtain ⟨_, _, _, e⟩ := this; exact ⟨_, e⟩
    | frz ob u => obtain ⟨e, _⟩ := this; exact ⟨_, e⟩
    | tbl ps => exact ⟨_, this⟩
    | met f y => exact ⟨_, this⟩
    | ext φ => obtain ⟨_, e, _⟩ := this; exact e
   obtain ⟨o, e⟩ := z
   rw [hx.new] at e; cases e
end
end L2
set_option Elab.async false
set_option linter.all false
set_option maxRecDepth 100000
namespace L2
open PySem PySem.Spec PyProof.Rows
theorem exc_obj {K : PySem.W.Frag} {h : Heap} {C : Addr} {bmB : List Value} {newId : String} (KX : K.In h) (q : PySem.W.excIn K C bmB newId = true) :
  ∃ bm nsA nm qn bs hd sn sub ab col dd k0 k1 k2 k3 k5 mN, h.get? C = some (excClassObj nm qn C nsA bs bm hd sn sub ab col dd k0 k1 k2 k3 k5 newId) ∧ h.Ns nsA mN ∧ mN "__init__" = none ∧ OwnTail h bmB bm := by
 unfold PySem.W.excIn at q
 split at q
 ·rename_i dd cd sl look
  split at q
  ·rename_i C2 bm k0 k1 k2 k3 n k5 hmro hsl
   simp only [Bool.and_eq_true, beq_iff_eq, Bool.not_eq_true'] at q
   obtain ⟨⟨⟨⟨⟨qC, qn'⟩, qdel⟩, qtail⟩, qok⟩, qinit⟩ := q
   cases qC
   cases qn'
   obtain ⟨nm, bs, mro, nsA, qn, hd, sn, sub, ab, col, del⟩ := cd
   have hmro' : mro = _ :: bm := hmro
   have qdel' : del = false := qdel
   cases hmro'
   cases qdel'
   have esl : sl = #[k0, k1, k2, k3, some (.builtin newId), k5] := by
    cases sl with
    | mk l => exact congrArg Array.mk hsl
   cases esl
   exact ⟨bm, nsA, nm, qn, bs, hd, sn, sub, ab, col, dd, k0, k1, k2, k3, k5, _, KX _ _ look, .of_isNs (PySem.W.isNs_of_in KX qok), PySem.W.nsMap_none_of_in KX qok qinit, PySem.W.tail_of_in KX qtail⟩
  ·exact absurd q Bool.false_ne_true
 ·exact absurd q Bool.false_ne_true
abbrev mroVE : List Value := [.type "ValueError", .type "Exception", .type "BaseException", .type "object"]
section
variable {X : Cx} {E : XK} {C : Addr} {x : Str}
noncomputable def tRaise (E : XK) (cls : Value) (t : TA) : TS := fun _ σ H => t σ H fun vs H1 => vs.length ≤ sizeLine ∧ E cls none H1
theorem ps_raise {e : Expr} {es : List Expr} {t : TA} {np cpos pos : Pos} (hc : X.calm = true) (hR : Raises X E (.ref C)) (hg : Gl X x) (hm : X.mg x = some (.ref C)) (hE : PySem.W.excIn X.K C mroVE "ValueError.__new__" = true)
    (ha : PA X (e :: es) t) (hdb : (x == ("__debug__" : Str)) = false := by decide) (he : starEach (e :: es) X.env = (false, eval e X.env) :: starEach es X.env := by rfl) (hpl : (backTo cpos (starEach es X.env)).any (·.1) = false := by rfl) :
    PS X (.Raise (some (.Call (.Name x np) (e :: es) [] cpos)) none pos) (tRaise E (.ref C) t) := by
  intro pins s σ H D I hq
  obtain ⟨bm, nsA, nm, qn, bs, hd, sn, sub, ab, col, dd, k0, k1, k2, k3, k5, mN, hC, hN, hni, T⟩ := exc_obj (h := X.base) I.ok.mod.kin hE
  refine wpAny_Raise_call_subU (C := C) (nm := nm) (q := qn) (N := nsA) (bs := bs) (bm := bm) (hdct := hd) (sn := sn) (sub := sub) (ab := ab) (col := col) (dd := dd) (k0 := k0) (k1 := k1) (k2 := k2) (k3 := k3) (k5 := k5)
    PySem.F.excBase_ValueError (by decide) PySem.F.excBase_ValueError (mN := mN) (T.hasType (by decide)) (I.ok.hd hc) (by rw [he]; show (false || (backTo cpos (starEach es X.env)).any (·.1)) = false; rw [hpl]; rfl) hni (ld_glob I hg hm ⟨rfl, ?_⟩ hdb)
  have h1 := ha cpos pins s σ H _ I hq
  rw [he] at h1 ⊢
  refine Calls.evalArgs_plain (thn h1 fun us s2 ⟨vs, H2, I2, r, hz, q⟩ => ⟨rfl, ?_, ?_⟩)
  · show us.length ≤ sizeLine
    rw [← r.length]; exact hz
  · exact ⟨I2.bk _ _ hC, hN.keeps I2.bk, T.keeps I2.bk, fun h' ea hx => hR pins σ H2 s2 ea h' us I2 hx q⟩
end
end L2
set_option Elab.async false
set_option linter.all false
set_option maxRecDepth 100000
namespace L2
open PySem PySem.Spec PyProof.Rows
noncomputable def ExcO (ea C : Addr) : HO := .ext fun h => ∃ o vs, h.get? ea = some o ∧ o.cls = .ref C ∧ o.data = .fields vs
noncomputable def Cx.marked (X : Cx) (ea : Addr) : Cx := { X with A := X.A.mark (some (.ref ea)), calm := false, xe := fun _ _ => False }
section
variable {X : Cx} {pins : List (Addr × Obj)} {σ : St} {H : Hp} {s : Shared} {ea : Addr}
theorem Cx.Ok.marked (ok : X.Ok) (ea : Addr) : (X.marked ea).Ok :=
 ⟨ok.mod, ok.kind, ok.glob, ok.blt, ok.above, ok.inj, ok.has, ok.cab, (fun z => absurd (show false = true from z) (by decide)), ok.frames, ok.stk, ok.exf, ok.bs, ok.bsz, ok.noex, ok.exfs, ok.funs, ok.frf⟩
theorem Inv.marked (I : Inv X pins σ H s) (ea : Addr) : Inv (X.marked ea) pins σ H s := ⟨I.ok.marked ea, I.os, I.bare, I.base, I.loc, I.cell, I.free, I.freeC, I.pin, I.hok, I.len⟩
theorem Inv.unmarked (ok : X.Ok) (I : Inv (X.marked ea) pins σ H s) : Inv X pins σ H s := ⟨ok, I.os, I.bare, I.base, I.loc, I.cell, I.free, I.freeC, I.pin, I.hok, I.len⟩
theorem Inv.gone {i : Nat} {n : Str} {h' : Heap} {v : Option Value} {m : Str → Option Value} {t : Nat} (I : Inv X pins σ H s) (hN : X.N.Nodup) (hi : X.N[i]? = some n) (hk : X.env.scope.names.lookup n = some .local)
  (hl : ∀ (j : Nat) (x : Str) (v : V), X.N[j]? = some x → σ[j]? = some (some v) → Vis X.env.scope x → ∃ u, RelV v u ∧ Look X.env s.heap m x u)
  (hn' : h'.Ns X.env.locals (fun x => if x = n then v else m x)) (hs : Heap.SameBut X.env.locals s.heap h') : Inv X pins (σ.set i none) H { s with heap := h', toks := t } := by
 have ltL : ∀ b o, X.s₀.heap.get? b = some o → b ≠ X.env.locals := fun b o e => Nat.ne_of_lt (Nat.lt_of_lt_of_le (Heap.lt_size e) I.ok.above)
 refine ⟨I.ok, I.os, I.bare, ⟨fun b o e q hb hx => ?_, fun b o e q hb hx => ?_, I.base.free, fun b o e hx => ?_, I.base.tups, I.base.frzs, I.base.tbls⟩, ⟨_, hn', fun j y v' e1 e2 e3 => ?_⟩, fun y c e => ?_, I.free, I.freeC, fun p hp => ?_, fun b u e => ?_, by rw [List.length_set]; exact I.len⟩
 ·exact (hs.2 b (ltL b o e)).trans (I.base.keep b o e q hb hx)
 ·obtain ⟨sl, e1⟩ := I.base.slot b o e q hb hx
  exact ⟨sl, (hs.2 b (ltL b o e)).trans e1⟩
 ·obtain ⟨o', e1⟩ := I.base.there b o e hx
  exact ⟨o', (hs.2 b (ltL b o e)).trans e1⟩
 ·by_cases hj : j = i
  ·subst hj
   rw [List.getElem?_set] at e2
   simp at e2
  ·rw [List.getElem?_set_ne (Ne.symm hj)] at e2
   obtain ⟨u, r, q⟩ := hl j y v' e1 e2 e3
   refine ⟨u, r, ?_⟩
   rcases q with ⟨k, e⟩ | ⟨k, c, e, z⟩
   ·refine .inl ⟨k, ?_⟩
    have ne : y ≠ n := fun z => hj (nodup_ix hN e1 (z ▸ hi))
    simp [ne, e]
   ·exact .inr ⟨k, c, e, z.sameBut hs (I.cne y c e)⟩
 ·obtain ⟨w', z⟩ := I.cell y c e
  exact ⟨w', z.sameBut hs (I.cne y c e)⟩
 ·obtain ⟨e, q, ne, nf, d⟩ := I.pin p hp
  exact ⟨(hs.2 p.1 ne).trans e, q, ne, nf, d⟩
 ·refine (I.hok b u e).stay (fun c w' hc q => (hs.2 c ?_).trans q) (fun _ q => q) fun _ _ q => q
  intro z
  rcases hc with hc | hc
  ·rw [← hc, z, I.free] at e; cases e
  ·rw [z, I.free] at hc; cases hc
noncomputable def endsX (i : Nat) (D : Ends) : Ends := { nx := fun σ H => D.nx (σ.set i none) H, rt := D.rt, bk := fun σ H => D.bk (σ.set i none) H, ct := fun σ H => D.ct (σ.set i none) H }
noncomputable def catchX (K : PySem.W.Frag) (CF : Addr) (i : Nat) (ts : TS) (D : Ends) (σ : St) : XK := fun cls _ H1 =>
 ∃ C, cls = .ref C ∧ PySem.W.exmOne K (.ref C) (.ref CF) = some true ∧ ∀ ea, H1 ea = none → ts (endsX i D) (σ.set i (some (.ref ea))) (upd H1 ea (ExcO ea C))
end
end L2
set_option Elab.async false
set_option linter.all false
set_option maxRecDepth 100000
namespace L2
open PySem PySem.Spec PyProof.Rows
noncomputable def EqL (K : PySem.W.Frag) (H : Hp) (rec : V → V → Bool → Prop) (p q : Addr) (b : Bool) : Prop :=
 ∃ xs ys, (SqL K H p xs ∧ SqL K H q ys ∧ xs.length ≠ ys.length ∧ b = false) ∨
  (((SqL K H p xs ∧ SqL K H q ys) ∨ (SqT K H p xs ∧ SqT K H q ys)) ∧ xs.length = ys.length ∧ ∃ e : Nat → Bool, (∀ i x y, xs[i]? = some x → ys[i]? = some y → rec x y (e i)) ∧ b = (List.range xs.length).all e)
noncomputable def EqD (K : PySem.W.Frag) (H : Hp) : Nat → V → V → Bool → Prop
 | 0, x, y, b => (∃ a, x = .ref a ∧ y = .ref a ∧ b = true) ∨ (flatV x = true ∧ flatV y = true ∧ b = eqV x y)
 | n + 1, x, y, b => EqD K H n x y b ∨ ∃ p q, x = .ref p ∧ y = .ref q ∧ p ≠ q ∧ EqL K H (EqD K H n) p q b
section
variable {X : Cx} {pins : List (Addr × Obj)} {σ : St} {H : Hp} {s : Shared}
theorem eqL_at {A : Around} {rec : V → V → Bool → Prop} {p q : Addr} {b : Bool} (I : Inv X pins σ H s) (hu : A.units < cLine) (hr : ∀ x y b u v, rec x y b → RelV x u → RelV y v → SeqAt.EqAt A.in1 s u v b) (h : EqL X.K H rec p q b) :
  SeqAt.RcAt A s (.ref p) (.ref q) b ∧ SeqAt.RcNeAt A s (.ref p) (.ref q) (!b) := by
 obtain ⟨xs, ys, ⟨h1, h2, hl, rfl⟩ | ⟨hk, hl, e, he, rfl⟩⟩ := h
 ·obtain ⟨its, r, pl, _⟩ := I.list h1
  obtain ⟨its2, r2, pl2, _⟩ := I.list h2
  have e1 := r.length
  have e2 := r2.length
  have hne : (its.toArray.size != its2.toArray.size) = true := by
   rw [bne_iff_ne]; simp only [List.size_toArray]; omega
  exact ⟨SeqAt.RcAt.lists_lengths pl.isList pl2.isList hne hu, SeqAt.RcNeAt.lists_lengths pl.isList pl2.isList hne hu⟩
 ·have items : ∀ (its its2 : List Value), Vals xs its → Vals ys its2 → ∀ j (h1 : j < its.toArray.size) (h2 : j < its2.toArray.size), SeqAt.EqAt A.in1 s its.toArray[j] its2.toArray[j] (e j) := by
   intro its its2 r r2 j h1 h2
   have l1 := r.length
   have l2 := r2.length
   simp only [List.size_toArray] at h1 h2
   have g1 : j < xs.length := by omega
   have g2 : j < ys.length := by omega
   obtain ⟨u, hu1, ru⟩ := r.get (i := j) (x := xs[j]) (by simp [g1])
   obtain ⟨v, hv1, rv⟩ := r2.get (i := j) (x := ys[j]) (by simp [g2])
   have eu : its.toArray[j] = u := by
    have : its[j]? = some its[j] := by simp [h1]
    rw [this] at hu1
    simpa using hu1
   have ev : its2.toArray[j] = v := by
    have : its2[j]? = some its2[j] := by simp [h2]
    rw [this] at hv1
    simpa using hv1
   rw [eu, ev]
   exact hr _ _ _ _ _ (he j _ _ (by simp [g1]) (by simp [g2])) ru rv
  rcases hk with ⟨h1, h2⟩ | ⟨h1, h2⟩
  ·obtain ⟨its, r, pl, _⟩ := I.list h1
   obtain ⟨its2, r2, pl2, _⟩ := I.list h2
   have l1 := r.length
   have l2 := r2.length
   have hsz : its.toArray.size = its2.toArray.size := by simp only [List.size_toArray]; omega
   have a1 := SeqAt.RcAt.lists pl.isList pl2.isList hsz hu (items its its2 r r2)
   have a2 := SeqAt.RcNeAt.lists pl.isList pl2.isList hsz hu (items its its2 r r2)
   have es : its.toArray.size = xs.length := by simp only [List.size_toArray]; omega
   rw [es] at a1 a2
   exact ⟨a1, a2⟩
  ·obtain ⟨its, r, pl, _⟩ := I.tuple h1
   obtain ⟨its2, r2, pl2, _⟩ := I.tuple h2
   have l1 := r.length
   have l2 := r2.length
   have t1 : s.heap.IsTuple p its.toArray := pl
   have t2 : s.heap.IsTuple q its2.toArray := pl2
   have a1 := SeqAt.RcAt.tuples t1 t2 hu (items its its2 r r2)
   have a2 := SeqAt.RcNeAt.tuples t1 t2 hu (items its its2 r r2)
   have es : min its.toArray.size its2.toArray.size = xs.length := by simp only [List.size_toArray]; omega
   have ez : (its.toArray.size == its2.toArray.size) = true := by rw [beq_iff_eq]; simp only [List.size_toArray]; omega
   rw [es, ez, Bool.and_true] at a1 a2
   exact ⟨a1, a2⟩
theorem eqD_at (I : Inv X pins σ H s) : ∀ (n : Nat) (A : Around), A.units + n < cLine → ∀ x y b u v, EqD X.K H n x y b → RelV x u → RelV y v → SeqAt.EqAt A s u v b
 | 0, A, hu, x, y, b, u, v, h, rx, ry => by
  rcases h with ⟨a, rfl, rfl, rfl⟩ | ⟨f1, f2, rfl⟩
  ·cases rx; cases ry; exact SeqAt.EqAt.same _
  ·exact eqAt_V rx ry f1 f2
 | n + 1, A, hu, x, y, b, u, v, h, rx, ry => by
  rcases h with h | ⟨p, q, rfl, rfl, ne, h⟩
  ·exact eqD_at I n A (by omega) x y b u v h rx ry
  ·cases rx; cases ry
   refine SeqAt.EqAt.of_refs ne (eqL_at (A := A) I (by omega) (fun x y b u v h rx ry => eqD_at I n A.in1 ?_ x y b u v h rx ry) h).1
   show A.units + 1 + n < cLine
   omega
noncomputable def rEqD (K : PySem.W.Frag) (neg : Bool) : R2 := fun x y H Q => ∃ n p q b, n ≤ 8 ∧ x = .ref p ∧ y = .ref q ∧ EqL K H (EqD K H n) p q b ∧ Q (.bl (if neg then !b else b)) H
theorem op_eqD (hu : X.A.units + 64 < cLine) : OpR X (compareOp .Eq) (rEqD X.K false) := by
 intro pins s σ H x y v u Q I rx ry h
 obtain ⟨n, p, q, b, hn, rfl, rfl, he, k⟩ := h
 cases rx; cases ry
 refine (eqL_at (A := X.A) I (by omega) (fun x y b u v h rx ry => eqD_at I n X.A.in1 ?_ x y b u v h rx ry) he).1 _ _ _ _ ⟨.bl b, H, I, rfl, k⟩
 show X.A.units + 1 + n < cLine
 omega
theorem op_neD (hu : X.A.units + 64 < cLine) : OpR X (compareOp .NotEq) (rEqD X.K true) := by
 intro pins s σ H x y v u Q I rx ry h
 obtain ⟨n, p, q, b, hn, rfl, rfl, he, k⟩ := h
 cases rx; cases ry
 refine (eqL_at (A := X.A) I (by omega) (fun x y b u v h rx ry => eqD_at I n X.A.in1 ?_ x y b u v h rx ry) he).2 _ _ _ _ ⟨.bl (!b), H, I, rfl, k⟩
 show X.A.units + 1 + n < cLine
 omega
end
theorem range_all {n : Nat} {e : Nat → Bool} (h : ∀ i, i < n → e i = true) : (List.range n).all e = true := by
 rw [List.all_eq_true]
 intro i hi
 exact h i (List.mem_range.mp hi)
theorem eqV_self {x : V} (f : flatV x = true) : eqV x x = true := by
  cases x <;> first | rfl | (simp [eqV]; done) | exact absurd (show false = true from f) Bool.false_ne_true
theorem EqL.same {K : PySem.W.Frag} {H : Hp} {p q : Addr} {xs : List V} (h : (SqL K H p xs ∧ SqL K H q xs) ∨ (SqT K H p xs ∧ SqT K H q xs)) (hf : ∀ x ∈ xs, flatV x = true ∨ ∃ a, x = .ref a) : EqL K H (EqD K H 0) p q true := by
 refine ⟨xs, xs, .inr ⟨h, rfl, fun _ => true, fun i x y h1 h2 => ?_, (range_all fun _ _ => rfl).symm⟩⟩
 rw [h1] at h2; cases h2
 rcases hf x (List.mem_of_getElem? h1) with f | ⟨a, rfl⟩
 ·exact .inr ⟨f, f, (eqV_self f).symm⟩
 ·exact .inl ⟨a, rfl, rfl, rfl⟩
theorem EqL.nil {K : PySem.W.Frag} {H : Hp} {p q : Addr} {xs : List V} (h1 : SqL K H p xs) (h2 : SqL K H q []) : EqL K H (EqD K H 0) p q xs.isEmpty := by
 cases xs with
 | nil => exact ⟨[], [], .inr ⟨.inl ⟨h1, h2⟩, rfl, fun _ => true, fun i x y e => by simp at e, rfl⟩⟩
 | cons x r => exact ⟨x :: r, [], .inl ⟨h1, h2, by simp, rfl⟩⟩
noncomputable def Itz (K : PySem.W.Frag) (a b : Addr) : It :=
  ⟨fun i H => ∃ xs ys x y, SqL K H a xs ∧ SqL K H b ys ∧ xs[i]? = some x ∧ ys[i]? = some y,
   fun i H v H' => ∃ T x y, v = .ref T ∧ H T = none ∧ H' = upd H T (.tup [x, y]) ∧ ∀ xs ys, SqL K H a xs → SqL K H b ys → xs[i]? = some x ∧ ys[i]? = some y,
   fun i H => ∃ xs ys, SqL K H a xs ∧ SqL K H b ys ∧ (xs.length ≤ i ∨ ys.length ≤ i)⟩
theorem SqL.upd_new {K : PySem.W.Frag} {H : Hp} {a T : Addr} {xs : List V} {o : HO} (h : SqL K H a xs) (hT : H T = none) : SqL K (upd H T o) a xs := by
 rcases h with h | h
 ·refine .inl ?_
  rcases h with h | ⟨ob, h⟩
  ·exact .inl (by rw [upd_ne (ne_of_none h hT)]; exact h)
  ·exact .inr ⟨ob, by rw [upd_ne (ne_of_none h hT)]; exact h⟩
 ·exact .inr h
noncomputable def ZSt (z TI TO i1 i2 a b : Addr) (i : Nat) (h : Heap) : Prop := IsZip h z TI TO .none ∧ IsPair h TI (.ref i1) (.ref i2) ∧ (∃ x y, IsPair h TO x y) ∧ h.IsListIter i1 a i ∧ h.IsListIter i2 b i
theorem turn_zip {P : Program} {w : World} {K : PySem.W.Frag} {elts : List Expr} {x1} {pos : Pos} {z TI TO i1 i2 a b : Addr} (D : ZipApart z TI TO i1 i2 a b) :
  Turn P w K (.Tuple elts x1 pos) (Itz K a b) [z, TI, TO, i1, i2] z (ZSt z TI TO i1 i2 a b) where
 mem := by simp
 obj := fun i h st c hc => by
  obtain ⟨s1, s2, ⟨x, y, s3⟩, ⟨o4, e4, c4, d4⟩, ⟨o5, e5, c5, d5⟩⟩ := st
  simp only [List.mem_cons, List.not_mem_nil, or_false] at hc
  rcases hc with rfl | rfl | rfl | rfl | rfl
  ·exact ⟨_, s1, fun v e => by cases e⟩
  ·exact ⟨_, s2, fun v e => by cases e⟩
  ·exact ⟨_, s3, fun v e => by cases e⟩
  ·exact ⟨_, e4, fun v e => by rw [d4] at e; cases e⟩
  ·exact ⟨_, e5, fun v e => by rw [d5] at e; cases e⟩
 keep := fun i h h' st k => by
  obtain ⟨s1, s2, ⟨x, y, s3⟩, s4, s5⟩ := st
  exact ⟨k z (by simp) _ s1, k TI (by simp) _ s2, ⟨x, y, k TO (by simp) _ s3⟩, s4.at fun o e => k i1 (by simp) o e, s5.at fun o e => k i2 (by simp) o e⟩
 item := by
  intro X hP hw hK hc i pins s σ H E I hf st hg
  subst hP hw hK
  obtain ⟨s1, s2, ⟨u1, u2, s3⟩, s4, s5⟩ := st
  obtain ⟨xs, ys, x, y, hx, hy, ex, ey⟩ := hg
  obtain ⟨its, r, pl, _⟩ := I.list hx
  obtain ⟨its2, r2, pl2, _⟩ := I.list hy
  obtain ⟨v1, hv1, rv1⟩ := r.get ex
  obtain ⟨v2, hv2, rv2⟩ := r2.get ey
  refine wpAny_pyNext_zip_item D s1 s2 s3 s4 s5 pl.isList pl2.isList (x := v1) (y := v2) (by simpa using hv1) (by simpa using hv2) fun h' a1 a2 a3 a4 a5 a6 hk => ?_
  have fresh : H s.heap.objs.size = none := I.hok.fresh (Nat.le_refl _)
  have inF : ∀ c, c ∈ [z, TI, TO, i1, i2] → FpOk X pins H c := fun c hc => hf c hc
  have hk' : ∀ c o, c ∉ [z, TI, TO, i1, i2] → s.heap.get? c = some o → h'.get? c = some o := fun c o hc e => by
   simp only [List.mem_cons, List.not_mem_nil, or_false, not_or] at hc
   exact hk c o hc.1 hc.2.2.1 hc.2.2.2.1 hc.2.2.2.2 e
  have nF : ∀ c u, H c = some u → c ∉ [z, TI, TO, i1, i2] := fun c u e hc => by have := (inF c hc).1; rw [e] at this; cases this
  have I1 : Inv X pins σ (upd H s.heap.objs.size (.tup [x, y])) { s with heap := h' } := by
   refine I.step (g' := s.gens) (d' := s.drawn) (t' := s.toks) (ch := [z, TI, TO, i1, i2]) (fun c hc => ?_) (fun c o _ _ hc e _ => hk' c o hc e) (fun c o _ _ hc e _ => ⟨o.slots, hk' c o hc e⟩) (fun c o hc e n => ?_)
    (fun c o hc e => ⟨o, hk' c o hc e⟩) (fun c zs e => ?_) (fun c o u e => ?_) (fun c ps e => ?_) (fun m hm => ?_) (fun c u e => ?_) I.bare
   ·obtain ⟨f0, f1, f2, f3, f4, f5⟩ := inF c hc
    exact ⟨f3, f1, f4, f5⟩
   ·rw [upd_ne (Nat.ne_of_lt (Heap.lt_size e))]; exact n
   ·rw [upd_ne (ne_of_none e fresh)]; exact e
   ·rw [upd_ne (ne_of_none e fresh)]; exact e
   ·exact ⟨#[], by rw [upd_ne (ne_of_none e fresh), e]; simp⟩
   ·obtain ⟨o, es, ep, ho, rr⟩ := hm
    exact ⟨o, es, ep, hk' _ o (fun hc => (inF _ hc).2.1 rfl) ho, rr⟩
   ·by_cases hce : c = s.heap.objs.size
    ·subst hce
     rw [upd_same] at e
     cases e
     exact ⟨by show 2 ≤ sizeLine; decide, [v1, v2], .cons rv1 (.cons rv2 .nil), ⟨_, a5, rfl, _, rfl⟩⟩
    ·rw [upd_ne hce] at e
     refine (I.hok c u e).stay (fun d o hd q => hk' d o ?_ q) (fun d q => ?_) fun d zs q => ?_
     ·rcases hd with z1 | z1
      ·rw [z1]; exact nF c u e
      ·exact nF d _ z1
     ·rw [upd_ne (ne_of_none q fresh)]; exact q
     ·rw [upd_ne (ne_of_none q fresh)]; exact q
  refine ⟨_, rfl, wpAny_letOwnedTupleGo_zip a1 fun h2 hz2 hs2 => ?_⟩
  obtain ⟨f0, f1, f2, f3, f4, f5⟩ := inF z (by simp)
  have nez : z ≠ s.heap.objs.size := Nat.ne_of_lt (Heap.lt_size s1)
  have I2 : Inv X pins σ (upd H s.heap.objs.size (.tup [x, y])) { s with heap := h2 } := I1.turned (t' := s.toks) (fun c o hc e => hs2.extBut c o hc e) (by rw [upd_ne nez]; exact f0) f1 f3 f4 f5
  refine ⟨.ref s.heap.objs.size, _, I2, rfl, ⟨_, x, y, rfl, fresh, rfl, fun zs ws q1 q2 => ⟨by rw [I.list_inj q1 hx]; exact ex, by rw [I.list_inj q2 hy]; exact ey⟩⟩,
   ⟨hz2, hs2.extBut _ _ D.TIz (hk _ _ D.TIz D.TITO D.TIi1 D.TIi2 s2), ⟨_, _, hs2.extBut _ _ D.TOz a2⟩, a3.extBut hs2.extBut D.i1z, a4.extBut hs2.extBut D.i2z⟩, fun c hc => ?_⟩
  obtain ⟨o, ho⟩ : ∃ o, s.heap.get? c = some o := by
   simp only [List.mem_cons, List.not_mem_nil, or_false] at hc
   obtain ⟨o4, e4, _⟩ := s4
   obtain ⟨o5, e5, _⟩ := s5
   rcases hc with rfl | rfl | rfl | rfl | rfl
   ·exact ⟨_, s1⟩
   ·exact ⟨_, s2⟩
   ·exact ⟨_, s3⟩
   ·exact ⟨_, e4⟩
   ·exact ⟨_, e5⟩
  rw [upd_ne (Nat.ne_of_lt (Heap.lt_size ho))]
  exact (inF c hc).1
 done := by
  intro X hP hw hK hc i pins s σ H E I hf st hg
  subst hP hw hK
  obtain ⟨s1, s2, ⟨u1, u2, s3⟩, s4, s5⟩ := st
  obtain ⟨xs, ys, hx, hy, hl⟩ := hg
  obtain ⟨its, r, pl, _⟩ := I.list hx
  obtain ⟨its2, r2, pl2, _⟩ := I.list hy
  have l1 := r.length
  have l2 := r2.length
  have inF : ∀ c, c ∈ [z, TI, TO, i1, i2] → FpOk X pins H c := fun c hc => hf c hc
  refine wpAny_pyNext_zip_end (I.ok.hd hc) D s1 s2 s3 s4 s5 pl.isList pl2.isList ?_ fun h' hk => ⟨rfl, ?_⟩
  ·rcases hl with hl | hl
   ·exact .inl (by simp; omega)
   ·exact .inr (by simp; omega)
  have hk' : ∀ c o, c ∉ [z, TI, TO, i1, i2] → s.heap.get? c = some o → h'.get? c = some o := fun c o hc e => by
   simp only [List.mem_cons, List.not_mem_nil, or_false, not_or] at hc
   exact hk c o hc.1 hc.2.2.1 hc.2.2.2.1 hc.2.2.2.2 e
  have nF : ∀ c u, H c = some u → c ∉ [z, TI, TO, i1, i2] := fun c u e hc => by have := (inF c hc).1; rw [e] at this; cases this
  refine I.step (g' := s.gens) (d' := s.drawn) (t' := s.toks) (ch := [z, TI, TO, i1, i2]) (fun c hc => ?_) (fun c o _ _ hc e _ => hk' c o hc e) (fun c o _ _ hc e _ => ⟨o.slots, hk' c o hc e⟩) (fun c o hc e n => n)
    (fun c o hc e => ⟨o, hk' c o hc e⟩) (fun _ _ e => e) (fun _ _ _ e => e) (fun c ps e => ⟨#[], by rw [e]; simp⟩) (fun m hm => ?_) (fun c u e => ?_) I.bare
  ·obtain ⟨f0, f1, f2, f3, f4, f5⟩ := inF c hc
   exact ⟨f3, f1, f4, f5⟩
  ·obtain ⟨o, es, ep, ho, rr⟩ := hm
   exact ⟨o, es, ep, hk' _ o (fun hc => (inF _ hc).2.1 rfl) ho, rr⟩
  ·refine (I.hok c u e).stay (fun d o hd q => hk' d o ?_ q) (fun _ q => q) fun _ _ q => q
   rcases hd with z1 | z1
   ·rw [z1]; exact nF c u e
   ·exact nF d _ z1
 self := fun _ _ _ _ _ st h => wpAny_pyIter_zip st.1 h
noncomputable def iZip (K : PySem.W.Frag) (ta : TA) : TI := fun σ H R => ta σ H fun vs H1 => ∃ a b, vs = [.ref a, .ref b] ∧ (∃ xs, SqL K H1 a xs) ∧ (∃ ys, SqL K H1 b ys) ∧ R (Itz K a b) H1
section
variable {X : Cx}
theorem pi_zip {a b : Expr} {ta : TA} {p pos : Pos} {elts : List Expr} {x1} {tpos : Pos} (hg : Gl X "zip") (hm : X.mg "zip" = none) (ha : PA X [a, b] ta) (hs : starEach [a, b] X.env = [(false, eval a X.env), (false, eval b X.env)] := by rfl) (hs2 : starEach [b] X.env = [(false, eval b X.env)] := by rfl) :
  PI X (.Tuple elts x1 tpos) (.Call (.Name "zip" p) [a, b] [] pos) (iZip X.K ta) := by
 intro pins s σ H R I h
 refine Call_ (ld_blt I hg hm boot_zip (PyProof.Rows.callWith_type1 (thn (ha pos pins s σ H _ I h) fun us s1 ⟨vs, H1, I1, r1, q1⟩ => ?_) (by rw [hs, hs2]) (by rw [hs2]; rfl)))
 obtain ⟨l1, l2, e, ⟨xs, hx⟩, ⟨ys, hy⟩, q⟩ := q1
 subst e
 obtain ⟨u1, u2, rfl, ru1, ru2⟩ := Vals.two r1
 cases ru1; cases ru2
 obtain ⟨its, r, pl, _⟩ := I1.list hx
 obtain ⟨its2, r2, pl2, _⟩ := I1.list hy
 have lt1 : l1 < s1.heap.objs.size := by obtain ⟨o, ho, _⟩ := pl.isList; exact Heap.lt_size ho
 have lt2 : l2 < s1.heap.objs.size := by obtain ⟨o, ho, _⟩ := pl2.isList; exact Heap.lt_size ho
 refine call_zip_2 pl.isList pl2.isList fun h' a1 a2 a3 a4 a5 a6 hk => ?_
 have I2 : Inv X pins σ H1 { s1 with heap := h' } := I1.kept (t' := s1.toks) hk
 refine wpAny_pyIter_zip (s := { s1 with heap := h' }) a1 ?_
 refine ⟨s1.heap.objs.size + 4, [s1.heap.objs.size + 4, s1.heap.objs.size + 2, s1.heap.objs.size + 3, s1.heap.objs.size, s1.heap.objs.size + 1], _, Itz X.K l1 l2, H1, rfl, I2, turn_zip (PyProof.Rows.zipApart_new lt1 lt2), ⟨a1, a2, ⟨_, _, a3⟩, a4, a5⟩, fun c hc => ?_, q⟩
 have hle : s1.heap.objs.size ≤ c := by
  simp only [List.mem_cons, List.not_mem_nil, or_false] at hc
  show @LE.le Nat instLENat s1.heap.objs.size c
  rcases hc with e | e | e | e | e <;> (rw [e]; omega)
 have f := I1.fpOk hle (I1.hok.fresh hle)
 exact f
end
theorem for_zip {K : PySem.W.Frag} {a b : Addr} {xs ys : List V} {g : TG} {tb : TS} {D : Ends} {σ : St} {H : Hp} (hlen : xs.length = ys.length) (Pv : Nat → St → Hp → Prop) (h0 : Pv 0 σ H) (hl : ∀ i σ H, i ≤ xs.length → Pv i σ H → SqL K H a xs ∧ SqL K H b ys)
  (hs : ∀ i x y σ H T, xs[i]? = some x → ys[i]? = some y → Pv i σ H → H T = none → g (.ref T) σ (upd H T (.tup [x, y])) fun σ2 H2 => tb { D with nx := Pv (i + 1), ct := Pv (i + 1), bk := D.nx } σ2 H2) (hd : ∀ σ H, Pv xs.length σ H → D.nx σ H) :
  ∃ W : Nat → Nat → St → Hp → Prop, (∃ m, W 0 m σ H) ∧ ∀ i m σ H, W i m σ H →
   ((Itz K a b).stop i H ∧ D.nx σ H) ∨ ((Itz K a b).go i H ∧ ∃ N : St → Hp → Prop, (∀ σ' H', N σ' H' → ∃ m', m' < m ∧ W (i + 1) m' σ' H') ∧ ∀ x H', (Itz K a b).yld i H x H' → g x σ H' fun σ2 H2 => tb { D with nx := N, ct := N, bk := D.nx } σ2 H2) := by
 refine ⟨fun i m σ H => m = xs.length - i ∧ i ≤ xs.length ∧ Pv i σ H, ⟨xs.length, by simp, Nat.zero_le _, h0⟩, ?_⟩
 rintro i m σ H ⟨rfl, hi, p⟩
 obtain ⟨q1, q2⟩ := hl i σ H hi p
 by_cases hlt : i < xs.length
 ·have hlt2 : i < ys.length := by omega
  refine .inr ⟨⟨xs, ys, xs[i], ys[i], q1, q2, by simp [hlt], by simp [hlt2]⟩, Pv (i + 1), fun σ' H' p' => ⟨xs.length - (i + 1), by omega, rfl, hlt, p'⟩, fun v H' y => ?_⟩
  obtain ⟨T, x, y, rfl, hT, rfl, yy⟩ := y
  obtain ⟨e1, e2⟩ := yy xs ys q1 q2
  exact hs i x y σ H T e1 e2 p hT
 ·have e : i = xs.length := by omega
  subst e
  exact .inl ⟨⟨xs, ys, q1, q2, .inl (Nat.le_refl _)⟩, hd σ H p⟩
noncomputable def Itr3 (lo st : Int) (n : Nat) : It := ⟨fun i _ => i < n, fun i H x H' => H' = H ∧ x = .int (lo + (i : Int) * st), fun i _ => n ≤ i⟩
theorem turn_range3 {P : Program} {w : World} {K : PySem.W.Frag} {tg : Expr} (it : Addr) (lo st : Int) (n : Nat) : Turn P w K tg (Itr3 lo st n) [it] it (fun i h => IsRangeIter h it (lo + (i : Nat) * st) ((n : Int) - (i : Nat)) st) where
 mem := by simp
 obj := fun i h hst b hb => by
  have e : b = it := by simpa using hb
  subst e
  exact ⟨_, hst, fun v z => by
   have z' : Data.fields _ = Data.cell v := z
   cases z'⟩
 keep := fun i h h' hst k => k it (by simp) _ hst
 item := by
  intro X hP hw hK hc i pins s σ H E I hf hst hg
  subst hP hw hK
  obtain ⟨f0, f1, f2, f3, f4, f5⟩ := hf it (by simp)
  have W := Walks.range (prog := X.prog) (w := X.w) (I.ok.hd hc) it lo st n
  refine W.item i s _ _ hg hst fun v h' tk hv st' kk => ?_
  obtain ⟨t, rfl⟩ := hv
  have I1 : Inv X pins σ H { s with heap := h', toks := tk } := I.turned (fun b o hb e => kk b o (by simpa using hb) e) f0 f1 f3 f4 f5
  exact ⟨_, rfl, go_of (s := { s with heap := h', toks := tk }) (n := "range_iterator") st' rfl rfl (by decide) ⟨.int (lo + (i : Int) * st), H, I1, ⟨t, rfl⟩, ⟨rfl, rfl⟩, st', fun b hb => (hf b hb).1⟩⟩
 done := by
  intro X hP hw hK hc i pins s σ H E I hf hst hg
  subst hP hw hK
  obtain ⟨f0, f1, f2, f3, f4, f5⟩ := hf it (by simp)
  exact wpAny_pyNext_range_end (I.ok.hd hc) hst (by have : n ≤ i := hg; omega) fun h' eb => ⟨rfl, I.turned (t' := s.toks) (fun b o hb e => eb b o hb e) f0 f1 f3 f4 f5⟩
 self := fun _ _ _ _ _ hst h => wpAny_pyIter_rangeiter hst h
end L2
set_option Elab.async false
set_option linter.all false
set_option maxRecDepth 100000
namespace L2
open PySem PySem.Spec PyProof.Rows
section
variable {X : Cx} {tg : Expr}
noncomputable def DictO (_ : Addr) : HO := .dK []
end
noncomputable def PassesR (CX : CXT) (X : Cx) (R : St → XK) : Prop := ∀ (pins : List (Addr × Obj)) (σ : St) (H : Hp) (s : Shared) (e : Value) (s' : Shared), Inv X pins σ H s → CX X.stack H s (R σ) e s' → X.xe e s'
structure DefX (P : Program) (w : World) (K : PySem.W.Frag) (mg : Str → Option Value) (base : Heap) (k : Nat) (x : Str) (ps : List Str) (ds : List V) (sp : Sp) : Prop where
 ex : ∃ (f : Addr) (fd : FuncData) (dvs : List Value), FnOk P w K mg base (CX1 P w) k f fd ps sp ∧ mg x = some (.ref f) ∧ PySem.W.keepIn K (.ref f) = true ∧ Binds K fd ps dvs ∧ Vals ds dvs
noncomputable def tCallR (sp : Sp) (dvs : List V) (R : St → XK) (t : TA) : TE := fun σ H Q => t σ H fun vs H1 => sp (vs ++ dvs) H1 Q (R σ)
section
variable {X : Cx}
theorem pe_callX {k : Nat} {x : Str} {ps : List Str} {ds : List V} {sp : Sp} {e : Expr} {es : List Expr} {t : TA} {p pos : Pos} {R : St → XK} (D : DefX X.prog X.w X.K X.mg X.base k x ps ds sp) (hr : Room k X.A) (hx : PassesR (CX1 X.prog X.w) X R) (hg : Gl X x)
  (ha : PA X (e :: es) t) (hdb : (x == ("__debug__" : Str)) = false := by decide) (he : starEach (e :: es) X.env = (false, eval e X.env) :: starEach es X.env := by rfl) (hpl : (backTo pos (starEach es X.env)).any (·.1) = false := by rfl) :
  PE X (.Call (.Name x p) (e :: es) [] pos) (tCallR sp ds R t) := by
 obtain ⟨f, fd, dvs, F, hm, hk, hb, hd⟩ := D.ex
 intro pins s σ H Q I h
 refine wpAny_Call_Name_kw (ld_glob I hg hm ?_ hdb)
 refine PySem.W.callWith_K (h₀ := X.base) I.ok.mod.kin hk (thn (ha pos pins s σ H _ I h) fun us s1 ⟨vs, H1, I1, r, q⟩ => ⟨I1.kIn, ?_⟩) he hpl
 have r2 : Vals (vs ++ ds) (us ++ dvs) := r.append hd
 have hl : (us ++ dvs).length = ps.length := by rw [← r2.length]; exact F.len _ _ _ _ q
 refine wpAny_call (codeAny_mono (F.run X.A X.stack s1 H1 ⟨us, []⟩ (us ++ dvs) (vs ++ ds) Q (R σ) hr I1.env0 (hb s1 us I1.kIn hl) r2 q) fun res s' hq => ?_)
 cases res with
 | error er => exact hx pins σ H1 s1 er s' I1 hq
 | ok fl =>
  cases fl with
  | ret u => exact I1.after hq
  | next => exact False.elim hq
  | brk => exact False.elim hq
  | cont => exact False.elim hq
theorem passF {P : Program} {w : World} : PassesR (CX1 P w) X fun _ => E0 := fun _ _ _ _ _ _ _ h => by
 obtain ⟨_, _, _, _, _, _, _, _, _, _, q⟩ := h
 exact False.elim q
theorem PS.nox {st : Stmt} {t : TS} (h : PS X.nox st t) : PS X st t := fun pins s σ H D I hw =>
 wpAny_mono (h pins s σ H D (I.wish _) hw) (fun _ _ q => q.unwish) fun _ _ z => False.elim z
end
section
variable {P : Program} {w : World} {K : PySem.W.Frag} {mg : Str → Option Value} {base : Heap}
theorem passes1R {N : List Str} {qual : Str} {scope : Scope} {f : Addr} {cd : Value} {A : Around} {outer : List Env} {s₀ : Shared} {H₀ : Hp} {E : XK} :
  PassesR (CX1 P w) (cxOf (CX1 P w) P w K mg base N qual scope f cd A outer s₀ H₀ E) fun _ => E := fun pins σ H s e s' I h => passes1 pins σ H s e s' I h
theorem FunD.okX {x qual : Str} {st : Stmt} {dV : Value} {f : Addr} {fd : FuncData} {N ps : List Str} {k : Nat} {sp : Sp} (F : FunD K x qual st dV f fd) (S : FnScope N ps (defScope st)) (len : ∀ vs H Q E, sp vs H Q E → vs.length = ps.length)
  (hbody : ∀ (cdv : Value) (A : Around) (outer : List Env) (s : Shared) (H : Hp) (vs : List V) (Q : VK) (E : XK), Room k (A.deeper (envOfC qual (defScope st) s.heap.objs.size f cdv)) → sp vs H Q E →
   ∃ t, PSs (cxOf (CX1 P w) P w K mg base N qual (defScope st) f cdv A outer s H E) (defBody st) t ∧ t { nx := fun _ H' => Q .non H', rt := Q } (start N vs) H) : FnOk P w K mg base (CX1 P w) (k + 1) f fd ps sp := by
 obtain ⟨oc, od, kV, doc, pm, an, cdv, ct, osl, rfl, lk, hcd⟩ := F.ex
 exact fn_of lk hcd S len fun A outer s H vs Q E hr hsp => hbody cdv A outer s H vs Q E hr hsp
theorem FunD.defX {x qual : Str} {st : Stmt} {f : Addr} {fd : FuncData} {ps : List Str} {k : Nat} {sp : Sp} (F : FunD K x qual st .none f fd) (G : FnOk P w K mg base (CX1 P w) k f fd ps sp) (hm : mg x = some (.ref f))
  (h : ∀ (kV doc pm : Value) (an : Option Addr) (cdv ct : Value) (us : List Value), us.length = ps.length → bindArgs (PySem.W.fnOf x qual (defArgs st) (defBody st) (defScope st) .none kV doc pm an cdv ct) ⟨us, []⟩ = pure (ps.zip us)) : DefX P w K mg base k x ps [] sp := by
 obtain ⟨oc, od, kV, doc, pm, an, cdv, ct, osl, rfl, lk, hcd⟩ := F.ex
 exact ⟨f, _, [], G, hm, F.kp, .all (h kV doc pm an cdv ct), .nil⟩
end
section
variable {X : Cx} {pins pn : List (Addr × Obj)} {σ : St} {H : Hp} {s : Shared} {XE : Value → Shared → Prop}
noncomputable abbrev Cx.at (X : Cx) (pn : List (Addr × Obj)) (XE : Value → Shared → Prop) : Cx := { X with pn := pn, xe := XE }
theorem Cx.Ok.at (ok : X.Ok) : (X.at pn XE).Ok :=
 ⟨ok.mod, ok.kind, ok.glob, ok.blt, ok.above, ok.inj, ok.has, ok.cab, ok.hd, ok.frames, ok.stk, ok.exf, ok.bs, ok.bsz, ok.noex, ok.exfs, ok.funs, ok.frf⟩
theorem Cx.Ok.unat (ok : (X.at pn XE).Ok) : X.Ok :=
 ⟨ok.mod, ok.kind, ok.glob, ok.blt, ok.above, ok.inj, ok.has, ok.cab, ok.hd, ok.frames, ok.stk, ok.exf, ok.bs, ok.bsz, ok.noex, ok.exfs, ok.funs, ok.frf⟩
theorem Inv.at (I : Inv X pins σ H s) : Inv (X.at (X.pn ++ pins) XE) [] σ H s := ⟨I.ok.at, I.os, I.bare, I.base, I.loc, I.cell, I.free, I.freeC, fun p hp => I.pin p (by simpa using hp), I.hok, I.len⟩
theorem Inv.unat {pins' : List (Addr × Obj)} (I : Inv (X.at (X.pn ++ pins) XE) pins' σ H s) : Inv X pins σ H s := ⟨I.ok.unat, I.os, I.bare, I.base, I.loc, I.cell, I.free, I.freeC, fun p hp => I.pin p (List.mem_append_left _ hp), I.hok, I.len⟩
noncomputable def tTry2 (K : PySem.W.Frag) (CF : Addr) (i : Nat) (tb : (St → XK) → TS) (ts : TS) : TS := fun D σ H => tb (fun σ' => catchX K CF i ts D σ') D σ H
theorem ps_try2 {body : List Stmt} {cx n : Str} {CF : Addr} {i : Nat} {b0 : Stmt} {suite : List Stmt} {np hpos pos : Pos} {tb : (St → XK) → TS} {ts : TS}
  (hN : X.N.Nodup) (hi : X.N[i]? = some n) (hl : X.env.scope.names.lookup n = some .local) (hg : Gl X cx) (hm : X.mg cx = some (.ref CF)) (hst : X.stack = X.env :: X.outer) (hf : X.env.frame = some X.env.locals)
  (hb : ∀ (pn : List (Addr × Obj)) (XE : Value → Shared → Prop) (R : St → XK), PassesR (CX1 X.prog X.w) (X.at pn XE) R → PSs (X.at pn XE) body (tb R))
  (hs : ∀ ea, PSs (X.marked ea) (b0 :: suite) ts) (hdb : (cx == ("__debug__" : Str)) = false := by decide) :
  PS X (.Try body [.ExceptHandler (some (.Name cx np)) (some n) (b0 :: suite) hpos] [] [] pos) (tTry2 X.K CF i tb ts) := by
 intro pins s σ H D I hq
 refine wpAny_Try_except (wpAny_mono (hb (X.pn ++ pins) _ (fun σ' => catchX X.K CF i ts D σ') ?_ [] s σ H D I.at hq) (fun f s1 q => ?_) fun e s1 q => q)
 ·intro pins0 σ0 H0 s0 e s' I0' hc
  have I0 : Inv X pins σ0 H0 s0 := I0'.unat
  obtain ⟨ea, cls, a0, H', B, rfl, fl, os, bare, fw, C, rfl, hex, q⟩ := hc
  replace fl : Heap.FlyingW B (X.env :: X.outer) ea (.ref C) a0 s'.heap := by rw [← hst]; exact fl
  replace fw : Flew X.prog X.w (X.env :: X.outer) H0 H' s0.heap B s'.heap ea := by rw [← hst]; exact fw
  have fr0 : X.A.frames = some (X.env :: X.outer) := by rw [I0.ok.frames, hst]
  have new0 : s0.heap.get? ea = none := by
   cases g : s0.heap.get? ea with
   | none => rfl
   | some o =>
    by_cases hb : ea ∈ frs (X.env :: X.outer)
    ·obtain ⟨_, o1, e1, nf⟩ := fl.2.2.1.mem hb
     obtain ⟨oe, vs, e2, _, d2, _⟩ := fl.first
     rw [e1] at e2; cases e2
     exact absurd d2 (nf vs)
    ·obtain ⟨o', e1⟩ := fw.there ea o g hb
     rw [fl.2.1] at e1; cases e1
  refine wpAny_looks_onW fr0 hf fl fun h4 held4 up4 => ?_
  refine wpAny_landsW held4 fun h5 fl5 up5 => ?_
  have inv : ∀ {h6 : Heap} {tk : Nat}, Heap.FlyingW B (X.env :: X.outer) ea (.ref C) a0 h6 → s'.heap.UpToSlots h6 → Inv X pins σ0 (upd H' ea (ExcO ea C)) { s' with heap := h6, toks := tk } := fun {h6 tk} fl6 up6 => by
   have f6 := fw.up fl up6
   have u6 := f6.un fl6.1
   obtain ⟨oe, vs, e6, c6, d6, _⟩ := fl6.first
   refine I0.call' (s' := { s' with heap := h6, toks := tk }) (ch := []) os (by
    rw [hst]
    exact ⟨u6.keep, u6.slot, fun b o e n hx => by
     rw [upd_ne (fun z => by rw [z, new0] at e; cases e)]
     exact u6.free b o e n hx, u6.there, fun b xs e => by
     have z := u6.tups b xs e
     rw [upd_ne (ne_of_none z fw.exc)]; exact z, fun b o u e => by
     have z := u6.frzs b o u e
     rw [upd_ne (ne_of_none z fw.exc)]; exact z, fun b ps e => by
     obtain ⟨more, z⟩ := u6.tbls b ps e
     exact ⟨more, by rw [upd_ne (ne_of_none z fw.exc)]; exact z⟩⟩) (fun b u e => ?_) bare (fun b hb => absurd hb (by simp))
   by_cases hbe : b = ea
   ·subst hbe
    rw [upd_same] at e
    cases e
    refine ⟨⟨oe, vs, e6, c6, d6⟩, ⟨oe, e6⟩, fun h1 h2 p k => ?_⟩
    obtain ⟨o, ws, p1, p2, p3⟩ := p
    exact ⟨o, ws, k o p1, p2, p3⟩
   ·rw [upd_ne hbe] at e
    refine (f6.ok fl6.1 b u e).stay (fun _ _ _ g => g) (fun c g => ?_) fun c xs g => ?_
    ·rw [upd_ne (ne_of_none g fw.exc)]; exact g
    ·rw [upd_ne (ne_of_none g fw.exc)]; exact g
  have I5 := inv (tk := s'.toks) fl5 (up4.trans up5)
  refine wpAny_handleBy_cons (codeAny_handlers_test (ld_glob (X := X.marked ea) (I5.marked ea) hg hm ?_ hdb)) (by intro z; cases z)
  obtain ⟨ob, hob, hobc⟩ := fl5.there
  have LT : PySem.W.Looks (model X.prog X.w) h5 (typeOf (.ref ea)) (.ref C) := by
   rw [← hobc]
   exact (PySem.W.Looks.ld hob).andThen .now
  refine (PySem.W.exm_one (h := h5) I5.kIn LT hex).here ?_
  refine codeAny_handlers_suite_as ?_
  refine lands_againW fl5 fun h6 fl6 up6 => ?_
  have I6 := inv (tk := s'.toks) fl6 ((up4.trans up5).trans up6)
  refine store_ok I6 hN hi (Or.inl hl) (show RelV (.ref ea) (.ref ea) from rfl) (fun s7 I7 => ?_) (.inr hl)
  refine wpAny_mono (hs ea pins s7 _ _ _ (I7.marked ea) (q ea fw.exc)) (fun f s8 sp => ?_) fun _ _ z => z.elim
  have fin : ∀ {σ8 : St} {H8 : Hp} {Q8 : Shared → Prop}, Inv (X.marked ea) pins σ8 H8 s8 → (∀ s9, Inv X pins (σ8.set i none) H8 s9 → Q8 s9) →
    wpAny (model X.prog X.w) X.A (do bindName X.env n .none; unbindBehindTheSuite X.env n hpos) (fun _ s9 => Q8 s9) X.xe s8 := fun {σ8 H8 Q8} J k => by
   have J' := J.unmarked I0.ok
   obtain ⟨m, hn, hlk⟩ := J'.loc
   refine wpAny_nameGoes_keeps hl hn (by rw [I0.ok.kind]; rfl) fun h9 v hn9 sb9 => k _ ?_
   exact J'.gone hN hi hl hlk hn9 sb9
  cases f with
  | next =>
   obtain ⟨σ8, H8, J, z⟩ := sp
   exact fin J fun s9 I9 => ⟨_, H8, I9, z⟩
  | brk =>
   obtain ⟨σ8, H8, J, z⟩ := sp
   exact fin J fun s9 I9 => ⟨_, H8, I9, z⟩
  | cont =>
   obtain ⟨σ8, H8, J, z⟩ := sp
   exact fin J fun s9 I9 => ⟨_, H8, I9, z⟩
  | ret u =>
   obtain ⟨v, σ8, H8, J, r, z⟩ := sp
   exact fin J fun s9 I9 => ⟨v, _, H8, I9, r, z⟩
 ·cases f with
  | next => obtain ⟨σ1, H1, J, z⟩ := q; exact wpAny_execs_nil ⟨σ1, H1, J.unat, z⟩
  | brk => obtain ⟨σ1, H1, J, z⟩ := q; exact ⟨σ1, H1, J.unat, z⟩
  | cont => obtain ⟨σ1, H1, J, z⟩ := q; exact ⟨σ1, H1, J.unat, z⟩
  | ret u => obtain ⟨v, σ1, H1, J, r, z⟩ := q; exact ⟨v, σ1, H1, J.unat, r, z⟩
end
end L2
set_option Elab.async false
set_option linter.all false
set_option maxRecDepth 100000
namespace L2
open PySem PySem.Spec PyProof.Rows
structure XCls (K : PySem.W.Frag) (D : Addr) : Prop where
 ga : PySem.W.findIn K (.ref D) "__getattribute__" = some (some (.builtin "BaseException.__getattribute__"))
 gx : PySem.W.findIn K (.ref D) "__getattr__" = some none
 cl : PySem.W.findIn K (.ref D) "__class__" = some (some (.builtin "object.__class__"))
 mB : PySem.W.mroIn K D (.type "BaseException") = some true
 mo : PySem.W.mroIn K D (.type "object") = some true
 isc : (PySem.W.clsIn K D).isSome = true
noncomputable def ExcAt (x D : Addr) (h : Heap) : Prop := ∃ o vs, h.get? x = some o ∧ o.cls = .ref D ∧ o.data = .fields vs
section
variable {prog : Program} {w : World} {A : Around} {E : Value → Shared → Prop} {s : Shared} {K : PySem.W.Frag} {x D : Addr}
theorem ExcAt.ty {M : Model} {h : Heap} (e : ExcAt x D h) : PySem.W.Looks M h (typeOf (.ref x)) (.ref D) := by
 obtain ⟨o, vs, h1, h2, _⟩ := e
 exact h2 ▸ (PySem.W.Looks.ld h1).andThen .now
theorem exc_class_get {R : Result → Shared → Prop} (KX : K.In s.heap) (e : ExcAt x D s.heap) (c : XCls K D) (h : R (.ok (.ret (.ref D))) s) :
    codeAny (model prog w) A (.call (.builtin "getset_descriptor.__get__") ⟨[.builtin "object.__class__", .ref x, .ref D], []⟩) R s := by
  obtain ⟨hh, g, dr, t, os⟩ := s
  have L0 : PySem.W.Looks (model prog w) hh (typeOf (.ref x)) (.ref D) := e.ty
  have L1 : PySem.W.Looks (model prog w) hh (isSubtype (.ref D) (.type (".".intercalate ("object.__class__".cutAt '.').dropLast))) true := by rw [F.owner_object_class]; exact PySem.W.looks_mroIn KX c.mo
  have LI : PySem.W.Looks (model prog w) hh (isInstance (.ref x) (.type (".".intercalate ("object.__class__".cutAt '.').dropLast))) true := L0.andThen L1
  have hT5 : (⟨hh, g, dr, t, os⟩ : Shared).TypeIs (.builtin "object.__class__") "getset_descriptor" := F.typeOf_object_class
  refine codeAny_call_builtin F.slot_gs_get.plain F.entry_gs_get (F.slot_gs_get.check _ _ _ _ _ _ _ _ hT5 (F.args_gs_get _ _ _) ?_)
  repeat (any_goals (first | assumption | (with_reducible refine LI.at ?_) | (with_reducible refine L0.at ?_) | (with_reducible refine L1.at ?_) | wp_step))
  refine ⟨Code.quiet_builtin _ (by decide +kernel), codeAny_builtin F.entry_object_class ?_⟩
  repeat (any_goals (first | assumption | (with_reducible refine L0.at ?_) | wp_step))
theorem exc_entry {tk : Tok} {Q : Fin → Shared → Prop} (KX : K.In s.heap) (e : ExcAt x D s.heap) (c : XCls K D) (h : Q (.done (.ret (.ref D))) s) :
    wpAny (model prog w) A (Builtin.«object.__getattribute__» ⟨[.ref x, .str "__class__" tk], []⟩) Q E s := by
  obtain ⟨hh, g, dr, t, os⟩ := s
  have L0 : PySem.W.Looks (model prog w) hh (typeOf (.ref x)) (.ref D) := e.ty
  have L4 := PySem.W.looks_findIn (M := model prog w) KX c.cl
  have hT5 : (⟨hh, g, dr, t, os⟩ : Shared).TypeIs (.builtin "object.__class__") "getset_descriptor" := F.typeOf_object_class
  have f5 := F.typeOf_object_class
  have f6 := F.slot_gs_get.lookup
  have f7 := F.slot_gs_set.lookup
  repeat (any_goals (first | assumption | (with_reducible refine L0.at ?_) | (with_reducible refine L4.at ?_) | wp_step))
  refine exc_class_get KX e c ?_
  exact wpAny_pure h
theorem bega_split : splitId "BaseException.__getattribute__" = some ("BaseException", "__getattribute__") := by decide +kernel
theorem bega_kind : builtinKind "BaseException.__getattribute__" = some .slot := by decide +kernel
theorem exc_check {M : Model} {v : Value} {Q : Unit → Shared → Prop} (KX : K.In s.heap) (e : ExcAt x D s.heap) (c : XCls K D) (h : Q () s) :
  wpAny M A (checkBuiltinCall "BaseException.__getattribute__" ⟨[.ref x, v], []⟩) Q E s := by
 have L0 : PySem.W.Looks M s.heap (typeOf (.ref x)) (.ref D) := e.ty
 have LI : PySem.W.Looks M s.heap (isInstance (.ref x) (.type "BaseException")) true := L0.andThen (PySem.W.looks_mroIn KX c.mB)
 have hA := F.args_bexc_ga (.ref x) v
 simp only [checkBuiltinCall, bega_split, bega_kind]
 refine wpAny_bind (LI.at ?_)
 unfold argsOk at hA
 cases hsig : Manifest.signature? "BaseException.__getattribute__" with
 | none =>
  rw [hsig] at hA
  simp only [Bool.not_true, Bool.false_eq_true, if_false]
  exact wpAny_pure h
 | some sig =>
  rw [hsig] at hA
  simp only [Bool.not_true, Bool.false_eq_true, if_false]
  exact wpAny_of_eq hA h
theorem exc_class {Q : Option Value → Shared → Prop} (KX : K.In s.heap) (e : ExcAt x D s.heap) (c : XCls K D) (h : Q (some (.ref D)) { s with toks := s.toks + 1 }) :
    wpAny (model prog w) A (getAttr? (.ref x) "__class__") Q E s := by
  obtain ⟨hh, g, dr, t, os⟩ := s
  have L0 : PySem.W.Looks (model prog w) hh (typeOf (.ref x)) (.ref D) := e.ty
  have L1 := PySem.W.looks_findIn (M := model prog w) KX c.ga
  have L2 := PySem.W.looks_findIn (M := model prog w) KX c.gx
  have hbind := F.excAttr_ValueError.ga.bind (.ref x)
  unfold getAttr? getAttrBy?
  repeat (any_goals (first | assumption | (with_reducible refine L0.at ?_) | (with_reducible refine L1.at ?_) | (with_reducible refine L2.at ?_) | wp_step))
  refine codeAny_call_builtin F.excAttr_ValueError.ga.plain F.entry_bexc_ga (exc_check (s := ⟨hh, g, dr, t + 1, os⟩) KX e c (exc_entry (s := ⟨hh, g, dr, t + 1, os⟩) KX e c ?_))
  repeat (any_goals (first | assumption | wp_step))
theorem kitx_exc (c : XCls K D) : PySem.W.KitX K (.ref x) (.ref D) (ExcAt x D) where
 ty := fun _ _ _ e => e.ty
 it := fun M h KX _ => by
  have hc := c.isc
  unfold PySem.W.clsIn at hc
  split at hc
  ·rename_i c' d' cd' sl' ho
   intro A' Q' E' s' k q
   unfold isType loadHead
   exact wpAny_bind (wpAny_loadPart (k _ _ (KX _ _ ho)) (wpAny_pure q))
  ·cases hc
 ne := fun h tp dd its n sl KX htp => by
  have hc := c.isc
  refine Bool.eq_false_iff.mpr fun q => ?_
  have e : D = tp := Value.ref.inj (beq_iff_eq.mp q)
  subst e
  unfold PySem.W.clsIn at hc
  split at hc
  ·rename_i c' d' cd' sl' ho
   have z := (KX _ _ ho).symm.trans htp
   cases z
  ·cases hc
 ca := fun KX e k => exc_class KX e c k
end
inductive TyX (K : PySem.W.Frag) (H : Hp) : V → Value → Prop where
 | of {x : V} {t : Value} (h : TyOf K H x t) : TyX K H x t
 | exc {a C : Addr} (e : H a = some (ExcO a C)) (c : XCls K C) : TyX K H (.ref a) (.ref C)
 | dict {a : Addr} (e : H a = some (DictO a)) : TyX K H (.ref a) (.type "dict")
noncomputable def IsX (K : PySem.W.Frag) (H : Hp) (x : V) (c : Value) (b : Bool) : Prop := ∃ t, TyX K H x t ∧ PySem.W.kitOne K t c = some b
noncomputable def rIsX (K : PySem.W.Frag) : List V → Hp → VK → Prop := fun xs H Q => match xs with
 | [x, .ty n] => ∃ b, IsX K H x (.type n) b ∧ Q (.bl b) H
 | [x, .ref C] => ∃ b, IsX K H x (.ref C) b ∧ Q (.bl b) H
 | _ => False
section
variable {X : Cx}
theorem isX_ok {A : Around} {E : Value → Shared → Prop} {Q : Value → Shared → Prop} {pins : List (Addr × Obj)} {σ : St} {H : Hp} {s : Shared} {x : V} {u c : Value} {b : Bool} (I : Inv X pins σ H s) (rx : RelV x u) (h : IsX X.K H x c b) (k : ∀ tk, Q (.bool b) { s with toks := tk }) :
  wpAny (model X.prog X.w) A (call (.builtin "isinstance") [u, c]) Q E s := by
 obtain ⟨t, ty, e⟩ := h
 cases ty with
 | of ty => exact isinst_ok I rx ty e k
 | @exc a C ea cc =>
  cases (show u = Value.ref a from rx)
  obtain ⟨p, _, _⟩ := (show ObjOk X.prog X.w H s.heap a (ExcO a C) from I.hok a _ ea)
  exact PySem.W.kia_one (kitx_exc cc) I.kIn p e (fun z => nomatch z) k
 | @dict a ea =>
  cases (show u = Value.ref a from rx)
  obtain ⟨_, _, vs, _, p⟩ := (show ObjOk X.prog X.w H s.heap a (.dK []) from I.hok a _ ea)
  obtain ⟨o, es, ep, h1, h2, _⟩ := p
  exact PySem.W.kia_one PySem.W.kitx_dict I.kIn ⟨o, h1, h2.1⟩ e (fun z => nomatch z) k
theorem call_isX : CallR X (.builtin "isinstance") (rIsX X.K) := by
 intro pins s σ H xs us Q I rs h
 unfold rIsX at h
 split at h
 ·obtain ⟨u, w', rfl, r1, r2⟩ := vals2 rs
  cases r2
  obtain ⟨b, hb, q⟩ := h
  exact isX_ok I r1 hb fun tk => ⟨.bl b, H, I.tok tk, rfl, q⟩
 ·obtain ⟨u, w', rfl, r1, r2⟩ := vals2 rs
  cases r2
  obtain ⟨b, hb, q⟩ := h
  exact isX_ok I r1 hb fun tk => ⟨.bl b, H, I.tok tk, rfl, q⟩
 ·exact h.elim
theorem pe_isiX {e : Expr} {te : TE} {T : Str} {n : String} {p p2 pos : Pos} (he : PE X e te) (h1 : Gl X "isinstance") (h2 : X.mg "isinstance" = none) (h3 : Gl X T) (h4 : X.mg T = none) (h5 : bootBuiltins T = some (.type n)) (h6 : T ≠ "__name__" := by decide) (h7 : (T == ("__debug__" : Str)) = false := by decide)
  (s1 : starEach [e, .Name T p2] X.env = (false, eval e X.env) :: starEach [.Name T p2] X.env := by rfl) (s2 : starEach [.Name T p2] X.env = (false, eval (.Name T p2) X.env) :: starEach [] X.env := by rfl) (hpl : (backTo pos (starEach [.Name T p2] X.env)).any (·.1) = false := by rfl) :
  PE X (.Call (.Name "isinstance" p) [e, .Name T p2] [] pos) (tCB (rIsX X.K) (tCons te (tCons (tC (.ty n)) tNil))) :=
 pe_callB call_isX h1 h2 PyProof.Rows.boot_isinstance (pa_cons he (pa_cons (pe_bltn h3 h4 h5 rfl h6 h7) pa_nil s2) s1) (by decide) (by decide) s1 hpl
theorem pe_isiC {e : Expr} {te : TE} {T : Str} {C : Addr} {p p2 pos : Pos} (he : PE X e te) (h1 : Gl X "isinstance") (h2 : X.mg "isinstance" = none) (h3 : Gl X T) (h4 : X.mg T = some (.ref C)) (h7 : (T == ("__debug__" : Str)) = false := by decide)
  (s1 : starEach [e, .Name T p2] X.env = (false, eval e X.env) :: starEach [.Name T p2] X.env := by rfl) (s2 : starEach [.Name T p2] X.env = (false, eval (.Name T p2) X.env) :: starEach [] X.env := by rfl) (hpl : (backTo pos (starEach [.Name T p2] X.env)).any (·.1) = false := by rfl) :
  PE X (.Call (.Name "isinstance" p) [e, .Name T p2] [] pos) (tCB (rIsX X.K) (tCons te (tCons (tC (.ref C)) tNil))) :=
 pe_callB call_isX h1 h2 PyProof.Rows.boot_isinstance (pa_cons he (pa_cons (pe_glob h3 h4 rfl h7) pa_nil s2) s1) (by decide) (by decide) s1 hpl
end
end L2
set_option Elab.async false
set_option linter.all false
set_option maxRecDepth 100000
namespace L2
open PySem PySem.Spec PyProof.Rows
theorem same_upd {H H' : Hp} {D : Addr} {o : HO} (s : Same H H') (h : H D = none) : Same H (upd H' D o) := fun b u e => by rw [upd_ne (ne_of_none e h)]; exact s b u e
theorem same_new {H : Hp} {D : Addr} {o : HO} (h : H D = none) : Same H (upd H D o) := same_upd (Same.refl H) h
inductive Kd (K : PySem.W.Frag) (H : Hp) : V → Prop where
 | non : Kd K H .non
 | bl (b : Bool) : Kd K H (.bl b)
 | int (i : Int) : Kd K H (.int i)
 | str (x : Str) : Kd K H (.str x)
 | lst {a : Addr} {xs : List V} (e : H a = some (.lst xs)) : Kd K H (.ref a)
 | tup {a : Addr} {xs : List V} (e : H a = some (.tup xs)) : Kd K H (.ref a)
 | dict {a : Addr} (e : H a = some (DictO a)) : Kd K H (.ref a)
theorem Kd.mono {K : PySem.W.Frag} {H H' : Hp} {x : V} (k : Kd K H x) (s : Same H H') : Kd K H' x := by
 cases k with
 | non => exact .non
 | bl b => exact .bl b
 | int i => exact .int i
 | str y => exact .str y
 | lst e => exact .lst (s _ _ e)
 | tup e => exact .tup (s _ _ e)
 | dict e => exact .dict (s _ _ e)
noncomputable def isI : V → Bool
 | .int _ => true
 | .bl _ => true
 | _ => false
noncomputable def isB : V → Bool
 | .bl _ => true
 | _ => false
noncomputable def isL (H : Hp) : V → Bool
 | .ref a => match H a with
  | some (.lst _) => true
  | _ => false
 | _ => false
section
variable {K : PySem.W.Frag}
theorem k_ii : PySem.W.kitOne K (.type "int") (.type "int") = some true := by kernel_rfl
theorem k_ib : PySem.W.kitOne K (.type "int") (.type "bool") = some false := by kernel_rfl
theorem k_il : PySem.W.kitOne K (.type "int") (.type "list") = some false := by kernel_rfl
theorem k_bi : PySem.W.kitOne K (.type "bool") (.type "int") = some true := by kernel_rfl
theorem k_bb : PySem.W.kitOne K (.type "bool") (.type "bool") = some true := by kernel_rfl
theorem k_bL : PySem.W.kitOne K (.type "bool") (.type "list") = some false := by kernel_rfl
theorem k_ni : PySem.W.kitOne K (.type "NoneType") (.type "int") = some false := by kernel_rfl
theorem k_nb : PySem.W.kitOne K (.type "NoneType") (.type "bool") = some false := by kernel_rfl
theorem k_nl : PySem.W.kitOne K (.type "NoneType") (.type "list") = some false := by kernel_rfl
theorem k_si : PySem.W.kitOne K (.type "str") (.type "int") = some false := by kernel_rfl
theorem k_sb : PySem.W.kitOne K (.type "str") (.type "bool") = some false := by kernel_rfl
theorem k_sl : PySem.W.kitOne K (.type "str") (.type "list") = some false := by kernel_rfl
theorem k_li : PySem.W.kitOne K (.type "list") (.type "int") = some false := by kernel_rfl
theorem k_lb : PySem.W.kitOne K (.type "list") (.type "bool") = some false := by kernel_rfl
theorem k_ll : PySem.W.kitOne K (.type "list") (.type "list") = some true := by kernel_rfl
theorem k_ti : PySem.W.kitOne K (.type "tuple") (.type "int") = some false := by kernel_rfl
theorem k_tb : PySem.W.kitOne K (.type "tuple") (.type "bool") = some false := by kernel_rfl
theorem k_tl : PySem.W.kitOne K (.type "tuple") (.type "list") = some false := by kernel_rfl
theorem k_di : PySem.W.kitOne K (.type "dict") (.type "int") = some false := by kernel_rfl
theorem k_db : PySem.W.kitOne K (.type "dict") (.type "bool") = some false := by kernel_rfl
theorem k_dl : PySem.W.kitOne K (.type "dict") (.type "list") = some false := by kernel_rfl
variable {H : Hp} {x : V}
theorem Kd.isInt (k : Kd K H x) : IsX K H x (.type "int") (isI x) := by
 cases k with
 | non => exact ⟨_, .of .non, k_ni⟩
 | bl b => exact ⟨_, .of (.bl b), k_bi⟩
 | int i => exact ⟨_, .of (.int i), k_ii⟩
 | str y => exact ⟨_, .of (.str y), k_si⟩
 | lst e => exact ⟨_, .of (.lst e), k_li⟩
 | tup e => exact ⟨_, .of (.tup e), k_ti⟩
 | dict e => exact ⟨_, .dict e, k_di⟩
theorem Kd.isBool (k : Kd K H x) : IsX K H x (.type "bool") (isB x) := by
 cases k with
 | non => exact ⟨_, .of .non, k_nb⟩
 | bl b => exact ⟨_, .of (.bl b), k_bb⟩
 | int i => exact ⟨_, .of (.int i), k_ib⟩
 | str y => exact ⟨_, .of (.str y), k_sb⟩
 | lst e => exact ⟨_, .of (.lst e), k_lb⟩
 | tup e => exact ⟨_, .of (.tup e), k_tb⟩
 | dict e => exact ⟨_, .dict e, k_db⟩
theorem Kd.isList (k : Kd K H x) : IsX K H x (.type "list") (isL H x) := by
 cases k with
 | non => exact ⟨_, .of .non, k_nl⟩
 | bl b => exact ⟨_, .of (.bl b), k_bL⟩
 | int i => exact ⟨_, .of (.int i), k_il⟩
 | str y => exact ⟨_, .of (.str y), k_sl⟩
 | lst e => refine ⟨_, .of (.lst e), ?_⟩; simp only [isL, e]; exact k_ll
 | tup e => refine ⟨_, .of (.tup e), ?_⟩; simp only [isL, e]; exact k_tl
 | dict e => refine ⟨_, .dict e, ?_⟩; simp only [isL, e, DictO]; exact k_dl
theorem isList_lst {a : Addr} {xs : List V} (e : H a = some (.lst xs)) : IsX K H (.ref a) (.type "list") true := ⟨_, .of (.lst e), k_ll⟩
end
noncomputable def Src (J : It) (L : List V) (H : Hp) : Prop := ∀ H', Same H H' → (∀ i x, L[i]? = some x → J.go i H' ∧ ∀ y H2, J.yld i H' y H2 → y = x ∧ H2 = H') ∧ J.stop L.length H'
theorem Same.sq {K : PySem.W.Frag} {H H' : Hp} {a : Addr} {xs : List V} (e : Same H H') (h : SqL K H a xs) : SqL K H' a xs := e.seq h
theorem src_list {K : PySem.W.Frag} {a : Addr} {xs : List V} {H : Hp} (h : SqL K H a xs) : Src (Itl K a) xs H := fun H' sm =>
 ⟨fun i x e => ⟨⟨xs, x, sm.seq h, e⟩, fun y H2 ⟨q1, q2⟩ => ⟨by have := q2 xs (sm.seq h); rw [e] at this; exact (Option.some.inj this).symm, q1⟩⟩, ⟨xs, sm.seq h, Nat.le_refl _⟩⟩
theorem src_range {lo : Int} {n : Nat} {H : Hp} : Src (Itr lo n) ((List.range n).map fun (i : Nat) => V.int (lo + i)) H := fun H' sm => by
 refine ⟨fun i x e => ?_, ?_⟩
 ·have hi : i < n := by
   have := (List.getElem?_eq_some_iff.mp e).1
   simpa using this
  refine ⟨hi, fun y H2 ⟨q1, q2⟩ => ⟨?_, q1⟩⟩
  rw [List.getElem?_map, List.getElem?_range hi] at e
  rw [q2]
  exact Option.some.inj e
 ·show n ≤ _
  simp
theorem src_range3 {lo st : Int} {n : Nat} {H : Hp} : Src (Itr3 lo st n) ((List.range n).map fun (i : Nat) => V.int (lo + (i : Int) * st)) H := fun H' sm => by
 refine ⟨fun i x e => ?_, ?_⟩
 ·have hi : i < n := by
   have := (List.getElem?_eq_some_iff.mp e).1
   simpa using this
  refine ⟨hi, fun y H2 ⟨q1, q2⟩ => ⟨?_, q1⟩⟩
  rw [List.getElem?_map, List.getElem?_range hi] at e
  rw [q2]
  exact Option.some.inj e
 ·show n ≤ _
  simp
theorem comp_fm {J : It} {L : List V} {k : Nat} {tt : TT} {te : TE} {D : Addr} {σ0 : St} {H : Hp} {Fn : Hp → Prop} (f : V → V) (p : V → Bool) (S : Src J L H) (hn : L.length ≤ sizeLine) (hD : H D = none)
  (ht : ∀ x ∈ L, ∀ (H' : Hp) (Qb : Bool → Hp → Prop), Same H H' → (∀ H'', Same H' H'' → Qb (p x) H'') → tt (σ0.set k (some x)) H' Qb)
  (he : ∀ x ∈ L, p x = true → ∀ (H' : Hp) (Q : VK), Same H H' → (∀ H'', Same H' H'' → Q (f x) H'') → te (σ0.set k (some x)) H' Q)
  (hd : ∀ H', Same H H' → H' D = some (.lst ((L.filter p).map f)) → Fn H') :
  ∃ W : Nat → Nat → St → Hp → Prop, (∃ m, W 0 m σ0 (upd H D (.lst []))) ∧ ∀ i m σ' H', W i m σ' H' →
   (J.stop i H' ∧ Fn H') ∨ (J.go i H' ∧ ∃ N : St → Hp → Prop, (∀ σ2 H2, N σ2 H2 → ∃ m', m' < m ∧ W (i + 1) m' σ2 H2) ∧ ∀ x H2, J.yld i H' x H2 → gName k x σ' H2 fun σ3 H3 => tt σ3 H3 fun b H4 =>
    if b = true then te σ3 H4 fun v H5 => ∃ xs, H5 D = some (.lst xs) ∧ xs.length < sizeLine ∧ N σ3 (upd H5 D (.lst (xs ++ [v]))) else N σ3 H4) := by
 refine ⟨fun i m σ' H' => m = L.length - i ∧ i ≤ L.length ∧ (∀ y, σ'.set k y = σ0.set k y) ∧ Same H H' ∧ H' D = some (.lst (((L.take i).filter p).map f)), ⟨L.length, rfl, Nat.zero_le _, fun _ => rfl, same_new hD, by rw [upd_same]; rfl⟩, ?_⟩
 rintro i m σ' H' ⟨rfl, hi, hσ, sm, hH⟩
 by_cases hlt : i < L.length
 ·have hx : L[i]? = some L[i] := by simp [hlt]
  obtain ⟨go, yl⟩ := (S H' sm).1 i _ hx
  refine .inr ⟨go, fun σ2 H2 => (∀ y, σ2.set k y = σ0.set k y) ∧ Same H H2 ∧ H2 D = some (.lst (((L.take (i + 1)).filter p).map f)), ?_, ?_⟩
  ·rintro σ2 H2 ⟨q1, q2, q3⟩
   exact ⟨L.length - (i + 1), by omega, rfl, hlt, q1, q2, q3⟩
  ·intro x H2 y
   obtain ⟨rfl, rfl⟩ := yl x H2 y
   show tt (σ'.set k (some L[i])) H2 _
   rw [hσ]
   have hm : L[i] ∈ L := List.getElem_mem hlt
   have tk : L.take (i + 1) = L.take i ++ [L[i]] := by rw [List.take_add_one, hx]; rfl
   refine ht _ hm H2 _ sm fun H4 s4 => ?_
   cases hp : p L[i] with
   | true =>
    refine iteT (he _ hm hp H4 _ (sm.trans s4) fun H5 s5 => ⟨_, s5 D _ (s4 D _ hH), ?_, fun y => by rw [List.set_set], same_upd (sm.trans (s4.trans s5)) hD, ?_⟩)
    ·have h1 : (((L.take i).filter p).map f).length ≤ (L.take i).length := by rw [List.length_map]; exact List.length_filter_le _ _
     rw [List.length_take] at h1
     omega
    ·rw [upd_same, tk, List.filter_append, List.map_append]
     simp [hp]
   | false =>
    refine iteF ⟨fun y => by rw [List.set_set], sm.trans s4, ?_⟩
    rw [tk, List.filter_append, List.filter_cons_of_neg (by simp [hp])]
    simpa using s4 D _ hH
 ·have e : i = L.length := by omega
  subst e
  exact .inl ⟨(S H' sm).2, hd H' sm (by rw [hH, List.take_length])⟩
structure PicV (H : Hp) (a : Addr) (ps : List Addr) (R : List (List V)) : Prop where
 top : H a = some (.lst (ps.map V.ref))
 row : Paired (fun p r => H p = some (.lst r)) ps R
 nd : ps.Nodup
 out : a ∉ ps
noncomputable def Fresh (H : Hp) (ps : List Addr) : Prop := ∀ q ∈ ps, H q = none
theorem Paired.mapI {α β : Type} {F G : α → β → Prop} : ∀ {l₁ : List α} {l₂ : List β}, Paired F l₁ l₂ → (∀ a b, a ∈ l₁ → F a b → G a b) → Paired G l₁ l₂
 | _, _, .nil, _ => .nil
 | _, _, .cons r t, f => .cons (f _ _ List.mem_cons_self r) (Paired.mapI t fun a b h => f a b (List.mem_cons_of_mem _ h))
theorem Paired.app {α β : Type} {F : α → β → Prop} : ∀ {l₁ m₁ : List α} {l₂ m₂ : List β}, Paired F l₁ l₂ → Paired F m₁ m₂ → Paired F (l₁ ++ m₁) (l₂ ++ m₂)
 | _, _, _, _, .nil, q => q
 | _, _, _, _, .cons r t, q => .cons r (Paired.app t q)
theorem Paired.getL {α β : Type} {F : α → β → Prop} : ∀ {l₁ : List α} {l₂ : List β} {i : Nat} {a : α}, Paired F l₁ l₂ → l₁[i]? = some a → ∃ b, l₂[i]? = some b ∧ F a b
 | _, _, _, _, .nil, e => by simp at e
 | _, _, 0, _, .cons r t, e => by simp at e; subst e; exact ⟨_, rfl, r⟩
 | _, _, i + 1, a, .cons r t, e => by
  obtain ⟨b, h1, h2⟩ := Paired.getL (i := i) (a := a) t (by simpa using e)
  exact ⟨b, by simpa using h1, h2⟩
section
variable {H H' : Hp} {a : Addr} {ps : List Addr} {R : List (List V)}
theorem PicV.mono (p : PicV H a ps R) (s : Same H H') : PicV H' a ps R := ⟨s _ _ p.top, Paired.mapI p.row fun _ _ _ e => s _ _ e, p.nd, p.out⟩
theorem PicV.len (p : PicV H a ps R) : ps.length = R.length := Paired.length p.row
theorem PicV.at {i : Nat} {q : Addr} (p : PicV H a ps R) (h : ps[i]? = some q) : ∃ r, R[i]? = some r ∧ H q = some (.lst r) := Paired.getL p.row h
theorem PicV.mem (p : PicV H a ps R) {q : Addr} (hq : q ∈ ps) : ∃ r, r ∈ R ∧ H q = some (.lst r) := by
 obtain ⟨i, hi⟩ := List.mem_iff_getElem?.mp hq
 obtain ⟨r, hr, e⟩ := p.at hi
 exact ⟨r, List.mem_of_getElem? hr, e⟩
end
theorem comp_rows {J : It} {L : List V} {k : Nat} {te : TE} {D : Addr} {σ0 : St} {H : Hp} {Fn : Hp → Prop} (g : V → List V) (S : Src J L H) (hn : L.length ≤ sizeLine) (hD : H D = none)
  (he : ∀ x ∈ L, ∀ (H' : Hp) (Q : VK), Same H H' → (∀ q H'', Same H' H'' → H' q = none → H'' q = some (.lst (g x)) → Q (.ref q) H'') → te (σ0.set k (some x)) H' Q)
  (hd : ∀ ps H', Same H H' → Fresh H ps → PicV H' D ps (L.map g) → Fn H') :
  ∃ W : Nat → Nat → St → Hp → Prop, (∃ m, W 0 m σ0 (upd H D (.lst []))) ∧ ∀ i m σ' H', W i m σ' H' →
   (J.stop i H' ∧ Fn H') ∨ (J.go i H' ∧ ∃ N : St → Hp → Prop, (∀ σ2 H2, N σ2 H2 → ∃ m', m' < m ∧ W (i + 1) m' σ2 H2) ∧ ∀ x H2, J.yld i H' x H2 → gName k x σ' H2 fun σ3 H3 => tTrue σ3 H3 fun b H4 =>
    if b = true then te σ3 H4 fun v H5 => ∃ xs, H5 D = some (.lst xs) ∧ xs.length < sizeLine ∧ N σ3 (upd H5 D (.lst (xs ++ [v]))) else N σ3 H4) := by
 refine ⟨fun i m σ' H' => m = L.length - i ∧ i ≤ L.length ∧ (∀ y, σ'.set k y = σ0.set k y) ∧ Same H H' ∧ ∃ ps, Fresh H ps ∧ PicV H' D ps ((L.take i).map g), ⟨L.length, rfl, Nat.zero_le _, fun _ => rfl, same_new hD, [], (fun q h => nomatch h), ⟨by rw [upd_same]; rfl, .nil, List.nodup_nil, by simp⟩⟩, ?_⟩
 rintro i m σ' H' ⟨rfl, hi, hσ, sm, ps, fr, pic⟩
 by_cases hlt : i < L.length
 ·have hx : L[i]? = some L[i] := by simp [hlt]
  obtain ⟨go, yl⟩ := (S H' sm).1 i _ hx
  refine .inr ⟨go, fun σ2 H2 => (∀ y, σ2.set k y = σ0.set k y) ∧ Same H H2 ∧ ∃ ps, Fresh H ps ∧ PicV H2 D ps ((L.take (i + 1)).map g), ?_, ?_⟩
  ·rintro σ2 H2 ⟨q1, q2, q3⟩
   exact ⟨L.length - (i + 1), by omega, rfl, hlt, q1, q2, q3⟩
  ·intro x H2 y
   obtain ⟨rfl, rfl⟩ := yl x H2 y
   simp only [gName, tTrue, if_true]
   rw [hσ]
   have hm : L[i] ∈ L := List.getElem_mem hlt
   have tk : L.take (i + 1) = L.take i ++ [L[i]] := by rw [List.take_add_one, hx]; rfl
   have hl : ps.length = i := by have := pic.len; rw [List.length_map, List.length_take] at this; omega
   refine he _ hm H2 _ sm fun q H5 s5 hq hq5 => ⟨_, s5 D _ pic.top, by rw [List.length_map, hl]; omega, fun y => by rw [List.set_set], same_upd (sm.trans s5) hD, ps ++ [q], ?_, ?_⟩
   ·intro c hc
    rcases List.mem_append.mp hc with hc | hc
    ·exact fr c hc
    ·have e : c = q := by simpa using hc
     subst e
     exact sm.free hq
   ·have nq : q ∉ ps := fun z => by
     obtain ⟨r, _, e⟩ := pic.mem z
     rw [hq] at e; cases e
    have nD : D ≠ q := ne_of_none pic.top hq
    refine ⟨by rw [upd_same, List.map_append]; rfl, ?_, ?_, ?_⟩
    ·rw [tk, List.map_append]
     refine Paired.app (Paired.mapI pic.row fun c r hc e => ?_) (.cons ?_ .nil)
     ·have ne : c ≠ D := fun z => pic.out (by rw [← z]; exact hc)
      rw [upd_ne ne]
      exact s5 _ _ e
     ·rw [upd_ne (Ne.symm nD)]
      exact hq5
    ·rw [List.nodup_append]
     exact ⟨pic.nd, by simp, fun c hc d hd z => by
      have e : d = q := by simpa using hd
      subst e; subst z
      exact nq hc⟩
    ·intro z
     rcases List.mem_append.mp z with z | z
     ·exact pic.out z
     ·exact nD (by simpa using z)
 ·have e : i = L.length := by omega
  subst e
  exact .inl ⟨(S H' sm).2, hd ps H' sm fr (by rw [List.take_length] at pic; exact pic)⟩
end L2
set_option Elab.async false
set_option linter.all false
set_option maxRecDepth 100000
namespace L2
open PySem PySem.Spec PyProof.Rows
section
variable {X : Cx} (K : PySem.W.Frag)
theorem ixK (h : X.K = K) : IxR X (rIxL K) := by subst h; exact ix_list
theorem slK (h : X.K = K) : SlR X (rSlL K) := by subst h; exact sl_list
theorem lenK (h : X.K = K) : CallR X (.builtin "len") (fun xs H Q => ∃ p ys, xs = [.ref p] ∧ (SqL K H p ys ∨ SqT K H p ys) ∧ Q (.int ys.length) H) := by subst h; exact call_len_seq
theorem listK (h : X.K = K) : CallR X (.type "list") (fun xs H Q => ∃ p ys, xs = [.ref p] ∧ (SqL K H p ys ∨ SqT K H p ys) ∧ ∀ l, H l = none → Q (.ref l) (upd H l (.lst ys))) := by subst h; exact call_list_of
theorem allK (h : X.K = K) (hc : X.calm = true) : CallR X (.builtin "all") (rAll K) := by subst h; exact call_all hc
theorem eqDK (h : X.K = K) (hu : X.A.units + 64 < cLine) : OpR X (compareOp .Eq) (rEqD K false) := by subst h; exact op_eqD hu
theorem neDK (h : X.K = K) (hu : X.A.units + 64 < cLine) : OpR X (compareOp .NotEq) (rEqD K true) := by subst h; exact op_neD hu
theorem piK {tg l : Expr} {tl : TE} (h : X.K = K) (hl : PE X l tl) : PI X tg l (iList K tl) := by subst h; exact pi_list hl
theorem isiK {e : Expr} {te : TE} {T : Str} {n : String} {p p2 pos : Pos} (h : X.K = K) (he : PE X e te) (h1 : Gl X "isinstance") (h2 : X.mg "isinstance" = none) (h3 : Gl X T) (h4 : X.mg T = none) (h5 : bootBuiltins T = some (.type n)) (h6 : T ≠ "__name__" := by decide) (h7 : (T == ("__debug__" : Str)) = false := by decide)
  (s1 : starEach [e, .Name T p2] X.env = (false, eval e X.env) :: starEach [.Name T p2] X.env := by rfl) (s2 : starEach [.Name T p2] X.env = (false, eval (.Name T p2) X.env) :: starEach [] X.env := by rfl) (hpl : (backTo pos (starEach [.Name T p2] X.env)).any (·.1) = false := by rfl) :
  PE X (.Call (.Name "isinstance" p) [e, .Name T p2] [] pos) (tCB (rIsX K) (tCons te (tCons (tC (.ty n)) tNil))) := by
 subst h; exact pe_isiX he h1 h2 h3 h4 h5 h6 h7 s1 s2 hpl
theorem isiCK {e : Expr} {te : TE} {T : Str} {C : Addr} {p p2 pos : Pos} (h : X.K = K) (he : PE X e te) (h1 : Gl X "isinstance") (h2 : X.mg "isinstance" = none) (h3 : Gl X T) (h4 : X.mg T = some (.ref C)) (h7 : (T == ("__debug__" : Str)) = false := by decide)
  (s1 : starEach [e, .Name T p2] X.env = (false, eval e X.env) :: starEach [.Name T p2] X.env := by rfl) (s2 : starEach [.Name T p2] X.env = (false, eval (.Name T p2) X.env) :: starEach [] X.env := by rfl) (hpl : (backTo pos (starEach [.Name T p2] X.env)).any (·.1) = false := by rfl) :
  PE X (.Call (.Name "isinstance" p) [e, .Name T p2] [] pos) (tCB (rIsX K) (tCons te (tCons (tC (.ref C)) tNil))) := by
 subst h; exact pe_isiC he h1 h2 h3 h4 h7 s1 s2 hpl
end
open C5
section
variable {X : Cx} {sc : Scope} {N : List Str} {src : List (Option Nat)}
theorem ps_setC {x : Str} {ix : Nat} {p1 spos : Pos} {elt tgt iter : Expr} {ifs : List Expr} {wi : TI} {g : TG} {tt : TT} {te : TE} {pos : Pos} (hN : X.N.Nodup) (hix : X.N[ix]? = some x) (hxl : X.env.scope.names.lookup x = some .local) (hc : X.calm = true) (B : BkScope X.env.scope sc X.N N src) (hi : PI X tgt iter wi)
  (hg : ∀ (s : Shared) (H : Hp) (C : Addr) (fp : List Addr), PG (cxB X sc N fp C s H) tgt g) (ht : ∀ (s : Shared) (H : Hp) (C : Addr) (fp : List Addr), PTs (cxB X sc N fp C s H) ifs tt)
  (he : ∀ (s : Shared) (H : Hp) (C : Addr) (fp : List Addr), PE (cxB X sc N fp C s H) elt te) (hs : ∀ x, foldedSetIterable iter X.env x = pure x := by intro _; rfl)
  (hsw : swapsWith (.ListComp elt [⟨tgt, iter, ifs, 0⟩] sc pos) (some (.Name x p1)) spos.line X.env = pure true := by rfl) :
  PS X (.Assign [.Name x p1] (.ListComp elt [⟨tgt, iter, ifs, 0⟩] sc pos) spos) (tAsg (tComp src wi g tt te) (gName ix)) := by
 intro pins s σ H D I h
 rw [exec_Assign_Name_used _ _ _ _ hsw]
 refine wpAny_bind (wpAny_standAt (wpAny_bind ?_))
 show wpAny _ X.A (do let _ ← comprehension (.ListComp elt [⟨tgt, iter, ifs, 0⟩] sc pos) sc X.env _ (newList []) false (eval iter X.env) (some (assign (.Name x p1) X.env))) _ _ s
 have has := B.has rfl I.ok
 refine wpAny_bind (wpAny_mono (wpAny_comprehension_free (use := some (assign (.Name x p1) X.env)) (Q := fun _ s' => SP X pins D .next s') rfl hs (clos_of has) B.kind (fun y hy hk => by have := B.look (x := y.1) (k := y.2) hy; rw [hk] at this; exact this)
  (thn (hi pins s σ H _ I h) fun v s1 h1 => thn h1 fun itv s2 h2 => ?_)) (fun _ s' hq => wpAny_pure (wpAny_pure hq)) fun _ _ z => z)
 obtain ⟨it, fp, tn, J, H2, e, I2, T, st2, f2, q⟩ := h2
 subst e
 refine wpAny_newObj_type (newBlock ?_)
 obtain ⟨W, ⟨m0, w0⟩, turn⟩ := q s2.heap.objs.size (I2.hok.fresh (Nat.le_refl _))
 have hlt : ∀ b ∈ fp, b < s2.heap.objs.size := fun b hb => by
  obtain ⟨o, ho, _⟩ := T.obj 0 _ st2 b hb
  exact Heap.lt_size ho
 have szL : (s2.heap.push { cls := .type "list", dict := none, data := .seq ([] : List Value).toArray } : Heap).objs.size = s2.heap.objs.size + 1 := Heap.size_push ..
 generalize hh1 : pushCells ((s2.heap.push { cls := .type "list", dict := none, data := .seq ([] : List Value).toArray } : Heap).push { cls := .type "dict", data := .dict #[] }) sc.names = hB
 have IB := I2.block (C := (s2.heap.push { cls := .type "list", dict := none, data := .seq ([] : List Value).toArray } : Heap).objs.size) (t := s2.toks) B f2 hlt szL hh1.symm
 generalize (s2.heap.push { cls := .type "list", dict := none, data := .seq ([] : List Value).toArray } : Heap).objs.size = C at IB szL ⊢
 have keepB : ∀ b o, s2.heap.get? b = some o → hB.get? b = some o := fun b o e => by
  rw [← hh1]
  exact pushCells_keeps _ _ b o (Heap.get?_push_of_some _ (Heap.get?_push_of_some _ e))
 have stB : tn 0 hB := T.keep 0 _ _ st2 fun b _ o e => keepB b o e
 have frB : ∀ b ∈ fp, upd H2 s2.heap.objs.size (.lst []) b = none := fun b hb => by
  rw [upd_ne (Nat.ne_of_lt (hlt b hb))]
  exact (f2 b hb).1
 have stat : ∀ {H' : Hp}, (∀ b ∈ fp, H' b = none) → ∀ b ∈ fp, FpOk (cxB X sc N fp C s2 H2) [] H' b := fun {H'} hn b hb => by
  obtain ⟨z1, z2⟩ := IB.ok.exf b hb
  exact ⟨hn b hb, z1, IB.ok.exfs b hb, .inl hb, z2, fun p hp => absurd (show p ∈ ([] : List (Addr × Obj)) from hp) (by simp)⟩
 show codeAny (model X.prog X.w) X.A (.compStart (.ListComp elt [⟨tgt, iter, ifs, 0⟩] sc pos) 0 (.ref it) (.ref s2.heap.objs.size) (bkEnv sc (clOf sc X.env) C X.env)) (compPost (model X.prog X.w) X.A X.xe (some (assign (.Name x p1) X.env)) (fun _ s' => SP X pins D .next s') (.ref s2.heap.objs.size) C) { s2 with heap := hB }
 have loop : codeAny (model X.prog X.w) X.A (.compLoop (.ListComp elt [⟨tgt, iter, ifs, 0⟩] sc pos) 0 (.ref it) (.ref s2.heap.objs.size) (bkEnv sc (clOf sc X.env) C X.env))
   (compPost (model X.prog X.w) X.A X.xe (some (assign (.Name x p1) X.env)) (fun _ s' => SP X pins D .next s') (.ref s2.heap.objs.size) C) { s2 with heap := hB } := by
  refine compLoop_go (fun n s' => ∃ i σ' H', Inv (cxB X sc N fp C s2 H2) [] σ' H' s' ∧ tn i s'.heap ∧ (∀ b ∈ fp, H' b = none) ∧ W i n σ' H') ?_ m0 ⟨0, _, _, IB, stB, frB, w0⟩
  rintro n s3 ⟨i, σ3, H3, I3, st3, fr3, w3⟩
  rcases turn i n σ3 H3 w3 with ⟨stop, qn⟩ | ⟨go, N', hN, step⟩
  ·refine thn (T.done (cxB X sc N fp C s2 H2) rfl rfl rfl hc i [] s3 σ3 H3 _ I3 (stat fr3) st3 stop) fun r s4 ⟨hr, I4⟩ => ?_
   subst hr
   obtain ⟨m, hn, _⟩ := I4.loc
   have ltC : ∀ b o, s2.heap.get? b = some o → b ≠ C := fun b o e => Nat.ne_of_lt (show @LT.lt Nat instLTNat b C by have : @LT.lt Nat instLTNat b s2.heap.objs.size := Heap.lt_size e; omega)
   have base := I4.base
   have freeC : H3 C = none := I4.free
   have J : Inv X pins σ H3 s4 := by
    refine I2.call' (s' := s4) (ch := fp) I4.os ⟨base.keep, base.slot, base.free, base.there, base.tups, base.frzs, base.tbls⟩ I4.hok I4.bare (fun b hb => ?_)
    obtain ⟨f0, f1, f2', f3, f4, f5⟩ := f2 b hb
    exact ⟨f3, f1, f4, f5⟩
   have neL : C ≠ X.env.locals := fun z => by
    obtain ⟨m', ⟨o, _, _, ho, _⟩, _⟩ := I2.loc
    exact ltC _ o ho z.symm
   have neCell : ∀ y c, X.env.cells.lookup y = some c → c ≠ C := fun y c e => by
    obtain ⟨v', o, ho, _⟩ := I2.cell y c e
    exact ltC c o ho
   show wpAny (model X.prog X.w) X.A (assign (.Name x p1) X.env (.ref s2.heap.objs.size)) _ _ s4
   refine wpAny_assign_Name (store_ok2 J hN hix (.inl hxl) (show RelV (.ref s2.heap.objs.size) (.ref s2.heap.objs.size) from rfl) (fun s5 J5 hsb => ?_) (.inr hxl))
   obtain ⟨a, sb, ha⟩ := hsb
   have neA : C ≠ a := by
    rcases ha with z | z
    ·rw [z]; exact neL
    ·exact fun q => neCell _ _ z q.symm
   refine ⟨m, hn.sameBut sb neA, fun h' hs' => ?_⟩
   refine ⟨_, H3, J5.turned (t' := s5.toks) (it := C) (fun b o hb e => (hs'.2 b hb).trans e) freeC neL (.inr ?_) neCell (fun p hp => ltC p.1 p.2 (I2.pin p hp).1), qn⟩
   exact Nat.le_trans I2.sz (show @LE.le Nat instLENat s2.heap.objs.size C by omega)
  ·refine thn (T.item (cxB X sc N fp C s2 H2) rfl rfl rfl hc i [] s3 σ3 H3 _ I3 (stat fr3) st3 go) fun r s4 ⟨u, hr, h4⟩ => ?_
   subst hr
   refine thn h4 fun _ s5 ⟨x, H5, I5, r5, y5, st5, fr5⟩ => ?_
   have I5' := I5.pinned (stat fr5) (T.obj _ _ st5)
   have again : ∀ {s7 : Shared} {σ7 : St} {H7 : Hp}, Inv (cxB X sc N fp C s2 H2) ([] ++ pinsAt fp s5.heap) σ7 H7 s7 → N' σ7 H7 → ∃ m, m < n ∧ ∃ i σ' H', Inv (cxB X sc N fp C s2 H2) [] σ' H' s7 ∧ tn i s7.heap ∧ (∀ b ∈ fp, H' b = none) ∧ W i m σ' H' := fun {s7 σ7 H7} I7 n7 => by
    obtain ⟨m', hm, w7⟩ := hN σ7 H7 n7
    refine ⟨m', hm, i + 1, σ7, H7, I7.unpinned, T.keep _ _ _ st5 fun b hb o e => (I7.pin (b, o) (List.mem_append_right _ (List.mem_append_right _ (mem_pinsAt hb e)))).1, fun b hb => ?_, w7⟩
    obtain ⟨o, e, d⟩ := T.obj _ _ st5 b hb
    exact (I7.pin (b, o) (List.mem_append_right _ (List.mem_append_right _ (mem_pinsAt hb e)))).2.1
   refine thn (hg s2 H2 C fp _ s5 σ3 H5 x u _ I5' r5 (step x H5 y5)) fun _ s6 ⟨σ6, H6, I6, q6⟩ => ?_
   refine thn (ht s2 H2 C fp _ s6 σ6 H6 _ I6 q6) fun b s7 ⟨H7, I7, q7⟩ => ?_
   cases b with
   | false =>
    rw [if_neg Bool.false_ne_true] at q7 ⊢
    exact again I7 q7
   | true =>
    rw [if_pos rfl] at q7 ⊢
    refine thn (he s2 H2 C fp _ s7 σ6 H7 _ I7 q7) fun u8 s8 ⟨v8, H8, I8, r8, xs, hD, hz, n8⟩ => ?_
    exact thn (mt_append (X := cxB X sc N fp C s2 H2) _ s8 σ6 H8 (.ref s2.heap.objs.size) [v8] (.ref s2.heap.objs.size) [u8] (fun _ H => N' σ6 H) I8 rfl (.cons r8 .nil) ⟨_, xs, v8, rfl, rfl, hD, hz, n8⟩) fun _ s9 ⟨_, H9, I9, _, n9⟩ => again I9 n9
 exact codeAny_compStart_list loop (T.self _ 0 _ _ _ stB loop)
end
end L2
namespace L2
open PySem
theorem exm_mk {K : PySem.W.Frag} {C F : Addr} (h1 : PySem.W.subIn K (.ref F) (.type "BaseException") = some true) (h2 : PySem.W.isClsIn K F = true) (h3 : PySem.W.typeIn K (.ref F) = some (.type "type")) (h4 : PySem.W.subIn K (.ref C) (.ref F) = some true) : PySem.W.exmOne K (.ref C) (.ref F) = some true := by
 unfold PySem.W.exmOne PySem.W.kitCls
 have h2' : (PySem.W.clsIn K F).isSome = true := h2
 rw [h1, if_pos (by decide)]
 dsimp only
 rw [h2', h3, if_pos (by simp), h4]
end L2
set_option Elab.async false
set_option linter.all false
set_option maxRecDepth 100000
namespace L2
open PySem PySem.Spec PyProof.Rows
section
variable {X : Cx}
end
end L2
set_option Elab.async false
set_option linter.all false
set_option maxRecDepth 100000
namespace L2
open PySem PySem.Spec PyProof.Rows
noncomputable def Ite (K : PySem.W.Frag) (a : Addr) : It :=
  ⟨fun i H => ∃ xs x, SqL K H a xs ∧ xs[i]? = some x,
   fun i H v H' => ∃ T x, v = .ref T ∧ H T = none ∧ H' = upd H T (.tup [.int (i : Int), x]) ∧ ∀ xs, SqL K H a xs → xs[i]? = some x,
   fun i H => ∃ xs, SqL K H a xs ∧ xs.length ≤ i⟩
noncomputable def ESt (e it a : Addr) (i : Nat) (h : Heap) : Prop := (∃ old, IsEnum h e it (i : Int) old) ∧ h.IsListIter it a i
theorem turn_enum {P : Program} {w : World} {K : PySem.W.Frag} {elts : List Expr} {x1} {pos : Pos} {e it a : Addr} (D : e ≠ it) :
  Turn P w K (.Tuple elts x1 pos) (Ite K a) [e, it] e (ESt e it a) where
 mem := by simp
 obj := fun i h st c hc => by
  obtain ⟨⟨old, s1⟩, ⟨o4, e4, c4, d4⟩⟩ := st
  simp only [List.mem_cons, List.not_mem_nil, or_false] at hc
  rcases hc with rfl | rfl
  ·exact ⟨_, s1, fun v e => by cases e⟩
  ·exact ⟨_, e4, fun v e => by rw [d4] at e; cases e⟩
 keep := fun i h h' st k => by
  obtain ⟨⟨old, s1⟩, s4⟩ := st
  exact ⟨⟨old, k e (by simp) _ s1⟩, s4.at fun o q => k it (by simp) o q⟩
 item := by
  intro X hP hw hK hc i pins s σ H E I hf st hg
  subst hP hw hK
  obtain ⟨⟨old, s1⟩, s4⟩ := st
  obtain ⟨xs, x, hx, ex⟩ := hg
  obtain ⟨its, r, pl, _⟩ := I.list hx
  obtain ⟨v1, hv1, rv1⟩ := r.get ex
  refine wpAny_pyNext_enum_item s1 s4 pl.isList (x := v1) (by simpa using hv1) D fun h' a1 a2 a5 a6 hk => ?_
  have fresh : H s.heap.objs.size = none := I.hok.fresh (Nat.le_refl _)
  have inF : ∀ c, c ∈ [e, it] → FpOk X pins H c := fun c hc => hf c hc
  have hk' : ∀ c o, c ∉ [e, it] → s.heap.get? c = some o → h'.get? c = some o := fun c o hc q => by
   simp only [List.mem_cons, List.not_mem_nil, or_false, not_or] at hc
   exact hk c o hc.1 hc.2 q
  have nF : ∀ c u, H c = some u → c ∉ [e, it] := fun c u q hc => by have := (inF c hc).1; rw [q] at this; cases this
  have I1 : Inv X pins σ (upd H s.heap.objs.size (.tup [.int (i : Int), x])) { s with heap := h', toks := s.toks + 1 } := by
   refine I.step (g' := s.gens) (d' := s.drawn) (t' := s.toks + 1) (ch := [e, it]) (fun c hc => ?_) (fun c o _ _ hc e _ => hk' c o hc e) (fun c o _ _ hc e _ => ⟨o.slots, hk' c o hc e⟩) (fun c o hc e n => ?_)
    (fun c o hc e => ⟨o, hk' c o hc e⟩) (fun c zs e => ?_) (fun c o u e => ?_) (fun c ps e => ?_) (fun m hm => ?_) (fun c u e => ?_) I.bare
   ·obtain ⟨f0, f1, f2, f3, f4, f5⟩ := inF c hc
    exact ⟨f3, f1, f4, f5⟩
   ·rw [upd_ne (Nat.ne_of_lt (Heap.lt_size e))]; exact n
   ·rw [upd_ne (ne_of_none e fresh)]; exact e
   ·rw [upd_ne (ne_of_none e fresh)]; exact e
   ·exact ⟨#[], by rw [upd_ne (ne_of_none e fresh), e]; simp⟩
   ·obtain ⟨o, es, ep, ho, rr⟩ := hm
    exact ⟨o, es, ep, hk' _ o (fun hc => (inF _ hc).2.1 rfl) ho, rr⟩
   ·by_cases hce : c = s.heap.objs.size
    ·subst hce
     rw [upd_same] at e
     cases e
     exact ⟨by show 2 ≤ sizeLine; decide, [_, v1], .cons ⟨_, rfl⟩ (.cons rv1 .nil), ⟨_, a5, rfl, _, rfl⟩⟩
    ·rw [upd_ne hce] at e
     refine (I.hok c u e).stay (fun d o hd q => hk' d o ?_ q) (fun d q => ?_) fun d zs q => ?_
     ·rcases hd with z1 | z1
      ·rw [z1]; exact nF c u e
      ·exact nF d _ z1
     ·rw [upd_ne (ne_of_none q fresh)]; exact q
     ·rw [upd_ne (ne_of_none q fresh)]; exact q
  refine ⟨_, rfl, wpAny_letOwnedTupleGo_enum a1 fun h2 hz2 hs2 => ?_⟩
  obtain ⟨f0, f1, f2, f3, f4, f5⟩ := inF e (by simp)
  have nez : e ≠ s.heap.objs.size := Nat.ne_of_lt (Heap.lt_size s1)
  have I2 : Inv X pins σ (upd H s.heap.objs.size (.tup [.int (i : Int), x])) { s with heap := h2, toks := s.toks + 1 } := I1.turned (t' := s.toks + 1) (fun c o hc e => hs2.extBut c o hc e) (by rw [upd_ne nez]; exact f0) f1 f3 f4 f5
  refine ⟨.ref s.heap.objs.size, _, I2, rfl, ⟨_, x, rfl, fresh, rfl, fun zs q1 => by rw [I.list_inj q1 hx]; exact ex⟩, ⟨⟨v1, ?_⟩, a2.extBut hs2.extBut (Ne.symm D)⟩, fun c hc => ?_⟩
  ·have q : ((i + 1 : Nat) : Int) = (i : Int) + 1 := by push_cast; rfl
   rw [q]; exact hz2
  obtain ⟨o, ho⟩ : ∃ o, s.heap.get? c = some o := by
   simp only [List.mem_cons, List.not_mem_nil, or_false] at hc
   obtain ⟨o4, e4, _⟩ := s4
   rcases hc with rfl | rfl
   ·exact ⟨_, s1⟩
   ·exact ⟨_, e4⟩
  rw [upd_ne (Nat.ne_of_lt (Heap.lt_size ho))]
  exact (inF c hc).1
 done := by
  intro X hP hw hK hc i pins s σ H E I hf st hg
  subst hP hw hK
  obtain ⟨⟨old, s1⟩, s4⟩ := st
  obtain ⟨xs, hx, hl⟩ := hg
  obtain ⟨its, r, pl, _⟩ := I.list hx
  have l1 := r.length
  obtain ⟨f0, f1, f2, f3, f4, f5⟩ := hf it (by simp)
  refine wpAny_pyNext_enum_end (I.ok.hd hc) s1 s4 pl.isList (by simp; omega) fun h' hk => ⟨rfl, ?_⟩
  exact I.turned (t' := s.toks) (fun c o hc e => hk c o hc e) f0 f1 f3 f4 f5
 self := fun _ _ _ _ _ st h => by obtain ⟨⟨old, s1⟩, _⟩ := st; exact wpAny_pyIter_enum s1 h
noncomputable def iEnum (K : PySem.W.Frag) (ta : TA) : TI := fun σ H R => ta σ H fun vs H1 => ∃ a, vs = [.ref a] ∧ (∃ xs, SqL K H1 a xs) ∧ R (Ite K a) H1
section
variable {X : Cx}
theorem pi_enum {a : Expr} {ta : TA} {p pos : Pos} {elts : List Expr} {x1} {tpos : Pos} (hg : Gl X "enumerate") (hm : X.mg "enumerate" = none) (ha : PA X [a] ta) (hs : starEach [a] X.env = [(false, eval a X.env)] := by rfl) :
  PI X (.Tuple elts x1 tpos) (.Call (.Name "enumerate" p) [a] [] pos) (iEnum X.K ta) := by
 intro pins s σ H R I h
 refine Call_ (ld_blt I hg hm boot_enumerate (PyProof.Rows.callWith_type1 (thn (ha pos pins s σ H _ I h) fun us s1 ⟨vs, H1, I1, r1, q1⟩ => ?_) (by rw [hs]; rfl) (by rfl)))
 obtain ⟨l1, e, ⟨xs, hx⟩, q⟩ := q1
 subst e
 obtain ⟨u1, rfl, ru1⟩ := Vals.one r1
 cases ru1
 obtain ⟨its, r, pl, _⟩ := I1.list hx
 refine call_enumerate_list pl.isList fun h' a1 a4 a6 hk => ?_
 have I2 : Inv X pins σ H1 { s1 with heap := h' } := I1.kept (t' := s1.toks) hk
 refine wpAny_pyIter_enum (s := { s1 with heap := h' }) a1 ?_
 refine ⟨s1.heap.objs.size + 1, [s1.heap.objs.size + 1, s1.heap.objs.size], _, Ite X.K l1, H1, rfl, I2, turn_enum (Nat.succ_ne_self _), ⟨⟨_, a1⟩, a4⟩, fun c hc => ?_, q⟩
 have hle : s1.heap.objs.size ≤ c := by
  simp only [List.mem_cons, List.not_mem_nil, or_false] at hc
  show @LE.le Nat instLENat s1.heap.objs.size c
  rcases hc with e | e <;> (rw [e]; omega)
 exact I1.fpOk hle (I1.hok.fresh hle)
end
end L2
set_option Elab.async false
set_option linter.all false
set_option maxRecDepth 100000
namespace L2
open PySem PySem.Spec PyProof.Rows
section
variable {X : Cx} {tg : Expr}
end
end L2
namespace PySem
namespace F
end F
section
variable {prog : Program} {w : World} {A : Around} {E : Value → Shared → Prop} {s : Shared} {I l : Addr} {items : Array Value}
end
end PySem
namespace L2
open PySem PySem.Spec PyProof.Rows
section
variable {X : Cx}
end
end L2
set_option Elab.async false
set_option linter.all false
set_option maxRecDepth 100000
namespace L2
open PySem PySem.Spec PyProof.Rows
noncomputable def Sl (e : Expr) : Prop := ∀ es env, starEach (e :: es) env = (false, eval e env) :: starEach es env
structure LitE (e : Expr) (t : TE) : Prop where
 pe : ∀ X : Cx, PE X e t
 sl : Sl e
structure LitA (es : List Expr) (t : TA) : Prop where
 pa : ∀ X : Cx, PA X es t
theorem la_nil : LitA [] tNil := ⟨fun _ => pa_nil⟩
theorem la_cons {e : Expr} {es : List Expr} {t : TE} {ts : TA} (h : LitE e t) (hs : LitA es ts) : LitA (e :: es) (tCons t ts) := ⟨fun X => pa_cons (h.pe X) (hs.pa X) (h.sl _ _)⟩
theorem lit_non {k : Nat} {p : Pos} : LitE (.Constant .none k p) (L2.tC .non) := ⟨fun _ => pe_non, fun _ _ => rfl⟩
theorem lit_int {n : Int} {k : Nat} {p : Pos} : LitE (.Constant (.int n) k p) (L2.tC (.int n)) := ⟨fun _ => pe_int, fun _ _ => rfl⟩
theorem lit_str {x : Str} {k : Nat} {p : Pos} : LitE (.Constant (.str x) k p) (L2.tC (.str x)) := ⟨fun _ => pe_str, fun _ _ => rfl⟩
theorem lit_lst {es : List Expr} {ts : TA} {p : Pos} (h : LitA es ts) : LitE (.List es p) (tLst ts) := ⟨fun X => pe_lst (h.pa X), fun _ _ => rfl⟩
theorem drop_at {α : Type} {l : List α} {n : Nat} {x : α} (h : l[n]? = some x) (m : Nat) (hm : n + 1 = m) : l.drop n = x :: l.drop m := by
 subst hm
 obtain ⟨hlt, rfl⟩ := List.getElem?_eq_some_iff.mp h
 exact List.drop_eq_getElem_cons hlt
noncomputable def forBody : Stmt → List Stmt
 | .For _ _ b _ _ => b
 | _ => []
theorem pss_at {X : Cx} {body : List Stmt} {n : Nat} {st : Stmt} {t u : TS} (m : Nat) (h : body[n]? = some st) (hm : n + 1 = m) (h1 : PS X st t) (h2 : PSs X (body.drop m) u) : PSs X (body.drop n) (tSeq t u) := by
 rw [drop_at h m hm]; exact pss_cons h1 h2
end L2
set_option Elab.async false
set_option linter.all false
set_option maxRecDepth 100000
namespace L2
open PySem PySem.Spec PyProof.Rows
section
variable {X : Cx} {tg : Expr}
end
section
variable {X : Cx}
end
end L2
namespace L2
open PySem
end L2
namespace L2
open PySem PySem.Spec PyProof.Rows
end L2
set_option Elab.async false
set_option linter.all false
set_option maxRecDepth 100000
namespace L2
open PySem PySem.Spec PyProof.Rows
section
variable {X : Cx}
end
end L2
set_option Elab.async false
set_option linter.all false
set_option maxRecDepth 100000
namespace L2
open PySem PySem.Spec PyProof.Rows
section
variable {X : Cx}
end
end L2
set_option Elab.async false
set_option linter.all false
namespace L2
open PySem PySem.Spec PyProof.Rows
section
variable {X : Cx} {e : Expr} {te : TE} {e3 : Expr} {ts : TO} {pos p2 : Pos}
end
end L2
set_option Elab.async false
set_option linter.all false
set_option maxRecDepth 100000
namespace L2
open PySem PySem.Spec PyProof.Rows
structure DefA (P : Program) (w : World) (K : PySem.W.Frag) (mg : Str → Option Value) (base : Heap) (k : Nat) (f : Addr) (ps : List Str) (ds : List V) (sp : Sp) : Prop where
 ex : ∃ (fd : FuncData) (dvs : List Value), FnOk P w K mg base CX0 k f fd ps sp ∧ PySem.W.keepIn K (.ref f) = true ∧ Binds K fd ps dvs ∧ Vals ds dvs
section
variable {P : Program} {w : World} {K : PySem.W.Frag} {mg : Str → Option Value} {base : Heap}
theorem FunD.defA {x qual : Str} {st : Stmt} {f : Addr} {fd : FuncData} {ps : List Str} {k : Nat} {sp : Sp} (F : FunD K x qual st .none f fd) (G : FnOk P w K mg base CX0 k f fd ps sp)
  (h : ∀ (kV doc pm : Value) (an : Option Addr) (cdv ct : Value) (us : List Value), us.length = ps.length → bindArgs (PySem.W.fnOf x qual (defArgs st) (defBody st) (defScope st) .none kV doc pm an cdv ct) ⟨us, []⟩ = pure (ps.zip us)) : DefA P w K mg base k f ps [] sp := by
 obtain ⟨oc, od, kV, doc, pm, an, cdv, ct, osl, rfl, lk, hcd⟩ := F.ex
 exact ⟨_, [], G, F.kp, .all (h kV doc pm an cdv ct), .nil⟩
end
section
variable {X : Cx}
theorem ld_var {E : Value → Shared → Prop} {pins : List (Addr × Obj)} {s : Shared} {σ : St} {H : Hp} {i : Nat} {x : Str} {v : V} {pos : Pos} {Q : Value → Shared → Prop} (I : Inv X pins σ H s) (hN : X.N[i]? = some x) (hv : Vis X.env.scope x) (e : σ[i]? = some (some v)) (h : ∀ u, RelV v u → Q u s)
  (hd : (x == ("__debug__" : Str)) = false := by decide) (hcd : (x == ("__classdict__" : Str)) = false := by decide) : wpAny (model X.prog X.w) X.A (eval (.Name x pos) X.env) Q E s := by
 obtain ⟨m, hn, hl⟩ := I.loc
 obtain ⟨u, r, l⟩ := hl i x v hN e hv
 have fin := h u r
 rcases l with ⟨hk, hm⟩ | ⟨hk, c, hc, hcell⟩
 ·exact wpAny_Name (wpAny_loadName_local I.ok.kind hk hn hm fin) hd
 ·rcases hk with hk | hk
  ·exact wpAny_Name (wpAny_loadName_cell I.ok.kind hk hc hcell fin) hd
  ·exact wpAny_Name (wpAny_loadName_free I.ok.kind hk hc hcell fin hcd) hd
noncomputable def tCallV (i : Nat) (f : Addr) (sp : Sp) (dvs : List V) (E : XK) (t : TA) : TE := fun σ H Q => σ[i]? = some (some (.ref f)) ∧ tCall sp dvs E t σ H Q
theorem pe_callV (i : Nat) {k : Nat} {x : Str} {f : Addr} {ps : List Str} {ds : List V} {sp : Sp} {e : Expr} {es : List Expr} {t : TA} {p pos : Pos} (D : DefA X.prog X.w X.K X.mg X.base k f ps ds sp) (hr : Room k X.A) (ha : PA X (e :: es) t)
  (hN : X.N[i]? = some x := by rfl) (hv : Vis X.env.scope x := by first | exact Or.inl rfl | exact Or.inr (Or.inl rfl) | exact Or.inr (Or.inr rfl)) (hdb : (x == ("__debug__" : Str)) = false := by decide) (hcd : (x == ("__classdict__" : Str)) = false := by decide)
  (he : starEach (e :: es) X.env = (false, eval e X.env) :: starEach es X.env := by rfl) (hpl : (backTo pos (starEach es X.env)).any (·.1) = false := by rfl) :
  PE X (.Call (.Name x p) (e :: es) [] pos) (tCallV i f sp ds E0 t) := by
 obtain ⟨fd, dvs, F, hk, hb, hd⟩ := D.ex
 intro pins s σ H Q I ⟨hi, h⟩
 refine wpAny_Call_Name_kw (ld_var I hN hv hi (fun u r => ?_) hdb hcd)
 obtain rfl : u = Value.ref f := r
 refine PySem.W.callWith_K (h₀ := X.base) I.ok.mod.kin hk (thn (ha pos pins s σ H _ I h) fun us s1 ⟨vs, H1, I1, r, q⟩ => ⟨I1.kIn, ?_⟩) he hpl
 exact run_fn F hr hb hd pass0 I1 r q
end
end L2
set_option Elab.async false
set_option linter.all false
set_option maxRecDepth 100000
namespace L2
open PySem PySem.Spec PyProof.Rows
noncomputable def CodeO (c : Addr) (qual : Str) : HO := .ext fun h => h.CodeRec (.ref c) qual
noncomputable def BMain (mg : Str → Option Value) (base : Heap) : Prop := ∃ bm ob, mg "__builtins__" = some (.ref bm) ∧ bm ≠ builtinsNs ∧ base.get? bm = some ob ∧ ob.cls = .type "module" ∧ ob.dict = some builtinsNs ∧ ob.data = .plain
section
variable {P : Program} {w : World} {H : Hp} {h : Heap}
theorem codeO_ok {c : Addr} {qual : Str} (e : h.CodeRec (.ref c) qual) : ObjOk P w H h c (CodeO c qual) := by
 obtain ⟨c2, oc, vs, t, e2, hoc, hd, hv⟩ := id e
 cases e2
 exact ⟨e, ⟨oc, hoc⟩, fun h1 h2 ⟨c3, o3, v3, t3, e3, f1, f2, f3⟩ k => by cases e3; exact ⟨_, o3, v3, t3, rfl, k _ f1, f2, f3⟩⟩
end
section
variable {X : Cx}
end
end L2
set_option Elab.async false
set_option linter.all false
set_option maxRecDepth 100000
namespace L2
open PySem PySem.Spec PyProof.Rows
section
variable {P : Program} {w : World} {K : PySem.W.Frag} {mg : Str → Option Value} {base : Heap}
end
section
variable {X : Cx}
end
end L2
set_option Elab.async false
set_option linter.all false
set_option maxRecDepth 100000
namespace L2
open PySem PySem.Spec PyProof.Rows
section
variable {P : Program} {w : World} {K : PySem.W.Frag} {mg : Str → Option Value} {base : Heap}
theorem FunD.okT {x qual : Str} {st : Stmt} {dV : Value} {f c : Addr} {fd : FuncData} {N ps : List Str} {k : Nat} {sp : Sp} (F : FunD K x qual st dV f fd) (hc : fd.code = .ref c) (S : FnScope N ps (defScope st)) (len : ∀ vs H Q E, sp vs H Q E → vs.length = ps.length)
  (hbody : ∀ (cdv : Value) (hcdv : cdv = .ref c) (A : Around) (outer : List Env) (s : Shared) (H : Hp) (vs : List V) (Q : VK) (E : XK), Room k (A.deeper (envOfC qual (defScope st) s.heap.objs.size f cdv)) → sp vs H Q E →
   ∃ t, PSs (cxOf CX0 P w K mg base N qual (defScope st) f cdv A outer s H E).nox (defBody st) t ∧ t { nx := fun _ H' => Q .non H', rt := Q } (start N vs) H) : FnOk P w K mg base CX0 (k + 1) f fd ps sp := by
 obtain ⟨oc, od, kV, doc, pm, an, cdv, ct, osl, rfl, lk, hcd⟩ := F.ex
 refine fn_of lk hcd S len fun A outer s H vs Q E hr hsp => ?_
 obtain ⟨t, h, q⟩ := hbody cdv hc A outer s H vs Q E hr hsp
 exact ⟨t, h.nox, q⟩
end
theorem law_callT {P : Program} {w : World} {K : PySem.W.Frag} {mg mb : Str → Option Value} {CX : CXT} {k : Nat} {fa a : Addr} {fd : FuncData} {x : Str} {sp : Sp} {s₁ : Shared} {vs : List Value} {ns : List Int} {ts : List Addr}
  (KX : K.In s₁.heap) (hns : s₁.heap.Ns mainGlobals mg) (hb : s₁.heap.Ns builtinsNs mb) (hbb : ∀ x : Str, x ≠ "__name__" → mb x = bootBuiltins x) (hlim : s₁.heap.NoLimit) (hg : s₁.gens = #[])
  (hBM : BMain mg s₁.heap) (hT : ∀ p ∈ ts, s₁.heap.get? p = some (PySem.W.tabObj #[])) (hC : ∀ p ∈ ts, ∃ c, PySem.W.codeHdIn K c p = true) (hNT : PySem.W.noTabs K = true)
  (ha : s₁.heap.get? a = some { cls := .type "list", data := .seq vs.toArray }) (hi : IntsAre vs ns) (hl : ns.length ≤ sizeLine) (hr : Room k callerA)
  (F : ∀ base : Heap, K.In base → base.Ns mainGlobals mg → BMain mg base → FnOk P w K mg base CX k fa fd [x] sp) (hbind : ∀ (s : Shared) (u : Value), BindsTo s fd ⟨[u], []⟩ [(x, u)])
  (hsp : ∀ H : Hp, (∀ p ∈ ts, H p = some (.tbl #[])) → SqL K H a (ns.map V.int) → sp [.ref a] H (fun v _ => v = .bl true) fun _ _ _ => False)
  (hCX : ∀ H e s', CX [] H s₁ (fun _ _ _ => False) e s' → False) :
  codeAny (model P w) callerA (.call (.ref fa) ⟨[.ref a], []⟩) (fun r s' => r = .ok (.ret (.bool true)) ∧ OldK s₁.heap s'.heap ∧ s'.os = s₁.os ∧ AllBare s'.gens) s₁ := by
 have rv := vals_ints hi
 have lenV := hi.length
 have nat : a ∉ ts := fun z => by
  have := hT a z
  rw [ha] at this; cases this
 have core : ∀ H : Hp, (∀ b, H b = none ∨ (∃ o xs, H b = some (.frz o (.lst xs))) ∨ (H b = some (.tbl #[]) ∧ b ∈ ts)) → (∀ p ∈ ts, H p = some (.tbl #[])) → SqL K H a (ns.map V.int) → HOk P w H s₁.heap → (∀ b, H b ≠ none → b = a ∨ b ∈ ts) → (H a ≠ none → K.lookup a = none) →
   codeAny (model P w) callerA (.call (.ref fa) ⟨[.ref a], []⟩) (fun r s' => r = .ok (.ret (.bool true)) ∧ OldK s₁.heap s'.heap ∧ s'.os = s₁.os ∧ AllBare s'.gens) s₁ := by
  intro H hO hTs hS hok hA hK
  have base_of : ∀ {b : Addr} {o : Obj}, s₁.heap.get? b = some o → H b = none → (hidT s₁.heap H).get? b = some o := fun e n => hidT_get e n
  have noB : ∀ {b : Addr} {o : Obj}, s₁.heap.get? b = some o → o ≠ { cls := .type "list", data := .seq vs.toArray } → o ≠ PySem.W.tabObj #[] → H b = none := fun {b o} e n1 n2 => by
   cases q : H b with
   | none => rfl
   | some u =>
    rcases hA b (by rw [q]; simp) with e' | e'
    ·subst e'
     rw [ha] at e; cases e
     exact absurd rfl n1
    ·have := hT b e'
     rw [e] at this; cases this
     exact absurd rfl n2
  have nsK : ∀ {b : Addr} {m : Str → Option Value}, s₁.heap.Ns b m → (hidT s₁.heap H).Ns b m := fun {b m} ⟨o, es, ep, e, d, r⟩ => ⟨o, es, ep, base_of e (noB e (fun z => by rw [z] at d; cases d) (fun z => by rw [z] at d; cases d)), d, r⟩
  have hKb : K.In (hidT s₁.heap H) := fun b o e => base_of (KX b o e) (by
   cases q : H b with
   | none => rfl
   | some u =>
    rcases hA b (by rw [q]; simp) with e' | e'
    ·subst e'
     rw [hK (by rw [q]; simp)] at e; cases e
    ·have e3 := hT b e'
     rw [KX b o e] at e3; cases e3
     have h2 := List.all_eq_true.mp hNT (b, _) (PySem.W.mem_of_lookupK e)
     exact absurd (show false = true from h2) Bool.false_ne_true)
  have hBMb : BMain mg (hidT s₁.heap H) := by
   obtain ⟨bm, ob, b1, b2, b3, b4, b5, b6⟩ := hBM
   exact ⟨bm, ob, b1, b2, base_of b3 (noB b3 (fun z => by rw [z] at b6; cases b6) (fun z => by rw [z] at b6; cases b6)), b4, b5, b6⟩
  have hM : Mod K mg (hidT s₁.heap H) := ⟨hKb, nsK hns, ⟨mb, nsK hb, hbb⟩, let ⟨mc, h1, h2⟩ := hlim; ⟨mc, nsK h1, h2⟩⟩
  have e0 : Env0 P w K mg (hidT s₁.heap H) callerA [] s₁ H := ⟨rfl, hM, fun b o e => of_hidT e, Nat.le_of_eq (hidT_size _ _), trivial, fun b hb => absurd (show b ∈ ([] : List Addr) from hb) (by simp), hok, .of_eq hg⟩
  refine codeAny_mono ((F _ hKb (nsK hns) hBMb).run callerA [] s₁ H ⟨[.ref a], []⟩ [.ref a] [.ref a] _ _ hr e0 (hbind s₁ (.ref a)) (.cons rfl .nil) (hsp H hTs hS)) fun r s' h => ?_
  cases r with
  | error e => exact (hCX H e s' h).elim
  | ok fl =>
   cases fl with
   | next => exact False.elim h
   | brk => exact False.elim h
   | cont => exact False.elim h
   | ret u =>
    obtain ⟨v, H', os, bare, un, hok', r', q⟩ := h
    have q' : v = .bl true := q
    subst q'
    obtain rfl : u = Value.bool true := r'
    have kept : ∀ b o, b ∉ ts → s₁.heap.get? b = some o → s'.heap.get? b = some o := fun b o nb e => by
     cases q : H b with
     | none => exact un.keep b o e q (by intro z; exact absurd (show b ∈ ([] : List Addr) from z) (by simp)) (by simp)
     | some u =>
      rcases hO b with z | ⟨ob, xs, z⟩ | ⟨_, z⟩
      ·rw [q] at z; cases z
      ·have z2 := un.frzs b ob _ z
       obtain ⟨e1, _⟩ := hok b _ z
       obtain ⟨e2, _⟩ := hok' b _ z2
       rw [e] at e1; cases e1
       exact e2
      ·exact absurd z nb
    have grown : ∀ b ∈ ts, ∃ more : Array Value, s'.heap.get? b = some (PySem.W.tabObj (#[] ++ more)) := fun b hb => by
     obtain ⟨more, z⟩ := un.tbls b _ (hTs b hb)
     exact ⟨more, hok' b _ z⟩
    refine ⟨rfl, ⟨fun b o e => ?_, fun b o e => ?_⟩, os, bare⟩
    ·by_cases hbt : b ∈ ts
     ·obtain ⟨more, z⟩ := grown b hbt
      have e2 := hT b hbt
      rw [e] at e2; cases e2
      obtain ⟨c, hc⟩ := hC b hbt
      exact .inr (.inl ⟨((PySem.W.codeHd_of_K KX hc).tab (hT b hbt)).isCodeTable, rfl, #[], more, rfl, z⟩)
     ·exact .inl (kept b o hbt e)
    ·by_cases hbt : b ∈ ts
     ·obtain ⟨more, z⟩ := grown b hbt
      exact ⟨_, z⟩
     ·exact ⟨o, kept b o hbt e⟩
 cases hk : K.lookup a with
 | some o =>
  have e := KX a o hk
  rw [ha] at e
  cases e
  refine core (fun b => if b ∈ ts then some (.tbl #[]) else none) (fun b => ?_) (fun p hp => if_pos hp) (.inr ⟨_, vs.toArray, _, hk, rfl, rfl, rfl, by rw [List.size_toArray, lenV]; exact hl, by simpa using rv⟩) (fun b u z => ?_) (fun b z => ?_) fun z => absurd (if_neg nat) z
  ·by_cases hb : b ∈ ts
   ·exact .inr (.inr ⟨if_pos hb, hb⟩)
   ·exact .inl (if_neg hb)
  ·by_cases hb : b ∈ ts
   ·have z' := (if_pos hb).symm.trans z
    cases z'
    exact hT b hb
   ·have z' := (if_neg hb).symm.trans z
    cases z'
  ·by_cases hb : b ∈ ts
   ·exact .inr hb
   ·exact absurd (if_neg hb) z
 | none =>
  have ifa : ∀ b, b = a → (if b = a then some (HO.frz { cls := .type "list", data := .seq vs.toArray } (.lst (ns.map V.int))) else if b ∈ ts then some (.tbl #[]) else none) = some (HO.frz { cls := .type "list", data := .seq vs.toArray } (.lst (ns.map V.int))) := fun b hb => if_pos hb
  have ift : ∀ b, b ∈ ts → (if b = a then some (HO.frz { cls := .type "list", data := .seq vs.toArray } (.lst (ns.map V.int))) else if b ∈ ts then some (.tbl #[]) else none) = some (HO.tbl #[]) := fun b hb => by
   have nb : ¬ b = a := fun z => nat (by rw [← z]; exact hb)
   rw [if_neg nb, if_pos hb]
  have ifn : ∀ b, b ≠ a → b ∉ ts → (if b = a then some (HO.frz { cls := .type "list", data := .seq vs.toArray } (.lst (ns.map V.int))) else if b ∈ ts then some (.tbl #[]) else none) = none := fun b n1 n2 => by
   rw [if_neg n1, if_neg n2]
  refine core (fun b => if b = a then some (.frz { cls := .type "list", data := .seq vs.toArray } (.lst (ns.map V.int))) else if b ∈ ts then some (.tbl #[]) else none) (fun b => ?_) (fun p hp => ift p hp) (.inl (.inr ⟨{ cls := .type "list", data := .seq vs.toArray }, ifa a rfl⟩)) (fun b u z => ?_) (fun b z => ?_) fun _ => hk
  ·by_cases hb : b = a
   ·exact .inr (.inl ⟨_, _, ifa b hb⟩)
   ·by_cases ht : b ∈ ts
    ·exact .inr (.inr ⟨ift b ht, ht⟩)
    ·exact .inl (ifn b hb ht)
  ·by_cases hb : b = a
   ·have z' := (ifa b hb).symm.trans z
    cases z'
    subst hb
    exact ⟨ha, by rw [List.length_map]; exact hl, vs, _, rv, ha⟩
   ·by_cases ht : b ∈ ts
    ·have z' := (ift b ht).symm.trans z
     cases z'
     exact hT b ht
    ·have z' := (ifn b hb ht).symm.trans z
     cases z'
  ·by_cases hb : b = a
   ·exact .inl hb
   ·by_cases ht : b ∈ ts
    ·exact .inr ht
    ·exact absurd (ifn b hb ht) z
theorem walk_ofT {l : PySem.W.OpenLaw} {n k : Nat} {q : Program} {loose : List Str} {XP : (Str → Option Value) → Heap → Prop} {YP : World → Heap → Prop} {d : DefRec} {K : Params → PySem.W.Frag} {CX : CXT} {sp : PySem.W.Frag → Sp} {x : Str} {ts : List Addr}
  (hn : l.most = some n) (hn2 : n ≤ sizeLine) (hdf : d.params.defaults = []) (hr : Room k callerA)
  (hY : ∀ (w : World) (h : Heap), YP w h → (K w.params).In h) (hT : ∀ (w : World) (h : Heap), YP w h → ∀ p ∈ ts, h.get? p = some (PySem.W.tabObj #[]))
  (hC : ∀ (w : World), ∀ p ∈ ts, ∃ c, PySem.W.codeHdIn (K w.params) c p = true) (hNT : ∀ w : World, PySem.W.noTabs (K w.params) = true)
  (F : ∀ (w : World) (mg : Str → Option Value) (fa : Addr) (h : Heap), (K w.params).In h → h.Ns mainGlobals mg → mg d.name = some (.ref fa) →
   ∃ fd : FuncData, (∀ (s : Shared) (u : Value), BindsTo s fd ⟨[u], []⟩ [(x, u)]) ∧
    ∀ base : Heap, (K w.params).In base → base.Ns mainGlobals mg → BMain mg base → FnOk l.prog w (K w.params) mg base CX k fa fd [x] (sp (K w.params)))
  (hsp : ∀ (K : PySem.W.Frag) (H : Hp) (a : Addr) (ns : List Int), ns.length ≤ n → (∀ x ∈ ns, Builtin.Int.intBits x ≤ 2 ^ 20) → (∀ p ∈ ts, H p = some (.tbl #[])) → SqL K H a (ns.map V.int) → sp K [.ref a] H (fun v _ => v = .bl true) fun _ _ _ => False)
  (hCX : ∀ (H : Hp) (s : Shared) (e : Value) (s' : Shared), CX [] H s (fun _ _ _ => False) e s' → False) :
  PySem.W.WalkO q loose XP YP l.row.toRowW d [] (fun f vs => PySem.call f vs) := by
 refine Att.attach_callB hn hdf fun w s₀ s₁ mg mb fa o pm cd doc a vs ns G Y ho hd hcd hmg hobj hints hlen hbits hg => ?_
 have KX := hY w _ Y
 obtain ⟨fd, hb, hF⟩ := F w mg fa _ KX G.T.g hmg
 exact law_callT KX G.T.g G.T.b G.T.builtins G.T.nolimit hg G.T.bmain (hT w _ Y) (hC w) (hNT w) hobj hints (Nat.le_trans hlen hn2) hr hF hb (fun H hO hS => hsp (K w.params) H a ns hlen hbits hO hS) fun H e s' => hCX H s₁ e s'
end L2
set_option Elab.async false
set_option linter.all false
set_option maxRecDepth 100000
namespace L2
open PySem PySem.Spec PyProof.Rows C5
section
variable {X : Cx} {Ec : XK}
end
section
variable {M : Model} {A : Around} {E : Value → Shared → Prop} {s : Shared} {B : Heap} {env : Env} {outer : List Env} {L ea : Addr} {cls a0 fl : Value} {Q : Unit → Shared → Prop}
end
section
variable {P : Program} {w : World} {K : PySem.W.Frag} {mg : Str → Option Value} {base : Heap} {N : List Str} {qual : Str} {scope : Scope} {f : Addr} {cd : Value} {A : Around} {outer : List Env} {s₀ : Shared} {H₀ : Hp} {E : XK}
theorem ownE1 : PassesOwn (model P w) (cxOf (CX1 P w) P w K mg base N qual scope f cd A outer s₀ H₀ E).A (cxOf (CX1 P w) P w K mg base N qual scope f cd A outer s₀ H₀ E).env (cxOf (CX1 P w) P w K mg base N qual scope f cd A outer s₀ H₀ E).xe :=
 fun e s' h => wpAny_leaving_again (SameStack.refl _) h
end
end L2
set_option Elab.async false
set_option linter.all false
set_option maxRecDepth 100000
namespace C5
open PySem
section
variable {prog : Program} {w : World} {A : Around} {R : Result → Shared → Prop} {s : Shared}
end
end C5
namespace L2
open PySem PySem.Spec PyProof.Rows C5
section
variable {X : Cx} {pins : List (Addr × Obj)} {σ : St} {H : Hp} {s : Shared} {sc : Scope} {N : List Str} {src : List (Option Nat)}
end
end L2
set_option Elab.async false
set_option linter.all false
set_option maxRecDepth 100000
namespace L2
open PySem PySem.Spec PyProof.Rows
theorem pg_tupK {X : Cx} {es : List Expr} {k : Nat} {t : TGs} {n : Nat} {pos : Pos} (K : PySem.W.Frag) (hK : X.K = K) (hc : X.calm = true) (h : PGs X es t)
  (hn : (assignEach es X.env).length = n := by rfl) (hst : (assignEach es X.env).findIdx? (·.1) = none := by rfl) : PG X (.Tuple es k pos) (gTup K n t) := by
 subst hK
 exact pg_tup hc h hn hst
noncomputable def g2 (K : PySem.W.Frag) (k1 k2 : Nat) : TG := gTup K 2 (gCons (gName k1) (gCons (gName k2) gNil))
noncomputable def set2 (σ : St) (k1 k2 : Nat) (p : V × V) : St := (σ.set k1 (some p.1)).set k2 (some p.2)
noncomputable def Src2 (J : It) (g : TG) (L : List (V × V)) (k1 k2 : Nat) (H : Hp) : Prop := ∀ H', Same H H' → (∀ i p, L[i]? = some p → J.go i H' ∧ ∀ y H2, J.yld i H' y H2 → ∀ (σ : St) (C : St → Hp → Prop), (∀ H3, Same H' H3 → C (set2 σ k1 k2 p) H3) → g y σ H2 C) ∧ J.stop L.length H'
section
variable {K : PySem.W.Frag} {H : Hp} {k1 k2 : Nat}
theorem src2_zip {a b : Addr} {xs ys : List V} (hx : SqL K H a xs) (hy : SqL K H b ys) (hl : xs.length = ys.length) : Src2 (Itz K a b) (g2 K k1 k2) (xs.zip ys) k1 k2 H := fun H' sm => by
 refine ⟨fun i p e => ?_, xs, ys, sm.seq hx, sm.seq hy, .inl (by rw [List.length_zip, ← hl, Nat.min_self]; exact Nat.le_refl _)⟩
 obtain ⟨x, y⟩ := p
 obtain ⟨e1, e2⟩ := List.getElem?_zip_eq_some.mp e
 refine ⟨⟨xs, ys, x, y, sm.seq hx, sm.seq hy, e1, e2⟩, fun v H2 hv σ C hC => ?_⟩
 obtain ⟨T, x', y', rfl, hT, rfl, hv⟩ := hv
 obtain ⟨q1, q2⟩ := hv xs ys (sm.seq hx) (sm.seq hy)
 rw [e1] at q1; cases q1
 rw [e2] at q2; cases q2
 exact ⟨T, _, rfl, SqT.of upd_same, rfl, _, _, rfl, _, _, rfl, rfl, hC _ (same_new hT)⟩
noncomputable def enumL (xs : List V) : List (V × V) := (List.range xs.length).map fun (i : Nat) => (V.int (i : Int), xs.getD i .non)
theorem enumL_len (xs : List V) : (enumL xs).length = xs.length := by simp [enumL]
theorem enumL_at {xs : List V} {i : Nat} {p : V × V} (h : (enumL xs)[i]? = some p) : ∃ x, xs[i]? = some x ∧ p = (.int (i : Int), x) := by
 unfold enumL at h
 have hi : i < xs.length := by
  have := (List.getElem?_eq_some_iff.mp h).1
  simpa using this
 rw [List.getElem?_map, List.getElem?_range hi] at h
 refine ⟨xs[i], List.getElem?_eq_getElem hi, ?_⟩
 have := (Option.some.inj h).symm
 simpa [List.getD, hi] using this
theorem src2_enum {a : Addr} {xs : List V} (hx : SqL K H a xs) : Src2 (Ite K a) (g2 K k1 k2) (enumL xs) k1 k2 H := fun H' sm => by
 refine ⟨fun i p e => ?_, xs, sm.seq hx, by rw [enumL_len]; exact Nat.le_refl _⟩
 obtain ⟨x, e1, rfl⟩ := enumL_at e
 refine ⟨⟨xs, x, sm.seq hx, e1⟩, fun v H2 hv σ C hC => ?_⟩
 obtain ⟨T, x', rfl, hT, rfl, hv⟩ := hv
 have q1 := hv xs (sm.seq hx)
 rw [e1] at q1; cases q1
 exact ⟨T, _, rfl, SqT.of upd_same, rfl, _, _, rfl, _, _, rfl, rfl, hC _ (same_new hT)⟩
theorem set2_set2 {σ : St} {p q : V × V} : set2 (set2 σ k1 k2 p) k1 k2 q = set2 σ k1 k2 q := by
 unfold set2
 by_cases h : k1 = k2
 ·subst h; simp only [List.set_set]
 ·rw [List.set_comm (some p.2) (some q.1) (Ne.symm h), List.set_set, List.set_set]
theorem comp2_fm {J : It} {g : TG} {L : List (V × V)} {tt : TT} {te : TE} {D : Addr} {σ0 : St} {Fn : Hp → Prop} (f : V × V → V) (p : V × V → Bool) (S : Src2 J g L k1 k2 H) (hn : L.length ≤ sizeLine) (hD : H D = none)
  (ht : ∀ x ∈ L, ∀ (H' : Hp) (Qb : Bool → Hp → Prop), Same H H' → (∀ H'', Same H' H'' → Qb (p x) H'') → tt (set2 σ0 k1 k2 x) H' Qb)
  (he : ∀ x ∈ L, p x = true → ∀ (H' : Hp) (Q : VK), Same H H' → (∀ H'', Same H' H'' → Q (f x) H'') → te (set2 σ0 k1 k2 x) H' Q)
  (hd : ∀ H', Same H H' → H' D = some (.lst ((L.filter p).map f)) → Fn H') :
  ∃ W : Nat → Nat → St → Hp → Prop, (∃ m, W 0 m σ0 (upd H D (.lst []))) ∧ ∀ i m σ' H', W i m σ' H' →
   (J.stop i H' ∧ Fn H') ∨ (J.go i H' ∧ ∃ N : St → Hp → Prop, (∀ σ2 H2, N σ2 H2 → ∃ m', m' < m ∧ W (i + 1) m' σ2 H2) ∧ ∀ x H2, J.yld i H' x H2 → g x σ' H2 fun σ3 H3 => tt σ3 H3 fun b H4 =>
    if b = true then te σ3 H4 fun v H5 => ∃ xs, H5 D = some (.lst xs) ∧ xs.length < sizeLine ∧ N σ3 (upd H5 D (.lst (xs ++ [v]))) else N σ3 H4) := by
 refine ⟨fun i m σ' H' => m = L.length - i ∧ i ≤ L.length ∧ (∀ y, set2 σ' k1 k2 y = set2 σ0 k1 k2 y) ∧ Same H H' ∧ H' D = some (.lst (((L.take i).filter p).map f)), ⟨L.length, rfl, Nat.zero_le _, fun _ => rfl, same_new hD, by rw [upd_same]; rfl⟩, ?_⟩
 rintro i m σ' H' ⟨rfl, hi, hσ, sm, hH⟩
 by_cases hlt : i < L.length
 ·have hx : L[i]? = some L[i] := by simp [hlt]
  obtain ⟨go, yl⟩ := (S H' sm).1 i _ hx
  refine .inr ⟨go, fun σ2 H2 => (∀ y, set2 σ2 k1 k2 y = set2 σ0 k1 k2 y) ∧ Same H H2 ∧ H2 D = some (.lst (((L.take (i + 1)).filter p).map f)), ?_, ?_⟩
  ·rintro σ2 H2 ⟨q1, q2, q3⟩
   exact ⟨L.length - (i + 1), by omega, rfl, hlt, q1, q2, q3⟩
  ·intro x H2 y
   refine yl x H2 y σ' _ fun H3 s3 => ?_
   rw [hσ]
   have hm : L[i] ∈ L := List.getElem_mem hlt
   have tk : L.take (i + 1) = L.take i ++ [L[i]] := by rw [List.take_add_one, hx]; rfl
   refine ht _ hm H3 _ (sm.trans s3) fun H4 s4 => ?_
   have s34 := s3.trans s4
   cases hp : p L[i] with
   | true =>
    refine iteT (he _ hm hp H4 _ (sm.trans s34) fun H5 s5 => ⟨_, s5 D _ (s34 D _ hH), ?_, fun y => set2_set2, same_upd (sm.trans (s34.trans s5)) hD, ?_⟩)
    ·have h1 : (((L.take i).filter p).map f).length ≤ (L.take i).length := by rw [List.length_map]; exact List.length_filter_le _ _
     rw [List.length_take] at h1
     omega
    ·rw [upd_same, tk, List.filter_append, List.map_append]
     simp [hp]
   | false =>
    refine iteF ⟨fun y => set2_set2, sm.trans s34, ?_⟩
    rw [tk, List.filter_append, List.filter_cons_of_neg (by simp [hp])]
    simpa using s34 D _ hH
 ·have e : i = L.length := by omega
  subst e
  exact .inl ⟨(S H' sm).2, hd H' sm (by rw [hH, List.take_length])⟩
theorem comp2_rows {J : It} {g : TG} {L : List (V × V)} {te : TE} {D : Addr} {σ0 : St} {Fn : Hp → Prop} (G : V × V → List V) (S : Src2 J g L k1 k2 H) (hn : L.length ≤ sizeLine) (hD : H D = none)
  (he : ∀ x ∈ L, ∀ (H' : Hp) (Q : VK), Same H H' → (∀ q H'', Same H' H'' → H' q = none → H'' q = some (.lst (G x)) → Q (.ref q) H'') → te (set2 σ0 k1 k2 x) H' Q)
  (hd : ∀ ps H', Same H H' → Fresh H ps → PicV H' D ps (L.map G) → Fn H') :
  ∃ W : Nat → Nat → St → Hp → Prop, (∃ m, W 0 m σ0 (upd H D (.lst []))) ∧ ∀ i m σ' H', W i m σ' H' →
   (J.stop i H' ∧ Fn H') ∨ (J.go i H' ∧ ∃ N : St → Hp → Prop, (∀ σ2 H2, N σ2 H2 → ∃ m', m' < m ∧ W (i + 1) m' σ2 H2) ∧ ∀ x H2, J.yld i H' x H2 → g x σ' H2 fun σ3 H3 => tTrue σ3 H3 fun b H4 =>
    if b = true then te σ3 H4 fun v H5 => ∃ xs, H5 D = some (.lst xs) ∧ xs.length < sizeLine ∧ N σ3 (upd H5 D (.lst (xs ++ [v]))) else N σ3 H4) := by
 refine ⟨fun i m σ' H' => m = L.length - i ∧ i ≤ L.length ∧ (∀ y, set2 σ' k1 k2 y = set2 σ0 k1 k2 y) ∧ Same H H' ∧ ∃ ps, Fresh H ps ∧ PicV H' D ps ((L.take i).map G), ⟨L.length, rfl, Nat.zero_le _, fun _ => rfl, same_new hD, [], (fun q h => nomatch h), ⟨by rw [upd_same]; rfl, .nil, List.nodup_nil, by simp⟩⟩, ?_⟩
 rintro i m σ' H' ⟨rfl, hi, hσ, sm, ps, fr, pic⟩
 by_cases hlt : i < L.length
 ·have hx : L[i]? = some L[i] := by simp [hlt]
  obtain ⟨go, yl⟩ := (S H' sm).1 i _ hx
  refine .inr ⟨go, fun σ2 H2 => (∀ y, set2 σ2 k1 k2 y = set2 σ0 k1 k2 y) ∧ Same H H2 ∧ ∃ ps, Fresh H ps ∧ PicV H2 D ps ((L.take (i + 1)).map G), ?_, ?_⟩
  ·rintro σ2 H2 ⟨q1, q2, q3⟩
   exact ⟨L.length - (i + 1), by omega, rfl, hlt, q1, q2, q3⟩
  ·intro x H2 y
   refine yl x H2 y σ' _ fun H3 s3 => ?_
   simp only [tTrue, if_true]
   rw [hσ]
   have hm : L[i] ∈ L := List.getElem_mem hlt
   have tk : L.take (i + 1) = L.take i ++ [L[i]] := by rw [List.take_add_one, hx]; rfl
   have hl : ps.length = i := by have := pic.len; rw [List.length_map, List.length_take] at this; omega
   have pic := pic.mono s3
   have sm := sm.trans s3
   refine he _ hm H3 _ sm fun q H5 s5 hq hq5 => ⟨_, s5 D _ pic.top, by rw [List.length_map, hl]; omega, fun y => set2_set2, same_upd (sm.trans s5) hD, ps ++ [q], ?_, ?_⟩
   ·intro c hc
    rcases List.mem_append.mp hc with hc | hc
    ·exact fr c hc
    ·have e : c = q := by simpa using hc
     subst e
     exact sm.free hq
   ·have nq : q ∉ ps := fun z => by
     obtain ⟨r, _, e⟩ := pic.mem z
     rw [hq] at e; cases e
    have nD : D ≠ q := ne_of_none pic.top hq
    refine ⟨by rw [upd_same, List.map_append]; rfl, ?_, ?_, ?_⟩
    ·rw [tk, List.map_append]
     refine Paired.app (Paired.mapI pic.row fun c r hc e => ?_) (.cons ?_ .nil)
     ·have ne : c ≠ D := fun z => pic.out (by rw [← z]; exact hc)
      rw [upd_ne ne]
      exact s5 _ _ e
     ·rw [upd_ne (Ne.symm nD)]
      exact hq5
    ·rw [List.nodup_append]
     exact ⟨pic.nd, by simp, fun c hc d hd z => by
      have e : d = q := by simpa using hd
      subst e; subst z
      exact nq hc⟩
    ·intro z
     rcases List.mem_append.mp z with z | z
     ·exact pic.out z
     ·have e : D = q := by simpa using z
      exact nD e
 ·have e : i = L.length := by omega
  subst e
  exact .inl ⟨(S H' sm).2, hd ps H' sm fr (by rw [List.take_length] at pic; exact pic)⟩
end
end L2
set_option Elab.async false
set_option linter.all false
set_option maxRecDepth 100000
namespace PySem
open Sem (wp)
open AutoSeq1 (wpAny_loadPart')
section
variable {prog : Program} {w : World} {A : Around} {E : Value → Shared → Prop} {s : Shared}
end
section
variable {prog : Program} {w : World} {A : Around} {E : Value → Shared → Prop} {s : Shared}
end
section
variable {prog : Program} {w : World} {A : Around} {E : Value → Shared → Prop} {s : Shared}
end
end PySem
namespace L2
open PySem PySem.Spec PyProof.Rows
section
variable {X : Cx}
end
section
variable {K : PySem.W.Frag} {H : Hp} {k1 k2 : Nat}
theorem Same.seqT {K : PySem.W.Frag} {H H' : Hp} {a : Addr} {xs : List V} (e : Same H H') (h : SqT K H a xs) : SqT K H' a xs := by
 rcases h with (h | ⟨o, h⟩) | h
 ·exact .inl (.inl (e _ _ h))
 ·exact .inl (.inr ⟨o, e _ _ h⟩)
 ·exact .inr h
end
end L2
set_option Elab.async false
set_option linter.all false
set_option maxRecDepth 100000
namespace L2
open PySem PySem.Spec PyProof.Rows
section
variable {K : PySem.W.Frag}
variable {H : Hp} {x : V}
end
section
variable {X : Cx}
end
end L2
set_option Elab.async false
set_option linter.all false
set_option maxRecDepth 100000
namespace L2
open PySem PySem.Spec PyProof.Rows
section
variable {P : Program} {w : World} {K : PySem.W.Frag} {mg : Str → Option Value} {base : Heap}
end
section
variable {X : Cx}
end
end L2
set_option Elab.async false
set_option linter.all false
set_option maxRecDepth 100000
namespace L2
open PySem PySem.Spec PyProof.Rows
set_option maxHeartbeats 1600000
section
variable {X : Cx}
end
end L2
set_option Elab.async false
set_option linter.all false
set_option maxRecDepth 100000
namespace L2
open PySem PySem.Spec PyProof.Rows
section
variable {X : Cx}
end
end L2
set_option Elab.async false
set_option linter.all false
set_option maxRecDepth 100000
namespace L2
open PySem PySem.Spec PyProof.Rows
section
variable {X : Cx}
end
theorem EqL.intsT {K : PySem.W.Frag} {H : Hp} {p q : Addr} {ns ms : List Int} (h1 : SqT K H p (ns.map V.int)) (h2 : SqT K H q (ms.map V.int)) (hl : ns.length = ms.length) : EqL K H (EqD K H 0) p q (decide (ns = ms)) := by
 refine ⟨_, _, .inr ⟨.inr ⟨h1, h2⟩, by simp [hl], fun i => ns[i]? == ms[i]?, fun i x y e1 e2 => ?_, ?_⟩⟩
 ·rw [List.getElem?_map] at e1 e2
  cases g1 : ns[i]? with
  | none => rw [g1] at e1; cases e1
  | some n =>
   cases g2 : ms[i]? with
   | none => rw [g2] at e2; cases e2
   | some m =>
    rw [g1] at e1; rw [g2] at e2
    cases e1; cases e2
    refine .inr ⟨rfl, rfl, ?_⟩
    show (ns[i]? == ms[i]?) = (n == m)
    rw [g1, g2, Bool.eq_iff_iff]; simp
 ·rw [Bool.eq_iff_iff, decide_eq_true_eq, List.all_eq_true, List.length_map]
  constructor
  ·rintro rfl i _; simp
  ·intro h
   refine List.ext_getElem? fun i => ?_
   by_cases hi : i < ns.length
   ·exact eq_of_beq (h i (List.mem_range.mpr hi))
   ·rw [List.getElem?_eq_none (by omega), List.getElem?_eq_none (by omega)]
noncomputable def ButL (ts : List Addr) (H H' : Hp) : Prop := ∀ b o, b ∉ ts → H b = some o → H' b = some o
theorem ButL.of {ts : List Addr} {H H' : Hp} (s : Same H H') : ButL ts H H' := fun b o _ e => s b o e
theorem ButL.trans {ts : List Addr} {H H1 H2 : Hp} (a : ButL ts H H1) (b : ButL ts H1 H2) : ButL ts H H2 := fun c o n e => b c o n (a c o n e)
end L2
set_option Elab.async false
set_option linter.all false
set_option maxRecDepth 100000
namespace L2
open PySem PySem.Spec PyProof.Rows
noncomputable def clOf (cells : List (Str × Addr)) : List (Str × NameKind) → List (Str × Addr) → List (Str × Addr)
  | [], acc => acc
  | (n, k) :: r, acc => if k == .free then clOf cells r ((n, (cells.lookup n).getD 0) :: acc) else clOf cells r acc
noncomputable def FreeHas (sc : Scope) (cells : List (Str × Addr)) : Prop := ∀ x, (x, NameKind.free) ∈ sc.names → ∃ c, cells.lookup x = some c
theorem closure_go {env : Env} (f : Str × NameKind → List (Str × Addr) → Sem (ForInStep (List (Str × Addr)))) (h1 : ∀ n r, f (n, .free) r = (do let c ← cellOf env n; pure (.yield ((n, c) :: r)))) (h2 : ∀ n k r, (k == NameKind.free) = false → f (n, k) r = pure (.yield r)) :
    ∀ (l : List (Str × NameKind)) (acc : List (Str × Addr)), (∀ x, (x, NameKind.free) ∈ l → ∃ c, env.cells.lookup x = some c) → forIn l acc f = pure (clOf env.cells l acc)
  | [], acc, _ => rfl
  | (n, k) :: r, acc, h => by
    rw [List.forIn_cons]
    unfold clOf
    cases hk : k == NameKind.free with
    | true =>
      have e : k = .free := by simpa using hk
      subst e
      obtain ⟨c, hc⟩ := h n List.mem_cons_self
      have hcell : cellOf env n = pure c := by unfold cellOf; rw [hc]
      rw [h1, hcell, if_pos rfl, hc]
      simp only [pure_bind, Option.getD_some]
      exact closure_go f h1 h2 r _ fun x hx => h x (List.mem_cons_of_mem _ hx)
    | false =>
      rw [h2 _ _ _ hk, pure_bind]
      simp only [Bool.false_eq_true, if_false]
      exact closure_go f h1 h2 r _ fun x hx => h x (List.mem_cons_of_mem _ hx)
theorem closureFor_eq {sc : Scope} {env : Env} (h : FreeHas sc env.cells) : closureFor sc env = pure (clOf env.cells sc.names []) := by
 unfold closureFor
 dsimp only
 rw [closure_go (env := env) _ (fun n r => rfl) (fun n k r hk => by simp only [hk, Bool.false_eq_true, if_false]) sc.names [] h]
 rfl
theorem clOf_get {cells : List (Str × Addr)} {x : Str} {c : Addr} : ∀ (l : List (Str × NameKind)) (acc : List (Str × Addr)), (∀ x, (x, NameKind.free) ∈ l → ∃ c, cells.lookup x = some c) → (∀ x c, acc.lookup x = some c → cells.lookup x = some c) → (clOf cells l acc).lookup x = some c → cells.lookup x = some c
  | [], acc, _, ha, h => ha x c h
  | (n, k) :: r, acc, hl, ha, h => by
    unfold clOf at h
    cases hk : k == NameKind.free with
    | true =>
      have e : k = .free := by simpa using hk
      subst e
      rw [if_pos hk] at h
      obtain ⟨d, hd⟩ := hl n List.mem_cons_self
      refine clOf_get r _ (fun y hy => hl y (List.mem_cons_of_mem _ hy)) (fun y c' hy => ?_) h
      rw [hd, Option.getD_some, List.lookup_cons] at hy
      cases hyn : y == n with
      | true =>
        rw [hyn] at hy
        have e : y = n := by simpa using hyn
        rw [e, hd]; exact hy
      | false =>
        rw [hyn] at hy
        exact ha y c' hy
    | false =>
      rw [hk] at h
      simp only [Bool.false_eq_true, if_false] at h
      exact clOf_get r _ (fun y hy => hl y (List.mem_cons_of_mem _ hy)) ha h
theorem clOf_has {cells : List (Str × Addr)} {x : Str} : ∀ (l : List (Str × NameKind)) (acc : List (Str × Addr)), ((∃ c, acc.lookup x = some c) ∨ (x, NameKind.free) ∈ l) → ∃ c, (clOf cells l acc).lookup x = some c
  | [], acc, h => h.elim id fun z => nomatch z
  | (n, k) :: r, acc, h => by
    unfold clOf
    cases hk : k == NameKind.free with
    | true =>
      have e : k = .free := by simpa using hk
      subst e
      rw [if_pos rfl]
      refine clOf_has r _ ?_
      by_cases hx : x = n
      · exact .inl ⟨(cells.lookup n).getD 0, by rw [hx, List.lookup_cons]; simp⟩
      · rcases h with ⟨c, h⟩ | h
        · refine .inl ⟨c, ?_⟩
          have : (x == n) = false := by simpa using hx
          rw [List.lookup_cons, this]; exact h
        · rcases List.mem_cons.mp h with z | z
          · cases z; exact absurd rfl hx
          · exact .inr z
    | false =>
      simp only [Bool.false_eq_true, if_false]
      refine clOf_has r _ ?_
      rcases h with h | h
      · exact .inl h
      · rcases List.mem_cons.mp h with z | z
        · cases z; cases hk
        · exact .inr z
structure LamW where
 prm : Arguments
 body : Expr
 sc : Scope
 qual : Str
 cl : List (Str × Addr)
 dV : Value
 c : Addr
noncomputable abbrev LamW.fn (L : LamW) (doc pm ctv : Value) : FuncData := PySem.W.kdv_fn "<lambda>" L.qual L.prm (.expr L.body) L.sc L.cl L.dV doc pm (.ref L.c) ctv
noncomputable def LamOC (f : Addr) (L : LamW) : HO := .ext fun h => ∃ doc pm ctv, h.get? f = some (PySem.W.kdv_obj "<lambda>" L.qual L.prm (.expr L.body) L.sc L.cl L.dV doc pm L.c ctv)
theorem lamOC_ok {P : Program} {w : World} {H : Hp} {h : Heap} {f : Addr} {L : LamW} {doc pm ctv : Value} (e : h.get? f = some (PySem.W.kdv_obj "<lambda>" L.qual L.prm (.expr L.body) L.sc L.cl L.dV doc pm L.c ctv)) : ObjOk P w H h f (LamOC f L) :=
 ⟨⟨doc, pm, ctv, e⟩, ⟨_, e⟩, fun h1 h2 ⟨doc, pm, ctv, e⟩ k => ⟨doc, pm, ctv, k _ e⟩⟩
noncomputable def tLamW (P : Addr) (pos : Pos) (qual : Str) (W : Addr → LamW) (H : Hp) (Q : VK) : Prop := ∃ ps : Array Value, H P = some (.tbl ps) ∧ TriplesOk ps.toList ∧
 ((codeAmong pos ps.toList = none ∧ ∀ c' f, H c' = none → H f = none → c' ≠ f → c' ≠ P → f ≠ P → Q (.ref f) (upd (upd (upd H P (.tbl (ps ++ #[rawInt pos.line, rawInt pos.col, .ref c']))) c' (CodeO c' qual)) f (LamOC f (W c'))))
 ∨ (∃ c', codeAmong pos ps.toList = some (.ref c') ∧ H c' = some (CodeO c' qual) ∧ ∀ f, H f = none → Q (.ref f) (upd H f (LamOC f (W c')))))
section
variable {X : Cx}
theorem lam_core {prm : Arguments} {body : Expr} {sc : Scope} {pos : Pos} {c P : Addr} {dV : Value} {clos : List (Str × Addr)} {pins : List (Addr × Obj)} {s : Shared} {σ : St} {H : Hp} {Q : VK} {ln : Nat} (hcode : X.env.code = .ref c) (C : PySem.W.CodeHd X.base c P) (hB : BMain X.mg X.base) (hcl : closureFor sc X.env = pure clos)
  (I : Inv X pins σ H s) (h : tLamW P pos (X.env.qual ++ "<lambda>") (fun c' => ⟨prm, body, sc, X.env.qual ++ "<lambda>", clos, dV, c'⟩) H Q) :
  wpAny (model X.prog X.w) X.A (makeTail "<lambda>" (X.env.qual ++ "<lambda>") prm (.expr body) sc X.env dV .none none pos ln) (EP X pins σ Q) X.xe s := by
 obtain ⟨ps, hP, ht, h⟩ := h
 have eP : s.heap.get? P = some (PySem.W.tabObj ps) := I.hok P _ hP
 have Cs : PySem.W.CodeHd s.heap c P := C.keeps I.bk
 have nb : ∀ b o, X.base.get? b = some o → b ≠ P := fun b o e z => by
  have := (I.bs b o e).2
  rw [z, hP] at this; cases this
 have hgb := I.mod.glob
 have hg : s.heap.Ns mainGlobals X.mg := hgb.keeps I.bk
 have hgP : mainGlobals ≠ P := by
  obtain ⟨o, es, ep, e, _⟩ := hgb
  exact nb _ _ e
 have hb : s.heap.BuiltinsAt X.mg P := by
  obtain ⟨bm, ob, b1, b2, b3, b4, b5, b6⟩ := hB
  refine ⟨bm, ob, b1, b2, fun z => ?_, nb _ _ b3, I.bk _ _ b3, b4, b5, b6⟩
  obtain ⟨o, es, ep, e, hd, _⟩ := hgb
  rw [z, e] at b3; cases b3
  rw [hd] at b6; cases b6
 rcases h with ⟨hnf, q⟩ | ⟨c', hf, hc', q⟩
 ·refine PySem.W.kdv_makeTail (mg := X.mg) hcl I.ok.glob hg hcode Cs eP ht hnf hgP hb fun c' ctv doc h' tk hx hge hlt hrec htb => ?_
  have lt : ∀ b u, s.heap.get? b = some u → b < c' := fun b u e => Nat.lt_of_lt_of_le (Heap.lt_size e) hge
  have nP : c' ≠ P := fun z => by
   have := lt _ _ eP
   rw [z] at this; exact Nat.lt_irrefl _ this
  have nfP : h'.objs.size ≠ P := fun z => by
   have := lt _ _ eP
   rw [← z] at this; exact Nat.lt_irrefl _ (Nat.lt_trans this hlt)
  have hc0 : H c' = none := I.hok.fresh hge
  have hf0 : H h'.objs.size = none := I.hok.fresh (Nat.le_of_lt (Nat.lt_of_le_of_lt hge hlt))
  have up : ∀ b u, b ≠ P → s.heap.get? b = some u → ∀ ob, (h'.push ob).get? b = some u := fun b u nbp e ob => Heap.get?_push_of_some _ (hx b u nbp e)
  have eq : ∀ b, b ≠ P → b < c' → upd (upd (upd H P (.tbl (ps ++ #[rawInt pos.line, rawInt pos.col, .ref c']))) c' (CodeO c' (X.env.qual ++ "<lambda>"))) h'.objs.size (LamOC h'.objs.size ⟨prm, body, sc, X.env.qual ++ "<lambda>", clos, dV, c'⟩) b = H b := fun b n1 n2 => by
   rw [upd_ne (fun z => by rw [z] at n2; exact Nat.lt_irrefl _ (Nat.lt_trans n2 hlt)), upd_ne (fun z => by rw [z] at n2; exact Nat.lt_irrefl _ n2), upd_ne n1]
  have atP : upd (upd (upd H P (.tbl (ps ++ #[rawInt pos.line, rawInt pos.col, .ref c']))) c' (CodeO c' (X.env.qual ++ "<lambda>"))) h'.objs.size (LamOC h'.objs.size ⟨prm, body, sc, X.env.qual ++ "<lambda>", clos, dV, c'⟩) P = some (.tbl (ps ++ #[rawInt pos.line, rawInt pos.col, .ref c'])) := by
   rw [upd_ne (Ne.symm nfP), upd_ne (Ne.symm nP), upd_same]
  refine ⟨.ref h'.objs.size, _, I.un (t' := tk) (h' := h'.push _) ⟨fun b o e n _ _ => ?_, fun b o e n _ _ => ?_, fun b o e n _ => ?_, fun b o e _ => ?_, fun b xs e => ?_, fun b o u e => ?_, fun b ps' e => ?_⟩ (fun b u e => ?_), rfl, q c' h'.objs.size hc0 hf0 (Nat.ne_of_lt hlt) nP nfP⟩
  ·exact up b o (fun z => by rw [z, hP] at n; cases n) e _
  ·exact ⟨o.slots, up b o (fun z => by rw [z, hP] at n; cases n) e _⟩
  ·rw [eq b (fun z => by rw [z, hP] at n; cases n) (lt b o e)]; exact n
  ·by_cases z : b = P
   ·rw [z]; exact ⟨_, Heap.get?_push_of_some _ htb⟩
   ·exact ⟨o, up b o z e _⟩
  ·rw [eq b (fun z => by rw [z, hP] at e; cases e) (Nat.lt_of_lt_of_le (I.hok b _ e).lt hge)]; exact e
  ·rw [eq b (fun z => by rw [z, hP] at e; cases e) (Nat.lt_of_lt_of_le (I.hok b _ e).lt hge)]; exact e
  ·by_cases z : b = P
   ·rw [z, hP] at e; cases e
    exact ⟨_, by rw [z]; exact atP⟩
   ·exact ⟨#[], by rw [eq b z (Nat.lt_of_lt_of_le (I.hok b _ e).lt hge), e]; simp⟩
  ·by_cases z1 : b = h'.objs.size
   ·rw [z1, upd_same] at e; cases e
    rw [z1]
    exact lamOC_ok (L := ⟨prm, body, sc, X.env.qual ++ "<lambda>", clos, dV, c'⟩) (Heap.get?_push_size _ rfl)
   ·by_cases z2 : b = c'
    ·rw [upd_ne z1, z2, upd_same] at e; cases e
     rw [z2]
     refine codeO_ok ?_
     obtain ⟨c3, o3, v3, t3, e3, f1, f2, f3⟩ := hrec
     exact ⟨c3, o3, v3, t3, e3, Heap.get?_push_of_some _ f1, f2, f3⟩
    ·by_cases z3 : b = P
     ·rw [z3, atP] at e; cases e
      rw [z3]
      exact Heap.get?_push_of_some _ htb
     ·rw [upd_ne z1, upd_ne z2, upd_ne z3] at e
      refine (I.hok b u e).stay (fun b' u' hc q' => ?_) (fun b' hb' => ?_) fun b' xs hb' => ?_
      ·refine up b' u' ?_ q' _
       rcases hc with z | z
       ·rw [z]; exact z3
       ·intro y; rw [y, hP] at z; cases z
      ·rw [eq b' (fun z => by rw [z, hP] at hb'; cases hb') (Nat.lt_of_lt_of_le (I.hok b' _ hb').lt hge)]; exact hb'
      ·rw [eq b' (fun z => by rw [z, hP] at hb'; cases hb') (Nat.lt_of_lt_of_le (I.hok b' _ hb').lt hge)]; exact hb'
 ·obtain ⟨hrec, _, _⟩ := (show ObjOk X.prog X.w H s.heap c' (CodeO c' (X.env.qual ++ "<lambda>")) from I.hok c' _ hc')
  refine PySem.W.kdv_makeTailHit (mg := X.mg) hcl I.ok.glob hg hcode Cs eP ht hf hb fun ctv doc h' tk hk hsz => ?_
  refine ⟨.ref h'.objs.size, _, I.laid (t' := tk) (o := LamOC h'.objs.size ⟨prm, body, sc, X.env.qual ++ "<lambda>", clos, dV, c'⟩) (fun b u e => Heap.get?_push_of_some _ (hk b u e)) hsz (lamOC_ok (L := ⟨prm, body, sc, X.env.qual ++ "<lambda>", clos, dV, c'⟩) (Heap.get?_push_size _ rfl)), rfl, q _ (I.hok.fresh hsz)⟩
noncomputable def tLamC (P : Addr) (pos : Pos) (prm : Arguments) (body : Expr) (sc : Scope) (qual : Str) (cl : List (Str × Addr)) : TE := fun _ H Q => tLamW P pos qual (fun c' => ⟨prm, body, sc, qual, cl, .none, c'⟩) H Q
theorem pe_lamC {prm : Arguments} {body : Expr} {sc : Scope} {pos : Pos} {c P : Addr} (hcode : X.env.code = .ref c) (C : PySem.W.CodeHd X.base c P) (hB : BMain X.mg X.base) (hfr : FreeHas sc X.env.cells) (hdef : defaultsOf prm X.env = ([], []) := by rfl) :
  PE X (.Lambda prm body sc pos) (tLamC P pos prm body sc (X.env.qual ++ "<lambda>") (clOf X.env.cells sc.names [])) := by
 intro pins s σ H Q I h
 refine PySem.W.kla_eval hdef ?_
 rw [makeFunction_eq]
 simp only [List.zip_nil_right, List.filterMap_nil, List.isEmpty_nil, if_true, pure_bind]
 exact lam_core hcode C hB (closureFor_eq hfr) I h
noncomputable def tLamD (P : Addr) (pos : Pos) (n : Int) (prm : Arguments) (body : Expr) (sc : Scope) (qual : Str) (cl : List (Str × Addr)) : TE := fun _ H Q => ∀ T, H T = none → tLamW P pos qual (fun c' => ⟨prm, body, sc, qual, cl, .ref T, c'⟩) (upd H T (.tup [.int n])) Q
theorem pe_lamD {prm : Arguments} {body : Expr} {sc : Scope} {pos : Pos} {c P : Addr} {n : Int} {j : Nat} {p1 : Pos} (hcode : X.env.code = .ref c) (C : PySem.W.CodeHd X.base c P) (hB : BMain X.mg X.base) (hfr : FreeHas sc X.env.cells) (hd : prm.defaults = [.Constant (.int n) j p1]) (hk0 : prm.kw_defaults = [] := by rfl) :
  PE X (.Lambda prm body sc pos) (tLamD P pos n prm body sc (X.env.qual ++ "<lambda>") (clOf X.env.cells sc.names [])) := by
 intro pins s σ H Q I h
 refine PySem.W.kdv_lam (by rw [hd]; rfl) hk0 ?_
 rw [hd]
 refine PySem.W.kdv_all1 (thn (pe_int pins s σ H (fun v H' => v = .int n ∧ H = H') I ⟨rfl, rfl⟩) fun u s1 ⟨v, H1, I1, r, ev, eH⟩ => ?_)
 subst ev eH
 refine PySem.W.kdv_all0 ?_
 rw [makeFunction_eq]
 simp only [List.zip_nil_right, List.filterMap_nil, List.isEmpty_nil, List.isEmpty_cons, if_true, pure_bind, Bool.false_eq_true, if_false]
 refine wpAny_bind (wpAny_newTextTuple ?_)
 have hf : H s1.heap.objs.size = none := I1.hok.fresh (Nat.le_refl _)
 exact lam_core hcode C hB (closureFor_eq hfr) (I1.laid (a := s1.heap.objs.size) (o := .tup [.int n]) (t' := s1.toks) (fun b u e => Heap.get?_push_of_some _ e) (Nat.le_refl _) ⟨(by show 1 ≤ sizeLine; decide), [u], .cons r .nil, ⟨_, Heap.get?_push_size _ rfl, rfl, _, rfl⟩⟩) (h _ hf)
end
theorem triples_app {a b : Nat} {c : Value} : ∀ (l : List Value), TriplesOk l → TriplesOk (l ++ [rawInt a, rawInt b, c])
 | [], _ => trivial
 | .int _ _ :: .int _ _ :: _ :: r, h => triples_app (a := a) (b := b) (c := c) r h
theorem among_app {pos : Pos} {a b : Nat} {c cv : Value} : ∀ (l : List Value), TriplesOk l → codeAmong pos (l ++ [rawInt a, rawInt b, c]) = some cv → codeAmong pos l = some cv ∨ cv = c
 | [], _, h => by
  right
  have h' : (if ((a : Int) == pos.line && (b : Int) == pos.col) = true then some c else none) = some cv := h
  split at h'
  ·cases h'; rfl
  ·cases h'
 | .int i _ :: .int j _ :: d :: r, ht, h => by
  have h' : (if ((i : Int) == pos.line && (j : Int) == pos.col) = true then some d else codeAmong pos (r ++ [rawInt a, rawInt b, c])) = some cv := h
  show (if ((i : Int) == pos.line && (j : Int) == pos.col) = true then some d else codeAmong pos r) = some cv ∨ cv = c
  split at h'
  ·rename_i e; rw [if_pos e]; exact .inl h'
  ·rename_i e; rw [if_neg e]; exact among_app r ht h'
noncomputable def TabG (ts : List Addr) (p : Addr) (qual : Str) (H : Hp) : Prop := ∃ ps : Array Value, H p = some (.tbl ps) ∧ TriplesOk ps.toList ∧ ∀ pos cv, codeAmong pos ps.toList = some cv → ∃ c, cv = .ref c ∧ c ∉ ts ∧ H c = some (CodeO c qual)
theorem TabG.start {ts : List Addr} {p : Addr} {qual : Str} {H : Hp} (h : H p = some (.tbl #[])) : TabG ts p qual H := ⟨#[], h, trivial, fun pos cv e => nomatch e⟩
theorem TabG.but {ts : List Addr} {p : Addr} {qual : Str} {H H' : Hp} (t : TabG ts p qual H) (h1 : H' p = H p) (h2 : ∀ b o, b ∉ ts → H b = some o → H' b = some o) : TabG ts p qual H' := by
 obtain ⟨ps, e, o, k⟩ := t
 refine ⟨ps, h1.trans e, o, fun pos cv q => ?_⟩
 obtain ⟨c, e1, e2, e3⟩ := k pos cv q
 exact ⟨c, e1, e2, h2 c _ e2 e3⟩
theorem TabG.mono {ts : List Addr} {p : Addr} {qual : Str} {H H' : Hp} (t : TabG ts p qual H) (s : Same H H') : TabG ts p qual H' := by
 obtain ⟨ps, e, o, k⟩ := t
 refine ⟨ps, s _ _ e, o, fun pos cv q => ?_⟩
 obtain ⟨c, e1, e2, e3⟩ := k pos cv q
 exact ⟨c, e1, e2, s _ _ e3⟩
theorem tLamW_of {ts : List Addr} {p : Addr} {pos : Pos} {qual : Str} {W : Addr → LamW} {H : Hp} {Q : VK} (hp : p ∈ ts) (hts : ∀ t ∈ ts, H t ≠ none) (t : TabG ts p qual H)
  (k : ∀ f c H', ButL ts H H' → (∀ t ∈ ts, t ≠ p → H' t = H t) → TabG ts p qual H' → H' f = some (LamOC f (W c)) → H' c = some (CodeO c qual) → Q (.ref f) H') : tLamW p pos qual W H Q := by
 have nts : ∀ {b}, H b = none → b ∉ ts := fun {b} e z => hts b z e
 obtain ⟨ps, e1, ok, all⟩ := t
 refine ⟨ps, e1, ok, ?_⟩
 cases hc : codeAmong pos ps.toList with
 | none =>
  refine .inl ⟨rfl, fun c f hc0 hf ncf ncp nfp => ?_⟩
  have old : ∀ b o, b ≠ p → H b = some o → upd (upd (upd H p (.tbl (ps ++ #[rawInt pos.line, rawInt pos.col, .ref c]))) c (CodeO c qual)) f (LamOC f (W c)) b = some o := fun b o nb e => by
   have nbf : b ≠ f := fun z => by rw [z, hf] at e; cases e
   have nbc : b ≠ c := fun z => by rw [z, hc0] at e; cases e
   rw [upd_ne nbf, upd_ne nbc, upd_ne nb]; exact e
  refine k f c _ (fun b o nb e => old b o (fun z => nb (by rw [z]; exact hp)) e) (fun t' ht' ne => ?_) ⟨ps ++ #[rawInt pos.line, rawInt pos.col, .ref c], ?_, ?_, fun pos' cv q => ?_⟩ upd_same (by rw [upd_ne ncf, upd_same])
  ·have n1 : t' ≠ f := fun z => hts t' ht' (by rw [z]; exact hf)
   have n2 : t' ≠ c := fun z => hts t' ht' (by rw [z]; exact hc0)
   rw [upd_ne n1, upd_ne n2, upd_ne ne]
  ·rw [upd_ne (Ne.symm nfp), upd_ne (Ne.symm ncp), upd_same]
  ·rw [Array.toList_append]; exact triples_app _ ok
  ·rw [Array.toList_append] at q
   rcases among_app _ ok q with q | q
   ·obtain ⟨c2, z1, z2, z3⟩ := all pos' cv q
    exact ⟨c2, z1, z2, old c2 _ (fun z => z2 (by rw [z]; exact hp)) z3⟩
   ·exact ⟨c, q, nts hc0, by rw [upd_ne ncf, upd_same]⟩
 | some cv =>
  obtain ⟨c, rfl, n, e2⟩ := all pos cv hc
  refine .inr ⟨c, rfl, e2, fun f hf => k f c _ (ButL.of (same_new hf)) (fun t' ht' ne => ?_) (TabG.mono ⟨ps, e1, ok, all⟩ (same_new hf)) upd_same (same_new hf _ _ e2)⟩
  have n1 : t' ≠ f := fun z => hts t' ht' (by rw [z]; exact hf)
  rw [upd_ne n1]
end L2
set_option Elab.async false
set_option linter.all false
set_option maxRecDepth 100000
namespace L2
open PySem PySem.Spec PyProof.Rows
structure LamX (P : Program) (w : World) (K : PySem.W.Frag) (mg : Str → Option Value) (base : Heap) (k : Nat) (f : Addr) (sp : Hp → VK → XK → Prop) : Prop where
 run : ∀ (A : Around) (outer : List Env) (s : Shared) (H : Hp) (Q : VK) (E : XK), Room k A → Env0 P w K mg base A outer s H → sp H Q E → codeAny (model P w) A (.call (.ref f) ⟨[], []⟩) (CR (CX1 P w) outer P w H s Q E) s
noncomputable def cxL (P : Program) (w : World) (K : PySem.W.Frag) (mg : Str → Option Value) (base : Heap) (N : List Str) (qual : Str) (scope : Scope) (f : Addr) (cd : Value) (cl : List (Str × Addr)) (A : Around) (outer : List Env) (s : Shared) (H : Hp) (E : XK) : Cx where
 prog := P
 w := w
 K := K
 mg := mg
 base := base
 A := A.deeper (PySem.W.envX qual scope s.heap.objs.size f cd cl)
 N := N
 s₀ := s
 H₀ := H
 env := PySem.W.envX qual scope s.heap.objs.size f cd cl
 outer := outer
 stack := PySem.W.envX qual scope s.heap.objs.size f cd cl :: outer
 ex := []
 calm := true
 fn := fun _ => false
 pn := []
 xe := fun e s' => wpAny (model P w) (A.deeper (PySem.W.envX qual scope s.heap.objs.size f cd cl)) (leaving (PySem.W.envX qual scope s.heap.objs.size f cd cl) e) (fun _ s'' => CX1 P w outer H s E e s'') (fun e' s'' => CX1 P w outer H s E e' s'') s'
section
variable {P : Program} {w : World} {K : PySem.W.Frag} {mg : Str → Option Value} {base : Heap} {N : List Str} {qual : Str} {scope : Scope} {f : Addr} {cd : Value} {cl : List (Str × Addr)} {A : Around} {outer : List Env} {s₀ : Shared} {H₀ : Hp} {E : XK}
theorem passesL : PassesR (CX1 P w) (cxL P w K mg base N qual scope f cd cl A outer s₀ H₀ E) fun _ => E := by
 intro pins σ H s e s' I hc
 obtain ⟨ea, cls, a0, H', B, rfl, fl, os, bare, fw, q⟩ := hc
 have fr : frs (PySem.W.envX qual scope s₀.heap.objs.size f cd cl :: outer) = s₀.heap.objs.size :: frs outer := rfl
 have neL : ∀ b o, s₀.heap.get? b = some o → b ∉ frs outer → b ∉ frs (PySem.W.envX qual scope s₀.heap.objs.size f cd cl :: outer) := fun b o e hb z => by
  rw [fr] at z
  rcases List.mem_cons.mp z with z | z
  ·have := Heap.lt_size e
   rw [z] at this
   exact absurd this (Nat.lt_irrefl _)
  ·exact hb z
 show wpAny (model P w) (A.deeper (PySem.W.envX qual scope s₀.heap.objs.size f cd cl)) (leaving (PySem.W.envX qual scope s₀.heap.objs.size f cd cl) (.ref ea)) (fun _ s'' => CX1 P w outer H₀ s₀ E (.ref ea) s'') (fun e' s'' => CX1 P w outer H₀ s₀ E e' s'') s'
 refine wpAny_leaves_onW I.ok.frames rfl fl fun h'' fl'' up => ?_
 have fu := fw.up fl up
 have ub : Un (frs outer) [] H₀ H s₀.heap s.heap := I.base
 refine ⟨ea, cls, a0, H', B, rfl, fl'', os.trans I.os, bare, ⟨fw.hok, fun b o e n hb => ?_, fun b o e hb => ?_, fun b o e n => ?_, fun b o e hb => ?_, fun b xs e => fw.tups b xs (ub.tups b xs e), fun b o u e => fw.frzs b o u (ub.frzs b o u e), fun b ps e => ?_, fw.exc⟩, q⟩
 ·exact fw.keep b o (ub.keep b o e n hb (by simp)) (ub.free b o e n (by simp)) (neL b o e hb)
 ·obtain ⟨sl, e1⟩ := ub.slot b o e (I.ok.frf b hb) hb (by simp)
  obtain ⟨sl', e2⟩ := fu.slot b _ e1 (show b ∈ frs (PySem.W.envX qual scope s₀.heap.objs.size f cd cl :: outer) by rw [fr]; exact List.mem_cons_of_mem _ hb)
  exact ⟨sl', e2⟩
 ·obtain ⟨o', e1⟩ := ub.there b o e (by simp)
  exact fw.free b o' e1 (ub.free b o e n (by simp))
 ·obtain ⟨o', e1⟩ := ub.there b o e (by simp)
  exact fw.there b o' e1 (neL b o e hb)
 ·obtain ⟨m1, e1⟩ := ub.tbls b ps e
  obtain ⟨m2, e2⟩ := fw.tbls b _ e1
  exact ⟨m1 ++ m2, by rw [e2, Array.append_assoc]⟩
end
structure LamSc (N : List Str) (sc : Scope) : Prop where
 kind : sc.kind = .function
 co : sc.isCoroutine = false
 gen : sc.isGenerator = false
 nocell : ∀ y ∈ sc.names, y.2 ≠ .cell
 free : ∀ x ∈ N, sc.names.lookup x = some .free
structure CellsAt (base : Heap) (N : List Str) (cl : List (Str × Addr)) (σ : St) : Prop where
 inj : ∀ x y c, cl.lookup x = some c → cl.lookup y = some c → x = y
 all : ∀ x c, cl.lookup x = some c → ∃ v, base.IsCell c v
 val : ∀ (i : Nat) (x : Str) (v : V), N[i]? = some x → σ[i]? = some (some v) → ∃ c u, cl.lookup x = some c ∧ RelV v u ∧ base.IsCell c (some u)
 len : σ.length = N.length
section
variable {P : Program} {w : World} {K : PySem.W.Frag} {mg : Str → Option Value} {base : Heap}
theorem lamX_of {L : LamW} {N : List Str} {k : Nat} {f : Addr} {σ0 : St} {H0 : Hp → Prop} {sp : Hp → VK → XK → Prop} (S : LamSc N L.sc) (hhas : ∀ x, L.sc.names.lookup x = some .free → ∃ c, L.cl.lookup x = some c) (hce : CellsAt base N L.cl σ0)
  (hH : ∀ H Q E, sp H Q E → H f = some (LamOC f L) ∧ H L.c = some (CodeO L.c L.qual) ∧ H0 H)
  (hbind : ∀ (s : Shared) (H : Hp) (doc pm ctv : Value), HOk P w H s.heap → H0 H → ∃ binds, (∀ y ∈ binds, L.sc.names.lookup y.1 = some .local) ∧ BindsTo s (L.fn doc pm ctv) ⟨[], []⟩ binds)
  (hbody : ∀ (A : Around) (outer : List Env) (s : Shared) (H : Hp) (Q : VK) (E : XK), Room k (A.deeper (PySem.W.envX L.qual L.sc s.heap.objs.size f (.ref L.c) L.cl)) → sp H Q E →
   ∃ t, PE (cxL P w K mg base N L.qual L.sc f (.ref L.c) L.cl A outer s H E) L.body t ∧ t σ0 H Q) : LamX P w K mg base (k + 1) f sp := by
 refine ⟨fun A outer s H Q E hr e0 hsp => ?_⟩
 obtain ⟨hf, hc, h0⟩ := hH _ _ _ hsp
 have lim : s.heap.NoLimit := e0.mod.nolimit.keeps fun b o e => (e0.bs b o e).1
 obtain ⟨⟨doc, pm, ctv, ef⟩, _, _⟩ := (show ObjOk P w H s.heap f (LamOC f L) from e0.hok f _ hf)
 obtain ⟨hrec, _, _⟩ := (show ObjOk P w H s.heap L.c (CodeO L.c L.qual) from e0.hok L.c _ hc)
 obtain ⟨binds, hloc, hb⟩ := hbind s H doc pm ctv e0.hok h0
 refine PySem.W.kla_callFunE hr.depth ef rfl S.co S.gen rfl hrec (hb _ _ _ _ ?_)
 refine wpAny_newFunctionEnv S.nocell hloc (fun h1 hns hsb => ⟨lim.fresh _ hsb, ?_⟩) S.kind
 show codeAny _ _ (.expr L.body (PySem.W.envX L.qual L.sc s.heap.objs.size f (.ref L.c) L.cl)) _ _
 have hk : ∀ b o, s.heap.get? b = some o → h1.get? b = some o := fun b o e => hsb.extBut b o (Nat.ne_of_lt (Heap.lt_size e)) (Heap.get?_push_of_some _ e)
 obtain ⟨t, ht, hq⟩ := hbody A outer s H Q E (hr.deeper _) hsp
 have noA : ∀ b : Addr, b ∉ (cxL P w K mg base N L.qual L.sc f (.ref L.c) L.cl A outer s H E).ex := fun b z => absurd (show b ∈ ([] : List Addr) from z) (by simp)
 have I : Inv (cxL P w K mg base N L.qual L.sc f (.ref L.c) L.cl A outer s H E) [] σ0 H { s with heap := h1, toks := s.toks + binds.length } := by
  refine ⟨⟨e0.mod, S.kind, rfl, rfl, Nat.le_refl _, hce.inj, fun y hy => ?_, fun y c z _ => absurd (show false = true from z) (by decide), fun _ => hr.hd, Around.frames_deeper e0.frames, .inr ⟨rfl, rfl⟩, fun b z => absurd z (noA b), e0.bs, e0.bsz, fun b _ _ => noA b, fun b z => absurd z (noA b), e0.funs, e0.frf⟩,
   rfl, e0.bare, Un.kept hk, ⟨_, hns, fun i y v h1 h2 h3 => ?_⟩, fun y c h => ?_, e0.hok.fresh (Nat.le_refl _), fun y c h => ?_, fun p hp => absurd (show p ∈ ([] : List (Addr × Obj)) from hp) (by simp), e0.hok.kept hk, hce.len⟩
  ·have hy : L.sc.names.lookup y = some .cell ∨ L.sc.names.lookup y = some .free := hy
   rcases hy with hy | hy
   ·exact absurd rfl (S.nocell _ (PySem.mem_of_lookup hy))
   ·exact hhas y hy
  ·obtain ⟨c, u, e1, r, z⟩ := hce.val i y v h1 h2
   exact ⟨u, r, .inr ⟨.inr (S.free y (List.mem_of_getElem? h1)), c, e1, (z.keeps fun b o e => (e0.bs b o e).1).keeps hk⟩⟩
  ·obtain ⟨v, z⟩ := hce.all y c h
   exact ⟨v, (z.keeps fun b o e => (e0.bs b o e).1).keeps hk⟩
  ·obtain ⟨v, o, z, _⟩ := hce.all y c h
   exact (e0.bs c o z).2
 refine PySem.W.kla_codeExpr (wpAny_mono (ht [] _ σ0 H Q I hq) (fun u s' hs => ?_) fun e s' hs => hs)
 obtain ⟨v, H', J, rv, q⟩ := hs
 exact ⟨v, H', J.os, J.bare, J.base, J.hok, rv, q⟩
theorem bind_none {L : LamW} (h : ∀ doc pm ctv : Value, bindArgs (L.fn doc pm ctv) ⟨[], []⟩ = pure []) (s : Shared) (doc pm ctv : Value) : ∃ binds, (∀ y ∈ binds, L.sc.names.lookup y.1 = some .local) ∧ BindsTo s (L.fn doc pm ctv) ⟨[], []⟩ binds :=
 ⟨[], (fun _ z => nomatch z), .of_eq (h doc pm ctv)⟩
theorem bind_one {L : LamW} {T : Addr} {x : Str} {n : Int} {H : Hp} (hT : L.dV = .ref T) (hH : H T = some (.tup [.int n])) (hx : L.sc.names.lookup x = some .local)
  (h : ∀ (doc pm ctv : Value), ∃ k, bindArgs (L.fn doc pm ctv) ⟨[], []⟩ = seqItems? L.dV >>= k ∧ ∀ v : Value, k (some #[v]) = pure [(x, v)]) (s : Shared) (doc pm ctv : Value) (ok : HOk P w H s.heap) : ∃ binds, (∀ y ∈ binds, L.sc.names.lookup y.1 = some .local) ∧ BindsTo s (L.fn doc pm ctv) ⟨[], []⟩ binds := by
 obtain ⟨_, its, r, o, e, hc, m, hd⟩ := ok T _ hH
 cases r with
 | cons r rr =>
  cases rr
  rename_i v
  obtain ⟨k, h1, h2⟩ := h doc pm ctv
  refine ⟨[(x, v)], fun y hy => ?_, .of_defaults (T := T) hT e hd h1 (h2 v)⟩
  have : y = (x, v) := by simpa using hy
  rw [this]; exact hx
end
noncomputable def tCallL0 (LP : Addr → (Hp → VK → XK → Prop) → Prop) (i : Nat) (R : St → XK) : TE := fun σ H Q => ∃ (f : Addr) (L : LamW) (sp : Hp → VK → XK → Prop), σ[i]? = some (some (.ref f)) ∧ H f = some (LamOC f L) ∧ LP f sp ∧ sp H Q (R σ)
section
variable {X : Cx}
theorem pe_callL0 (i k : Nat) {R : St → XK} {x : Str} {p pos : Pos} (hr : Room k X.A) (hx : PassesR (CX1 X.prog X.w) X R)
  (hN : X.N[i]? = some x := by rfl) (hv : Vis X.env.scope x := by first | exact Or.inl rfl | exact Or.inr (Or.inl rfl) | exact Or.inr (Or.inr rfl)) (hdb : (x == ("__debug__" : Str)) = false := by decide) (hcd : (x == ("__classdict__" : Str)) = false := by decide) :
  PE X (.Call (.Name x p) [] [] pos) (tCallL0 (fun f sp => LamX X.prog X.w X.K X.mg X.base k f sp) i R) := by
 intro pins s σ H Q I ⟨f, L, sp, hi, hf, G, h⟩
 refine wpAny_Call_Name_kw (ld_var I hN hv hi (fun u r => ?_) hdb hcd)
 obtain rfl : u = Value.ref f := r
 obtain ⟨⟨doc, pm, ctv, ef⟩, _, _⟩ := (show ObjOk X.prog X.w H s.heap f (LamOC f L) from I.hok f _ hf)
 refine PySem.W.callWith_F0 (first := []) ⟨_, _, _, _, ef⟩ ?_
 refine wpAny_call (codeAny_mono (G.run X.A X.stack s H Q (R σ) hr I.env0 h) fun r s' hq => ?_)
 cases r with
 | error e => exact hx pins σ H s e s' I hq
 | ok fl =>
  cases fl with
  | ret u => exact I.after hq
  | next => exact False.elim hq
  | brk => exact False.elim hq
  | cont => exact False.elim hq
theorem pe_callL0K (P : Program) (w : World) (K : PySem.W.Frag) (mg : Str → Option Value) (base : Heap) (hP : X.prog = P) (hw : X.w = w) (hK : X.K = K) (hm : X.mg = mg) (hb : X.base = base) (i k : Nat) {R : St → XK} {x : Str} {p pos : Pos} (hr : Room k X.A) (hx : PassesR (CX1 X.prog X.w) X R)
  (hN : X.N[i]? = some x := by rfl) (hv : Vis X.env.scope x := by first | exact Or.inl rfl | exact Or.inr (Or.inl rfl) | exact Or.inr (Or.inr rfl)) (hdb : (x == ("__debug__" : Str)) = false := by decide) (hcd : (x == ("__classdict__" : Str)) = false := by decide) :
  PE X (.Call (.Name x p) [] [] pos) (tCallL0 (fun f sp => LamX P w K mg base k f sp) i R) := by
 subst hP hw hK hm hb
 exact pe_callL0 i k hr hx hN hv hdb hcd
structure BaseOk (K : PySem.W.Frag) (mg : Str → Option Value) (base : Heap) : Prop where
 kin : K.In base
 ns : base.Ns mainGlobals mg
 bm : BMain mg base
noncomputable def Capt (X : Cx) (σ : St) (base' : Heap) : Prop := (∀ x y c, X.env.cells.lookup x = some c → X.env.cells.lookup y = some c → x = y) ∧ (∀ x c, X.env.cells.lookup x = some c → ∃ v, base'.IsCell c v) ∧ ∀ (i : Nat) (x : Str) (v : V) (c : Addr), X.N[i]? = some x → σ[i]? = some (some v) → X.env.scope.names.lookup x = some .cell → X.env.cells.lookup x = some c → ∃ u, RelV v u ∧ base'.IsCell c (some u)
theorem BMain.keeps {mg : Str → Option Value} {b b' : Heap} (h : BMain mg b) (k : ∀ a o, b.get? a = some o → b'.get? a = some o) : BMain mg b' := by
 obtain ⟨bm, ob, b1, b2, b3, b4, b5, b6⟩ := h
 exact ⟨bm, ob, b1, b2, k _ _ b3, b4, b5, b6⟩
theorem rebase {pins : List (Addr × Obj)} {σ : St} {H : Hp} {s : Shared} (I : Inv X pins σ H s) (hB : BMain X.mg X.base) (hfn : ∀ x, X.fn x = true) : ∃ base', BaseOk X.K X.mg base' ∧ Capt X σ base' ∧ Env0 X.prog X.w X.K X.mg base' X.A X.stack s H := by
 have hin : ∀ env ∈ X.stack, ∀ b, env.frame = some b → b ∈ frs X.stack ++ trk s.heap H := fun env he b hb => List.mem_append_left _ (List.mem_filterMap.mpr ⟨env, he, hb⟩)
 have notT : ∀ b, H b = none → b ∉ trk s.heap H := fun b n z => by
  have := (List.mem_filter.mp z).2
  rw [n] at this; cases this
 have toB : ∀ b o, s.heap.get? b = some o → H b = none → b ∉ frs X.stack → (PySem.W.hideAll s.heap (frs X.stack ++ trk s.heap H)).get? b = some o := fun b o e n hb => PySem.W.hideAll_get _ e fun z => (List.mem_append.mp z).elim hb (notT b n)
 have ofB : ∀ b o, (PySem.W.hideAll s.heap (frs X.stack ++ trk s.heap H)).get? b = some o → s.heap.get? b = some o ∧ H b = none := fun b o e => by
  have e1 := PySem.W.of_hideAll _ e
  refine ⟨e1, ?_⟩
  cases q : H b with
  | none => rfl
  | some u =>
   have m : b ∈ trk s.heap H := List.mem_filter.mpr ⟨List.mem_range.mpr (Heap.lt_size e1), by rw [q]; rfl⟩
   rw [PySem.W.hideAll_none _ (List.mem_append_right _ m)] at e; cases e
 have stk := I.stack
 have kb : ∀ b o, X.base.get? b = some o → (PySem.W.hideAll s.heap (frs X.stack ++ trk s.heap H)).get? b = some o := fun b o e => toB b o (I.bs b o e).1 (I.bs b o e).2 fun z => by
  have := (stk.mem z).1
  rw [e] at this; cases this
 have cellB : ∀ x c v, X.env.cells.lookup x = some c → s.heap.IsCell c v → (PySem.W.hideAll s.heap (frs X.stack ++ trk s.heap H)).IsCell c v := fun x c v hc ⟨o, ho, hd⟩ => by
  refine ⟨o, toB c o ho (I.freeC x c hc) fun z => ?_, hd⟩
  rcases List.mem_cons.mp (I.stkSub c z) with z | z
  ·exact I.cne x c hc z
  ·obtain ⟨_, o1, e1, _⟩ := I.ok.funs.mem z
   exact absurd (Nat.lt_of_lt_of_le (Heap.lt_size e1) (I.ok.cab x c (hfn x) hc)) (Nat.lt_irrefl _)
 have md := I.mod
 have md' : Mod X.K X.mg (PySem.W.hideAll s.heap (frs X.stack ++ trk s.heap H)) := ⟨md.kin.keeps kb, md.glob.keeps kb, let ⟨mb, h1, h2⟩ := md.blt; ⟨mb, h1.keeps kb, h2⟩, md.nolimit.keeps kb⟩
 refine ⟨PySem.W.hideAll s.heap (frs X.stack ++ trk s.heap H), ⟨md'.kin, md'.glob, hB.keeps kb⟩, ⟨I.ok.inj, fun x c hc => ?_, fun i x v c hN hσ hk hc => ?_⟩, ⟨I.ok.frames, md', ofB, Nat.le_of_eq (PySem.W.hideAll_size _ _), PySem.W.funFrames_hide stk hin, I.stkFree, I.hok, I.bare⟩⟩
 ·obtain ⟨v, z⟩ := I.cell x c hc
  exact ⟨v, cellB x c v hc z⟩
 ·obtain ⟨m, hn, hl⟩ := I.loc
  obtain ⟨u, r, l⟩ := hl i x v hN hσ (.inr (.inl hk))
  rcases l with ⟨k, _⟩ | ⟨_, c', e, z⟩
  ·have k' : X.env.scope.names.lookup x = some .local := k
   rw [hk] at k'; cases k'
  ·rw [hc] at e; cases e
   exact ⟨u, r, cellB x c _ hc z⟩
noncomputable def tCallR0 (X : Cx) (sp : Heap → Sp) (ds : List V) (t : TA) : TE := fun σ H Q => t σ H fun vs H1 => ∀ base', BaseOk X.K X.mg base' → Capt X σ base' → sp base' (vs ++ ds) H1 Q E0
theorem pe_callR0 {k : Nat} {x : Str} {ps : List Str} {ds : List V} {sp : Heap → Sp} {e : Expr} {es : List Expr} {t : TA} {p pos : Pos} (D : ∀ base', BaseOk X.K X.mg base' → Def X.prog X.w X.K X.mg base' k x ps ds (sp base')) (hB : BMain X.mg X.base) (hr : Room k X.A) (hg : Gl X x)
  (ha : PA X (e :: es) t) (hfn : ∀ x, X.fn x = true := by intro; rfl) (hdb : (x == ("__debug__" : Str)) = false := by decide) (he : starEach (e :: es) X.env = (false, eval e X.env) :: starEach es X.env := by rfl) (hpl : (backTo pos (starEach es X.env)).any (·.1) = false := by rfl) :
  PE X (.Call (.Name x p) (e :: es) [] pos) (tCallR0 X sp ds t) := by
 intro pins s σ H Q I h
 have G0 : BaseOk X.K X.mg X.base := ⟨I.mod.kin, I.mod.glob, hB⟩
 obtain ⟨f0, fd0, dvs0, _, hm, hk, _, _⟩ := (D X.base G0).ex
 refine wpAny_Call_Name_kw (ld_glob I hg hm ?_ hdb)
 refine PySem.W.callWith_K (h₀ := X.base) I.ok.mod.kin hk (thn (ha pos pins s σ H _ I h) fun us s1 ⟨vs, H1, I1, r, q⟩ => ⟨I1.kIn, ?_⟩) he hpl
 obtain ⟨base', G, cap, e0⟩ := rebase I1 hB hfn
 have q' := q base' G cap
 obtain ⟨f, fd, dvs, F, hm', hk', hb, hd⟩ := (D base' G).ex
 rw [hm] at hm'; cases hm'
 have r2 : Vals (vs ++ ds) (us ++ dvs) := r.append hd
 have hl : (us ++ dvs).length = ps.length := by rw [← r2.length]; exact F.len _ _ _ _ q'
 refine wpAny_call (codeAny_mono (F.run X.A X.stack s1 H1 ⟨us, []⟩ (us ++ dvs) (vs ++ ds) Q E0 hr e0 (hb s1 us I1.kIn hl) r2 q') fun res s' hq => ?_)
 cases res with
 | error er => exact pass0 pins σ H1 s1 er s' I1 hq
 | ok fl =>
  cases fl with
  | ret u => exact I1.after hq
  | next => exact False.elim hq
  | brk => exact False.elim hq
  | cont => exact False.elim hq
end
theorem cells_of {X : Cx} {σ σ' : St} {base' : Heap} {sc : Scope} {N' : List Str} (cap : Capt X σ base') (hfr : FreeHas sc X.env.cells) (hlen : σ'.length = N'.length)
  (hval : ∀ (i : Nat) (x : Str) (v : V), N'[i]? = some x → σ'[i]? = some (some v) → (x, NameKind.free) ∈ sc.names ∧ X.env.scope.names.lookup x = some .cell ∧ ∃ j : Nat, X.N[j]? = some x ∧ σ[j]? = some (some v)) : CellsAt base' N' (clOf X.env.cells sc.names []) σ' := by
 obtain ⟨inj, all, val⟩ := cap
 have get : ∀ x c, (clOf X.env.cells sc.names []).lookup x = some c → X.env.cells.lookup x = some c := fun x c h => clOf_get _ _ hfr (fun _ _ z => (by cases z)) h
 refine ⟨fun x y c h1 h2 => inj x y c (get x c h1) (get y c h2), fun x c h => all x c (get x c h), fun i x v h1 h2 => ?_, hlen⟩
 obtain ⟨m, k, j, e1, e2⟩ := hval i x v h1 h2
 obtain ⟨c, hc⟩ := clOf_has (cells := X.env.cells) sc.names [] (.inr m)
 obtain ⟨u, r, z⟩ := val j x v c e1 e2 k (get x c hc)
 exact ⟨c, u, hc, r, z⟩
theorem clOf_hasL {cells : List (Str × Addr)} {sc : Scope} : ∀ x, sc.names.lookup x = some .free → ∃ c, (clOf cells sc.names []).lookup x = some c := fun x h => clOf_has sc.names [] (.inr (PySem.mem_of_lookup h))
theorem FreeHas.of {sc scO : Scope} {qual : Str} {L f : Addr} {cd : Value} (h : ∀ y ∈ sc.names, y.2 = NameKind.free → scO.names.lookup y.1 = some .cell) : FreeHas sc (envOfC qual scO L f cd).cells := fun x hx => cell_has (n := L + 1) (h (x, .free) hx rfl)
end L2
set_option Elab.async false
set_option linter.all false
set_option maxRecDepth 100000
namespace L2
open PySem PySem.Spec PyProof.Rows
section
variable {X : Cx}
end
end L2
set_option Elab.async false
set_option linter.all false
set_option maxRecDepth 100000
namespace L2
open PySem PySem.Spec PyProof.Rows
theorem turn_long {P : Program} {w : World} {K : PySem.W.Frag} {tg : Expr} (it : Addr) (lo st : Int) (n : Nat) : Turn P w K tg (Itr3 lo st n) [it] it (fun i h => IsLongIter h it (lo + (i : Nat) * st) ((n : Int) - (i : Nat)) st) where
 mem := by simp
 obj := fun i h hst b hb => by
  have e : b = it := by simpa using hb
  subst e
  exact ⟨_, hst, fun v z => by
   have z' : Data.fields _ = Data.cell v := z
   cases z'⟩
 keep := fun i h h' hst k => k it (by simp) _ hst
 item := by
  intro X hP hw hK hc i pins s σ H E I hf hst hg
  subst hP hw hK
  obtain ⟨f0, f1, f2, f3, f4, f5⟩ := hf it (by simp)
  have W := Walks.longrange (prog := X.prog) (w := X.w) (I.ok.hd hc) it lo st n
  refine W.item i s _ _ hg hst fun v h' tk hv st' kk => ?_
  obtain ⟨t, rfl⟩ := hv
  have I1 : Inv X pins σ H { s with heap := h', toks := tk } := I.turned (fun b o hb e => kk b o (by simpa using hb) e) f0 f1 f3 f4 f5
  exact ⟨_, rfl, go_of (s := { s with heap := h', toks := tk }) (n := "longrange_iterator") st' rfl rfl (by decide) ⟨.int (lo + (i : Int) * st), H, I1, ⟨t, rfl⟩, ⟨rfl, rfl⟩, st', fun b hb => (hf b hb).1⟩⟩
 done := by
  intro X hP hw hK hc i pins s σ H E I hf hst hg
  subst hP hw hK
  obtain ⟨f0, f1, f2, f3, f4, f5⟩ := hf it (by simp)
  exact wpAny_pyNext_long_end (I.ok.hd hc) hst (by have : n ≤ i := hg; omega) fun h' eb => ⟨rfl, I.turned (t' := s.toks) (fun b o hb e => eb b o hb e) f0 f1 f3 f4 f5⟩
 self := fun _ _ _ _ _ hst h => wpAny_pyIter_longiter hst h
noncomputable def iRng3B (ta : TA) : TI := fun σ H R => ta σ H fun vs H1 => ∃ (i j c : Int) (n : Nat), vs = [.int i, .int j, .int c] ∧ 0 < c ∧ c.natAbs.log2 < 9000 ∧ Builtin.Range.rangeSize i j c = (n : Int) ∧ R (Itr3 i c n) H1
section
variable {X : Cx} {tg : Expr}
theorem pi_range3B {a b c : Expr} {ta : TA} {p pos : Pos} (hg : Gl X "range") (hm : X.mg "range" = none) (ha : PA X [a, b, c] ta) (hs : starEach [a, b, c] X.env = (false, eval a X.env) :: starEach [b, c] X.env := by rfl) (hs2 : (backTo pos (starEach [b, c] X.env)).any (·.1) = false := by rfl) :
  PI X tg (.Call (.Name "range" p) [a, b, c] [] pos) (iRng3B ta) := by
 intro pins s σ H R I h
 refine Call_ (ld_blt I hg hm boot_range (PyProof.Rows.callWith_type1 (thn (ha pos pins s σ H _ I h) fun us s1 ⟨vs, H1, I1, r1, q1⟩ => ?_) hs hs2))
 obtain ⟨i, j, st, n, e, c0, c1, hsz, q⟩ := q1
 subst e
 cases r1 with
 | cons r rr => cases rr with
  | cons r' rr => cases rr with
   | cons r'' rr =>
    cases rr
    obtain ⟨t, rfl⟩ := r
    obtain ⟨t', rfl⟩ := r'
    obtain ⟨t'', rfl⟩ := r''
    refine call_range_3 (by omega) ?_ (.inl (PyProof.noPylong_of_log2 c1))
    have I2 : Inv X pins σ H1 { s1 with heap := s1.heap.push { cls := .type "range", data := .fields #[.int i t, .int j t', .int st t''] }, toks := s1.toks } := I1.kept fun b o e => Heap.get?_push_of_some _ e
    have e1 : i + ((0 : Nat) : Int) * st = i := by simp
    have e2 : (n : Int) - ((0 : Nat) : Int) = Builtin.Range.rangeSize i j st := by rw [hsz]; simp
    cases hsm : Builtin.Range.small i j st with
    | true =>
     refine wpAny_pyIter_range (IsRange.new ..) hsm ?_
     refine ⟨_, [_], _, Itr3 i st n, H1, rfl, I2.kept (t' := s1.toks) fun b o e => Heap.get?_push_of_some _ e, turn_range3 _ i st n, ?_, fun b hb => ?_, q⟩
     ·show IsRangeIter _ _ (i + ((0 : Nat) : Int) * st) ((n : Int) - ((0 : Nat) : Int)) st
      rw [e1, e2]
      exact Heap.get?_push_size _ rfl
     ·have e : b = (s1.heap.push { cls := .type "range", data := .fields #[.int i t, .int j t', .int st t''] }).objs.size := by simpa using hb
      subst e
      exact I2.fpOk (Nat.le_refl _) (I2.hok.fresh (Nat.le_refl _))
    | false =>
     refine wpAny_pyIter_longrange (IsRange.new ..) hsm ?_
     refine ⟨_, [_], _, Itr3 i st n, H1, rfl, I2.kept (t' := s1.toks) fun b o e => Heap.get?_push_of_some _ e, turn_long _ i st n, ?_, fun b hb => ?_, q⟩
     ·show IsLongIter _ _ (i + ((0 : Nat) : Int) * st) ((n : Int) - ((0 : Nat) : Int)) st
      rw [e1, e2]
      exact Heap.get?_push_size _ rfl
     ·have e : b = (s1.heap.push { cls := .type "range", data := .fields #[.int i t, .int j t', .int st t''] }).objs.size := by simpa using hb
      subst e
      exact I2.fpOk (Nat.le_refl _) (I2.hok.fresh (Nat.le_refl _))
end
end L2
set_option Elab.async false
set_option linter.all false
set_option maxRecDepth 100000
namespace L2
open PySem PySem.Spec PyProof.Rows
set_option maxHeartbeats 1600000
section
variable {X : Cx}
end
end L2
set_option Elab.async false
set_option linter.all false
set_option maxRecDepth 100000
namespace L2
open PySem PySem.Spec PyProof.Rows
section
variable {X : Cx}
end
end L2
namespace M4
end M4
set_option Elab.async false
set_option linter.all false
set_option maxRecDepth 100000
set_option maxHeartbeats 4000000
namespace K13
open PySem L2 M4
theorem sz0 : 0 ≤ sizeLine := by decide
theorem sz1 : 1 ≤ sizeLine := by decide
theorem sz2 : 2 ≤ sizeLine := by decide
theorem sz3 : 3 ≤ sizeLine := by decide
theorem sz4 : 4 ≤ sizeLine := by decide
theorem sz5 : 5 ≤ sizeLine := by decide
theorem sz6 : 6 ≤ sizeLine := by decide
theorem sz7 : 7 ≤ sizeLine := by decide
noncomputable def top (i : Nat) : Stmt := PySem.Challenge.pw_cellfolio_k13_joined_and_parted.main.body.getD i (.Pass ⟨0, 0, 0, 0⟩)
noncomputable abbrev s_is_whole_from : Stmt := top 7
noncomputable abbrev s_is_whole_within : Stmt := top 8
noncomputable abbrev s_is_cell : Stmt := top 9
noncomputable abbrev s_is_side : Stmt := top 10
noncomputable abbrev s_is_list_of : Stmt := top 11
noncomputable abbrev s_are_rows_of : Stmt := top 12
noncomputable abbrev s_is_picture : Stmt := top 13
noncomputable abbrev s_need_picture : Stmt := top 14
noncomputable abbrev s_need_sides : Stmt := top 15
noncomputable abbrev s_need_like_sizes : Stmt := top 16
noncomputable abbrev s_size_of : Stmt := top 17
noncomputable abbrev s_copied_rows : Stmt := top 18
noncomputable abbrev s_rows_cut_out : Stmt := top 20
noncomputable abbrev s_need_steps : Stmt := top 21
noncomputable abbrev s_set_beside : Stmt := top 23
noncomputable abbrev s_set_above : Stmt := top 24
noncomputable abbrev s_tiled : Stmt := top 25
noncomputable abbrev s_tiles_of : Stmt := top 26
noncomputable abbrev s_is_row_of_tiles : Stmt := top 27
noncomputable abbrev s_need_tiles : Stmt := top 28
noncomputable abbrev s_need_like_tiles : Stmt := top 29
noncomputable abbrev s_row_through_tiles : Stmt := top 30
noncomputable abbrev s_from_tiles : Stmt := top 31
noncomputable abbrev s_law_cell_at : Stmt := top 33
noncomputable abbrev s_law_mixed : Stmt := top 34
noncomputable abbrev s_law_picture : Stmt := top 35
noncomputable abbrev s_law_copied : Stmt := top 36
noncomputable abbrev s_law_marked : Stmt := top 37
noncomputable abbrev s_law_is_like : Stmt := top 38
noncomputable abbrev s_law_refused : Stmt := top 39
noncomputable abbrev s_law_is_number : Stmt := top 40
noncomputable abbrev s_law_other : Stmt := top 41
noncomputable abbrev s_law_joined_right : Stmt := top 42
noncomputable abbrev s_law_step : Stmt := top 43
noncomputable abbrev s_law_tiled_right : Stmt := top 44
noncomputable abbrev s_law_tiles : Stmt := top 45
noncomputable abbrev s_law_tiles_right : Stmt := top 46
noncomputable abbrev s_law_bad_tiles : Stmt := top 47
noncomputable abbrev s_law : Stmt := top 48
theorem iteB {b : Bool} {A B : Prop} (h1 : b = true → A) (h2 : b = false → B) : if b = true then A else B := by
 cases b with
 | true => exact iteT (h1 rfl)
 | false => exact iteF (h2 rfl)
theorem iteN {b : Bool} {A B : Prop} (h1 : b = false → A) (h2 : b = true → B) : if (!b) = true then A else B := by
 cases b with
 | true => exact iteF (h2 rfl)
 | false => exact iteT (h1 rfl)
noncomputable def isWh (lo hi : Int) : V → Bool
 | .int i => decide (lo ≤ i) && decide (i ≤ hi)
 | _ => false
noncomputable def ir (rows : List (List Int)) : List (List V) := rows.map fun r => r.map V.int
structure Good (rows : List (List Int)) (w : Nat) : Prop where
 ne : 1 ≤ rows.length
 le : rows.length ≤ 24
 w1 : 1 ≤ w
 w24 : w ≤ 24
 row : ∀ r ∈ rows, r.length = w ∧ ∀ c ∈ r, 0 ≤ c ∧ c ≤ 15
noncomputable def isWf (lo : Int) : V → Bool
 | .int i => decide (lo ≤ i)
 | _ => false
noncomputable def spWf (K : W.Frag) : Sp := fun vs H Q _ => ∃ x lo, vs = [x, .int lo] ∧ Kd K H x ∧ Q (.bl (isWf lo x)) H
noncomputable def spWh (K : W.Frag) : Sp := fun vs H Q _ => ∃ x lo hi, vs = [x, .int lo, .int hi] ∧ Kd K H x ∧ Q (.bl (isWh lo hi x)) H
noncomputable def spCellQ (K : W.Frag) : Sp := fun vs H Q _ => ∃ x, vs = [x] ∧ Kd K H x ∧ Q (.bl (isWh 0 15 x)) H
noncomputable def spSide (K : W.Frag) : Sp := fun vs H Q _ => ∃ x, vs = [x] ∧ Kd K H x ∧ Q (.bl (isWh 1 24 x)) H
noncomputable def spLoc (K : W.Frag) : Sp := fun vs H Q _ => ∃ x, vs = [x] ∧ ((∃ a xs, x = .ref a ∧ H a = some (.lst xs) ∧ xs.length ≤ 1000000 ∧ (∀ y ∈ xs, Kd K H y) ∧ ∀ H', Same H H' → Q (.bl (xs.all (isWh 0 15))) H') ∨ (Kd K H x ∧ isL H x = false ∧ Q (.bl false) H))
noncomputable def spLocF (K : W.Frag) (fC : Addr) : Sp := fun vs H Q E => ∃ x, vs = [x, .ref fC] ∧ spLoc K [x] H Q E
structure Txt (K : W.Frag) (mg : Str → Option Value) (cFE cBP cBS : Addr) (tS tC : Tok) : Prop where
 len : mg "len" = none
 range : mg "range" = none
 isinstance : mg "isinstance" = none
 int : mg "int" = none
 bool : mg "bool" = none
 list : mg "list" = none
 all : mg "all" = none
 zip : mg "zip" = none
 enumerate : mg "enumerate" = none
 max : mg "max" = none
 tuple : mg "tuple" = none
 ValueError : mg "ValueError" = none
 MOST_SIDE : mg "MOST_SIDE" = some (.int 24 tS)
 MOST_CELL : mg "MOST_CELL" = some (.int 15 tC)
 FolioError : mg "FolioError" = some (.ref cFE)
 BadPicture : mg "BadPicture" = some (.ref cBP)
 BadSize : mg "BadSize" = some (.ref cBS)
 xBadPicture : W.excIn K cBP mroVE "ValueError.__new__" = true
 xBadSize : W.excIn K cBS mroVE "ValueError.__new__" = true
 kP : XCls K cBP
 kS : XCls K cBS
 eP : W.exmOne K (.ref cBP) (.ref cFE) = some true
 eS : W.exmOne K (.ref cBS) (.ref cFE) = some true
 iPP : W.kitOne K (.ref cBP) (.ref cBP) = some true
 iPS : W.kitOne K (.ref cBP) (.ref cBS) = some false
 iPV : W.kitOne K (.ref cBP) (.type "ValueError") = some true
 iSP : W.kitOne K (.ref cBS) (.ref cBP) = some false
 iSS : W.kitOne K (.ref cBS) (.ref cBS) = some true
 iSV : W.kitOne K (.ref cBS) (.type "ValueError") = some true
theorem boot_VE : bootBuiltins "ValueError" = some (.type "ValueError") := by decide +kernel
section
variable {P : Program} {w : World} {K : W.Frag} {mg : Str → Option Value} {base : Heap} {cFE cBP cBS : Addr} {tS tC : Tok}
theorem sc_is_whole_from : FnScope ["thing", "least"] ["thing", "least"] (defScope s_is_whole_from) := ⟨rfl, rfl, rfl, by decide +kernel, rfl, by decide +kernel, by decide +kernel⟩
theorem ok_is_whole_from {f : Addr} {fd : FuncData} (F : FunD K "is_whole_from" "is_whole_from" s_is_whole_from .none f fd) (T : Txt K mg cFE cBP cBS tS tC) : FnOk P w K mg base CX0 1 f fd ["thing", "least"] (spWf K) := by
 refine F.ok sc_is_whole_from (fun vs H Q E h => ?_) (fun cdv A outer s H vs Q E hr h => ?_)
 ·obtain ⟨x, lo, rfl, _⟩ := h; rfl
 ·obtain ⟨x, lo, rfl, kd, k⟩ := h
  refine ⟨_, (pss_cons (ps_if (PW.pt (pw_or (pt_not (pt_val (isiK K rfl (pv 0) rfl T.isinstance rfl T.int PyProof.Rows.boot_int))) (pw_or1 (pt_val (isiK K rfl (pv 0) rfl T.isinstance rfl T.bool PyProof.Rows.boot_bool))))) (pss_one (ps_ret pe_bl)) pss_nil)
    (pss_one (ps_ret (pe_cmpR op_le (pv 1) (pv 0) (nomark _))))), ?_⟩
  have fl : isWf lo x = false → Q (.bl false) H := fun e => by rw [e] at k; exact k
  refine ⟨_, rfl, _, kd.isInt, _, rfl, iteN (fun hI => (fl ?_)) (fun hI => ⟨_, rfl, _, kd.isBool, _, rfl, iteB (fun hB => (fl ?_)) (fun hB => ?_)⟩)⟩
  ·cases x <;> first | rfl | cases hI
  ·cases x <;> first | rfl | cases hB
  ·cases x with
   | int i => exact ⟨_, rfl, _, rfl, _, _, rfl, rfl, k⟩
   | bl b => cases hB
   | _ => cases hI
theorem sc_is_whole_within : FnScope ["thing", "least", "most"] ["thing", "least", "most"] (defScope s_is_whole_within) := ⟨rfl, rfl, rfl, by decide +kernel, rfl, by decide +kernel, by decide +kernel⟩
theorem ok_is_whole_within {f : Addr} {fd : FuncData} (F : FunD K "is_whole_within" "is_whole_within" s_is_whole_within .none f fd) (g_is_whole_from : Def P w K mg base 1 "is_whole_from" ["thing", "least"] [] (spWf K)) : FnOk P w K mg base CX0 2 f fd ["thing", "least", "most"] (spWh K) := by
 refine F.ok sc_is_whole_within (fun vs H Q E h => ?_) (fun cdv A outer s H vs Q E hr h => ?_)
 ·obtain ⟨x, lo, hi, rfl, _⟩ := h; rfl
 ·obtain ⟨x, lo, hi, rfl, kd, k⟩ := h
  refine ⟨_, (pss_one (ps_ret (pe_and (pe_callD g_is_whole_from (hr.mono (by decide)) rfl (pa_cons (pv 0) (pa_cons (pv 1) pa_nil))) (pe_one (pe_cmpR op_le (pv 0) (pv 2) (nomark _)))))), ?_⟩
  refine ⟨_, rfl, _, rfl, x, lo, rfl, kd, _, rfl, iteB (fun h1 => ?_) (fun h1 => ?_)⟩
  ·cases x with
   | int i =>
    refine ⟨_, rfl, _, rfl, _, _, rfl, rfl, ?_⟩
    have h2 : decide (lo ≤ i) = true := h1
    simpa only [isWh, h2, Bool.true_and] using k
   | _ => cases h1
  ·have e : isWh lo hi x = false := by
    cases x with
    | int i =>
     have h2 : decide (lo ≤ i) = false := h1
     simp only [isWh, h2, Bool.false_and]
    | _ => rfl
   rw [e] at k
   exact k
theorem sc_is_cell : FnScope ["thing"] ["thing"] (defScope s_is_cell) := ⟨rfl, rfl, rfl, by decide +kernel, rfl, by decide +kernel, by decide +kernel⟩
theorem ok_is_cell {f : Addr} {fd : FuncData} (F : FunD K "is_cell" "is_cell" s_is_cell .none f fd) (T : Txt K mg cFE cBP cBS tS tC) (g_is_whole_within : Def P w K mg base 2 "is_whole_within" ["thing", "least", "most"] [] (spWh K)) : FnOk P w K mg base CX0 3 f fd ["thing"] (spCellQ K) := by
 refine F.ok sc_is_cell (fun vs H Q E h => ?_) (fun cdv A outer s H vs Q E hr h => ?_)
 ·obtain ⟨x, rfl, _⟩ := h; rfl
 ·obtain ⟨x, rfl, kd, k⟩ := h
  refine ⟨_, (pss_one (ps_ret (pe_callD g_is_whole_within (hr.mono (by decide)) rfl (pa_cons (pv 0) (pa_cons pe_int (pa_cons (pe_glob (v := .int 15) rfl T.MOST_CELL ⟨_, rfl⟩) pa_nil)))))), ?_⟩
  exact ⟨_, rfl, x, 0, 15, rfl, kd, k⟩
theorem sc_is_side : FnScope ["thing"] ["thing"] (defScope s_is_side) := ⟨rfl, rfl, rfl, by decide +kernel, rfl, by decide +kernel, by decide +kernel⟩
theorem ok_is_side {f : Addr} {fd : FuncData} (F : FunD K "is_side" "is_side" s_is_side .none f fd) (T : Txt K mg cFE cBP cBS tS tC) (g_is_whole_within : Def P w K mg base 2 "is_whole_within" ["thing", "least", "most"] [] (spWh K)) : FnOk P w K mg base CX0 3 f fd ["thing"] (spSide K) := by
 refine F.ok sc_is_side (fun vs H Q E h => ?_) (fun cdv A outer s H vs Q E hr h => ?_)
 ·obtain ⟨x, rfl, _⟩ := h; rfl
 ·obtain ⟨x, rfl, kd, k⟩ := h
  refine ⟨_, (pss_one (ps_ret (pe_callD g_is_whole_within (hr.mono (by decide)) rfl (pa_cons (pv 0) (pa_cons pe_int (pa_cons (pe_glob (v := .int 24) rfl T.MOST_SIDE ⟨_, rfl⟩) pa_nil)))))), ?_⟩
  exact ⟨_, rfl, x, 1, 24, rfl, kd, k⟩
theorem all_map_id {α : Type} (f : α → Bool) (xs : List α) : (xs.map f).all id = xs.all f := by
 induction xs with
 | nil => rfl
 | cons x r ih => rw [List.map_cons, List.all_cons, List.all_cons, ih]; rfl
theorem filter_t {α : Type} (xs : List α) : xs.filter (fun _ => true) = xs := List.filter_eq_self.mpr fun _ _ => rfl
theorem sc_is_list_of : FnScope ["thing", "is_one"] ["thing", "is_one"] (defScope s_is_list_of) := ⟨rfl, rfl, rfl, by decide +kernel, rfl, by decide +kernel, by decide +kernel⟩
theorem ok_is_list_of {fC f : Addr} {fd : FuncData} (F : FunD K "is_list_of" "is_list_of" s_is_list_of .none f fd) (T : Txt K mg cFE cBP cBS tS tC) (g_is_one : DefA P w K mg base 3 fC ["thing"] [] (spCellQ K)) : FnOk P w K mg base CX0 4 f fd ["thing", "is_one"] (spLocF K fC) := by
 refine F.ok sc_is_list_of (fun vs H Q E h => ?_) (fun cdv A outer s H vs Q E hr h => ?_)
 ·obtain ⟨x, rfl, _⟩ := h; rfl
 ·obtain ⟨x, rfl, x', ex, h⟩ := h
  cases ex
  refine ⟨_, (pss_one (ps_ret (pe_and (isiK K rfl (pv 0) rfl T.isinstance rfl T.list PyProof.Rows.boot_list) (pe_one (pe_callB (allK K rfl rfl) rfl T.all PyProof.Rows.boot_all (pa_cons (pe_comp (N := ["part", "is_one"]) (src := [none, some 1]) rfl ⟨rfl, rfl, rfl, rfl, rfl, by decide +kernel⟩ (piK K rfl (pv 0)) (fun s H C fp => pg_name (i := 0) (show (["part", "is_one"] : List Str).Nodup by decide +kernel) rfl (by first | exact Or.inl rfl | exact Or.inr rfl)) (fun s H C fp => pts_nil) (fun s H C fp => (pe_callV 1 g_is_one (hr.mono (by decide)) (pa_cons (pv 0) pa_nil)))) pa_nil)))))), ?_⟩
  rcases h with ⟨a, xs, rfl, hH, hl, kds, k⟩ | ⟨kd, hL, k⟩
  ·refine ⟨_, rfl, true, isList_lst hH, _, rfl, ⟨_, rfl, a, rfl, ⟨_, SqL.of hH⟩, fun D hD => ?_⟩⟩
   refine comp_fm (k := 0) (fun x => .bl (isWh 0 15 x)) (fun _ => true) (src_list (SqL.of hH)) (Nat.le_trans hl (by decide)) hD (fun x _ H' Qb _ kk => kk H' (Same.refl _)) (fun x hx _ H' Q sm kk => ⟨rfl, _, rfl, x, rfl, (kds x hx).mono sm, kk H' (Same.refl _)⟩) fun H' sm hD' => ?_
   refine ⟨D, xs.map (isWh 0 15), rfl, SqL.of (by rw [hD', filter_t, List.map_map]; rfl), ?_⟩
   rw [all_map_id]
   exact k H' sm
  ·refine ⟨_, rfl, _, kd.isList, _, rfl, iteB (fun z => ?_) (fun _ => k)⟩
   rw [hL] at z; cases z
theorem wh_len {n : Nat} (h1 : 1 ≤ n) (h2 : n ≤ 24) : isWh 1 24 (.int (n : Int)) = true := by
 simp only [isWh, Bool.and_eq_true, decide_eq_true_eq]; omega
theorem wh_cells {ns : List Int} (h : ∀ c ∈ ns, 0 ≤ c ∧ c ≤ 15) : (ns.map V.int).all (isWh 0 15) = true := by
 rw [List.all_map, List.all_eq_true]
 intro c hc
 have := h c hc
 simp only [Function.comp, isWh, Bool.and_eq_true, decide_eq_true_eq]; omega
theorem kd_ints {H : Hp} {ns : List Int} : ∀ y ∈ ns.map V.int, Kd K H y := fun y hy => by
 obtain ⟨n, _, rfl⟩ := List.mem_map.mp hy
 exact .int n
end
noncomputable def rowOf (H : Hp) : V → Option (List V)
 | .ref b => match H b with
  | some (.lst ys) => some ys
  | _ => none
 | _ => none
noncomputable def rowB (ys : List V) : Bool := ys.all (isWh 0 15) && isWh 1 24 (.int (ys.length : Int))
noncomputable def rowQ (H : Hp) (x : V) : Bool := match rowOf H x with
 | some ys => rowB ys
 | none => false
noncomputable def lenOf (H : Hp) (x : V) : Nat := match rowOf H x with
 | some ys => ys.length
 | none => 0
noncomputable def picB (H : Hp) (v : V) : Bool := match rowOf H v with
 | some xs => isWh 1 24 (.int (xs.length : Int)) && (xs.all (rowQ H) && xs.all fun x => decide (lenOf H x = lenOf H (xs.headD .non)))
 | none => false
structure Rw (K : W.Frag) (H : Hp) (x : V) : Prop where
 kd : Kd K H x
 len : ∀ ys, rowOf H x = some ys → ys.length ≤ 1000
 it : ∀ ys, rowOf H x = some ys → ∀ y ∈ ys, Kd K H y
structure Th (K : W.Frag) (H : Hp) (v : V) : Prop where
 kd : Kd K H v
 len : ∀ xs, rowOf H v = some xs → xs.length ≤ 1000
 it : ∀ xs, rowOf H v = some xs → ∀ x ∈ xs, Rw K H x
section
variable {K : W.Frag} {H H' : Hp} {x : V}
theorem rowOf_lst {a : Addr} {ys : List V} (e : H a = some (.lst ys)) : rowOf H (.ref a) = some ys := by simp only [rowOf, e]
theorem rowOf_ref {ys : List V} (h : rowOf H x = some ys) : ∃ a, x = .ref a ∧ H a = some (.lst ys) := by
 cases x with
 | ref a =>
  refine ⟨a, rfl, ?_⟩
  unfold rowOf at h
  dsimp only at h
  split at h
  ·rename_i zs e; cases h; exact e
  ·cases h
 | _ => cases h
theorem rowOf_mono (k : Kd K H x) (s : Same H H') : rowOf H' x = rowOf H x := by
 cases k with
 | lst e => rw [rowOf_lst e, rowOf_lst (s _ _ e)]
 | tup e => simp only [rowOf, e, s _ _ e]
 | dict e => simp only [rowOf, e, s _ _ e, DictO]
 | _ => rfl
theorem isL_row (k : Kd K H x) : isL H x = (rowOf H x).isSome := by
 cases k with
 | lst e => simp only [isL, rowOf, e]; rfl
 | tup e => simp only [isL, rowOf, e]; rfl
 | dict e => simp only [isL, rowOf, e, DictO]; rfl
 | _ => rfl
theorem Rw.mono (r : Rw K H x) (s : Same H H') : Rw K H' x := by
 have e := rowOf_mono r.kd s
 exact ⟨r.kd.mono s, fun ys h => r.len ys (by rw [← e]; exact h), fun ys h y hy => (r.it ys (by rw [← e]; exact h) y hy).mono s⟩
theorem Th.mono (t : Th K H x) (s : Same H H') : Th K H' x := by
 have e := rowOf_mono t.kd s
 exact ⟨t.kd.mono s, fun ys h => t.len ys (by rw [← e]; exact h), fun ys h y hy => (t.it ys (by rw [← e]; exact h) y hy).mono s⟩
theorem rowQ_mono (k : Kd K H x) (s : Same H H') : rowQ H' x = rowQ H x := by unfold rowQ; rw [rowOf_mono k s]
theorem lenOf_mono (k : Kd K H x) (s : Same H H') : lenOf H' x = lenOf H x := by unfold lenOf; rw [rowOf_mono k s]
theorem picB_mono (t : Th K H x) (s : Same H H') : picB H' x = picB H x := by
 unfold picB
 rw [rowOf_mono t.kd s]
 cases h : rowOf H x with
 | none => rfl
 | some xs =>
  dsimp only
  have e1 : xs.all (rowQ H') = xs.all (rowQ H) := by
   rw [Bool.eq_iff_iff, List.all_eq_true, List.all_eq_true]
   constructor
   ·intro h2 y hy; rw [← rowQ_mono (t.it xs h y hy).kd s]; exact h2 y hy
   ·intro h2 y hy; rw [rowQ_mono (t.it xs h y hy).kd s]; exact h2 y hy
  have e2 : (xs.all fun y => decide (lenOf H' y = lenOf H' (xs.headD .non))) = (xs.all fun y => decide (lenOf H y = lenOf H (xs.headD .non))) := by
   cases xs with
   | nil => rfl
   | cons z r =>
    have hz : lenOf H' z = lenOf H z := lenOf_mono (t.it _ h z List.mem_cons_self).kd s
    rw [Bool.eq_iff_iff, List.all_eq_true, List.all_eq_true]
    constructor
    ·intro h2 y hy
     have q : decide (lenOf H' y = lenOf H' z) = true := h2 y hy
     have q' := of_decide_eq_true q
     rw [lenOf_mono (t.it _ h y hy).kd s, hz] at q'
     exact decide_eq_true q'
    ·intro h2 y hy
     have q : decide (lenOf H y = lenOf H z) = true := h2 y hy
     have q' := of_decide_eq_true q
     refine decide_eq_true ?_
     show lenOf H' y = lenOf H' z
     rw [lenOf_mono (t.it _ h y hy).kd s, hz]
     exact q'
  rw [e1, e2]
end
noncomputable def spPic (K : W.Frag) : Sp := fun vs H Q _ => ∃ x, vs = [x] ∧ Th K H x ∧ ∀ H', Same H H' → Q (.bl (picB H x)) H'
noncomputable def spPicF (K : W.Frag) (fC : Addr) : Sp := fun vs H Q E => ∃ x, vs = [x, .ref fC] ∧ spPic K [x] H Q E
noncomputable def spNeed (K : W.Frag) (cBP : Addr) : Sp := fun vs H Q E => ∃ x, vs = [x] ∧ Th K H x ∧ (picB H x = true → ∀ H', Same H H' → Q .non H') ∧ (picB H x = false → ∀ H', Same H H' → E (.ref cBP) none H')
noncomputable def spSize (K : W.Frag) (cBP : Addr) : Sp := fun vs H Q E => ∃ x, vs = [x] ∧ Th K H x ∧ (picB H x = true → ∀ xs p H', rowOf H x = some xs → Same H H' → H p = none → H' p = some (.tup [.int (lenOf H (xs.headD .non) : Int), .int (xs.length : Int)]) → Q (.ref p) H') ∧ (picB H x = false → ∀ H', Same H H' → E (.ref cBP) none H')
noncomputable def spNeedS (K : W.Frag) (cBS : Addr) : Sp := fun vs H Q E => ∃ wd hg, vs = [wd, hg] ∧ Kd K H wd ∧ Kd K H hg ∧ ((isWh 1 24 wd && isWh 1 24 hg) = true → Q .non H) ∧ ((isWh 1 24 wd && isWh 1 24 hg) = false → E (.ref cBS) none H)
section
variable {P : Program} {w : World} {K : W.Frag} {mg : Str → Option Value} {base : Heap} {cFE cBP cBS : Addr} {tS tC : Tok}
theorem wh_side {v : V} (h : isWh 1 24 v = true) : ∃ w : Nat, v = .int (w : Int) ∧ 1 ≤ w ∧ w ≤ 24 := by
 cases v with
 | int i =>
  simp only [isWh, Bool.and_eq_true, decide_eq_true_eq] at h
  exact ⟨i.toNat, by rw [Int.toNat_of_nonneg (by omega)], by omega, by omega⟩
 | _ => cases h
theorem head_at {xs : List V} (h : 0 < xs.length) : xs[0]? = some (xs.headD .non) := by
 cases xs with
 | nil => simp at h
 | cons x r => rfl
theorem sc_are_rows_of : FnScope ["thing", "is_one"] ["thing", "is_one"] (defScope s_are_rows_of) := ⟨rfl, rfl, rfl, by decide +kernel, rfl, by decide +kernel, by decide +kernel⟩
theorem ok_are_rows_of {fC f : Addr} {fd : FuncData} (F : FunD K "are_rows_of" "are_rows_of" s_are_rows_of .none f fd) (T : Txt K mg cFE cBP cBS tS tC) (g_is_list_of : Def P w K mg base 4 "is_list_of" ["thing", "is_one"] [] (spLocF K fC)) (g_is_side : Def P w K mg base 3 "is_side" ["thing"] [] (spSide K)) : FnOk P w K mg base CX0 5 f fd ["thing", "is_one"] (spPicF K fC) := by
 refine F.ok sc_are_rows_of (fun vs H Q E h => ?_) (fun cdv A outer s H vs Q E hr h => ?_)
 ·obtain ⟨x, rfl, _⟩ := h; rfl
 ·obtain ⟨x, rfl, x', ex, th, k⟩ := h
  cases ex
  refine ⟨_, (pss_cons (ps_if (PW.pt (pw_or (pt_not (pt_val (isiK K rfl (pv 0) rfl T.isinstance rfl T.list PyProof.Rows.boot_list))) (pw_or1 (pt_not (pt_val (pe_callD g_is_side (hr.mono (by decide)) rfl (pa_cons (pe_callB (lenK K rfl) rfl T.len PySem.boot_len (pa_cons (pv 0) pa_nil)) pa_nil))))))) (pss_one (ps_ret pe_bl)) pss_nil)
    (pss_cons (ps_if (pt_not (pt_val (pe_callB (allK K rfl rfl) rfl T.all PyProof.Rows.boot_all (pa_cons (pe_comp (N := ["row", "is_one"]) (src := [none, some 1]) rfl ⟨rfl, rfl, rfl, rfl, rfl, by decide +kernel⟩ (piK K rfl (pv 0)) (fun s H C fp => pg_name (i := 0) (show (["row", "is_one"] : List Str).Nodup by decide +kernel) rfl (by first | exact Or.inl rfl | exact Or.inr rfl)) (fun s H C fp => pts_nil) (fun s H C fp => (pe_and (pe_callD g_is_list_of (hr.mono (by decide)) rfl (pa_cons (pv 0) (pa_cons (pv 1) pa_nil))) (pe_one (pe_callD g_is_side (hr.mono (by decide)) rfl (pa_cons (pe_callB (lenK K rfl) rfl T.len PySem.boot_len (pa_cons (pv 0) pa_nil)) pa_nil)))))) pa_nil)))) (pss_one (ps_ret pe_bl)) pss_nil)
    (pss_one (ps_ret (pe_callB (allK K rfl rfl) rfl T.all PyProof.Rows.boot_all (pa_cons (pe_comp (N := ["row", "thing"]) (src := [none, some 0]) rfl ⟨rfl, rfl, rfl, rfl, rfl, by decide +kernel⟩ (piK K rfl (pv 0)) (fun s H C fp => pg_name (i := 0) (show (["row", "thing"] : List Str).Nodup by decide +kernel) rfl (by first | exact Or.inl rfl | exact Or.inr rfl)) (fun s H C fp => pts_nil) (fun s H C fp => (pe_cmpR op_eq (pe_callB (lenK K rfl) rfl T.len PySem.boot_len (pa_cons (pv 0) pa_nil)) (pe_callB (lenK K rfl) rfl T.len PySem.boot_len (pa_cons (pe_ix (ixK K rfl) (pv 1) pe_int (fun _ _ => rfl)) pa_nil)) (nomark _)))) pa_nil)))))), ?_⟩
  cases hx : rowOf H x with
  | none =>
   have ek : picB H x = false := by unfold picB; rw [hx]
   rw [ek] at k
   refine ⟨_, rfl, _, th.kd.isList, _, rfl, ?_⟩
   rw [isL_row th.kd, hx]
   exact k H (Same.refl H)
  | some xs =>
   obtain ⟨a, rfl, e⟩ := rowOf_ref hx
   have ek : picB H (.ref a) = (isWh 1 24 (.int (xs.length : Int)) && (xs.all (rowQ H) && xs.all fun x => decide (lenOf H x = lenOf H (xs.headD .non)))) := by unfold picB; rw [hx]
   rw [ek] at k
   have hz : xs.length ≤ sizeLine := Nat.le_trans (th.len xs hx) (by decide)
   refine ⟨_, rfl, true, isList_lst e, _, rfl, ⟨_, rfl, a, _, rfl, .inl (SqL.of e), _, rfl, .int _, _, rfl, iteN (fun h1 => ?_) (fun h1 => ?_)⟩⟩
   ·rw [h1, Bool.false_and] at k
    exact k H (Same.refl H)
   rw [h1, Bool.true_and] at k
   refine ⟨_, rfl, a, rfl, ⟨_, SqL.of e⟩, fun D hD => ?_⟩
   refine comp_fm (k := 0) (fun y => .bl (rowQ H y)) (fun _ => true) (src_list (SqL.of e)) hz hD (fun x _ H' Qb _ kk => kk H' (Same.refl _)) (fun y hy _ H' Q' sm kk => ?_) fun H1 s1 hD1 => ?_
   ·have r1 := th.it xs hx y hy
    have r2 := r1.mono sm
    have k2 : ∀ H2, Same H' H2 → Q' (.bl (rowQ H' y)) H2 := fun H2 s2 => by rw [rowQ_mono r1.kd sm]; exact kk H2 s2
    refine ⟨_, rfl, _, rfl, y, rfl, y, rfl, ?_⟩
    cases hr0 : rowOf H' y with
    | none =>
     refine .inr ⟨r2.kd, by rw [isL_row r2.kd, hr0]; rfl, _, rfl, ?_⟩
     have := k2 H' (Same.refl H')
     unfold rowQ at this
     rw [hr0] at this
     exact this
    | some ys =>
     obtain ⟨b, rfl, e2⟩ := rowOf_ref hr0
     have ek : rowQ H' (.ref b) = rowB ys := by unfold rowQ; rw [hr0]
     refine .inl ⟨b, ys, rfl, e2, Nat.le_trans (r2.len ys hr0) (by decide), r2.it ys hr0, fun H1 s1 => ⟨_, rfl, iteB (fun h1 => ?_) (fun h1 => ?_)⟩⟩
     ·refine ⟨_, rfl, b, _, rfl, .inl (SqL.of (s1 _ _ e2)), _, rfl, .int _, ?_⟩
      have := k2 H1 s1
      rw [ek] at this
      unfold rowB at this
      rw [h1, Bool.true_and] at this
      exact this
     ·have := k2 H1 s1
      rw [ek] at this
      unfold rowB at this
      rw [h1, Bool.false_and] at this
      exact this
   refine ⟨D, xs.map (rowQ H), rfl, SqL.of (by rw [hD1, filter_t, List.map_map]; rfl), _, rfl, ?_⟩
   rw [all_map_id]
   refine iteN (fun h2 => ?_) (fun h2 => ?_)
   ·rw [h2, Bool.false_and] at k
    exact k H1 s1
   rw [h2, Bool.true_and] at k
   have hpos : 0 < xs.length := by
    obtain ⟨n, en, n1, _⟩ := wh_side h1
    injection en with en
    omega
   have lst : ∀ y ∈ xs, ∃ b ys, y = .ref b ∧ H b = some (.lst ys) ∧ lenOf H y = ys.length := fun y hy => by
    have q := List.all_eq_true.mp h2 y hy
    unfold rowQ at q
    cases hy2 : rowOf H y with
    | none => rw [hy2] at q; cases q
    | some ys =>
     obtain ⟨b, rfl, e2⟩ := rowOf_ref hy2
     exact ⟨b, ys, rfl, e2, by unfold lenOf; rw [hy2]⟩
   obtain ⟨b0, y0, eh, e0, l0⟩ := lst (xs.headD .non) (by cases xs with | nil => simp at hpos | cons z r => exact List.mem_cons_self)
   refine ⟨_, rfl, a, rfl, ⟨_, SqL.of (s1 _ _ e)⟩, fun D2 hD2 => ?_⟩
   refine comp_fm (k := 0) (fun y => .bl (decide (lenOf H y = lenOf H (xs.headD .non)))) (fun _ => true) (src_list (SqL.of (s1 _ _ e))) hz hD2 (fun x _ H' Qb _ kk => kk H' (Same.refl _)) (fun y hy _ H' Q' sm kk => ?_) fun H2 s2 hD2' => ?_
   ·have sm2 := s1.trans sm
    obtain ⟨b, ys, rfl, e2, l2⟩ := lst y hy
    refine ⟨_, rfl, b, _, rfl, .inl (SqL.of (sm2 _ _ e2)), _, rfl, a, _, _, _, rfl, rfl, SqL.of (sm2 _ _ e), atI_nat (j := 0) (head_at hpos), b0, _, eh ▸ rfl, .inl (SqL.of (sm2 _ _ e0)), rfl, ?_⟩
    have ed : decide (V.int (ys.length : Int) = V.int (y0.length : Int)) = decide (lenOf H (.ref b) = lenOf H (xs.headD .non)) := by
     rw [l2, l0, dec_int, Bool.eq_iff_iff]
     simp
     omega
    rw [ed]
    exact kk H' (Same.refl _)
   ·refine ⟨D2, xs.map fun y => decide (lenOf H y = lenOf H (xs.headD .non)), rfl, SqL.of (by rw [hD2', filter_t, List.map_map]; rfl), ?_⟩
    rw [all_map_id]
    exact k H2 (s1.trans s2)
theorem sc_is_picture : FnScope ["thing"] ["thing"] (defScope s_is_picture) := ⟨rfl, rfl, rfl, by decide +kernel, rfl, by decide +kernel, by decide +kernel⟩
theorem ok_is_picture {fC f : Addr} {fd : FuncData} (F : FunD K "is_picture" "is_picture" s_is_picture .none f fd) (hC : mg "is_cell" = some (.ref fC)) (g_are_rows_of : Def P w K mg base 5 "are_rows_of" ["thing", "is_one"] [] (spPicF K fC)) : FnOk P w K mg base CX0 6 f fd ["thing"] (spPic K) := by
 refine F.ok sc_is_picture (fun vs H Q E h => ?_) (fun cdv A outer s H vs Q E hr h => ?_)
 ·obtain ⟨x, rfl, _⟩ := h; rfl
 ·obtain ⟨x, rfl, th, k⟩ := h
  refine ⟨_, (pss_one (ps_ret (pe_callD g_are_rows_of (hr.mono (by decide)) rfl (pa_cons (pv 0) (pa_cons (pe_glob (v := .ref fC) rfl hC rfl) pa_nil))))), ?_⟩
  exact ⟨_, rfl, x, rfl, x, rfl, th, k⟩
theorem sc_need_picture : FnScope ["picture"] ["picture"] (defScope s_need_picture) := ⟨rfl, rfl, rfl, by decide +kernel, rfl, by decide +kernel, by decide +kernel⟩
theorem ok_need_picture {f : Addr} {fd : FuncData} (F : FunD K "need_picture" "need_picture" s_need_picture .none f fd) (T : Txt K mg cFE cBP cBS tS tC) (g_is_picture : Def P w K mg base 6 "is_picture" ["thing"] [] (spPic K)) : FnOk P w K mg base (CX1 P w) 7 f fd ["picture"] (spNeed K cBP) := by
 refine F.okX sc_need_picture (fun vs H Q E h => ?_) (fun cdv A outer s H vs Q E hr h => ?_)
 ·obtain ⟨x, rfl, _⟩ := h; rfl
 ·obtain ⟨x, rfl, th, kY, kN⟩ := h
  refine ⟨_, (pss_one (ps_if (pt_not (pt_val (pe_callD g_is_picture (hr.mono (by decide)) rfl (pa_cons (pv 0) pa_nil)))) (pss_one (ps_raise rfl raises1 rfl T.BadPicture T.xBadPicture (pa_cons pe_str pa_nil))) pss_nil)), ?_⟩
  exact ⟨_, rfl, x, rfl, th, fun H' sm => ⟨_, rfl, iteN (fun h => ⟨sz1, kN h H' sm⟩) (fun h => kY h H' sm)⟩⟩
theorem sc_size_of : FnScope ["picture"] ["picture"] (defScope s_size_of) := ⟨rfl, rfl, rfl, by decide +kernel, rfl, by decide +kernel, by decide +kernel⟩
theorem ok_size_of {f : Addr} {fd : FuncData} (F : FunD K "size_of" "size_of" s_size_of .none f fd) (T : Txt K mg cFE cBP cBS tS tC) (g_need_picture : DefX P w K mg base 7 "need_picture" ["picture"] [] (spNeed K cBP)) : FnOk P w K mg base (CX1 P w) 8 f fd ["picture"] (spSize K cBP) := by
 refine F.okX sc_size_of (fun vs H Q E h => ?_) (fun cdv A outer s H vs Q E hr h => ?_)
 ·obtain ⟨x, rfl, _⟩ := h; rfl
 ·obtain ⟨x, rfl, th, kY, kN⟩ := h
  refine ⟨_, (pss_cons (ps_expr (pe_callX g_need_picture (hr.mono (by decide)) passes1R rfl (pa_cons (pv 0) pa_nil)))
    (pss_one (ps_ret (pe_tup (pa_cons (pe_callB (lenK K rfl) rfl T.len PySem.boot_len (pa_cons (pe_ix (ixK K rfl) (pv 0) pe_int (fun _ _ => rfl)) pa_nil)) (pa_cons (pe_callB (lenK K rfl) rfl T.len PySem.boot_len (pa_cons (pv 0) pa_nil)) pa_nil)))))), ?_⟩
  refine ⟨_, rfl, x, rfl, th, fun hp H1 s1 => ?_, kN⟩
  cases hx : rowOf H x with
  | none => unfold picB at hp; rw [hx] at hp; cases hp
  | some xs =>
   obtain ⟨a, rfl, e⟩ := rowOf_ref hx
   unfold picB at hp
   rw [hx] at hp
   simp only [Bool.and_eq_true] at hp
   obtain ⟨h1, h2, _⟩ := hp
   have hpos : 0 < xs.length := by
    obtain ⟨n, en, n1, _⟩ := wh_side h1
    injection en with en
    omega
   have hm : xs.headD .non ∈ xs := by cases xs with | nil => simp at hpos | cons z r => exact List.mem_cons_self
   have q := List.all_eq_true.mp h2 _ hm
   unfold rowQ at q
   cases hy2 : rowOf H (xs.headD .non) with
   | none => rw [hy2] at q; cases q
   | some ys =>
    obtain ⟨b, eb, e2⟩ := rowOf_ref hy2
    refine ⟨_, rfl, a, _, _, _, rfl, rfl, SqL.of (s1 _ _ e), atI_nat (j := 0) (head_at hpos), b, _, eb ▸ rfl, .inl (SqL.of (s1 _ _ e2)), _, rfl, a, _, rfl, .inl (SqL.of (s1 _ _ e)), sz2, fun p hp' => ?_⟩
    refine kY (by unfold picB; rw [hx]; simp only [Bool.and_eq_true]; exact ⟨h1, h2, ‹_›⟩) xs p _ hx (s1.trans (same_new hp')) (s1.free hp') ?_
    rw [upd_same]
    unfold lenOf
    rw [hy2]
end
theorem atI_mem {xs : List V} {i : Int} (h0 : 0 ≤ i) (h1 : i < xs.length) : ∃ v, atI xs i = some v ∧ v ∈ xs := by
 obtain ⟨j, rfl⟩ : ∃ j : Nat, i = (j : Int) := ⟨i.toNat, by omega⟩
 have hj : j < xs.length := by omega
 exact ⟨xs[j], atI_nat (by simp [hj]), List.getElem_mem hj⟩
theorem picB_iff {H : Hp} {a : Addr} {xs : List V} (e : rowOf H (.ref a) = some xs) : picB H (.ref a) = true ↔ (isWh 1 24 (.int (xs.length : Int)) = true ∧ (∀ x ∈ xs, rowQ H x = true) ∧ ∀ x ∈ xs, lenOf H x = lenOf H (xs.headD .non)) := by
 unfold picB
 rw [e]
 simp only [Bool.and_eq_true, List.all_eq_true, decide_eq_true_eq]
theorem rowQ_iff {H : Hp} {b : Addr} {ys : List V} (e : H b = some (.lst ys)) : rowQ H (.ref b) = true ↔ (ys.all (isWh 0 15) = true ∧ isWh 1 24 (.int (ys.length : Int)) = true) := by
 unfold rowQ
 rw [rowOf_lst e]
 simp only [rowB, Bool.and_eq_true]
theorem lenOf_lst {H : Hp} {b : Addr} {ys : List V} (e : H b = some (.lst ys)) : lenOf H (.ref b) = ys.length := by unfold lenOf; rw [rowOf_lst e]
noncomputable def Th2 (K : W.Frag) (H : Hp) (v : V) : Prop := Th K H v ∧ ∀ a xs, v = .ref a → H a = some (.tup xs) → ∀ y ∈ xs, flatV y = true ∨ ∃ b, y = .ref b
section
variable {K : W.Frag} {H : Hp} {q : Addr} {r r' : List V}
theorem Rw.lst (e : H q = some (.lst r)) (hl : r.length ≤ 1000) (hk : ∀ y ∈ r, Kd K H y) : Rw K H (.ref q) :=
 ⟨.lst e, fun ys h => by rw [rowOf_lst e] at h; cases h; exact hl, fun ys h => by rw [rowOf_lst e] at h; cases h; exact hk⟩
theorem Th.lst {p : Addr} {xs : List V} (e : H p = some (.lst xs)) (hl : xs.length ≤ 1000) (hk : ∀ x ∈ xs, Rw K H x) : Th2 K H (.ref p) :=
 ⟨⟨.lst e, fun ys h => by rw [rowOf_lst e] at h; cases h; exact hl, fun ys h => by rw [rowOf_lst e] at h; cases h; exact hk⟩, fun a ys z e2 => by cases z; rw [e] at e2; cases e2⟩
theorem Th.pic {a : Addr} {ps : List Addr} {R : List (List V)} (p : PicV H a ps R) (hl : R.length ≤ 1000) (hr : ∀ r ∈ R, r.length ≤ 1000 ∧ ∀ y ∈ r, Kd K H y) : Th2 K H (.ref a) := by
 refine Th.lst p.top (by rw [List.length_map, p.len]; exact hl) fun x hx => ?_
 obtain ⟨q, hq, rfl⟩ := List.mem_map.mp hx
 obtain ⟨r, hrm, e⟩ := p.mem hq
 exact Rw.lst e (hr r hrm).1 (hr r hrm).2
end
end K13
set_option Elab.async false
set_option linter.all false
set_option maxRecDepth 100000
set_option maxHeartbeats 8000000
namespace K13
open PySem L2 M4
section
variable {K : W.Frag}
theorem Good.at {rows : List (List Int)} {wd : Nat} (g : Good rows wd) {i : Nat} {r : List V} (h : (ir rows)[i]? = some r) : ∃ (ns : List Int), r = ns.map V.int ∧ ns.length = wd ∧ (∀ c ∈ ns, 0 ≤ c ∧ c ≤ 15) ∧ ns ∈ rows := by
 unfold ir at h
 rw [List.getElem?_map] at h
 cases e : rows[i]? with
 | none => rw [e] at h; cases h
 | some ns =>
  rw [e] at h
  cases h
  have hm := List.mem_of_getElem? e
  exact ⟨ns, rfl, (g.row ns hm).1, (g.row ns hm).2, hm⟩
theorem Good.mem {H : Hp} {a q : Addr} {ps : List Addr} {rows : List (List Int)} {wd : Nat} (g : Good rows wd) (p : PicV H a ps (ir rows)) (hq : q ∈ ps) : ∃ (ns : List Int), H q = some (.lst (ns.map V.int)) ∧ ns.length = wd ∧ (∀ c ∈ ns, 0 ≤ c ∧ c ≤ 15) := by
 obtain ⟨i, hi⟩ := List.mem_iff_getElem?.mp hq
 obtain ⟨r, hr, e⟩ := p.at hi
 obtain ⟨ns, rfl, h1, h2, _⟩ := g.at hr
 exact ⟨ns, e, h1, h2⟩
theorem Good.first {H : Hp} {a : Addr} {ps : List Addr} {rows : List (List Int)} {wd : Nat} (g : Good rows wd) (p : PicV H a ps (ir rows)) : ∃ (q : Addr) (ns : List Int), (ps.map V.ref)[0]? = some (.ref q) ∧ H q = some (.lst (ns.map V.int)) ∧ ns.length = wd := by
 have hl : ps.length = rows.length := by have := p.len; unfold ir at this; rw [List.length_map] at this; exact this
 have h0 : 0 < ps.length := by have := g.ne; omega
 have e : ps[0]? = some ps[0] := by simp [h0]
 obtain ⟨ns, h1, h2, _⟩ := g.mem p (List.getElem_mem h0)
 exact ⟨ps[0], ns, by rw [List.getElem?_map, e]; rfl, h1, h2⟩
theorem ir_len (rows : List (List Int)) : (ir rows).length = rows.length := by unfold ir; rw [List.length_map]
end
noncomputable def spCell (K : W.Frag) : Sp := fun vs H Q _ => ∃ (a : Addr) (ns : List Int) (k : Nat), vs = [.ref a, .int k] ∧ SqL K H a (ns.map V.int) ∧ Q (.int (ns.getD k 0)) H
noncomputable def mixN (c k : Int) : Int := c % 1000000007 + 7919 * k + 13
noncomputable def mixI (c k : Int) : Int := mixN c k * mixN c k % 1000000007 * mixN c k % 998244353 / 11
noncomputable def spMixed : Sp := fun vs H Q _ => ∃ c k : Int, vs = [.int c, .int k] ∧ (0 ≤ k ∧ k ≤ 1000000) ∧ Q (.int (mixI c k)) H
noncomputable def spPicture (K : W.Frag) : Sp := fun vs H Q _ => ∃ (a : Addr) (ns : List Int) (at_ : Nat), vs = [.ref a, .int (at_ : Int), .int 8] ∧ SqL K H a (ns.map V.int) ∧
 ∀ p ps rows wd H', Same H H' → H p = none → Fresh H ps → PicV H' p ps (ir rows) → Good rows wd → Q (.ref p) H'
noncomputable def spCopied (K : W.Frag) : Sp := fun vs H Q _ => ∃ a ps R, vs = [.ref a] ∧ H a = some (.lst (ps.map V.ref)) ∧ Paired (fun p r => H p = some (.lst r)) ps R ∧ R.length ≤ 1000 ∧ ∀ p qs H', Same H H' → H p = none → Fresh H qs → PicV H' p qs R → Q (.ref p) H'
noncomputable def spLike (K : W.Frag) : Sp := fun vs H Q _ => ∃ a b ps qs rows wd, vs = [.ref a, .ref b] ∧ PicV H a ps (ir rows) ∧ PicV H b qs (ir rows) ∧ Good rows wd ∧ (∀ q ∈ qs, q ∉ ps) ∧ b ∉ ps ∧ ∀ H', Same H H' → Q (.bl true) H'
section
variable {P : Program} {w : World} {K : W.Frag} {mg : Str → Option Value} {base : Heap} {cFE cBP cBS : Addr} {tS tC : Tok}
theorem sc_law_cell_at : FnScope ["_law_script", "_law_k"] ["_law_script", "_law_k"] (defScope s_law_cell_at) := ⟨rfl, rfl, rfl, by decide +kernel, rfl, by decide +kernel, by decide +kernel⟩
theorem ok_law_cell_at {f : Addr} {fd : FuncData} (F : FunD K "_law_cell_at" "_law_cell_at" s_law_cell_at .none f fd) (T : Txt K mg cFE cBP cBS tS tC) : FnOk P w K mg base CX0 2 f fd ["_law_script", "_law_k"] (spCell K) := by
 refine F.ok sc_law_cell_at (fun vs H Q E h => ?_) (fun cdv A outer s H vs Q E hr h => ?_)
 ·obtain ⟨a, ns, k, rfl, _⟩ := h; rfl
 ·obtain ⟨a, ns, j, rfl, hS, k⟩ := h
  refine ⟨_, (pss_cons (ps_if (pt_cmpR op_lt (pv 1) (pe_callB (lenK K rfl) rfl T.len PySem.boot_len (pa_cons (pv 0) pa_nil)) (nomark _)) (pss_one (ps_ret (pe_ix (ixK K rfl) (pv 0) (pv 1) (fun _ _ => rfl)))) pss_nil)
    (pss_one (ps_ret pe_int))), ?_⟩
  refine ⟨_, rfl, _, rfl, a, _, rfl, .inl hS, _, _, rfl, rfl, _, rfl, ?_⟩
  rw [List.length_map]
  refine ite2 (fun hc => ?_) (fun hc => ?_)
  ·have hlt : j < ns.length := by have := of_decide_eq_true hc; omega
   refine ⟨_, rfl, _, rfl, a, _, _, _, rfl, rfl, hS, atI_nat (j := j) (v := V.int (ns.getD j 0)) ?_, k⟩
   rw [List.getElem?_map, List.getElem?_eq_getElem hlt]
   simp [List.getD, hlt]
  ·have hge : ¬ j < ns.length := fun z => hc (decide_eq_true (by omega))
   have e : ns.getD j 0 = 0 := by simp [List.getD, List.getElem?_eq_none (Nat.le_of_not_lt hge)]
   rw [e] at k
   exact k
theorem mixN_lt {c k : Int} (h : 0 ≤ k ∧ k ≤ 1000000) : 0 ≤ mixN c k ∧ mixN c k < 2 ^ 64 := by
 unfold mixN
 have h1 := Int.emod_nonneg c (show (1000000007 : Int) ≠ 0 by decide)
 have h2 := Int.emod_lt_of_pos c (show (0 : Int) < 1000000007 by decide)
 omega
theorem sc_law_mixed : FnScope ["_law_cell", "_law_k", "_law_number"] ["_law_cell", "_law_k"] (defScope s_law_mixed) := ⟨rfl, rfl, rfl, by decide +kernel, rfl, by decide +kernel, by decide +kernel⟩
theorem ok_law_mixed {f : Addr} {fd : FuncData} (F : FunD K "_law_mixed" "_law_mixed" s_law_mixed .none f fd) : FnOk P w K mg base CX0 2 f fd ["_law_cell", "_law_k"] spMixed := by
 refine F.ok sc_law_mixed (fun vs H Q E h => ?_) (fun cdv A outer s H vs Q E hr h => ?_)
 ·obtain ⟨c, j, rfl, _⟩ := h; rfl
 ·obtain ⟨c, j, rfl, hj, k⟩ := h
  refine ⟨_, (pss_cons (ps_set (i := 2) sc_law_mixed.nd rfl (by first | exact Or.inl rfl | exact Or.inr rfl) (pe_op op_add (pe_op op_add (pe_op op_mod (pv 0) pe_int) (pe_op op_mul pe_int (pv 1))) pe_int))
    (pss_one (ps_ret (pe_op op_fdiv (pe_op op_mod (pe_op op_mul (pe_op op_mod (pe_op op_mul (pv 2) (pv 2)) pe_int) (pv 2)) pe_int) pe_int)))), ?_⟩
  have hm := mixN_lt (c := c) hj
  have p1 : 0 ≤ mixN c j * mixN c j % 1000000007 := Int.emod_nonneg _ (by decide)
  have p2 : mixN c j * mixN c j % 1000000007 < 1000000007 := Int.emod_lt_of_pos _ (by decide)
  refine ⟨_, rfl, _, _, rfl, rfl, (by show (0 : Int) < 1000000007; decide), _, rfl, _, _, rfl, rfl, .inl ⟨by decide, by decide⟩, _, _, rfl, rfl, _, _, rfl, rfl, ?_⟩
  refine ⟨_, rfl, _, rfl, _, _, rfl, rfl, .inl ⟨?_, ?_⟩, _, _, rfl, rfl, (by show (0 : Int) < 1000000007; decide), _, rfl, _, _, rfl, rfl, .inl ⟨?_, ?_⟩, _, _, rfl, rfl, (by show (0 : Int) < 998244353; decide), _, _, rfl, rfl, ⟨by decide, by decide⟩, k⟩
  ·show -(2 ^ 64) < mixN c j; omega
  ·show mixN c j < 2 ^ 64; omega
  ·show -(2 ^ 64) < mixN c j * mixN c j % 1000000007; omega
  ·show mixN c j * mixN c j % 1000000007 < 2 ^ 64; omega
theorem sc_law_copied : FnScope ["_law_picture_here"] ["_law_picture_here"] (defScope s_law_copied) := ⟨rfl, rfl, rfl, by decide +kernel, rfl, by decide +kernel, by decide +kernel⟩
theorem ok_law_copied {f : Addr} {fd : FuncData} (F : FunD K "_law_copied" "_law_copied" s_law_copied .none f fd) (T : Txt K mg cFE cBP cBS tS tC) : FnOk P w K mg base CX0 2 f fd ["_law_picture_here"] (spCopied K) := by
 refine F.ok sc_law_copied (fun vs H Q E h => ?_) (fun cdv A outer s H vs Q E hr h => ?_)
 ·obtain ⟨a, ps, R, rfl, _⟩ := h; rfl
 ·obtain ⟨a, ps, R, rfl, top, row, hl, k⟩ := h
  refine ⟨_, (pss_one (ps_ret (pe_comp (N := ["_law_row"]) (src := [none]) rfl ⟨rfl, rfl, rfl, rfl, rfl, by decide +kernel⟩ (piK K rfl (pv 0)) (fun s H C fp => pg_name (i := 0) (show (["_law_row"] : List Str).Nodup by decide +kernel) rfl (by first | exact Or.inl rfl | exact Or.inr rfl)) (fun s H C fp => pts_nil) (fun s H C fp => (pe_callTy (listK K rfl) rfl T.list PyProof.Rows.boot_list (pa_cons (pv 0) pa_nil)))))), ?_⟩
  refine ⟨_, rfl, a, rfl, ⟨_, SqL.of top⟩, fun D hD => ?_⟩
  let g : V → List V := fun v => match v with | .ref q => (match H q with | some (.lst r) => r | _ => []) | _ => []
  have gR : (ps.map V.ref).map g = R := by
   rw [List.map_map]
   have : ∀ {l : List Addr} {S : List (List V)}, Paired (fun p r => H p = some (.lst r)) l S → l.map (g ∘ V.ref) = S := by
    intro l S h
    induction h with
    | nil => rfl
    | cons r t ih =>
     rw [List.map_cons, ih]
     simp only [Function.comp, g, r]
   exact this row
  refine comp_rows (k := 0) g (src_list (SqL.of top)) (by rw [List.length_map, Paired.length row]; exact Nat.le_trans hl (by decide)) hD (fun x hx H' Q' sm kk => ?_) fun qs H' sm fr pic' => k D qs H' sm hD fr (by rw [gR] at pic'; exact pic')
  obtain ⟨q, hq, rfl⟩ := List.mem_map.mp hx
  obtain ⟨r, e⟩ : ∃ r, H q = some (.lst r) := by
   obtain ⟨i, hi⟩ := List.mem_iff_getElem?.mp hq
   obtain ⟨r, _, e⟩ := Paired.getL row hi
   exact ⟨r, e⟩
  have ge : g (.ref q) = r := by simp only [g, e]
  refine ⟨_, rfl, q, r, rfl, .inl (SqL.of (sm _ _ e)), fun l hl => kk l _ (same_new hl) hl ?_⟩
  rw [upd_same, ge]
end
theorem hues_at {i : Int} (h0 : 0 ≤ i) (h1 : i < 4) : ∃ h : Int, atI [V.int 16, .int 2, .int 3, .int 4] i = some (.int h) ∧ 0 < h ∧ h < 1073741824 := by
 have : i = 0 ∨ i = 1 ∨ i = 2 ∨ i = 3 := by omega
 rcases this with rfl | rfl | rfl | rfl
 ·exact ⟨16, rfl, by decide, by decide⟩
 ·exact ⟨2, rfl, by decide, by decide⟩
 ·exact ⟨3, rfl, by decide, by decide⟩
 ·exact ⟨4, rfl, by decide, by decide⟩
noncomputable def pcell (bs c hu y x : Int) : Int := (bs + mixI c (24 * y + x) % hu) % 16
noncomputable def prow (bs c hu : Int) (wn : Nat) (y : Int) : List Int := (List.range wn).map fun (x : Nat) => pcell bs c hu y (x : Int)
noncomputable def pgrid (bs c hu : Int) (wn hn : Nat) : List (List Int) := (List.range hn).map fun (y : Nat) => prow bs c hu wn (y : Int)
theorem pgrid_good {bs c hu : Int} {wn hn : Nat} (w1 : 1 ≤ wn) (w24 : wn ≤ 24) (h1 : 1 ≤ hn) (h24 : hn ≤ 24) : Good (pgrid bs c hu wn hn) wn := by
 refine ⟨by simp [pgrid]; exact h1, by simp [pgrid]; exact h24, w1, w24, fun r hr => ?_⟩
 obtain ⟨y, _, rfl⟩ := List.mem_map.mp hr
 refine ⟨by simp [prow], fun d hd => ?_⟩
 obtain ⟨x, _, rfl⟩ := List.mem_map.mp hd
 unfold pcell
 have a1 := Int.emod_nonneg (bs + mixI c (24 * (y : Int) + (x : Int)) % hu) (show (16 : Int) ≠ 0 by decide)
 have a2 := Int.emod_lt_of_pos (bs + mixI c (24 * (y : Int) + (x : Int)) % hu) (show (0 : Int) < 16 by decide)
 omega
section
variable {P : Program} {w : World} {K : W.Frag} {mg : Str → Option Value} {base : Heap} {cFE cBP cBS : Addr} {tS tC : Tok}
theorem sc_law_picture : FnScope ["_law_script", "_law_at", "_law_most", "_law_side", "_law_wide", "_law_high", "_law_hues", "_law_base", "_law_cells"] ["_law_script", "_law_at", "_law_most"] (defScope s_law_picture) := ⟨rfl, rfl, rfl, by decide +kernel, rfl, by decide +kernel, by decide +kernel⟩
theorem ok_law_picture {f : Addr} {fd : FuncData} (F : FunD K "_law_picture" "_law_picture" s_law_picture .none f fd) (T : Txt K mg cFE cBP cBS tS tC) (g__law_cell_at : Def P w K mg base 2 "_law_cell_at" ["_law_script", "_law_k"] [] (spCell K))
  (g__law_mixed : Def P w K mg base 2 "_law_mixed" ["_law_cell", "_law_k"] [] spMixed) : FnOk P w K mg base CX0 3 f fd ["_law_script", "_law_at", "_law_most"] (spPicture K) := by
 refine F.ok sc_law_picture (fun vs H Q E h => ?_) (fun cdv A outer s H vs Q E hr h => ?_)
 ·obtain ⟨a, ns, at_, rfl, _⟩ := h; rfl
 ·obtain ⟨a, ns, at_, rfl, hS, k⟩ := h
  obtain ⟨tr, hrest, krest⟩ : ∃ tr, PSs ((cxOf CX0 P w K mg base ["_law_script", "_law_at", "_law_most", "_law_side", "_law_wide", "_law_high", "_law_hues", "_law_base", "_law_cells"] "_law_picture" (defScope s_law_picture) f cdv A outer s H E).nox) ((defBody s_law_picture).drop 4) tr ∧
    ∀ (sd : Int) (wn hn : Nat), 1 ≤ wn → wn ≤ 24 → 1 ≤ hn → hn ≤ 24 → tr { nx := fun _ H' => Q .non H', rt := Q } [some (.ref a), some (.int (at_ : Int)), some (.int 8), some (.int sd), some (.int (wn : Int)), some (.int (hn : Int)), none, none, none] H := by
   refine ⟨_, (pss_cons (ps_set (i := 6) sc_law_picture.nd rfl (by first | exact Or.inl rfl | exact Or.inr rfl) (pe_ix (ixK K rfl) (pe_lst (pa_cons pe_int (pa_cons pe_int (pa_cons pe_int (pa_cons pe_int pa_nil))))) (pe_op op_mod (pe_callD g__law_cell_at (hr.mono (by decide)) rfl (pa_cons (pv 0) (pa_cons (pe_op op_add (pv 1) pe_int) pa_nil))) pe_int) (fun _ _ => rfl)))
    (pss_cons (ps_set (i := 7) sc_law_picture.nd rfl (by first | exact Or.inl rfl | exact Or.inr rfl) (pe_op op_mod (pe_op op_fdiv (pe_callD g__law_cell_at (hr.mono (by decide)) rfl (pa_cons (pv 0) (pa_cons (pe_op op_add (pv 1) pe_int) pa_nil))) pe_int) pe_int))
    (pss_cons (ps_set (i := 8) sc_law_picture.nd rfl (by first | exact Or.inl rfl | exact Or.inr rfl) (pe_callD g__law_cell_at (hr.mono (by decide)) rfl (pa_cons (pv 0) (pa_cons (pe_op op_add (pv 1) pe_int) pa_nil))))
    (pss_one (ps_ret (pe_comp (N := ["_law_y", "_law_wide", "_law_base", "_law_cells", "_law_hues"]) (src := [none, some 4, some 7, some 8, some 6]) rfl ⟨rfl, rfl, rfl, rfl, rfl, by decide +kernel⟩ (pi_range1 rfl T.range (pa_cons (pv 5) pa_nil)) (fun s H C fp => pg_name (i := 0) (show (["_law_y", "_law_wide", "_law_base", "_law_cells", "_law_hues"] : List Str).Nodup by decide +kernel) rfl (by first | exact Or.inl rfl | exact Or.inr rfl)) (fun s H C fp => pts_nil) (fun s H C fp => (pe_comp (N := ["_law_x", "_law_base", "_law_cells", "_law_y", "_law_hues"]) (src := [none, some 2, some 3, some 0, some 4]) rfl ⟨rfl, rfl, rfl, rfl, rfl, by decide +kernel⟩ (pi_range1 rfl T.range (pa_cons (pv 1) pa_nil)) (fun s H C fp => pg_name (i := 0) (show (["_law_x", "_law_base", "_law_cells", "_law_y", "_law_hues"] : List Str).Nodup by decide +kernel) rfl (by first | exact Or.inl rfl | exact Or.inr rfl)) (fun s H C fp => pts_nil) (fun s H C fp => (pe_op op_mod (pe_op op_add (pv 1) (pe_op op_mod (pe_callD g__law_mixed (hr.mono (by decide)) rfl (pa_cons (pv 2) (pa_cons (pe_op op_add (pe_op op_mul pe_int (pv 3)) (pv 0)) pa_nil))) (pv 4))) pe_int)))))))))), ?_⟩
   intro sd wn hn w1 w24 h1 h24
   refine ⟨sz4, fun l hl => ?_⟩
   have hS1 : SqL K (upd H l (.lst [V.int 16, .int 2, .int 3, .int 4])) a (ns.map V.int) := hS.upd_new hl
   obtain ⟨hu, hu1, hu2, hu3⟩ := hues_at (i := ns.getD (at_ + 1) 0 % 4) (Int.emod_nonneg _ (by decide)) (Int.emod_lt_of_pos _ (by decide))
   refine ⟨_, rfl, _, rfl, _, _, rfl, rfl, a, ns, at_ + 1, rfl, hS1, _, _, rfl, rfl, (by show (0 : Int) < 4; decide), l, _, _, _, rfl, rfl, SqL.of upd_same, hu1, ?_⟩
   refine ⟨_, rfl, _, rfl, _, _, rfl, rfl, a, ns, at_ + 1, rfl, hS1, _, _, rfl, rfl, ⟨by decide, by decide⟩, _, _, rfl, rfl, (by show (0 : Int) < 16; decide), ?_⟩
   refine ⟨_, rfl, _, rfl, _, _, rfl, rfl, a, ns, at_ + 2, rfl, hS1, ?_⟩
   refine ⟨_, rfl, _, rfl, by omega, by omega, fun D hD => ?_⟩
   rw [Int.toNat_natCast]
   refine comp_rows (k := 0) (fun v => match v with | .int y => (prow (ns.getD (at_ + 1) 0 / 4 % 16) (ns.getD (at_ + 2) 0) hu wn y).map V.int | _ => []) src_range (by simp; exact Nat.le_trans h24 (by decide)) hD (fun x hx H' Q' sm kk => ?_) fun ps H' sm fr pic => ?_
   ·obtain ⟨y, hy, rfl⟩ := List.mem_map.mp hx
    have hy' : y < hn := List.mem_range.mp hy
    refine ⟨_, rfl, _, rfl, by omega, by omega, fun D2 hD2 => ?_⟩
    rw [Int.toNat_natCast]
    refine comp_fm (k := 0) (fun v => match v with | .int x => .int (pcell (ns.getD (at_ + 1) 0 / 4 % 16) (ns.getD (at_ + 2) 0) hu (0 + (y : Int)) x) | _ => .non) (fun _ => true) src_range (by simp; exact Nat.le_trans w24 (by decide)) hD2 (fun x _ H2 Qb _ kb => kb H2 (Same.refl _)) (fun x hx2 _ H2 Q2 s2 k2 => ?_) fun H2 s2 hD2' => ?_
    ·obtain ⟨x, hx, rfl⟩ := List.mem_map.mp hx2
     have hx' : x < wn := List.mem_range.mp hx
     refine ⟨_, rfl, _, rfl, _, rfl, _, _, rfl, rfl, .inl ⟨by decide, by decide⟩, _, rfl, _, _, rfl, rfl, _, _, rfl, ⟨by omega, by omega⟩, _, rfl, _, _, rfl, rfl, hu2, _, _, rfl, rfl, _, _, rfl, rfl, (by show (0 : Int) < 16; decide), ?_⟩
     exact k2 H2 (Same.refl _)
    ·refine kk D2 H2 s2 hD2 ?_
     rw [hD2', filter_t, List.map_map]
     show some (HO.lst _) = some (HO.lst ((prow (ns.getD (at_ + 1) 0 / 4 % 16) (ns.getD (at_ + 2) 0) hu wn (0 + (y : Int))).map V.int))
     unfold prow
     rw [List.map_map]
     congr 2
     refine List.map_congr_left fun x _ => ?_
     show V.int (pcell (ns.getD (at_ + 1) 0 / 4 % 16) (ns.getD (at_ + 2) 0) hu (0 + (y : Int)) (0 + (x : Int))) = V.int (pcell (ns.getD (at_ + 1) 0 / 4 % 16) (ns.getD (at_ + 2) 0) hu (0 + (y : Int)) (x : Int))
     rw [Int.zero_add (x : Int)]
   ·refine k D ps (pgrid (ns.getD (at_ + 1) 0 / 4 % 16) (ns.getD (at_ + 2) 0) hu wn hn) wn H' ((same_new hl).trans sm) ((same_new hl).free hD) (fun q hq => (same_new hl).free (fr q hq)) ?_ (pgrid_good w1 w24 h1 h24)
    have e : ir (pgrid (ns.getD (at_ + 1) 0 / 4 % 16) (ns.getD (at_ + 2) 0) hu wn hn) = ((List.range hn).map fun (i : Nat) => V.int (0 + (i : Int))).map (fun v => match v with | .int y => (prow (ns.getD (at_ + 1) 0 / 4 % 16) (ns.getD (at_ + 2) 0) hu wn y).map V.int | _ => []) := by
     unfold ir pgrid
     rw [List.map_map, List.map_map]
     refine List.map_congr_left fun y _ => ?_
     show (prow _ _ hu wn (y : Int)).map V.int = (prow _ _ hu wn (0 + (y : Int))).map V.int
     rw [Int.zero_add (y : Int)]
    rw [e]
    exact pic
  refine ⟨_, (pss_cons (ps_set (i := 3) sc_law_picture.nd rfl (by first | exact Or.inl rfl | exact Or.inr rfl) (pe_callD g__law_cell_at (hr.mono (by decide)) rfl (pa_cons (pv 0) (pa_cons (pv 1) pa_nil))))
    (pss_cons (ps_set (i := 4) sc_law_picture.nd rfl (by first | exact Or.inl rfl | exact Or.inr rfl) (pe_op op_add pe_int (pe_op op_mod (pv 3) (pv 2))))
    (pss_cons (ps_set (i := 5) sc_law_picture.nd rfl (by first | exact Or.inl rfl | exact Or.inr rfl) (pe_op op_add pe_int (pe_op op_mod (pe_op op_fdiv (pv 3) (pv 2)) (pv 2))))
    (pss_cons (ps_if (pt_cmpR op_eq (pe_op op_mod (pe_op op_fdiv (pe_op op_fdiv (pv 3) (pv 2)) (pv 2)) pe_int) pe_int (nomark _)) (pss_one (ps_set (i := 4) sc_law_picture.nd rfl (by first | exact Or.inl rfl | exact Or.inr rfl) (pe_op op_add pe_int (pe_op op_mod (pe_op op_fdiv (pe_op op_fdiv (pe_op op_fdiv (pv 3) (pv 2)) (pv 2)) pe_int) pe_int)))) (pss_one (ps_if (pt_cmpR op_eq (pe_op op_mod (pe_op op_fdiv (pe_op op_fdiv (pv 3) (pv 2)) (pv 2)) pe_int) pe_int (nomark _)) (pss_one (ps_set (i := 5) sc_law_picture.nd rfl (by first | exact Or.inl rfl | exact Or.inr rfl) (pe_op op_add pe_int (pe_op op_mod (pe_op op_fdiv (pe_op op_fdiv (pe_op op_fdiv (pv 3) (pv 2)) (pv 2)) pe_int) pe_int)))) pss_nil)))
    hrest)))), ?_⟩
  refine ⟨_, rfl, _, rfl, a, ns, at_, rfl, hS, ?_⟩
  generalize ns.getD at_ 0 = sd
  refine ⟨_, rfl, _, rfl, _, _, rfl, rfl, (by show (0 : Int) < 8; decide), _, _, rfl, rfl, ?_⟩
  refine ⟨_, rfl, _, rfl, _, _, rfl, rfl, ⟨by decide, by decide⟩, _, rfl, _, _, rfl, rfl, (by show (0 : Int) < 8; decide), _, _, rfl, rfl, ?_⟩
  have nat1 : ∀ z : Int, 1 ≤ z → z ≤ 24 → ∃ n : Nat, z = (n : Int) ∧ 1 ≤ n ∧ n ≤ 24 := fun z h1 h2 => ⟨z.toNat, by omega, by omega, by omega⟩
  obtain ⟨wn, ew, w1, w24⟩ := nat1 (1 + sd % 8) (by omega) (by omega)
  obtain ⟨hn, eh, h1, h24⟩ := nat1 (1 + sd / 8 % 8) (by omega) (by omega)
  obtain ⟨bn, eb, b1, b24⟩ := nat1 (1 + sd / 8 / 8 / 8 % 24) (by omega) (by omega)
  refine ⟨_, rfl, _, rfl, _, _, rfl, rfl, ⟨by decide, by decide⟩, _, rfl, _, _, rfl, rfl, ⟨by decide, by decide⟩, _, _, rfl, rfl, (by show (0 : Int) < 8; decide), rfl, _, rfl, ite2 (fun _ => ?_) (fun _ => ?_)⟩
  ·refine ⟨_, rfl, _, rfl, _, _, rfl, rfl, ⟨by decide, by decide⟩, _, rfl, _, _, rfl, rfl, ⟨by decide, by decide⟩, _, _, rfl, rfl, ⟨by decide, by decide⟩, _, _, rfl, rfl, (by show (0 : Int) < 24; decide), _, _, rfl, rfl, ?_⟩
   show tr _ [some (.ref a), some (.int (at_ : Int)), some (.int 8), some (.int sd), some (.int (1 + sd / 8 / 8 / 8 % 24)), some (.int (1 + sd / 8 % 8)), none, none, none] H
   rw [eb, eh]
   exact krest sd bn hn b1 b24 h1 h24
  refine ⟨_, rfl, _, rfl, _, _, rfl, rfl, ⟨by decide, by decide⟩, _, rfl, _, _, rfl, rfl, ⟨by decide, by decide⟩, _, _, rfl, rfl, (by show (0 : Int) < 8; decide), rfl, _, rfl, ite2 (fun _ => ?_) (fun _ => ?_)⟩
  ·refine ⟨_, rfl, _, rfl, _, _, rfl, rfl, ⟨by decide, by decide⟩, _, rfl, _, _, rfl, rfl, ⟨by decide, by decide⟩, _, _, rfl, rfl, ⟨by decide, by decide⟩, _, _, rfl, rfl, (by show (0 : Int) < 24; decide), _, _, rfl, rfl, ?_⟩
   show tr _ [some (.ref a), some (.int (at_ : Int)), some (.int 8), some (.int sd), some (.int (1 + sd % 8)), some (.int (1 + sd / 8 / 8 / 8 % 24)), none, none, none] H
   rw [ew, eb]
   exact krest sd wn bn w1 w24 b1 b24
  ·show tr _ [some (.ref a), some (.int (at_ : Int)), some (.int 8), some (.int sd), some (.int (1 + sd % 8)), some (.int (1 + sd / 8 % 8)), none, none, none] H
   rw [ew, eh]
   exact krest sd wn hn w1 w24 h1 h24
end
structure Mid (H0 H2 : Hp) (ps : List Addr) (R : List (List V)) (f : Nat → List V → List V) : Prop where
 keep : ∀ b o, H0 b = some o → b ∉ ps → H2 b = some o
 rows : ∀ (j : Nat) p r, ps[j]? = some p → R[j]? = some r → H2 p = some (.lst (f j r))
theorem Mid.same {H0 H2 H3 : Hp} {ps : List Addr} {R : List (List V)} {f : Nat → List V → List V} (m : Mid H0 H2 ps R f) (s : Same H2 H3) : Mid H0 H3 ps R f := ⟨fun b o e hb => s _ _ (m.keep b o e hb), fun j p r h1 h2 => s _ _ (m.rows j p r h1 h2)⟩
theorem nodup_at {ps : List Addr} (nd : ps.Nodup) {i j : Nat} {p : Addr} (h1 : ps[i]? = some p) (h2 : ps[j]? = some p) : i = j := by
 obtain ⟨a1, b1⟩ := List.getElem?_eq_some_iff.mp h1
 obtain ⟨a2, b2⟩ := List.getElem?_eq_some_iff.mp h2
 exact (List.getElem_inj nd).mp (b1.trans b2.symm)
theorem Mid.step {H0 H2 : Hp} {ps : List Addr} {R : List (List V)} {f g : Nat → List V → List V} {i : Nat} {q : Addr} {r xs : List V} (m : Mid H0 H2 ps R f) (nd : ps.Nodup) (hq : ps[i]? = some q) (hr : R[i]? = some r) (hx : xs = g i r) (hg : ∀ j r, j ≠ i → g j r = f j r) : Mid H0 (upd H2 q (.lst xs)) ps R g := by
 refine ⟨fun b o e hb => ?_, fun j p r' h1 h2 => ?_⟩
 ·have ne : b ≠ q := fun z => hb (by rw [z]; exact List.mem_of_getElem? hq)
  rw [upd_ne ne]
  exact m.keep b o e hb
 ·by_cases hj : j = i
  ·subst hj
   rw [hq] at h1; cases h1
   rw [hr] at h2; cases h2
   rw [upd_same, hx]
  ·have ne : p ≠ q := fun z => hj (nodup_at nd h1 (by rw [z]; exact hq))
   rw [upd_ne ne, hg j r' hj]
   exact m.rows j p r' h1 h2
theorem filter_none {ns : List Int} : ((ns.map V.int).filter fun x => !(isI x) || isB x).map (fun x => x) = [] := by
 induction ns with
 | nil => rfl
 | cons n r ih => rw [List.map_cons, List.filter_cons_of_neg (by simp [isI, isB])]; exact ih
theorem getElem?_ref {ps : List Addr} {i : Nat} {x : V} (h : (ps.map V.ref)[i]? = some x) : ∃ q, ps[i]? = some q ∧ x = .ref q := by
 rw [List.getElem?_map] at h
 cases e : ps[i]? with
 | none => rw [e] at h; cases h
 | some q => rw [e] at h; cases h; exact ⟨q, rfl, rfl⟩
theorem flat_ints {ns : List Int} : ∀ x ∈ ns.map V.int, flatV x = true ∨ ∃ a, x = .ref a := fun x hx => by
 obtain ⟨n, _, rfl⟩ := List.mem_map.mp hx
 exact .inl rfl
section
variable {P : Program} {w : World} {K : W.Frag} {mg : Str → Option Value} {base : Heap} {cFE cBP cBS : Addr} {tS tC : Tok}
theorem t_odd {σ : St} {H : Hp} {Qb : Bool → Hp → Prop} {n : Int} {i : Nat} (hσ : σ[i]? = some (some (.int n))) (k : Qb false H) :
  tOr (tNot (tB (tCB (rIsX K) (tCons (tVar i) (tCons (L2.tC (.ty "int")) tNil))))) (tB (tCB (rIsX K) (tCons (tVar i) (tCons (L2.tC (.ty "bool")) tNil)))) σ H Qb :=
 ⟨_, hσ, true, (Kd.int n).isInt, _, rfl, ⟨_, hσ, false, (Kd.int n).isBool, _, rfl, k⟩⟩
theorem sc_law_is_like : FnScope ["_law_found", "_law_due", "_law_row", "_law_other_here", "_law_good"] ["_law_found", "_law_due"] (defScope s_law_is_like) := ⟨rfl, rfl, rfl, by decide +kernel, rfl, by decide +kernel, by decide +kernel⟩
theorem ok_law_is_like {f : Addr} {fd : FuncData} (F : FunD K "_law_is_like" "_law_is_like" s_law_is_like .none f fd) (T : Txt K mg cFE cBP cBS tS tC) : FnOk P w K mg base CX0 2 f fd ["_law_found", "_law_due"] (spLike K) := by
 refine F.ok sc_law_is_like (fun vs H Q E h => ?_) (fun cdv A outer s H vs Q E hr h => ?_)
 ·obtain ⟨a, b, ps, qs, rows, wd, rfl, _⟩ := h; rfl
 ·obtain ⟨a, b, ps, qs, rows, wd, rfl, pa, pb, gd, dj, hb, k⟩ := h
  have hu : _ + 64 < cLine := hr.units
  refine ⟨_, (pss_cons (ps_if (PW.pt (pw_or (pt_not (pt_val (isiK K rfl (pv 0) rfl T.isinstance rfl T.list PyProof.Rows.boot_list))) (pw_or1 (pt_cmpR op_ne (pe_callB (lenK K rfl) rfl T.len PySem.boot_len (pa_cons (pv 0) pa_nil)) (pe_callB (lenK K rfl) rfl T.len PySem.boot_len (pa_cons (pv 1) pa_nil)) (nomark _))))) (pss_one (ps_ret pe_bl)) pss_nil)
    (pss_cons (ps_for PassesOwn.never rfl (pi_zip rfl T.zip (pa_cons (pv 0) (pa_cons (pv 1) pa_nil))) (pg_tup rfl (pgs_cons (pg_name (i := 2) sc_law_is_like.nd rfl (by first | exact Or.inl rfl | exact Or.inr rfl)) (pgs_cons (pg_name (i := 3) sc_law_is_like.nd rfl (by first | exact Or.inl rfl | exact Or.inr rfl)) pgs_nil))) (pss_cons (ps_if (PW.pt (pw_or (pt_not (pt_val (isiK K rfl (pv 2) rfl T.isinstance rfl T.list PyProof.Rows.boot_list))) (pw_or1 (pt_cmpR (neDK K rfl hu) (pv 2) (pv 3) (nomark _))))) (pss_one (ps_ret pe_bl)) pss_nil)
    (pss_one (ps_if (pt_cmpR (neDK K rfl hu) (pe_comp (N := ["_law_cell"]) (src := [none]) rfl ⟨rfl, rfl, rfl, rfl, rfl, by decide +kernel⟩ (piK K rfl (pv 2)) (fun s H C fp => pg_name (i := 0) (show (["_law_cell"] : List Str).Nodup by decide +kernel) rfl (by first | exact Or.inl rfl | exact Or.inr rfl)) (fun s H C fp => (pts_one (PW.pt (pw_or (pt_not (pt_val (isiK K rfl (pv 0) rfl T.isinstance rfl T.int PyProof.Rows.boot_int))) (pw_or1 (pt_val (isiK K rfl (pv 0) rfl T.isinstance rfl T.bool PyProof.Rows.boot_bool))))))) (fun s H C fp => (pv 0))) (pe_lst pa_nil) (nomark _)) (pss_one (ps_ret pe_bl)) pss_nil))))
    (pss_cons (ps_for PassesOwn.never rfl (piK K rfl (pv 0)) (pg_name (i := 2) sc_law_is_like.nd rfl (by first | exact Or.inl rfl | exact Or.inr rfl)) (pss_one (ps_expr (pe_bm PySem.F.plainAttrs_list PySem.F.slot_list_append PySem.F.type_list_append mt_append (pv 2) (pa_cons pe_int pa_nil)))))
    (pss_cons (ps_set (i := 4) sc_law_is_like.nd rfl (by first | exact Or.inl rfl | exact Or.inr rfl) (pe_cmpR (eqDK K rfl hu) (pe_comp (N := ["_law_row"]) (src := [none]) rfl ⟨rfl, rfl, rfl, rfl, rfl, by decide +kernel⟩ (piK K rfl (pv 0)) (fun s H C fp => pg_name (i := 0) (show (["_law_row"] : List Str).Nodup by decide +kernel) rfl (by first | exact Or.inl rfl | exact Or.inr rfl)) (fun s H C fp => pts_nil) (fun s H C fp => (pe_callB (lenK K rfl) rfl T.len PySem.boot_len (pa_cons (pv 0) pa_nil)))) (pe_comp (N := ["_law_row"]) (src := [none]) rfl ⟨rfl, rfl, rfl, rfl, rfl, by decide +kernel⟩ (piK K rfl (pv 1)) (fun s H C fp => pg_name (i := 0) (show (["_law_row"] : List Str).Nodup by decide +kernel) rfl (by first | exact Or.inl rfl | exact Or.inr rfl)) (fun s H C fp => pts_nil) (fun s H C fp => (pe_op op_add (pe_callB (lenK K rfl) rfl T.len PySem.boot_len (pa_cons (pv 0) pa_nil)) pe_int))) (nomark _)))
    (pss_cons (ps_for PassesOwn.never rfl (piK K rfl (pv 0)) (pg_name (i := 2) sc_law_is_like.nd rfl (by first | exact Or.inl rfl | exact Or.inr rfl)) (pss_one (ps_expr (pe_bm0 PySem.F.plainAttrs_list PySem.F.slot_list_pop PySem.F.type_list_pop mt_pop (pv 2)))))
    (pss_one (ps_ret (pv 4)))))))), ?_⟩
  have l1 : ps.length = rows.length := by rw [pa.len, ir_len]
  have l2 : qs.length = rows.length := by rw [pb.len, ir_len]
  have hlen : (ps.map V.ref).length = (qs.map V.ref).length := by rw [List.length_map, List.length_map, l1, l2]
  have hz : (ps.map V.ref).length ≤ sizeLine := by rw [List.length_map, l1]; exact Nat.le_trans gd.le (by decide)
  have hz2 : (qs.map V.ref).length ≤ sizeLine := by rw [← hlen]; exact hz
  refine ⟨_, rfl, true, isList_lst pa.top, _, rfl, ⟨_, rfl, a, _, rfl, .inl (SqL.of pa.top), _, rfl, b, _, rfl, .inl (SqL.of pb.top), rfl, _, rfl, ?_⟩⟩
  rw [hlen, decide_eq_true rfl]
  refine (⟨_, rfl, _, rfl, a, b, rfl, ⟨_, SqL.of pa.top⟩, ⟨_, SqL.of pb.top⟩, ?_⟩)
  refine for_zip (xs := ps.map V.ref) (ys := qs.map V.ref) hlen (fun i σ H2 => Same H H2 ∧ ∃ v2 v3, σ = [some (.ref a), some (.ref b), v2, v3, none]) ⟨Same.refl H, none, none, rfl⟩ (fun i σ H2 _ q => ⟨SqL.of (q.1 _ _ pa.top), SqL.of (q.1 _ _ pb.top)⟩) ?_ ?_
  ·rintro i x y σ H2 Tt hx hy ⟨s2, v2, v3, rfl⟩ hT
   obtain ⟨p, hp, rfl⟩ := getElem?_ref hx
   obtain ⟨q, hq, rfl⟩ := getElem?_ref hy
   obtain ⟨r, hr1, hp2⟩ := pa.at hp
   obtain ⟨r', hr2, hq2⟩ := pb.at hq
   rw [hr1] at hr2; cases hr2
   obtain ⟨ns, rfl, hw, _, _⟩ := gd.at hr1
   have s3 : Same H (upd H2 Tt (.tup [.ref p, .ref q])) := s2.trans (same_new hT)
   refine ⟨Tt, _, rfl, SqT.of upd_same, rfl, _, _, rfl, _, _, rfl, rfl, ?_⟩
   refine ⟨_, rfl, true, isList_lst (s3 _ _ hp2), _, rfl, ⟨_, rfl, _, rfl, 0, p, q, true, by decide, rfl, rfl, EqL.same (.inl ⟨SqL.of (s3 _ _ hp2), SqL.of (s3 _ _ hq2)⟩) flat_ints, _, rfl, (?_)⟩⟩
   refine ⟨_, rfl, p, rfl, ⟨_, SqL.of (s3 _ _ hp2)⟩, fun D hD => ?_⟩
   refine comp_fm (k := 0) (fun x => x) (fun x => !(isI x) || isB x) (src_list (SqL.of (s3 _ _ hp2))) (by rw [List.length_map, hw]; exact Nat.le_trans gd.w24 (by decide)) hD (fun x hx H' Qb sm kk => ?_) (fun x hx _ H' Q' sm kk => ⟨_, rfl, kk H' (Same.refl _)⟩) fun H3 s4 hD3 => ?_
   ·obtain ⟨n, _, rfl⟩ := List.mem_map.mp hx
    exact t_odd rfl (kk H' (Same.refl _))
   ·rw [filter_none] at hD3
    refine ⟨Nat.zero_le _, fun q2 hq2' => ⟨0, D, q2, true, by decide, rfl, rfl, ?_, _, rfl, ⟨(s3.trans s4).trans (same_new hq2'), _, _, rfl⟩⟩⟩
    exact EqL.nil (xs := []) (SqL.of (same_new hq2' _ _ hD3)) (SqL.of upd_same)
  ·rintro σ H1 ⟨s1, v2, v3, rfl⟩
   have pa1 := pa.mono s1
   have pb1 := pb.mono s1
   refine ⟨_, rfl, a, rfl, ⟨_, SqL.of pa1.top⟩, ?_⟩
   refine for_list (xs := ps.map V.ref) (fun i σ H2 => Mid H1 H2 ps (ir rows) (fun j r => if j < i then r ++ [V.int 0] else r) ∧ ∃ v2 v3, σ = [some (.ref a), some (.ref b), v2, v3, none]) ⟨⟨fun b o e _ => e, fun j p r h1 h2 => ?_⟩, _, _, rfl⟩ (fun i σ H2 _ q => SqL.of (q.1.keep _ _ pa1.top pa1.out)) ?_ ?_
   ·obtain ⟨r', e1, e2⟩ := pa1.at h1
    rw [h2] at e1; cases e1
    rw [if_neg (by omega)]; exact e2
   ·rintro i x σ H2 hx ⟨m, v2, v3, rfl⟩
    obtain ⟨p, hp, rfl⟩ := getElem?_ref hx
    obtain ⟨r, hr1, _⟩ := pa1.at hp
    obtain ⟨ns, rfl, hw, _, _⟩ := gd.at hr1
    have hp2 := m.rows i p _ hp hr1
    rw [if_neg (by omega)] at hp2
    refine ⟨_, rfl, .inl ⟨rfl, _, SqL.of hp2⟩, p, _, _, rfl, rfl, hp2, by rw [List.length_map, hw]; exact Nat.lt_of_le_of_lt gd.w24 (by decide), m.step pa1.nd hp hr1 (by rw [if_pos (by omega)]) (fun j r hj => ?_), _, _, rfl⟩
    by_cases h : j < i
    ·rw [if_pos h, if_pos (by omega)]
    ·rw [if_neg h, if_neg (by omega)]
   ·rintro σ H2 ⟨m, v2, v3, rfl⟩
    rw [List.length_map] at m
    have lt : ∀ {j p}, ps[j]? = some p → j < ps.length := fun h => (List.getElem?_eq_some_iff.mp h).1
    have top2 : H2 a = some (.lst (ps.map V.ref)) := m.keep _ _ pa1.top pa1.out
    have topb2 : H2 b = some (.lst (qs.map V.ref)) := m.keep _ _ pb1.top hb
    refine ⟨_, rfl, a, rfl, ⟨_, SqL.of top2⟩, fun D hD => ?_⟩
    refine comp_fm (k := 0) (fun _ => .int ((wd : Int) + 1)) (fun _ => true) (src_list (SqL.of top2)) hz hD (fun x _ H' Qb _ kk => kk H' (Same.refl _)) (fun x hx _ H' Q' sm kk => ?_) fun H3 s3 hD3 => ?_
    ·obtain ⟨p, hpm, rfl⟩ := List.mem_map.mp hx
     obtain ⟨i, hi⟩ := List.mem_iff_getElem?.mp hpm
     obtain ⟨r, hr1, _⟩ := pa1.at hi
     obtain ⟨ns, rfl, hw, _, _⟩ := gd.at hr1
     have hp2 := sm _ _ (m.rows i p _ hi hr1)
     rw [if_pos (lt hi)] at hp2
     refine ⟨_, rfl, p, _, rfl, .inl (SqL.of hp2), ?_⟩
     rw [List.length_append, List.length_map, hw]
     exact kk H' (Same.refl _)
    refine ⟨_, rfl, b, rfl, ⟨_, SqL.of (s3 _ _ topb2)⟩, fun D2 hD2 => ?_⟩
    refine comp_fm (k := 0) (fun _ => .int ((wd : Int) + 1)) (fun _ => true) (src_list (SqL.of (s3 _ _ topb2))) hz2 hD2 (fun x _ H' Qb _ kk => kk H' (Same.refl _)) (fun x hx _ H' Q' sm kk => ?_) fun H4 s4 hD4 => ?_
    ·obtain ⟨q, hqm, rfl⟩ := List.mem_map.mp hx
     obtain ⟨ns, e1, hw, _⟩ := gd.mem pb1 hqm
     have e2 := sm _ _ (s3 _ _ (m.keep _ _ e1 (dj q hqm)))
     refine ⟨_, rfl, q, _, rfl, .inl (SqL.of e2), _, _, rfl, rfl, ?_⟩
     rw [List.length_map, hw]
     exact kk H' (Same.refl _)
    have eL : ((qs.map V.ref).filter fun _ => true).map (fun _ => V.int ((wd : Int) + 1)) = ((ps.map V.ref).filter fun _ => true).map (fun _ => V.int ((wd : Int) + 1)) := by
     rw [filter_t, filter_t, List.map_const', List.map_const', hlen]
    rw [eL] at hD4
    refine ⟨0, D, D2, true, by decide, rfl, rfl, EqL.same (.inl ⟨SqL.of (s4 _ _ hD3), SqL.of hD4⟩) (fun x hx => ?_), ?_⟩
    ·obtain ⟨_, _, rfl⟩ := List.mem_map.mp hx
     exact .inl rfl
    have m4 := m.same (s3.trans s4)
    refine ⟨_, rfl, a, rfl, ⟨_, SqL.of ((s3.trans s4) _ _ top2)⟩, ?_⟩
    refine for_list (xs := ps.map V.ref) (fun i σ H5 => Mid H1 H5 ps (ir rows) (fun j r => if j < i then r else r ++ [V.int 0]) ∧ ∃ v2 v3, σ = [some (.ref a), some (.ref b), v2, v3, some (.bl true)]) ⟨⟨m4.keep, fun j p r h1 h2 => ?_⟩, _, _, rfl⟩ (fun i σ H5 _ q => SqL.of (q.1.keep _ _ pa1.top pa1.out)) ?_ ?_
    ·have e := m4.rows j p r h1 h2
     rw [if_pos (lt h1)] at e
     rw [if_neg (by omega)]; exact e
    ·rintro i x σ H5 hx ⟨m5, v2, v3, rfl⟩
     obtain ⟨p, hp, rfl⟩ := getElem?_ref hx
     obtain ⟨r, hr1, _⟩ := pa1.at hp
     have hp2 := m5.rows i p _ hp hr1
     rw [if_neg (by omega)] at hp2
     refine ⟨_, rfl, .inl ⟨rfl, _, SqL.of hp2⟩, p, _, .int 0, rfl, rfl, hp2, by simp, m5.step pa1.nd hp hr1 (by rw [if_pos (by omega)]; simp) (fun j r hj => ?_), _, _, rfl⟩
     by_cases h : j < i
     ·rw [if_pos h, if_pos (by omega)]
     ·rw [if_neg h, if_neg (by omega)]
    ·rintro σ H5 ⟨m5, v2, v3, rfl⟩
     rw [List.length_map] at m5
     refine ⟨_, rfl, k H5 fun c o e => ?_⟩
     have e1 := s1 _ _ e
     by_cases hc : c ∈ ps
     ·obtain ⟨i, hi⟩ := List.mem_iff_getElem?.mp hc
      obtain ⟨r, hr1, e2⟩ := pa1.at hi
      rw [e2] at e1
      cases e1
      have e3 := m5.rows i c r hi hr1
      rw [if_pos (lt hi)] at e3
      exact e3
     ·exact m5.keep _ _ e1 hc
end
end K13
set_option Elab.async false
set_option linter.all false
set_option maxRecDepth 100000
set_option maxHeartbeats 1600000
namespace K13
open PySem L2 M4
noncomputable def cAt (rows : List (List Int)) (x y : Nat) : Int := (rows.getD y []).getD x 0
noncomputable def grid (wd hg : Nat) (f : Nat → Nat → Int) : List (List Int) := (List.range hg).map fun y => (List.range wd).map fun x => f x y
theorem getD_row {rows : List (List Int)} {y : Nat} (h : y < rows.length) : rows.getD y [] = rows[y] := by simp [List.getD, h]
theorem cAt_eq {rows : List (List Int)} {x y : Nat} (h : y < rows.length) (hx : x < rows[y].length) : cAt rows x y = rows[y][x] := by
 unfold cAt; rw [getD_row h]; simp [List.getD, hx]
theorem row_len {rows : List (List Int)} {wd y : Nat} (g : Good rows wd) (h : y < rows.length) : rows[y].length = wd := (g.row _ (List.getElem_mem h)).1
theorem grid_len (wd hg : Nat) (f : Nat → Nat → Int) : (grid wd hg f).length = hg := by simp [grid]
theorem grid_row {wd hg : Nat} {f : Nat → Nat → Int} : ∀ r ∈ grid wd hg f, r.length = wd := fun r hr => by
 obtain ⟨y, _, rfl⟩ := List.mem_map.mp hr
 simp
theorem cell_in {rows : List (List Int)} {wd x y : Nat} (g : Good rows wd) (hx : x < wd) (hy : y < rows.length) : 0 ≤ cAt rows x y ∧ cAt rows x y ≤ 15 := by
 have hx' : x < rows[y].length := by rw [row_len g hy]; exact hx
 rw [cAt_eq hy hx']
 exact (g.row _ (List.getElem_mem hy)).2 _ (List.getElem_mem hx')
theorem grid_good {wd hg : Nat} {f : Nat → Nat → Int} (w1 : 1 ≤ wd) (w24 : wd ≤ 24) (h1 : 1 ≤ hg) (h24 : hg ≤ 24) (hf : ∀ x y, x < wd → y < hg → 0 ≤ f x y ∧ f x y ≤ 15) : Good (grid wd hg f) wd := by
 refine ⟨by rw [grid_len]; exact h1, by rw [grid_len]; exact h24, w1, w24, fun r hr => ⟨grid_row r hr, fun c hc => ?_⟩⟩
 obtain ⟨y, hy, rfl⟩ := List.mem_map.mp hr
 obtain ⟨x, hx, rfl⟩ := List.mem_map.mp hc
 exact hf x y (List.mem_range.mp hx) (List.mem_range.mp hy)
theorem ixTK {X : Cx} (K : W.Frag) (h : X.K = K) : IxR X (rIxT K) := by subst h; exact ix_tup
theorem PicV.row_at {H : Hp} {a : Addr} {ps : List Addr} {rows : List (List Int)} {i : Nat} {r : List Int} (p : PicV H a ps (ir rows)) (h : rows[i]? = some r) : ∃ q, ps[i]? = some q ∧ H q = some (.lst (r.map V.int)) := by
 have hl : ps.length = rows.length := by rw [p.len, ir_len]
 have hi : i < ps.length := by rw [hl]; exact (List.getElem?_eq_some_iff.mp h).1
 have e : ps[i]? = some ps[i] := by simp [hi]
 obtain ⟨r', h1, h2⟩ := p.at e
 have e2 : (ir rows)[i]? = some (r.map V.int) := by unfold ir; rw [List.getElem?_map, h]; rfl
 rw [e2] at h1; cases h1
 exact ⟨_, e, h2⟩
section
variable {K : W.Frag} {H : Hp} {a : Addr} {ps : List Addr} {rows : List (List Int)} {wd : Nat}
theorem th_good (p : PicV H a ps (ir rows)) (g : Good rows wd) : Th2 K H (.ref a) := by
 refine Th.pic p (by rw [ir_len]; exact Nat.le_trans g.le (by decide)) fun r hr => ?_
 obtain ⟨i, hi⟩ := List.mem_iff_getElem?.mp hr
 obtain ⟨ms, rfl, hw, _, _⟩ := g.at hi
 exact ⟨by rw [List.length_map, hw]; exact Nat.le_trans g.w24 (by decide), kd_ints⟩
theorem len_good (p : PicV H a ps (ir rows)) (g : Good rows wd) : ∀ x ∈ ps.map V.ref, lenOf H x = wd := fun x hx => by
 obtain ⟨q, hq, rfl⟩ := List.mem_map.mp hx
 obtain ⟨ns, e1, e2, _⟩ := g.mem p hq
 rw [lenOf_lst e1, List.length_map, e2]
theorem head_good (p : PicV H a ps (ir rows)) (g : Good rows wd) : lenOf H ((ps.map V.ref).headD .non) = wd := by
 obtain ⟨q, ns, e0, e1, e2⟩ := g.first p
 refine len_good p g _ ?_
 cases h : ps.map V.ref with
 | nil => rw [h] at e0; cases e0
 | cons z r => exact List.mem_cons_self
theorem picB_good (p : PicV H a ps (ir rows)) (g : Good rows wd) : picB H (.ref a) = true := by
 refine (picB_iff (rowOf_lst p.top)).mpr ⟨?_, fun x hx => ?_, fun x hx => by rw [len_good p g x hx, head_good p g]⟩
 ·rw [List.length_map, p.len, ir_len]; exact wh_len g.ne g.le
 ·obtain ⟨q, hq, rfl⟩ := List.mem_map.mp hx
  obtain ⟨ns, e1, e2, e3⟩ := g.mem p hq
  exact (rowQ_iff e1).mpr ⟨wh_cells e3, by rw [List.length_map, e2]; exact wh_len g.w1 g.w24⟩
theorem no_bad (p : PicV H a ps (ir rows)) (g : Good rows wd) (z : picB H (.ref a) = false) : False := by rw [picB_good p g] at z; cases z
end
theorem ixN_ok {n : Nat} {i : Int} (h0 : 0 ≤ i) (h1 : i < n) : ixN n i = some i.toNat := by
 unfold ixN
 rw [if_pos h0, if_pos h1]
theorem ixN_nat {n j : Nat} (h1 : j < n) : ixN n (j : Int) = some j := ixN_ok (by omega) (by omega)
noncomputable def gOf (H : Hp) : V → List V := fun v => match v with | .ref q => (match H q with | some (.lst r) => r | _ => []) | _ => []
theorem gOf_at {H : Hp} {q : Addr} {r : List V} (e : H q = some (.lst r)) : gOf H (.ref q) = r := by simp only [gOf, e]
theorem gOf_map {H : Hp} : ∀ {l : List Addr} {S : List (List V)}, Paired (fun p r => H p = some (.lst r)) l S → (l.map V.ref).map (gOf H) = S
 | _, _, .nil => rfl
 | _, _, .cons r t => by rw [List.map_cons, List.map_cons, gOf_map t, gOf_at r]
theorem atI_nat0 {α : Type} {xs : List α} {j : Nat} {v : α} (h : xs[j]? = some v) : atI xs (0 + (j : Int)) = some v := by rw [Int.zero_add]; exact atI_nat h
theorem EqL.pic {K : W.Frag} {H : Hp} {a b : Addr} {ps qs : List Addr} {rows : List (List Int)} (pa : PicV H a ps (ir rows)) (pb : PicV H b qs (ir rows)) : EqL K H (EqD K H 1) a b true := by
 refine ⟨ps.map V.ref, qs.map V.ref, .inr ⟨.inl ⟨SqL.of pa.top, SqL.of pb.top⟩, by rw [List.length_map, List.length_map, pa.len, pb.len], fun _ => true, fun i x y h1 h2 => ?_, (range_all fun _ _ => rfl).symm⟩⟩
 obtain ⟨p, hp, rfl⟩ := getElem?_ref h1
 obtain ⟨q, hq, rfl⟩ := getElem?_ref h2
 by_cases e : p = q
 ·subst e; exact .inl (.inl ⟨p, rfl, rfl, rfl⟩)
 ·obtain ⟨r, hr, e1⟩ := pa.at hp
  obtain ⟨r', hr', e2⟩ := pb.at hq
  rw [hr] at hr'; cases hr'
  refine .inr ⟨p, q, rfl, rfl, e, EqL.same (.inl ⟨SqL.of e1, SqL.of e2⟩) fun z hz => ?_⟩
  unfold ir at hr
  rw [List.getElem?_map] at hr
  cases hg : rows[i]? with
  | none => rw [hg] at hr; cases hr
  | some ns =>
   rw [hg] at hr; cases hr
   obtain ⟨n, _, rfl⟩ := List.mem_map.mp hz
   exact .inl rfl
theorem PicV.push {H H3 : Hp} {S q : Addr} {qs : List Addr} {R : List (List V)} {r : List V} (pic : PicV H S qs R) (s : Same H H3) (hq : H q = none) (e : H3 q = some (.lst r)) : PicV (upd H3 S (.lst (qs.map V.ref ++ [.ref q]))) S (qs ++ [q]) (R ++ [r]) := by
 have nq : q ∉ qs := fun z => by
  obtain ⟨r', _, e'⟩ := pic.mem z
  rw [hq] at e'; cases e'
 have nS : S ≠ q := ne_of_none pic.top hq
 refine ⟨by rw [upd_same, List.map_append]; rfl, ?_, ?_, ?_⟩
 ·refine Paired.app (Paired.mapI pic.row fun c r hc e1 => ?_) (.cons ?_ .nil)
  ·rw [upd_ne (fun z => pic.out (by rw [← z]; exact hc))]
   exact s _ _ e1
  ·rw [upd_ne (Ne.symm nS)]; exact e
 ·rw [List.nodup_append]
  exact ⟨pic.nd, by simp, fun c hc d hd z => by
   cases List.mem_singleton.mp hd
   subst z
   exact nq hc⟩
 ·intro z
  rcases List.mem_append.mp z with z | z
  ·exact pic.out z
  ·exact nS (by simpa using z)
theorem fresh_out {H : Hp} {a : Addr} {ps qs : List Addr} {R : List (List V)} (p : PicV H a ps R) (fr : Fresh H qs) : (∀ q ∈ ps, q ∉ qs) ∧ a ∉ qs := by
 refine ⟨fun q hq hm => ?_, fun hm => ?_⟩
 ·obtain ⟨r, _, e⟩ := p.mem hq
  rw [fr q hm] at e; cases e
 ·have e := p.top
  rw [fr a hm] at e; cases e
noncomputable def NewP (H : Hp) (Q : VK) (R : List (List Int)) : Prop := ∀ p qs H', Same H H' → H p = none → Fresh H qs → PicV H' p qs (ir R) → Q (.ref p) H'
theorem NewP.same {H H1 : Hp} {Q : VK} {R : List (List Int)} (n : NewP H Q R) (s : Same H H1) : NewP H1 Q R := fun p qs H' s' hp fr pic => n p qs H' (s.trans s') (s.free hp) (fun q hq => s.free (fr q hq)) pic
theorem getD_int {r : List Int} {x : Nat} (h : x < r.length) : (r.map V.int)[x]? = some (.int (r.getD x 0)) := by simp [List.getD, h]
noncomputable def spMarked (K : W.Frag) : Sp := fun vs H Q _ => ∃ a ps rows wd, vs = [.ref a] ∧ PicV H a ps (ir rows) ∧ Good rows wd ∧ ∀ H', (∀ b o, H b = some o → b ∉ ps → H' b = some o) → Q (.bl true) H'
section
variable {P : Program} {w : World} {K : W.Frag} {mg : Str → Option Value} {base : Heap} {cFE cBP cBS : Addr} {tS tC : Tok}
theorem sc_law_marked : FnScope ["_law_found", "_law_row"] ["_law_found"] (defScope s_law_marked) := ⟨rfl, rfl, rfl, by decide +kernel, rfl, by decide +kernel, by decide +kernel⟩
theorem ok_law_marked {f : Addr} {fd' : FuncData} (F : FunD K "_law_marked" "_law_marked" s_law_marked .none f fd') (T : Txt K mg cFE cBP cBS tS tC) : FnOk P w K mg base CX0 1 f fd' ["_law_found"] (spMarked K) := by
 refine F.ok sc_law_marked (fun vs H Q E h => ?_) (fun cdv A outer s H vs Q E hr h => ?_)
 ·obtain ⟨a, ps, rows, wd, rfl, _⟩ := h; rfl
 ·obtain ⟨a, ps, rows, wd, rfl, pic, gd, k⟩ := h
  refine ⟨_, (pss_cons (ps_for PassesOwn.never rfl (piK K rfl (pv 0)) (pg_name (i := 1) sc_law_marked.nd rfl (by first | exact Or.inl rfl | exact Or.inr rfl)) (pss_one (ps_asg pe_int (pg_sub (pv 1) pe_int set_list))))
    (pss_one (ps_ret pe_bl))), ?_⟩
  refine ⟨_, rfl, a, rfl, ⟨_, SqL.of pic.top⟩, ?_⟩
  refine for_list (xs := ps.map V.ref) (fun i σ H2 => (∀ b o, H b = some o → b ∉ ps → H2 b = some o) ∧ (∀ q ∈ ps, ∃ xs, H2 q = some (.lst xs) ∧ 0 < xs.length) ∧ ∃ v, σ = [some (.ref a), v]) ⟨fun b o e _ => e, fun q hq => ?_, _, rfl⟩ (fun i σ H2 _ q => SqL.of (q.1 _ _ pic.top pic.out)) ?_ ?_
  ·obtain ⟨r, e1, e2, _⟩ := gd.mem pic hq
   exact ⟨_, e1, by rw [List.length_map, e2]; exact gd.w1⟩
  ·rintro i x σ H2 hx ⟨kp, ne, v, rfl⟩
   obtain ⟨q, hq, rfl⟩ := getElem?_ref hx
   have hqm := List.mem_of_getElem? hq
   obtain ⟨xs, e, hl⟩ := ne q hqm
   refine ⟨_, rfl, q, _, _, 0, rfl, rfl, e, ixN_nat (j := 0) hl, fun b o eb hb => ?_, fun q' hq' => ?_, _, rfl⟩
   ·rw [upd_ne (fun z => hb (by rw [z]; exact hqm))]
    exact kp b o eb hb
   ·by_cases z : q' = q
    ·subst z; exact ⟨_, upd_same, by rw [List.length_set]; exact hl⟩
    ·obtain ⟨ys, e', hl'⟩ := ne q' hq'
     exact ⟨ys, by rw [upd_ne z]; exact e', hl'⟩
  ·rintro σ H2 ⟨kp, ne, v, rfl⟩
   exact k H2 kp
end
theorem rep_flat (n : Nat) (c : V) : (List.replicate n [c]).flatten = List.replicate n c := by
 induction n with
 | zero => rfl
 | succ n ih => rw [List.replicate_succ, List.flatten_cons, ih, List.replicate_succ]; rfl
theorem lenF {H : Hp} {a : Addr} {ps : List Addr} {R : List (List Int)} (p : PicV H a ps (ir R)) : (ps.map V.ref).length = R.length := by rw [List.length_map, p.len, ir_len]
theorem not_new {H : Hp} {a D : Addr} {ps : List Addr} {R : List (List V)} (p : PicV H a ps R) (h : H D = none) : D ∉ ps := fun z => by
 obtain ⟨_, _, e⟩ := p.mem z
 rw [h] at e; cases e
section
variable {P : Program} {w : World} {K : W.Frag} {mg : Str → Option Value} {base : Heap} {cFE cBP cBS : Addr} {tS tC : Tok}
theorem sc_need_sides : FnScope ["wide", "high"] ["wide", "high"] (defScope s_need_sides) := ⟨rfl, rfl, rfl, by decide +kernel, rfl, by decide +kernel, by decide +kernel⟩
theorem ok_need_sides {f : Addr} {fd : FuncData} (F : FunD K "need_sides" "need_sides" s_need_sides .none f fd) (T : Txt K mg cFE cBP cBS tS tC) (g_is_side : Def P w K mg base 3 "is_side" ["thing"] [] (spSide K)) : FnOk P w K mg base (CX1 P w) 4 f fd ["wide", "high"] (spNeedS K cBS) := by
 refine F.okX sc_need_sides (fun vs H Q E h => ?_) (fun cdv A outer s H vs Q E hr h => ?_)
 ·obtain ⟨wd, hg, rfl, _⟩ := h; rfl
 ·obtain ⟨wd, hg, rfl, kw, kh, kY, kN⟩ := h
  refine ⟨_, (pss_one (ps_if (PW.pt (pw_or (pt_not (pt_val (pe_callD g_is_side (hr.mono (by decide)) rfl (pa_cons (pv 0) pa_nil)))) (pw_or1 (pt_not (pt_val (pe_callD g_is_side (hr.mono (by decide)) rfl (pa_cons (pv 1) pa_nil))))))) (pss_one (ps_raise rfl raises1 rfl T.BadSize T.xBadSize (pa_cons pe_str pa_nil))) pss_nil)), ?_⟩
  exact ⟨_, rfl, wd, rfl, kw, _, rfl, iteN (fun h1 => ⟨sz1, kN (by rw [h1]; rfl)⟩) (fun h1 => ⟨_, rfl, hg, rfl, kh, _, rfl, iteN (fun h2 => ⟨sz1, kN (by rw [h1, h2]; rfl)⟩) (fun h2 => kY (by rw [h1, h2]; rfl))⟩)⟩
end
theorem cut_nat {xs : List V} {a b : Nat} {hi : Int} (h : a + b ≤ xs.length) (e : hi = ((a + b : Nat) : Int)) : cutV xs (some (a : Int)) (some hi) = (xs.drop a).take b := by
 subst e
 unfold cutV
 rw [HT.sIx_nat, HT.sIx_nat, Nat.min_eq_left h, Nat.min_eq_left (show a ≤ xs.length by omega)]
 congr 1; omega
noncomputable def cutF (R : List (List Int)) (l t wd hg : Nat) : List (List Int) := grid wd hg fun x y => cAt R (l + x) (t + y)
noncomputable def spCut (K : W.Frag) : Sp := fun vs H Q _ => ∃ (a : Addr) (ps : List Addr) (R : List (List Int)) (w : Nat) (l t wd hg : Nat), vs = [.ref a, .int (l : Int), .int (t : Int), .int (wd : Int), .int (hg : Int)] ∧ PicV H a ps (ir R) ∧ Good R w ∧ l + wd ≤ w ∧ t + hg ≤ R.length ∧ NewP H Q (cutF R l t wd hg)
theorem cut_good {R : List (List Int)} {w l t wd hg : Nat} (g : Good R w) (h1 : l + wd ≤ w) (h2 : t + hg ≤ R.length) (w1 : 1 ≤ wd) (h3 : 1 ≤ hg) : Good (cutF R l t wd hg) wd := by
 have a := g.w24
 have b := g.le
 exact grid_good w1 (by omega) h3 (by omega) fun x y hx hy => cell_in g (by omega) (by omega)
noncomputable def isN : V → Bool
 | .int _ => true
 | _ => false
noncomputable def spIsN (K : W.Frag) : Sp := fun vs H Q _ => ∃ x, vs = [x] ∧ Kd K H x ∧ Q (.bl (isN x)) H
section
variable {P : Program} {w : World} {K : W.Frag} {mg : Str → Option Value} {base : Heap} {cFE cBP cBS : Addr} {tS tC : Tok}
theorem sc_rows_cut_out : FnScope ["picture", "left", "top", "wide", "high"] ["picture", "left", "top", "wide", "high"] (defScope s_rows_cut_out) := ⟨rfl, rfl, rfl, by decide +kernel, rfl, by decide +kernel, by decide +kernel⟩
theorem ok_rows_cut_out {f : Addr} {fd : FuncData} (F : FunD K "rows_cut_out" "rows_cut_out" s_rows_cut_out .none f fd) (T : Txt K mg cFE cBP cBS tS tC) : FnOk P w K mg base CX0 1 f fd ["picture", "left", "top", "wide", "high"] (spCut K) := by
 refine F.ok sc_rows_cut_out (fun vs H Q E h => ?_) (fun cdv A outer s H vs Q E hr h => ?_)
 ·obtain ⟨a, ps, R, w, l, t, wd, hg, rfl, _⟩ := h; rfl
 ·obtain ⟨a, ps, R, w, l, t, wd, hg, rfl, pic, gd, hw, hh, k⟩ := h
  refine ⟨_, (pss_one (ps_ret (pe_comp (N := ["row", "left", "wide"]) (src := [none, some 1, some 3]) rfl ⟨rfl, rfl, rfl, rfl, rfl, by decide +kernel⟩ (piK K rfl (pe_slice (slK K rfl) (pv 0) (po_some (pv 2)) (po_some (pe_op op_add (pv 2) (pv 4))))) (fun s H C fp => pg_name (i := 0) (show (["row", "left", "wide"] : List Str).Nodup by decide +kernel) rfl (by first | exact Or.inl rfl | exact Or.inr rfl)) (fun s H C fp => pts_nil) (fun s H C fp => (pe_slice (slK K rfl) (pv 0) (po_some (pv 1)) (po_some (pe_op op_add (pv 1) (pv 2)))))))), ?_⟩
  have hlen := lenF pic
  refine ⟨_, rfl, _, rfl, _, rfl, _, rfl, _, rfl, _, _, rfl, rfl, _, rfl, a, _, rfl, SqL.of pic.top, fun S hS => ?_⟩
  rw [cut_nat (b := hg) (by rw [hlen]; exact hh) (by omega)]
  have z1 := same_new (o := HO.lst (((ps.map V.ref).drop t).take hg)) hS
  have eS := upd_same (H := H) (a := S) (o := HO.lst (((ps.map V.ref).drop t).take hg))
  generalize upd H S (.lst (((ps.map V.ref).drop t).take hg)) = H1 at z1 eS ⊢
  have p1 := pic.mono z1
  refine ⟨S, rfl, ⟨_, SqL.of eS⟩, fun D hD => ?_⟩
  have hgl : (((ps.map V.ref).drop t).take hg).length = hg := by rw [List.length_take, List.length_drop, hlen]; omega
  have h24 := gd.le
  refine comp_rows (k := 0) (fun v => ((gOf H1 v).drop l).take wd) (src_list (SqL.of eS)) (by rw [hgl]; exact Nat.le_trans (show hg ≤ 24 by omega) (by decide)) hD (fun z hz H' Q' sm kk => ?_) fun qs H2 s2 fr pic2 => ?_
  ·obtain ⟨q, hq, rfl⟩ := List.mem_map.mp (List.mem_of_mem_drop (List.mem_of_mem_take hz))
   obtain ⟨ns, e1, e2, _⟩ := gd.mem p1 hq
   refine ⟨_, rfl, _, rfl, _, rfl, _, rfl, _, rfl, _, _, rfl, rfl, _, rfl, q, _, rfl, SqL.of (sm _ _ e1), fun L hL => ?_⟩
   rw [cut_nat (b := wd) (by rw [List.length_map, e2]; exact hw) (by omega)]
   refine kk L _ (same_new hL) hL ?_
   rw [upd_same, gOf_at e1]
  ·refine k.same z1 D qs H2 s2 hD fr ?_
   have e : (((ps.map V.ref).drop t).take hg).map (fun v => ((gOf H1 v).drop l).take wd) = ir (cutF R l t wd hg) := by
    have e1 : (((ps.map V.ref).drop t).take hg).map (fun v => ((gOf H1 v).drop l).take wd) = (((ir R).drop t).take hg).map fun r => (r.drop l).take wd := by
     rw [← gOf_map p1.row]
     simp only [List.map_drop, List.map_take, List.map_map]
     rfl
    rw [e1]
    unfold ir cutF grid
    refine List.ext_getElem ?_ fun y a1 a2 => ?_
    ·simp only [List.length_map, List.length_take, List.length_drop, List.length_range]; omega
    ·simp only [List.length_map, List.length_range] at a2
     simp only [List.getElem_map, List.getElem_take, List.getElem_drop, List.getElem_range]
     have hy : t + y < R.length := by omega
     have lr := row_len gd hy
     refine List.ext_getElem ?_ fun x b1 b2 => ?_
     ·simp only [List.length_map, List.length_take, List.length_drop, List.length_range, lr]; omega
     ·simp only [List.length_map, List.length_range] at b2
      simp only [List.getElem_map, List.getElem_take, List.getElem_drop, List.getElem_range]
      rw [cAt_eq hy (by rw [lr]; omega)]
   rw [e] at pic2
   exact pic2
theorem sc_law_is_number : FnScope ["_law_thing"] ["_law_thing"] (defScope s_law_is_number) := ⟨rfl, rfl, rfl, by decide +kernel, rfl, by decide +kernel, by decide +kernel⟩
theorem ok_law_is_number {f : Addr} {fd : FuncData} (F : FunD K "_law_is_number" "_law_is_number" s_law_is_number .none f fd) (T : Txt K mg cFE cBP cBS tS tC) : FnOk P w K mg base CX0 1 f fd ["_law_thing"] (spIsN K) := by
 refine F.ok sc_law_is_number (fun vs H Q E h => ?_) (fun cdv A outer s H vs Q E hr h => ?_)
 ·obtain ⟨x, rfl, _⟩ := h; rfl
 ·obtain ⟨x, rfl, kd, k⟩ := h
  refine ⟨_, (pss_one (ps_ret (pe_and (isiK K rfl (pv 0) rfl T.isinstance rfl T.int PyProof.Rows.boot_int) (pe_one (pe_not (isiK K rfl (pv 0) rfl T.isinstance rfl T.bool PyProof.Rows.boot_bool)))))), ?_⟩
  refine ⟨_, rfl, _, kd.isInt, _, rfl, iteB (fun hI => ⟨_, rfl, _, kd.isBool, ?_⟩) (fun hI => ?_)⟩
  ·cases x with
   | int i => exact ⟨_, rfl, k⟩
   | bl b => exact ⟨_, rfl, k⟩
   | _ => cases hI
  ·cases x with
   | int i => cases hI
   | bl b => cases hI
   | _ => exact k
end
end K13
set_option Elab.async false
set_option linter.all false
set_option maxRecDepth 100000
set_option maxHeartbeats 1600000
namespace K13
open PySem L2 M4
theorem size_nat {n a : Nat} (h1 : 1 ≤ n) (h2 : 1 ≤ a) : Builtin.Range.rangeSize 0 (n : Int) (a : Int) = (((n - 1) / a + 1 : Nat) : Int) := by
 unfold Builtin.Range.rangeSize
 rw [if_pos (by omega), if_pos (by omega)]
 have e : (n : Int) - 0 - 1 = ((n - 1 : Nat) : Int) := by omega
 rw [e]
 push_cast
 rfl
theorem wf1 {n : Nat} (h : 1 ≤ n) : isWf 1 (.int (n : Int)) = true := by show decide ((1 : Int) ≤ (n : Int)) = true; exact decide_eq_true (by omega)
theorem row_getD {H : Hp} {a : Addr} {ps : List Addr} {R : List (List Int)} {wd y : Nat} (p : PicV H a ps (ir R)) (g : Good R wd) (hy : y < R.length) : ∃ q, (ps.map V.ref)[y]? = some (.ref q) ∧ H q = some (.lst (R[y].map V.int)) ∧ R[y].length = wd := by
 have hrr : R[y]? = some R[y] := by simp [hy]
 obtain ⟨q, hq, e⟩ := PicV.row_at p hrr
 exact ⟨q, by rw [List.getElem?_map, hq]; rfl, e, row_len g hy⟩
noncomputable def spSteps (K : W.Frag) (cBS : Addr) : Sp := fun vs H Q E => ∃ (u v : V), vs = [u, v] ∧ Kd K H u ∧ Kd K H v ∧ ((isWf 1 u && isWf 1 v) = true → Q .non H) ∧ ((isWf 1 u && isWf 1 v) = false → E (.ref cBS) none H)
noncomputable def besideF (R S : List (List Int)) : List (List Int) := (List.range R.length).map fun y => R.getD y [] ++ S.getD y []
noncomputable def tiledF (R : List (List Int)) (c d : Nat) : List (List Int) := (List.range (R.length * d)).map fun y => (List.replicate c (R.getD (y % R.length) [])).flatten
noncomputable def spLikeS (K : W.Frag) (cBS : Addr) : Sp := fun vs H Q E => ∃ (a b : Addr) (w1 h1 w2 h2 : Nat), vs = [.ref a, .ref b] ∧ H a = some (.tup [.int (w1 : Int), .int (h1 : Int)]) ∧ H b = some (.tup [.int (w2 : Int), .int (h2 : Int)]) ∧ (w1 = w2 ∧ h1 = h2 → Q .non H) ∧ (¬ (w1 = w2 ∧ h1 = h2) → E (.ref cBS) none H)
noncomputable def spTwo (no : List (List Int) → Nat → List (List Int) → Nat → Prop) (F : List (List Int) → List (List Int) → List (List Int)) (K : W.Frag) (cBP cBS : Addr) : Sp := fun vs H Q E => ∃ (v1 v2 : V), vs = [v1, v2] ∧
 ((Th K H v1 ∧ picB H v1 = false ∧ ∀ H', Same H H' → E (.ref cBP) none H') ∨ (∃ a ps R wd, v1 = .ref a ∧ PicV H a ps (ir R) ∧ Good R wd ∧
  ((Th K H v2 ∧ picB H v2 = false ∧ ∀ H', Same H H' → E (.ref cBP) none H') ∨ (∃ b qs S u, v2 = .ref b ∧ PicV H b qs (ir S) ∧ Good S u ∧ (no R wd S u → ∀ H', Same H H' → E (.ref cBS) none H') ∧ (¬ no R wd S u → NewP H Q (F R S))))))
noncomputable def noBeside (R : List (List Int)) (w : Nat) (S : List (List Int)) (u : Nat) : Prop := R.length ≠ S.length ∨ 24 < w + u
noncomputable def noAbove (R : List (List Int)) (w : Nat) (S : List (List Int)) (u : Nat) : Prop := w ≠ u ∨ 24 < R.length + S.length
noncomputable def spTiled (K : W.Frag) (cBP cBS : Addr) : Sp := fun vs H Q E => ∃ (v u1 u2 : V), vs = [v, u1, u2] ∧
 ((Th K H v ∧ picB H v = false ∧ ∀ H', Same H H' → E (.ref cBP) none H') ∨ (∃ a ps R wd, v = .ref a ∧ PicV H a ps (ir R) ∧ Good R wd ∧
  ((Kd K H u1 ∧ Kd K H u2 ∧ (isWf 1 u1 && isWf 1 u2) = false ∧ ∀ H', Same H H' → E (.ref cBS) none H') ∨
   (∃ c d : Nat, u1 = .int (c : Int) ∧ u2 = .int (d : Int) ∧ 1 ≤ c ∧ 1 ≤ d ∧ c < 2 ^ 100 ∧ d < 2 ^ 100 ∧ (¬ (wd * c ≤ 24 ∧ R.length * d ≤ 24) → ∀ H', Same H H' → E (.ref cBS) none H') ∧ (wd * c ≤ 24 → R.length * d ≤ 24 → NewP H Q (tiledF R c d))))))
theorem side_iff {m : Nat} (hm : 1 ≤ m) : isWh 1 24 (.int (m : Int)) = true ↔ m ≤ 24 := by
 simp only [isWh, Bool.and_eq_true, decide_eq_true_eq]; omega
theorem row_inf {R : List (List Int)} {wd y : Nat} (g : Good R wd) (h : y < R.length) : (R.getD y []).length = wd ∧ ∀ c ∈ R.getD y [], 0 ≤ c ∧ c ≤ 15 := by
 rw [getD_row h]; exact g.row _ (List.getElem_mem h)
theorem beside_good {R S : List (List Int)} {wd u : Nat} (g : Good R wd) (g2 : Good S u) (h : ¬ noBeside R wd S u) : Good (besideF R S) (wd + u) := by
 unfold noBeside at h
 have w1 := g.w1
 refine ⟨by simp [besideF]; exact g.ne, by simp [besideF]; exact g.le, by omega, by omega, fun r hr => ?_⟩
 obtain ⟨y, hy, rfl⟩ := List.mem_map.mp hr
 have hy := List.mem_range.mp hy
 have a := row_inf g hy
 have b := row_inf g2 (show y < S.length by omega)
 refine ⟨by rw [List.length_append]; omega, fun c hc => ?_⟩
 rcases List.mem_append.mp hc with h | h
 ·exact a.2 c h
 ·exact b.2 c h
theorem above_good {R S : List (List Int)} {wd u : Nat} (g : Good R wd) (g2 : Good S u) (h : ¬ noAbove R wd S u) : Good (R ++ S) wd := by
 unfold noAbove at h
 have n1 := g.ne
 refine ⟨by rw [List.length_append]; omega, by rw [List.length_append]; omega, g.w1, g.w24, fun r hr => ?_⟩
 rcases List.mem_append.mp hr with z | z
 ·exact g.row r z
 ·have := g2.row r z
  exact ⟨by omega, this.2⟩
theorem len_rep (n : Nat) (r : List Int) : (List.replicate n r).flatten.length = n * r.length := by
 induction n with
 | zero => simp
 | succ n ih => rw [List.replicate_succ, List.flatten_cons, List.length_append, ih, Nat.succ_mul]; omega
theorem rep_map (n : Nat) (r : List Int) : (List.replicate n (r.map V.int)).flatten = ((List.replicate n r).flatten).map V.int := by
 induction n with
 | zero => rfl
 | succ n ih => rw [List.replicate_succ, List.flatten_cons, ih, List.replicate_succ, List.flatten_cons, List.map_append]
theorem tiled_good {R : List (List Int)} {wd c d : Nat} (g : Good R wd) (c1 : 1 ≤ c) (d1 : 1 ≤ d) (h1 : wd * c ≤ 24) (h2 : R.length * d ≤ 24) : Good (tiledF R c d) (wd * c) := by
 have n1 := g.ne
 refine ⟨by simp [tiledF]; exact Nat.mul_pos n1 d1, by simp [tiledF]; exact h2, Nat.mul_pos g.w1 c1, h1, fun r hr => ?_⟩
 obtain ⟨y, hy, rfl⟩ := List.mem_map.mp hr
 have a := row_inf g (Nat.mod_lt y (show R.length > 0 by omega))
 refine ⟨by rw [len_rep, a.1, Nat.mul_comm], fun x hx => ?_⟩
 obtain ⟨l, hl, hx⟩ := List.mem_flatten.mp hx
 rw [(List.mem_replicate.mp hl).2] at hx
 exact a.2 x hx
section
variable {P : Program} {w : World} {K : W.Frag} {mg : Str → Option Value} {base : Heap} {cFE cBP cBS : Addr} {tS tC : Tok}
theorem sc_need_like_sizes : FnScope ["one", "other"] ["one", "other"] (defScope s_need_like_sizes) := ⟨rfl, rfl, rfl, by decide +kernel, rfl, by decide +kernel, by decide +kernel⟩
theorem ok_need_like_sizes {f : Addr} {fd : FuncData} (F : FunD K "need_like_sizes" "need_like_sizes" s_need_like_sizes .none f fd) (T : Txt K mg cFE cBP cBS tS tC) : FnOk P w K mg base (CX1 P w) 1 f fd ["one", "other"] (spLikeS K cBS) := by
 refine F.okX sc_need_like_sizes (fun vs H Q E h => ?_) (fun cdv A outer s H vs Q E hr h => ?_)
 ·obtain ⟨a, b, w1, h1, w2, h2, rfl, _⟩ := h; rfl
 ·obtain ⟨a, b, w1, h1, w2, h2, rfl, ea, eb, kY, kN⟩ := h
  have hu : _ + 64 < cLine := hr.units
  refine ⟨_, (pss_one (ps_if (pt_cmpR (neDK K rfl hu) (pv 0) (pv 1) (nomark _)) (pss_one (ps_raise rfl raises1 rfl T.BadSize T.xBadSize (pa_cons pe_str pa_nil))) pss_nil)), ?_⟩
  have e1 : SqT K H a ([(w1 : Int), (h1 : Int)].map V.int) := SqT.of ea
  have e2 : SqT K H b ([(w2 : Int), (h2 : Int)].map V.int) := SqT.of eb
  refine ⟨_, rfl, _, rfl, 0, a, b, _, by decide, rfl, rfl, EqL.intsT e1 e2 rfl, _, rfl, ?_⟩
  by_cases hz : w1 = w2 ∧ h1 = h2
  ·obtain ⟨rfl, rfl⟩ := hz
   rw [decide_eq_true rfl]
   exact kY ⟨rfl, rfl⟩
  ·rw [decide_eq_false (fun z => hz (by simp only [List.cons.injEq] at z; omega))]
   exact ⟨sz1, kN hz⟩
theorem sc_copied_rows : FnScope ["rows"] ["rows"] (defScope s_copied_rows) := ⟨rfl, rfl, rfl, by decide +kernel, rfl, by decide +kernel, by decide +kernel⟩
theorem ok_copied_rows {f : Addr} {fd : FuncData} (F : FunD K "copied_rows" "copied_rows" s_copied_rows .none f fd) (T : Txt K mg cFE cBP cBS tS tC) : FnOk P w K mg base CX0 1 f fd ["rows"] (spCopied K) := by
 refine F.ok sc_copied_rows (fun vs H Q E h => ?_) (fun cdv A outer s H vs Q E hr h => ?_)
 ·obtain ⟨a, ps, R, rfl, _⟩ := h; rfl
 ·obtain ⟨a, ps, R, rfl, top, row, hl, k⟩ := h
  refine ⟨_, (pss_one (ps_ret (pe_comp (N := ["row"]) (src := [none]) rfl ⟨rfl, rfl, rfl, rfl, rfl, by decide +kernel⟩ (piK K rfl (pv 0)) (fun s H C fp => pg_name (i := 0) (show (["row"] : List Str).Nodup by decide +kernel) rfl (by first | exact Or.inl rfl | exact Or.inr rfl)) (fun s H C fp => pts_nil) (fun s H C fp => (pe_callTy (listK K rfl) rfl T.list PyProof.Rows.boot_list (pa_cons (pv 0) pa_nil)))))), ?_⟩
  refine ⟨_, rfl, a, rfl, ⟨_, SqL.of top⟩, fun D hD => ?_⟩
  let g : V → List V := fun v => match v with | .ref q => (match H q with | some (.lst r) => r | _ => []) | _ => []
  have gR : (ps.map V.ref).map g = R := by
   rw [List.map_map]
   have : ∀ {l : List Addr} {S : List (List V)}, Paired (fun p r => H p = some (.lst r)) l S → l.map (g ∘ V.ref) = S := by
    intro l S h
    induction h with
    | nil => rfl
    | cons r t ih =>
     rw [List.map_cons, ih]
     simp only [Function.comp, g, r]
   exact this row
  refine comp_rows (k := 0) g (src_list (SqL.of top)) (by rw [List.length_map, Paired.length row]; exact Nat.le_trans hl (by decide)) hD (fun x hx H' Q' sm kk => ?_) fun qs H' sm fr pic' => k D qs H' sm hD fr (by rw [gR] at pic'; exact pic')
  obtain ⟨q, hq, rfl⟩ := List.mem_map.mp hx
  obtain ⟨r, e⟩ : ∃ r, H q = some (.lst r) := by
   obtain ⟨i, hi⟩ := List.mem_iff_getElem?.mp hq
   obtain ⟨r, _, e⟩ := Paired.getL row hi
   exact ⟨r, e⟩
  have ge : g (.ref q) = r := by simp only [g, e]
  refine ⟨_, rfl, q, r, rfl, .inl (SqL.of (sm _ _ e)), fun l hl => kk l _ (same_new hl) hl ?_⟩
  rw [upd_same, ge]
theorem sc_need_steps : FnScope ["across", "down"] ["across", "down"] (defScope s_need_steps) := ⟨rfl, rfl, rfl, by decide +kernel, rfl, by decide +kernel, by decide +kernel⟩
theorem ok_need_steps {f : Addr} {fd : FuncData} (F : FunD K "need_steps" "need_steps" s_need_steps .none f fd) (T : Txt K mg cFE cBP cBS tS tC) (g_is_whole_from : Def P w K mg base 1 "is_whole_from" ["thing", "least"] [] (spWf K)) : FnOk P w K mg base (CX1 P w) 2 f fd ["across", "down"] (spSteps K cBS) := by
 refine F.okX sc_need_steps (fun vs H Q E h => ?_) (fun cdv A outer s H vs Q E hr h => ?_)
 ·obtain ⟨u, v, rfl, _⟩ := h; rfl
 ·obtain ⟨u, v, rfl, ku, kv, kY, kN⟩ := h
  refine ⟨_, (pss_one (ps_if (PW.pt (pw_or (pt_not (pt_val (pe_callD g_is_whole_from (hr.mono (by decide)) rfl (pa_cons (pv 0) (pa_cons pe_int pa_nil))))) (pw_or1 (pt_not (pt_val (pe_callD g_is_whole_from (hr.mono (by decide)) rfl (pa_cons (pv 1) (pa_cons pe_int pa_nil)))))))) (pss_one (ps_raise rfl raises1 rfl T.BadSize T.xBadSize (pa_cons pe_str pa_nil))) pss_nil)), ?_⟩
  refine ⟨_, rfl, u, 1, rfl, ku, _, rfl, iteN (fun h1 => ⟨sz1, kN (by rw [h1]; rfl)⟩) (fun h1 => ?_)⟩
  exact ⟨_, rfl, v, 1, rfl, kv, _, rfl, iteN (fun h2 => ⟨sz1, kN (by rw [h2, Bool.and_false])⟩) (fun h2 => kY (by rw [h1, h2]; rfl))⟩
theorem sc_set_beside : FnScope ["one", "other", "size", "beside"] ["one", "other"] (defScope s_set_beside) := ⟨rfl, rfl, rfl, by decide +kernel, rfl, by decide +kernel, by decide +kernel⟩
theorem ok_set_beside {f : Addr} {fd : FuncData} (F : FunD K "set_beside" "set_beside" s_set_beside .none f fd) (T : Txt K mg cFE cBP cBS tS tC) (g_size_of : DefX P w K mg base 8 "size_of" ["picture"] [] (spSize K cBP)) (g_need_sides : DefX P w K mg base 4 "need_sides" ["wide", "high"] [] (spNeedS K cBS)) : FnOk P w K mg base (CX1 P w) 9 f fd ["one", "other"] (spTwo noBeside besideF K cBP cBS) := by
 refine F.okX sc_set_beside (fun vs H Q E h => ?_) (fun cdv A outer s H vs Q E hr h => ?_)
 ·obtain ⟨v1, v2, rfl, _⟩ := h; rfl
 ·obtain ⟨v1, v2, rfl, h⟩ := h
  refine ⟨_, (pss_cons (ps_set (i := 2) sc_set_beside.nd rfl (by first | exact Or.inl rfl | exact Or.inr rfl) (pe_callX g_size_of (hr.mono (by decide)) passes1R rfl (pa_cons (pv 0) pa_nil)))
    (pss_cons (ps_set (i := 3) sc_set_beside.nd rfl (by first | exact Or.inl rfl | exact Or.inr rfl) (pe_callX g_size_of (hr.mono (by decide)) passes1R rfl (pa_cons (pv 1) pa_nil)))
    (pss_cons (ps_if (pt_cmpR op_ne (pe_ix (ixTK K rfl) (pv 2) pe_int (fun _ _ => rfl)) (pe_ix (ixTK K rfl) (pv 3) pe_int (fun _ _ => rfl)) (nomark _)) (pss_one (ps_raise rfl raises1 rfl T.BadSize T.xBadSize (pa_cons pe_str pa_nil))) pss_nil)
    (pss_cons (ps_expr (pe_callX g_need_sides (hr.mono (by decide)) passes1R rfl (pa_cons (pe_op op_add (pe_ix (ixTK K rfl) (pv 2) pe_int (fun _ _ => rfl)) (pe_ix (ixTK K rfl) (pv 3) pe_int (fun _ _ => rfl))) (pa_cons (pe_ix (ixTK K rfl) (pv 2) pe_int (fun _ _ => rfl)) pa_nil))))
    (pss_one (ps_ret (pe_comp (N := ["y", "row", "other"]) (src := [none, none, some 1]) rfl ⟨rfl, rfl, rfl, rfl, rfl, by decide +kernel⟩ (pi_enum rfl T.enumerate (pa_cons (pv 0) pa_nil)) (fun s H C fp => (pg_tupK (n := 2) K rfl rfl (pgs_cons (pg_name (i := 0) (show (["y", "row", "other"] : List Str).Nodup by decide +kernel) rfl (by first | exact Or.inl rfl | exact Or.inr rfl)) (pgs_cons (pg_name (i := 1) (show (["y", "row", "other"] : List Str).Nodup by decide +kernel) rfl (by first | exact Or.inl rfl | exact Or.inr rfl)) pgs_nil)))) (fun s H C fp => pts_nil) (fun s H C fp => (pe_op op_cat (pv 1) (pe_ix (ixK K rfl) (pv 2) (pv 0) (fun _ _ => rfl))))))))))), ?_⟩
  rcases h with ⟨th, hb, kB⟩ | ⟨a, ps, R, wd, rfl, pic, gd, h⟩
  ·exact ⟨_, rfl, v1, rfl, th, fun z => (by rw [hb] at z; cases z), fun _ => kB⟩
  refine ⟨_, rfl, .ref a, rfl, (th_good pic gd).1, fun _ xs tp H1 hxs s1 htp etp => ?_, fun z => (no_bad pic gd z).elim⟩
  rw [rowOf_lst pic.top] at hxs; cases hxs
  rw [head_good pic gd, lenF pic] at etp
  rcases h with ⟨th2, hb2, kB2⟩ | ⟨b, qs, S, u, rfl, pic2, gd2, kN, kY⟩
  ·exact ⟨_, rfl, v2, rfl, th2.mono s1, fun z => (by rw [picB_mono th2 s1, hb2] at z; cases z), fun _ H2 s2 => kB2 H2 (s1.trans s2)⟩
  have pic21 := pic2.mono s1
  refine ⟨_, rfl, .ref b, rfl, (th_good pic21 gd2).1, fun _ xs tq H2 hxs s2 htq etq => ?_, fun z => (no_bad pic21 gd2 z).elim⟩
  rw [rowOf_lst pic21.top] at hxs; cases hxs
  rw [head_good pic21 gd2, lenF pic21] at etq
  have etp2 := s2 _ _ etp
  have s12 := s1.trans s2
  refine ⟨_, rfl, tp, _, _, _, rfl, rfl, SqT.of etp2, atI_nat (j := 1) rfl, _, rfl, tq, _, _, _, rfl, rfl, SqT.of etq, atI_nat (j := 1) rfl, rfl, _, rfl, ?_⟩
  by_cases hh : R.length = S.length
  rotate_left
  ·rw [decide_eq_false (fun z => hh (by injection z with z; omega))]
   exact iteT ⟨sz1, kN (.inl hh) H2 s12⟩
  rw [hh, decide_eq_true rfl]
  refine iteF ?_
  have w1 := gd.w1
  have g1 := gd.ne
  have g24 := gd.le
  have eW : (wd : Int) + (u : Int) = ((wd + u : Nat) : Int) := by push_cast; rfl
  refine ⟨_, rfl, tp, _, _, _, rfl, rfl, SqT.of etp2, atI_nat (j := 0) rfl, _, rfl, tq, _, _, _, rfl, rfl, SqT.of etq, atI_nat (j := 0) rfl, _, _, rfl, rfl, _, rfl, tp, _, _, _, rfl, rfl, SqT.of etp2, atI_nat (j := 1) rfl, .int ((wd + u : Nat) : Int), .int (R.length : Int), (by show [V.int ((wd : Int) + (u : Int)), V.int (R.length : Int)] = _; rw [eW]), .int _, .int _, fun z => ?_, fun z => kN (.inr ?_) H2 s12⟩
  rotate_left
  ·rw [(side_iff g1).mpr g24, Bool.and_true] at z
   by_cases q : wd + u ≤ 24
   ·rw [(side_iff (by omega)).mpr q] at z; cases z
   ·omega
  rw [Bool.and_eq_true, side_iff (by omega), side_iff g1] at z
  have hno : ¬ noBeside R wd S u := fun q => by
   unfold noBeside at q; omega
  have picA := pic.mono s12
  have picB' := pic2.mono s12
  refine ⟨_, rfl, a, rfl, ⟨_, SqL.of picA.top⟩, fun D hD => ?_⟩
  refine comp2_rows (k1 := 0) (k2 := 1) (fun pr => (match pr.1 with | .int y => (R.getD y.toNat [] ++ S.getD y.toNat []).map V.int | _ => [])) (src2_enum (SqL.of picA.top)) (by rw [enumL_len, lenF picA]; exact Nat.le_trans g24 (by decide)) hD (fun pr hpr H' Q' sm kk => ?_) fun es H3 s3 fr3 pic3 => ?_
  ·obtain ⟨y, hy⟩ := List.mem_iff_getElem?.mp hpr
   obtain ⟨x, ex, rfl⟩ := enumL_at hy
   have hyl : y < R.length := by
    have := (List.getElem?_eq_some_iff.mp ex).1
    rw [lenF picA] at this; exact this
   obtain ⟨q, e1, e2, lr⟩ := row_getD (picA.mono sm) gd hyl
   obtain ⟨q', e1', e2', lr'⟩ := row_getD (picB'.mono sm) gd2 (show y < S.length by omega)
   rw [ex] at e1; cases e1
   refine ⟨_, rfl, _, rfl, _, rfl, b, _, _, .ref q', rfl, rfl, SqL.of (picB'.mono sm).top, atI_nat e1', q, q', _, _, rfl, rfl, e2, e2', by rw [List.length_map, List.length_map, lr, lr']; exact Nat.le_trans z.1 (by decide), fun l hl => kk l _ (same_new hl) hl ?_⟩
   rw [upd_same]
   show some (HO.lst (R[y].map V.int ++ S[y].map V.int)) = some (HO.lst ((R.getD (y : Int).toNat [] ++ S.getD (y : Int).toNat []).map V.int))
   rw [Int.toNat_natCast, getD_row hyl, getD_row (show y < S.length by omega), List.map_append]
  ·refine ((kY hno).same s12) D es H3 s3 hD fr3 ?_
   have e : (enumL (ps.map V.ref)).map (fun pr => (match pr.1 with | .int y => (R.getD y.toNat [] ++ S.getD y.toNat []).map V.int | _ => [])) = ir (besideF R S) := by
    unfold enumL ir besideF
    rw [List.map_map, List.map_map, lenF picA]
    refine List.map_congr_left fun y _ => ?_
    show (R.getD (y : Int).toNat [] ++ S.getD (y : Int).toNat []).map V.int = _
    rw [Int.toNat_natCast]; rfl
   rw [e] at pic3
   exact pic3
end
end K13
set_option Elab.async false
set_option linter.all false
set_option maxRecDepth 100000
set_option maxHeartbeats 1600000
namespace K13
open PySem L2 M4
theorem ir_app (R S : List (List Int)) : ir (R ++ S) = ir R ++ ir S := by unfold ir; rw [List.map_append]
theorem tiled_row {R : List (List Int)} {c d y : Nat} (h : y < R.length * d) : (tiledF R c d).getD y [] = (List.replicate c (R.getD (y % R.length) [])).flatten := by
 unfold tiledF
 simp [List.getD, h]
section
variable {P : Program} {w : World} {K : W.Frag} {mg : Str → Option Value} {base : Heap} {cFE cBP cBS : Addr} {tS tC : Tok}
theorem sc_set_above : FnScope ["one", "other", "size", "beneath"] ["one", "other"] (defScope s_set_above) := ⟨rfl, rfl, rfl, by decide +kernel, rfl, by decide +kernel, by decide +kernel⟩
theorem ok_set_above {f : Addr} {fd : FuncData} (F : FunD K "set_above" "set_above" s_set_above .none f fd) (T : Txt K mg cFE cBP cBS tS tC) (g_size_of : DefX P w K mg base 8 "size_of" ["picture"] [] (spSize K cBP)) (g_need_sides : DefX P w K mg base 4 "need_sides" ["wide", "high"] [] (spNeedS K cBS)) (g_copied_rows : Def P w K mg base 1 "copied_rows" ["rows"] [] (spCopied K)) : FnOk P w K mg base (CX1 P w) 9 f fd ["one", "other"] (spTwo noAbove (fun R S => R ++ S) K cBP cBS) := by
 refine F.okX sc_set_above (fun vs H Q E h => ?_) (fun cdv A outer s H vs Q E hr h => ?_)
 ·obtain ⟨v1, v2, rfl, _⟩ := h; rfl
 ·obtain ⟨v1, v2, rfl, h⟩ := h
  refine ⟨_, (pss_cons (ps_set (i := 2) sc_set_above.nd rfl (by first | exact Or.inl rfl | exact Or.inr rfl) (pe_callX g_size_of (hr.mono (by decide)) passes1R rfl (pa_cons (pv 0) pa_nil)))
    (pss_cons (ps_set (i := 3) sc_set_above.nd rfl (by first | exact Or.inl rfl | exact Or.inr rfl) (pe_callX g_size_of (hr.mono (by decide)) passes1R rfl (pa_cons (pv 1) pa_nil)))
    (pss_cons (ps_if (pt_cmpR op_ne (pe_ix (ixTK K rfl) (pv 2) pe_int (fun _ _ => rfl)) (pe_ix (ixTK K rfl) (pv 3) pe_int (fun _ _ => rfl)) (nomark _)) (pss_one (ps_raise rfl raises1 rfl T.BadSize T.xBadSize (pa_cons pe_str pa_nil))) pss_nil)
    (pss_cons (ps_expr (pe_callX g_need_sides (hr.mono (by decide)) passes1R rfl (pa_cons (pe_ix (ixTK K rfl) (pv 2) pe_int (fun _ _ => rfl)) (pa_cons (pe_op op_add (pe_ix (ixTK K rfl) (pv 2) pe_int (fun _ _ => rfl)) (pe_ix (ixTK K rfl) (pv 3) pe_int (fun _ _ => rfl))) pa_nil))))
    (pss_one (ps_ret (pe_op op_cat (pe_callD g_copied_rows (hr.mono (by decide)) rfl (pa_cons (pv 0) pa_nil)) (pe_callD g_copied_rows (hr.mono (by decide)) rfl (pa_cons (pv 1) pa_nil))))))))), ?_⟩
  rcases h with ⟨th, hb, kB⟩ | ⟨a, ps, R, wd, rfl, pic, gd, h⟩
  ·exact ⟨_, rfl, v1, rfl, th, fun z => (by rw [hb] at z; cases z), fun _ => kB⟩
  refine ⟨_, rfl, .ref a, rfl, (th_good pic gd).1, fun _ xs tp H1 hxs s1 htp etp => ?_, fun z => (no_bad pic gd z).elim⟩
  rw [rowOf_lst pic.top] at hxs; cases hxs
  rw [head_good pic gd, lenF pic] at etp
  rcases h with ⟨th2, hb2, kB2⟩ | ⟨b, qs, S, u, rfl, pic2, gd2, kN, kY⟩
  ·exact ⟨_, rfl, v2, rfl, th2.mono s1, fun z => (by rw [picB_mono th2 s1, hb2] at z; cases z), fun _ H2 s2 => kB2 H2 (s1.trans s2)⟩
  have pic21 := pic2.mono s1
  refine ⟨_, rfl, .ref b, rfl, (th_good pic21 gd2).1, fun _ xs tq H2 hxs s2 htq etq => ?_, fun z => (no_bad pic21 gd2 z).elim⟩
  rw [rowOf_lst pic21.top] at hxs; cases hxs
  rw [head_good pic21 gd2, lenF pic21] at etq
  have etp2 := s2 _ _ etp
  have s12 := s1.trans s2
  refine ⟨_, rfl, tp, _, _, _, rfl, rfl, SqT.of etp2, atI_nat (j := 0) rfl, _, rfl, tq, _, _, _, rfl, rfl, SqT.of etq, atI_nat (j := 0) rfl, rfl, _, rfl, ?_⟩
  by_cases hh : wd = u
  rotate_left
  ·rw [decide_eq_false (fun z => hh (by injection z with z; omega))]
   exact iteT ⟨sz1, kN (.inl hh) H2 s12⟩
  rw [hh, decide_eq_true rfl]
  refine iteF ?_
  have w1 := gd2.w1
  have w24 := gd2.w24
  have g1 := gd.ne
  have g24 := gd.le
  have h24 := gd2.le
  have eW : (R.length : Int) + (S.length : Int) = ((R.length + S.length : Nat) : Int) := by push_cast; rfl
  refine ⟨_, rfl, tp, _, _, _, rfl, rfl, SqT.of etp2, atI_nat (j := 0) rfl, _, rfl, tp, _, _, _, rfl, rfl, SqT.of etp2, atI_nat (j := 1) rfl, _, rfl, tq, _, _, _, rfl, rfl, SqT.of etq, atI_nat (j := 1) rfl, _, _, rfl, rfl, .int (wd : Int), .int ((R.length + S.length : Nat) : Int), (by show [V.int (wd : Int), V.int ((R.length : Int) + (S.length : Int))] = _; rw [eW]), .int _, .int _, fun z => ?_, fun z => kN (.inr ?_) H2 s12⟩
  rotate_left
  ·rw [(side_iff (by omega)).mpr (by omega), Bool.true_and] at z
   by_cases q : R.length + S.length ≤ 24
   ·rw [(side_iff (by omega)).mpr q] at z; cases z
   ·omega
  rw [Bool.and_eq_true, side_iff (by omega), side_iff (by omega)] at z
  have hno : ¬ noAbove R wd S u := fun q => by
   unfold noAbove at q; omega
  have picA := pic.mono s12
  have picB' := pic2.mono s12
  refine ⟨_, rfl, a, ps, ir R, rfl, picA.top, picA.row, by rw [ir_len]; omega, fun p1 q1 H3 s3 hp1 fr1 pc1 => ?_⟩
  refine ⟨_, rfl, b, qs, ir S, rfl, s3 _ _ picB'.top, (picB'.mono s3).row, by rw [ir_len]; omega, fun p2 q2 H4 s4 hp2 fr2 pc2 => ?_⟩
  have pc1' := pc1.mono s4
  refine ⟨p1, p2, _, _, rfl, rfl, pc1'.top, pc2.top, by rw [lenF pc1', lenF pc2]; exact Nat.le_trans z.2 (by decide), fun D hD => ?_⟩
  have s5 := same_new (o := HO.lst (q1.map V.ref ++ q2.map V.ref)) hD
  refine ((kY hno).same s12) D (q1 ++ q2) _ (s3.trans (s4.trans s5)) (s3.free (s4.free hD)) (fun y hy => ?_) ⟨by rw [upd_same, List.map_append], ?_, ?_, ?_⟩
  ·rcases List.mem_append.mp hy with h | h
   ·exact fr1 y h
   ·exact s3.free (fr2 y h)
  ·rw [ir_app]
   exact Paired.app (pc1'.mono s5).row (pc2.mono s5).row
  ·rw [List.nodup_append]
   exact ⟨pc1.nd, pc2.nd, fun x hx y hy e => by
    obtain ⟨r, _, e1⟩ := pc1.mem hx
    have := fr2 y hy
    rw [← e, e1] at this; cases this⟩
  ·intro z
   rcases List.mem_append.mp z with h | h
   ·exact not_new pc1' hD h
   ·exact not_new pc2 hD h
theorem sc_tiled : FnScope ["picture", "across", "down", "size"] ["picture", "across", "down"] (defScope s_tiled) := ⟨rfl, rfl, rfl, by decide +kernel, rfl, by decide +kernel, by decide +kernel⟩
theorem ok_tiled {f : Addr} {fd : FuncData} (F : FunD K "tiled" "tiled" s_tiled .none f fd) (T : Txt K mg cFE cBP cBS tS tC) (g_size_of : DefX P w K mg base 8 "size_of" ["picture"] [] (spSize K cBP)) (g_need_steps : DefX P w K mg base 2 "need_steps" ["across", "down"] [] (spSteps K cBS)) (g_need_sides : DefX P w K mg base 4 "need_sides" ["wide", "high"] [] (spNeedS K cBS)) : FnOk P w K mg base (CX1 P w) 9 f fd ["picture", "across", "down"] (spTiled K cBP cBS) := by
 refine F.okX sc_tiled (fun vs H Q E h => ?_) (fun cdv A outer s H vs Q E hr h => ?_)
 ·obtain ⟨v, u1, u2, rfl, _⟩ := h; rfl
 ·obtain ⟨v, u1, u2, rfl, h⟩ := h
  refine ⟨_, (pss_cons (ps_set (i := 3) sc_tiled.nd rfl (by first | exact Or.inl rfl | exact Or.inr rfl) (pe_callX g_size_of (hr.mono (by decide)) passes1R rfl (pa_cons (pv 0) pa_nil)))
    (pss_cons (ps_expr (pe_callX g_need_steps (hr.mono (by decide)) passes1R rfl (pa_cons (pv 1) (pa_cons (pv 2) pa_nil))))
    (pss_cons (ps_expr (pe_callX g_need_sides (hr.mono (by decide)) passes1R rfl (pa_cons (pe_op op_mul (pe_ix (ixTK K rfl) (pv 3) pe_int (fun _ _ => rfl)) (pv 1)) (pa_cons (pe_op op_mul (pe_ix (ixTK K rfl) (pv 3) pe_int (fun _ _ => rfl)) (pv 2)) pa_nil))))
    (pss_one (ps_ret (pe_comp (N := ["y", "picture", "size", "across"]) (src := [none, some 0, some 3, some 1]) rfl ⟨rfl, rfl, rfl, rfl, rfl, by decide +kernel⟩ (pi_range1 rfl T.range (pa_cons (pe_op op_mul (pe_ix (ixTK K rfl) (pv 3) pe_int (fun _ _ => rfl)) (pv 2)) pa_nil)) (fun s H C fp => pg_name (i := 0) (show (["y", "picture", "size", "across"] : List Str).Nodup by decide +kernel) rfl (by first | exact Or.inl rfl | exact Or.inr rfl)) (fun s H C fp => pts_nil) (fun s H C fp => (pe_op op_rep (pe_ix (ixK K rfl) (pv 1) (pe_op op_mod (pv 0) (pe_ix (ixTK K rfl) (pv 2) pe_int (fun _ _ => rfl))) (fun _ _ => rfl)) (pv 3))))))))), ?_⟩
  rcases h with ⟨th, hb, kB⟩ | ⟨a, ps, R, wd, rfl, pic, gd, h⟩
  ·exact ⟨_, rfl, v, rfl, th, fun z => (by rw [hb] at z; cases z), fun _ => kB⟩
  refine ⟨_, rfl, .ref a, rfl, (th_good pic gd).1, fun _ xs tp H1 hxs s1 htp etp => ?_, fun z => (no_bad pic gd z).elim⟩
  rw [rowOf_lst pic.top] at hxs; cases hxs
  rw [head_good pic gd, lenF pic] at etp
  rcases h with ⟨ku, kv, hw, kS⟩ | ⟨c, d, rfl, rfl, c1, d1, c100, d100, kN, kY⟩
  ·exact ⟨_, rfl, _, rfl, u1, u2, rfl, ku.mono s1, kv.mono s1, fun z => (by rw [hw] at z; cases z), fun _ => kS H1 s1⟩
  refine ⟨_, rfl, _, rfl, _, _, rfl, .int _, .int _, fun _ => ?_, fun z => (by rw [wf1 c1, wf1 d1] at z; cases z)⟩
  have pic1 := pic.mono s1
  have h24 := gd.le
  have w24 := gd.w24
  have w1 := gd.w1
  have hn1 := gd.ne
  have eW : (wd : Int) * (c : Int) = ((wd * c : Nat) : Int) := by push_cast; rfl
  have eH : (R.length : Int) * (d : Int) = ((R.length * d : Nat) : Int) := by push_cast; rfl
  have pW : 1 ≤ wd * c := Nat.mul_pos w1 c1
  have pH : 1 ≤ R.length * d := Nat.mul_pos hn1 d1
  refine ⟨_, rfl, tp, _, _, _, rfl, rfl, SqT.of etp, atI_nat (j := 0) rfl, _, rfl, _, _, rfl, rfl, .inl ⟨by omega, by omega⟩, _, rfl, tp, _, _, _, rfl, rfl, SqT.of etp, atI_nat (j := 1) rfl, _, rfl, _, _, rfl, rfl, .inl ⟨by omega, by omega⟩, .int ((wd * c : Nat) : Int), .int ((R.length * d : Nat) : Int), (by show [V.int ((wd : Int) * (c : Int)), V.int ((R.length : Int) * (d : Int))] = _; rw [eW, eH]), .int _, .int _, fun z => ?_, fun z => kN (fun g => by rw [(side_iff pW).mpr g.1, (side_iff pH).mpr g.2] at z; cases z) H1 s1⟩
  rw [Bool.and_eq_true, side_iff pW, side_iff pH] at z
  obtain ⟨g1, g2⟩ := z
  have d24 : d ≤ 24 := Nat.le_trans (Nat.le_mul_of_pos_left d hn1) g2
  have c24 : c ≤ 24 := Nat.le_trans (Nat.le_mul_of_pos_left c w1) g1
  refine ⟨_, rfl, tp, _, _, _, rfl, rfl, SqT.of etp, atI_nat (j := 1) rfl, _, rfl, _, _, rfl, rfl, .inl ⟨by omega, by omega⟩, ((R.length * d : Nat) : Int), (by show [V.int ((R.length : Int) * (d : Int))] = _; rw [eH]), by omega, by omega, fun D hD => ?_⟩
  rw [Int.toNat_natCast]
  refine comp_rows (k := 0) (fun v => match v with | .int y => ((List.replicate c (R.getD (y.toNat % R.length) [])).flatten).map V.int | _ => []) src_range (by simp; exact Nat.le_trans g2 (by decide)) hD (fun z hz H' Q' sm kk => ?_) fun qs H2 s2 fr pic2 => ?_
  ·obtain ⟨i, hi, rfl⟩ := List.mem_map.mp hz
   have hi' : i % R.length < R.length := Nat.mod_lt _ (by omega)
   have ei : ((0 : Int) + (i : Int)) % (R.length : Int) = ((i % R.length : Nat) : Int) := by rw [Int.zero_add]; push_cast; rfl
   have pic' := pic1.mono sm
   obtain ⟨q, e1, e2, lr⟩ := row_getD pic' gd hi'
   refine ⟨_, rfl, _, rfl, _, rfl, tp, _, _, _, rfl, rfl, SqT.of (sm _ _ etp), atI_nat (j := 1) rfl, _, _, rfl, rfl, (by omega), a, _, _, _, rfl, rfl, SqL.of pic'.top, (by show atI _ (((0 : Int) + (i : Int)) % (R.length : Int)) = _; rw [ei]; exact atI_nat e1), _, rfl, q, _, _, rfl, rfl, e2, by omega, by omega, ?_, fun l hl => kk l _ (same_new hl) hl ?_⟩
   ·rw [List.length_map, lr, Int.toNat_natCast]; exact Nat.le_trans g1 (by decide)
   ·rw [upd_same]
    show some (HO.lst (List.replicate (c : Int).toNat (R[i % R.length].map V.int)).flatten) = some (HO.lst (((List.replicate c (R.getD (((0 : Int) + (i : Int)).toNat % R.length) [])).flatten).map V.int))
    rw [show ((0 : Int) + (i : Int)).toNat = i by omega, Int.toNat_natCast, rep_map, getD_row hi']
  ·refine ((kY g1 g2).same s1) D qs H2 s2 hD fr ?_
   have e : ((List.range (R.length * d)).map fun (i : Nat) => V.int ((0 : Int) + (i : Int))).map (fun v => match v with | .int y => ((List.replicate c (R.getD (y.toNat % R.length) [])).flatten).map V.int | _ => []) = ir (tiledF R c d) := by
    unfold ir tiledF
    rw [List.map_map, List.map_map]
    refine List.map_congr_left fun i _ => ?_
    show ((List.replicate c (R.getD (((0 : Int) + (i : Int)).toNat % R.length) [])).flatten).map V.int = _
    rw [show ((0 : Int) + (i : Int)).toNat = i by omega]
    rfl
   rw [e] at pic2
   exact pic2
end
end K13
set_option Elab.async false
set_option linter.all false
set_option maxRecDepth 100000
set_option maxHeartbeats 1600000
namespace K13
open PySem L2 M4
theorem log_100 {a : Nat} (h : a < 2 ^ 100) : ((a : Int).natAbs).log2 < 9000 := by
 rw [Int.natAbs_natCast]
 by_cases h0 : a = 0
 ·subst h0; decide +kernel
 ·have : a.log2 < 100 := (Nat.log2_lt h0).mpr h
  omega
theorem for_range3 {lo st : Int} {n : Nat} {g : TG} {tb : TS} {D : Ends} {σ : St} {H : Hp} (Pv : Nat → St → Hp → Prop) (h0 : Pv 0 σ H)
  (hs : ∀ i σ H, i < n → Pv i σ H → g (.int (lo + (i : Int) * st)) σ H fun σ2 H2 => tb { D with nx := Pv (i + 1), ct := Pv (i + 1), bk := D.nx } σ2 H2) (hd : ∀ σ H, Pv n σ H → D.nx σ H) :
  ∃ W : Nat → Nat → St → Hp → Prop, (∃ m, W 0 m σ H) ∧ ∀ i m σ H, W i m σ H →
   ((Itr3 lo st n).stop i H ∧ D.nx σ H) ∨ ((Itr3 lo st n).go i H ∧ ∃ N : St → Hp → Prop, (∀ σ' H', N σ' H' → ∃ m', m' < m ∧ W (i + 1) m' σ' H') ∧ ∀ x H', (Itr3 lo st n).yld i H x H' → g x σ H' fun σ2 H2 => tb { D with nx := N, ct := N, bk := D.nx } σ2 H2) := by
 refine ⟨fun i m σ H => m = n - i ∧ i ≤ n ∧ Pv i σ H, ⟨n, by simp, Nat.zero_le _, h0⟩, ?_⟩
 rintro i m σ H ⟨rfl, hi, p⟩
 by_cases hlt : i < n
 ·refine .inr ⟨hlt, Pv (i + 1), fun σ' H' p' => ⟨n - (i + 1), by omega, rfl, hlt, p'⟩, fun x H' y => ?_⟩
  obtain ⟨e, y⟩ := y
  subst e y
  exact hs i σ _ hlt p
 ·have e : i = n := by omega
  subst e
  exact .inl ⟨Nat.le_refl _, hd σ H p⟩
noncomputable def Adr (e : Addr × List Addr) (y : Addr) : Prop := y = e.1 ∨ y ∈ e.2
theorem adr_some {H : Hp} {x y : Addr} {qs : List Addr} {R : List (List V)} (p : PicV H x qs R) (h : Adr (x, qs) y) : ∃ o, H y = some o := by
 rcases h with rfl | h
 ·exact ⟨_, p.top⟩
 ·obtain ⟨r, _, e⟩ := p.mem h
  exact ⟨_, e⟩
theorem adr_fresh {H : Hp} {x : Addr} {qs : List Addr} (h1 : H x = none) (h2 : Fresh H qs) {y : Addr} (h : Adr (x, qs) y) : H y = none := by
 rcases h with rfl | h
 ·exact h1
 ·exact h2 y h
theorem PicV.keepA {H H' : Hp} {x : Addr} {qs : List Addr} {R : List (List V)} (p : PicV H x qs R) (k : ∀ b o, Adr (x, qs) b → H b = some o → H' b = some o) : PicV H' x qs R := ⟨k _ _ (.inl rfl) p.top, Paired.mapI p.row fun q _ hq e => k _ _ (.inr hq) e, p.nd, p.out⟩
noncomputable abbrev Dj (e e' : Addr × List Addr) : Prop := ∀ y, Adr e' y → ¬ Adr e y
structure LineV (H : Hp) (l : Addr) (es : List (Addr × List Addr)) (Rs : List (List (List Int))) : Prop where
 top : H l = some (.lst (es.map fun e => V.ref e.1))
 len : es.length = Rs.length
 at_ : ∀ (i : Nat) e R, es[i]? = some e → Rs[i]? = some R → PicV H e.1 e.2 (ir R)
 dj : es.Pairwise Dj
 out : ∀ e ∈ es, ¬ Adr e l
noncomputable def AdrL (l : Addr × List (Addr × List Addr)) (y : Addr) : Prop := y = l.1 ∨ ∃ e ∈ l.2, Adr e y
theorem LineV.keep {H H' : Hp} {l : Addr} {es : List (Addr × List Addr)} {Rs : List (List (List Int))} (v : LineV H l es Rs) (k : ∀ b o, AdrL (l, es) b → H b = some o → H' b = some o) : LineV H' l es Rs :=
 ⟨k _ _ (.inl rfl) v.top, v.len, fun i e R h1 h2 => PicV.keepA (v.at_ i e R h1 h2) fun b o hb eb => k b o (.inr ⟨e, List.mem_of_getElem? h1, hb⟩) eb, v.dj, v.out⟩
theorem LineV.mono {H H' : Hp} {l : Addr} {es : List (Addr × List Addr)} {Rs : List (List (List Int))} (v : LineV H l es Rs) (s : Same H H') : LineV H' l es Rs := v.keep fun b o _ e => s b o e
theorem LineV.has {H : Hp} {l y : Addr} {es : List (Addr × List Addr)} {Rs : List (List (List Int))} (v : LineV H l es Rs) (h : AdrL (l, es) y) : ∃ o, H y = some o := by
 rcases h with rfl | ⟨e, he, hy⟩
 ·exact ⟨_, v.top⟩
 ·obtain ⟨i, hi⟩ := List.mem_iff_getElem?.mp he
  have hl : i < Rs.length := by rw [← v.len]; exact (List.getElem?_eq_some_iff.mp hi).1
  exact adr_some (v.at_ i e _ hi (List.getElem?_eq_getElem hl)) hy
noncomputable abbrev DjL (l l' : Addr × List (Addr × List Addr)) : Prop := ∀ y, AdrL l' y → ¬ AdrL l y
structure TilesV (H : Hp) (p : Addr) (ls : List (Addr × List (Addr × List Addr))) (G : List (List (List (List Int)))) : Prop where
 top : H p = some (.lst (ls.map fun l => V.ref l.1))
 len : ls.length = G.length
 at_ : ∀ (i : Nat) l Rs, ls[i]? = some l → G[i]? = some Rs → LineV H l.1 l.2 Rs
 dj : ls.Pairwise DjL
 out : ∀ l ∈ ls, ¬ AdrL l p
theorem TilesV.keep {H H' : Hp} {p : Addr} {ls : List (Addr × List (Addr × List Addr))} {G : List (List (List (List Int)))} (v : TilesV H p ls G) (k : ∀ b o, (b = p ∨ ∃ l ∈ ls, AdrL l b) → H b = some o → H' b = some o) : TilesV H' p ls G :=
 ⟨k _ _ (.inl rfl) v.top, v.len, fun i l Rs h1 h2 => (v.at_ i l Rs h1 h2).keep fun b o hb eb => k b o (.inr ⟨l, List.mem_of_getElem? h1, hb⟩) eb, v.dj, v.out⟩
theorem TilesV.mono {H H' : Hp} {p : Addr} {ls : List (Addr × List (Addr × List Addr))} {G : List (List (List (List Int)))} (v : TilesV H p ls G) (s : Same H H') : TilesV H' p ls G := v.keep fun b o _ e => s b o e
theorem TilesV.has {H : Hp} {p y : Addr} {ls : List (Addr × List (Addr × List Addr))} {G : List (List (List (List Int)))} (v : TilesV H p ls G) (h : y = p ∨ ∃ l ∈ ls, AdrL l y) : ∃ o, H y = some o := by
 rcases h with rfl | ⟨l, hl, hy⟩
 ·exact ⟨_, v.top⟩
 ·obtain ⟨i, hi⟩ := List.mem_iff_getElem?.mp hl
  have hl : i < G.length := by rw [← v.len]; exact (List.getElem?_eq_some_iff.mp hi).1
  exact (v.at_ i l _ hi (List.getElem?_eq_getElem hl)).has hy
theorem snoc_at {α : Type} {xs : List α} {v x : α} {i : Nat} (h : (xs ++ [v])[i]? = some x) : (i < xs.length ∧ xs[i]? = some x) ∨ (i = xs.length ∧ x = v) := by
 by_cases hi : i < xs.length
 ·rw [List.getElem?_append_left hi] at h; exact .inl ⟨hi, h⟩
 ·rw [List.getElem?_append_right (by omega)] at h
  cases ej : i - xs.length with
  | zero => rw [ej] at h; cases h; exact .inr ⟨by omega, rfl⟩
  | succ n => rw [ej] at h; cases h
theorem LineV.push {H H3 : Hp} {l q : Addr} {es : List (Addr × List Addr)} {qs : List Addr} {Rs : List (List (List Int))} {R : List (List Int)} (v : LineV H l es Rs) (s : Same H H3) (hq : H q = none) (fr : Fresh H qs) (p : PicV H3 q qs (ir R)) : LineV (upd H3 l (.lst ((es.map fun e => V.ref e.1) ++ [.ref q]))) l (es ++ [(q, qs)]) (Rs ++ [R]) := by
 have nl : ¬ Adr (q, qs) l := fun z => by
  have := adr_fresh hq fr z
  rw [v.top] at this; cases this
 refine ⟨by rw [upd_same, List.map_append]; rfl, by rw [List.length_append, List.length_append, v.len]; rfl, fun i e R' h1 h2 => ?_, ?_, fun e he => ?_⟩
 ·rcases snoc_at h1 with ⟨a1, a2⟩ | ⟨a1, rfl⟩
  ·rcases snoc_at h2 with ⟨b1, b2⟩ | ⟨b1, rfl⟩
   ·refine PicV.keepA (v.at_ i e R' a2 b2) fun b o hb eb => ?_
    rw [upd_ne (fun z => v.out e (List.mem_of_getElem? a2) (by rw [← z]; exact hb))]
    exact s _ _ eb
   ·have := v.len; omega
  ·rcases snoc_at h2 with ⟨b1, b2⟩ | ⟨b1, rfl⟩
   ·have := v.len; omega
   ·exact PicV.keepA p fun b o hb eb => by rw [upd_ne (fun z => nl (by rw [← z]; exact hb))]; exact eb
 ·rw [List.pairwise_append]
  refine ⟨v.dj, List.pairwise_singleton _ _, fun e he e' he' y hy hz => ?_⟩
  rw [List.mem_singleton.mp he'] at hy
  have := adr_fresh hq fr hy
  obtain ⟨o, eo⟩ := v.has (y := y) (.inr ⟨e, he, hz⟩)
  rw [this] at eo; cases eo
 ·rcases List.mem_append.mp he with h | h
  ·exact v.out e h
  ·rw [List.mem_singleton.mp h]; exact nl
theorem TilesV.push {H H3 : Hp} {p : Addr} {ls : List (Addr × List (Addr × List Addr))} {G : List (List (List (List Int)))} {l : Addr} {es : List (Addr × List Addr)} {Rs : List (List (List Int))} (v : TilesV H p ls G) (s : Same H H3) (fr : ∀ y, AdrL (l, es) y → H y = none) (q : LineV H3 l es Rs) : TilesV (upd H3 p (.lst ((ls.map fun l => V.ref l.1) ++ [.ref l]))) p (ls ++ [(l, es)]) (G ++ [Rs]) := by
 have nl : ¬ AdrL (l, es) p := fun z => by
  have := fr p z
  rw [v.top] at this; cases this
 refine ⟨by rw [upd_same, List.map_append]; rfl, by rw [List.length_append, List.length_append, v.len]; rfl, fun i e R' h1 h2 => ?_, ?_, fun e he => ?_⟩
 ·rcases snoc_at h1 with ⟨a1, a2⟩ | ⟨a1, rfl⟩
  ·rcases snoc_at h2 with ⟨b1, b2⟩ | ⟨b1, rfl⟩
   ·refine (v.at_ i e R' a2 b2).keep fun b o hb eb => ?_
    rw [upd_ne (fun z => v.out e (List.mem_of_getElem? a2) (by rw [← z]; exact hb))]
    exact s _ _ eb
   ·have := v.len; omega
  ·rcases snoc_at h2 with ⟨b1, b2⟩ | ⟨b1, rfl⟩
   ·have := v.len; omega
   ·exact q.keep fun b o hb eb => by rw [upd_ne (fun z => nl (by rw [← z]; exact hb))]; exact eb
 ·rw [List.pairwise_append]
  refine ⟨v.dj, List.pairwise_singleton _ _, fun e he e' he' y hy hz => ?_⟩
  rw [List.mem_singleton.mp he'] at hy
  have := fr y hy
  obtain ⟨o, eo⟩ := v.has (y := y) (.inr ⟨e, he, hz⟩)
  rw [this] at eo; cases eo
 ·rcases List.mem_append.mp he with h | h
  ·exact v.out e h
  ·rw [List.mem_singleton.mp h]; exact nl
theorem comp_pics {J : It} {L : List V} {k : Nat} {te : TE} {D : Addr} {σ0 : St} {H : Hp} {Fn : Hp → Prop} (Gx : V → List (List Int))
  (S : Src J L H) (hn : L.length ≤ sizeLine) (hD : H D = none)
  (he : ∀ x ∈ L, ∀ (H' : Hp) (Q : VK), Same H H' → (∀ q qs H'', Same H' H'' → H' q = none → Fresh H' qs → PicV H'' q qs (ir (Gx x)) → Q (.ref q) H'') → te (σ0.set k (some x)) H' Q)
  (hd : ∀ (es : List (Addr × List Addr)) H', Same H H' → (∀ y, AdrL (D, es) y → H y = none) → LineV H' D es (L.map Gx) → Fn H') :
  ∃ W : Nat → Nat → St → Hp → Prop, (∃ m, W 0 m σ0 (upd H D (.lst []))) ∧ ∀ i m σ' H', W i m σ' H' →
   (J.stop i H' ∧ Fn H') ∨ (J.go i H' ∧ ∃ N : St → Hp → Prop, (∀ σ2 H2, N σ2 H2 → ∃ m', m' < m ∧ W (i + 1) m' σ2 H2) ∧ ∀ x H2, J.yld i H' x H2 → gName k x σ' H2 fun σ3 H3 => tTrue σ3 H3 fun b H4 =>
    if b = true then te σ3 H4 fun v H5 => ∃ xs, H5 D = some (.lst xs) ∧ xs.length < sizeLine ∧ N σ3 (upd H5 D (.lst (xs ++ [v]))) else N σ3 H4) := by
 refine ⟨fun i m σ' H' => m = L.length - i ∧ i ≤ L.length ∧ (∀ y, σ'.set k y = σ0.set k y) ∧ Same H H' ∧ ∃ es : List (Addr × List Addr), (∀ y, AdrL (D, es) y → H y = none) ∧ LineV H' D es ((L.take i).map Gx), ⟨L.length, rfl, Nat.zero_le _, fun _ => rfl, same_new hD, [], (fun y hy => by
  rcases hy with rfl | ⟨e, he, _⟩
  ·exact hD
  ·cases he), ⟨by rw [upd_same]; rfl, rfl, (fun i e R h => nomatch h), List.Pairwise.nil, (fun e he => nomatch he)⟩⟩, ?_⟩
 rintro i m σ' H' ⟨rfl, hi, hσ, sm, es, fr, lv⟩
 by_cases hlt : i < L.length
 ·have hx : L[i]? = some L[i] := by simp [hlt]
  obtain ⟨go, yl⟩ := (S H' sm).1 i _ hx
  refine .inr ⟨go, fun σ2 H2 => (∀ y, σ2.set k y = σ0.set k y) ∧ Same H H2 ∧ ∃ es : List (Addr × List Addr), (∀ y, AdrL (D, es) y → H y = none) ∧ LineV H2 D es ((L.take (i + 1)).map Gx), ?_, ?_⟩
  ·rintro σ2 H2 ⟨q1, q2, q3⟩
   exact ⟨L.length - (i + 1), by omega, rfl, hlt, q1, q2, q3⟩
  ·intro x H2 y
   obtain ⟨rfl, rfl⟩ := yl x H2 y
   simp only [gName, tTrue, if_true]
   rw [hσ]
   have hm : L[i] ∈ L := List.getElem_mem hlt
   have hl : es.length = i := by rw [lv.len, List.length_map, List.length_take]; omega
   refine he _ hm H2 _ sm fun q qs H5 s5 hq fq pq => ⟨_, s5 D _ lv.top, by rw [List.length_map, hl]; omega, fun y => by rw [List.set_set], same_upd (sm.trans s5) hD, es ++ [(q, qs)], fun y hy => ?_, ?_⟩
   ·rcases hy with rfl | ⟨e, he, hy⟩
    ·exact hD
    ·rcases List.mem_append.mp he with h | h
     ·exact fr y (.inr ⟨e, h, hy⟩)
     ·rw [List.mem_singleton.mp h] at hy
      exact sm.free (adr_fresh hq fq hy)
   ·have := LineV.push lv s5 hq fq pq
    rw [List.take_succ_eq_append_getElem hlt, List.map_append]
    exact this
 ·have e : i = L.length := by omega
  subst e
  rw [List.take_length] at lv
  exact .inl ⟨(S H' sm).2, hd es H' sm fr lv⟩
noncomputable def tilesG (R : List (List Int)) (wd c d : Nat) : List (List (List (List Int))) := (List.range (R.length / d)).map fun i => (List.range (wd / c)).map fun j => cutF R (j * c) (i * d) c d
noncomputable def NewT (H : Hp) (Q : VK) (G : List (List (List (List Int)))) : Prop := ∀ p ls H', Same H H' → H p = none → (∀ l ∈ ls, ∀ y, AdrL l y → H y = none) → TilesV H' p ls G → Q (.ref p) H'
theorem NewT.same {H H1 : Hp} {Q : VK} {G : List (List (List (List Int)))} (n : NewT H Q G) (s : Same H H1) : NewT H1 Q G := fun p ls H' s' hp fr v => n p ls H' (s.trans s') (s.free hp) (fun l hl y hy => s.free (fr l hl y hy)) v
noncomputable def spTiles (K : W.Frag) (cBP cBS : Addr) : Sp := fun vs H Q E => ∃ (v u1 u2 : V), vs = [v, u1, u2] ∧
 ((Th K H v ∧ picB H v = false ∧ ∀ H', Same H H' → E (.ref cBP) none H') ∨ (∃ a ps R wd, v = .ref a ∧ PicV H a ps (ir R) ∧ Good R wd ∧
  ((Kd K H u1 ∧ Kd K H u2 ∧ (isWf 1 u1 && isWf 1 u2) = false ∧ ∀ H', Same H H' → E (.ref cBS) none H') ∨
   (∃ c d : Nat, u1 = .int (c : Int) ∧ u2 = .int (d : Int) ∧ 1 ≤ c ∧ 1 ≤ d ∧ c < 2 ^ 100 ∧ d < 2 ^ 100 ∧ (¬ (wd % c = 0 ∧ R.length % d = 0) → ∀ H', Same H H' → E (.ref cBS) none H') ∧ (wd % c = 0 → R.length % d = 0 → NewT H Q (tilesG R wd c d))))))
theorem parts {n c : Nat} (h1 : 1 ≤ n) (c1 : 1 ≤ c) (h : n % c = 0) : (n - 1) / c + 1 = n / c := by
 obtain ⟨k, rfl⟩ := Nat.dvd_of_mod_eq_zero h
 have hk : 1 ≤ k := by
  rcases Nat.eq_zero_or_pos k with z | z
  ·subst z; omega
  ·exact z
 obtain ⟨j, rfl⟩ : ∃ j, k = j + 1 := ⟨k - 1, by omega⟩
 have : c * (j + 1) - 1 = c * j + (c - 1) := by rw [Nat.mul_add, Nat.mul_one]; omega
 rw [this, Nat.mul_add_div (by omega), Nat.div_eq_of_lt (by omega), Nat.mul_div_cancel_left _ (by omega)]
theorem part_in {n c j : Nat} (h : n % c = 0) (hj : j < n / c) : j * c + c ≤ n := by
 obtain ⟨k, rfl⟩ := Nat.dvd_of_mod_eq_zero h
 by_cases c0 : c = 0
 ·subst c0; simp at hj
 rw [Nat.mul_div_cancel_left _ (by omega)] at hj
 have : (j + 1) * c ≤ k * c := Nat.mul_le_mul_right c hj
 rw [Nat.add_mul, Nat.one_mul] at this
 rw [Nat.mul_comm c k]
 exact this
section
variable {P : Program} {w : World} {K : W.Frag} {mg : Str → Option Value} {base : Heap} {cFE cBP cBS : Addr} {tS tC : Tok}
theorem sc_tiles_of : FnScope ["picture", "wide", "high", "size", "tiles", "top"] ["picture", "wide", "high"] (defScope s_tiles_of) := ⟨rfl, rfl, rfl, by decide +kernel, rfl, by decide +kernel, by decide +kernel⟩
theorem ok_tiles_of {f : Addr} {fd : FuncData} (F : FunD K "tiles_of" "tiles_of" s_tiles_of .none f fd) (T : Txt K mg cFE cBP cBS tS tC) (g_size_of : DefX P w K mg base 8 "size_of" ["picture"] [] (spSize K cBP)) (g_need_steps : DefX P w K mg base 2 "need_steps" ["across", "down"] [] (spSteps K cBS)) (g_rows_cut_out : Def P w K mg base 1 "rows_cut_out" ["picture", "left", "top", "wide", "high"] [] (spCut K)) : FnOk P w K mg base (CX1 P w) 9 f fd ["picture", "wide", "high"] (spTiles K cBP cBS) := by
 refine F.okX sc_tiles_of (fun vs H Q E h => ?_) (fun cdv A outer s H vs Q E hr h => ?_)
 ·obtain ⟨v, u1, u2, rfl, _⟩ := h; rfl
 ·obtain ⟨v, u1, u2, rfl, h⟩ := h
  refine ⟨_, (pss_cons (ps_set (i := 3) sc_tiles_of.nd rfl (by first | exact Or.inl rfl | exact Or.inr rfl) (pe_callX g_size_of (hr.mono (by decide)) passes1R rfl (pa_cons (pv 0) pa_nil)))
    (pss_cons (ps_expr (pe_callX g_need_steps (hr.mono (by decide)) passes1R rfl (pa_cons (pv 1) (pa_cons (pv 2) pa_nil))))
    (pss_cons (ps_if (PW.pt (pw_or (pt_cmpR op_ne (pe_op op_mod (pe_ix (ixTK K rfl) (pv 3) pe_int (fun _ _ => rfl)) (pv 1)) pe_int (nomark _)) (pw_or1 (pt_cmpR op_ne (pe_op op_mod (pe_ix (ixTK K rfl) (pv 3) pe_int (fun _ _ => rfl)) (pv 2)) pe_int (nomark _))))) (pss_one (ps_raise rfl raises1 rfl T.BadSize T.xBadSize (pa_cons pe_str pa_nil))) pss_nil)
    (pss_cons (ps_set (i := 4) sc_tiles_of.nd rfl (by first | exact Or.inl rfl | exact Or.inr rfl) (pe_lst pa_nil))
    (pss_cons (PS.nox (ps_for PassesOwn.never rfl (pi_range3B rfl T.range (pa_cons pe_int (pa_cons (pe_ix (ixTK K rfl) (pv 3) pe_int (fun _ _ => rfl)) (pa_cons (pv 2) pa_nil)))) (pg_name (i := 5) sc_tiles_of.nd rfl (by first | exact Or.inl rfl | exact Or.inr rfl)) (pss_one (ps_expr (pe_bm PySem.F.plainAttrs_list PySem.F.slot_list_append PySem.F.type_list_append mt_append (pv 4) (pa_cons (pe_comp (N := ["left", "picture", "top", "wide", "high"]) (src := [none, some 0, some 5, some 1, some 2]) rfl ⟨rfl, rfl, rfl, rfl, rfl, by decide +kernel⟩ (pi_range3B rfl T.range (pa_cons pe_int (pa_cons (pe_ix (ixTK K rfl) (pv 3) pe_int (fun _ _ => rfl)) (pa_cons (pv 1) pa_nil)))) (fun s H C fp => pg_name (i := 0) (show (["left", "picture", "top", "wide", "high"] : List Str).Nodup by decide +kernel) rfl (by first | exact Or.inl rfl | exact Or.inr rfl)) (fun s H C fp => pts_nil) (fun s H C fp => (pe_callD g_rows_cut_out (hr.mono (by decide)) rfl (pa_cons (pv 1) (pa_cons (pv 0) (pa_cons (pv 2) (pa_cons (pv 3) (pa_cons (pv 4) pa_nil)))))))) pa_nil))))))
    (pss_one (ps_ret (pv 4)))))))), ?_⟩
  rcases h with ⟨th, hb, kB⟩ | ⟨a, ps, R, wd, rfl, pic, gd, h⟩
  ·exact ⟨_, rfl, v, rfl, th, fun z => (by rw [hb] at z; cases z), fun _ => kB⟩
  refine ⟨_, rfl, .ref a, rfl, (th_good pic gd).1, fun _ xs tp H1 hxs s1 htp etp => ?_, fun z => (no_bad pic gd z).elim⟩
  rw [rowOf_lst pic.top] at hxs; cases hxs
  rw [head_good pic gd, lenF pic] at etp
  rcases h with ⟨ku, kv, hw, kS⟩ | ⟨c, d, rfl, rfl, c1, d1, c100, d100, kN, kY⟩
  ·exact ⟨_, rfl, _, rfl, u1, u2, rfl, ku.mono s1, kv.mono s1, fun z => (by rw [hw] at z; cases z), fun _ => kS H1 s1⟩
  refine ⟨_, rfl, _, rfl, _, _, rfl, .int _, .int _, fun _ => ?_, fun z => (by rw [wf1 c1, wf1 d1] at z; cases z)⟩
  have pic1 := pic.mono s1
  have h24 := gd.le
  have w24 := gd.w24
  have w1 := gd.w1
  have hn1 := gd.ne
  have em : ∀ n k : Nat, (n : Int) % (k : Int) = ((n % k : Nat) : Int) := fun n k => by push_cast; rfl
  refine ⟨_, rfl, tp, _, _, _, rfl, rfl, SqT.of etp, atI_nat (j := 0) rfl, _, rfl, _, _, rfl, rfl, (by show (0 : Int) < (c : Int); omega), rfl, _, rfl, ?_⟩
  by_cases hc : wd % c = 0
  rotate_left
  ·rw [decide_eq_false (fun z => hc (by injection z with z; rw [em] at z; omega))]
   exact ⟨sz1, kN (fun z => hc z.1) H1 s1⟩
  rw [decide_eq_true (show V.int ((wd : Int) % (c : Int)) = V.int 0 by rw [em, hc]; rfl)]
  refine ⟨_, rfl, tp, _, _, _, rfl, rfl, SqT.of etp, atI_nat (j := 1) rfl, _, rfl, _, _, rfl, rfl, (by show (0 : Int) < (d : Int); omega), rfl, _, rfl, ?_⟩
  by_cases hd : R.length % d = 0
  rotate_left
  ·rw [decide_eq_false (fun z => hd (by injection z with z; rw [em] at z; omega))]
   exact ⟨sz1, kN (fun z => hd z.2) H1 s1⟩
  rw [decide_eq_true (show V.int ((R.length : Int) % (d : Int)) = V.int 0 by rw [em, hd]; rfl)]
  have kY := (kY hc hd).same s1
  have pR := parts hn1 d1 hd
  have pW := parts w1 c1 hc
  have lG : (tilesG R wd c d).length = R.length / d := by simp [tilesG]
  refine ⟨Nat.zero_le _, fun S hS => ?_⟩
  have sS := same_new (o := HO.lst []) hS
  refine ⟨_, rfl, tp, _, _, _, rfl, rfl, SqT.of (sS _ _ etp), atI_nat (j := 1) rfl, _, rfl, 0, (R.length : Int), (d : Int), (R.length - 1) / d + 1, rfl, by omega, log_100 d100, size_nat hn1 d1, ?_⟩
  rw [pR]
  refine for_range3 (n := R.length / d) (fun i σ H3 => Same H1 H3 ∧ ∃ (ls : List (Addr × List (Addr × List Addr))) (v5 : Option V), (∀ l ∈ ls, ∀ y, AdrL l y → H1 y = none) ∧ TilesV H3 S ls ((tilesG R wd c d).take i) ∧ σ = [some (.ref a), some (.int (c : Int)), some (.int (d : Int)), some (.ref tp), some (.ref S), v5]) ⟨sS, [], none, (fun l hl => nomatch hl), ⟨by rw [upd_same]; rfl, rfl, (fun i l Rs h => nomatch h), List.Pairwise.nil, (fun l hl => nomatch hl)⟩, rfl⟩ ?_ ?_
  ·rintro i σ H3 hi ⟨s3, ls, v5, fr, tv, rfl⟩
   have ll : ls.length = i := by rw [tv.len, List.length_take, lG]; omega
   refine ⟨_, rfl, .inl ⟨rfl, _, SqL.of tv.top⟩, ?_⟩
   refine ⟨_, rfl, tp, _, _, _, rfl, rfl, SqT.of (s3 _ _ etp), atI_nat (j := 0) rfl, _, rfl, 0, (wd : Int), (c : Int), (wd - 1) / c + 1, rfl, by omega, log_100 c100, size_nat w1 c1, fun D hD => ?_⟩
   rw [pW]
   have eT : (0 : Int) + (i : Int) * (d : Int) = ((i * d : Nat) : Int) := by push_cast; omega
   refine comp_pics (k := 0) (fun v => match v with | .int x => cutF R x.toNat (i * d) c d | _ => []) src_range3 (by simp; exact Nat.le_trans (Nat.div_le_self _ _) (Nat.le_trans w24 (by decide))) hD (fun x hx H' Q' sm kk => ?_) fun es H5 s5 frD lv => ?_
   ·obtain ⟨j, hj, rfl⟩ := List.mem_map.mp hx
    have hj := List.mem_range.mp hj
    have eL : (0 : Int) + (j : Int) * (c : Int) = ((j * c : Nat) : Int) := by push_cast; omega
    refine ⟨_, rfl, _, rfl, _, rfl, _, rfl, _, rfl, a, ps, R, wd, j * c, i * d, c, d, (by rw [eT, eL]; rfl), (pic1.mono s3).mono sm, gd, part_in hc hj, part_in hd hi, fun q qs H'' s'' hq fq pq => kk q qs H'' s'' hq fq ?_⟩
    show PicV H'' q qs (ir (cutF R ((0 : Int) + (j : Int) * (c : Int)).toNat (i * d) c d))
    rw [eL, Int.toNat_natCast]
    exact pq
   ·have eg : ((List.range (wd / c)).map fun (j : Nat) => V.int (0 + (j : Int) * (c : Int))).map (fun v => match v with | .int x => cutF R x.toNat (i * d) c d | _ => []) = (tilesG R wd c d)[i]'(by rw [lG]; exact hi) := by
     unfold tilesG
     rw [List.getElem_map, List.getElem_range, List.map_map]
     refine List.map_congr_left fun j _ => ?_
     show cutF R ((0 : Int) + (j : Int) * (c : Int)).toNat (i * d) c d = _
     rw [show (0 : Int) + (j : Int) * (c : Int) = ((j * c : Nat) : Int) by push_cast; omega, Int.toNat_natCast]
    rw [eg] at lv
    refine ⟨S, _, _, rfl, rfl, s5 _ _ tv.top, by rw [List.length_map, ll]; exact Nat.lt_of_lt_of_le (Nat.lt_of_lt_of_le hi (Nat.div_le_self _ _)) (Nat.le_trans h24 (by decide)), same_upd (s3.trans s5) hS, ls ++ [(D, es)], _, fun l hl y hy => ?_, ?_, rfl⟩
    ·rcases List.mem_append.mp hl with h | h
     ·exact fr l h y hy
     ·rw [List.mem_singleton.mp h] at hy
      exact s3.free (frD y hy)
    ·rw [List.take_succ_eq_append_getElem (by rw [lG]; exact hi)]
     exact tv.push s5 frD lv
  ·rintro σ H3 ⟨s3, ls, v5, fr, tv, rfl⟩
   rw [← lG, List.take_length] at tv
   exact ⟨_, rfl, kY S ls H3 s3 hS fr tv⟩
end
end K13
set_option Elab.async false
set_option linter.all false
set_option maxRecDepth 100000
set_option maxHeartbeats 1600000
namespace K13
open PySem L2 M4
noncomputable def lineB (H : Hp) (x : V) : Bool := match rowOf H x with
 | some ys => decide (0 < ys.length) && ys.all (picB H)
 | none => false
noncomputable def tilesB (H : Hp) (v : V) : Bool := match rowOf H v with
 | some xs => decide (0 < xs.length) && xs.all (lineB H)
 | none => false
structure ThL (K : W.Frag) (H : Hp) (x : V) : Prop where
 kd : Kd K H x
 len : ∀ ys, rowOf H x = some ys → ys.length ≤ 1000
 it : ∀ ys, rowOf H x = some ys → ∀ y ∈ ys, Th K H y
structure ThT (K : W.Frag) (H : Hp) (v : V) : Prop where
 kd : Kd K H v
 len : ∀ xs, rowOf H v = some xs → xs.length ≤ 1000
 it : ∀ xs, rowOf H v = some xs → ∀ x ∈ xs, ThL K H x
section
variable {K : W.Frag} {H H' : Hp} {x : V}
theorem ThL.mono (t : ThL K H x) (s : Same H H') : ThL K H' x := by
 have e := rowOf_mono t.kd s
 exact ⟨t.kd.mono s, fun ys h => t.len ys (by rw [← e]; exact h), fun ys h y hy => (t.it ys (by rw [← e]; exact h) y hy).mono s⟩
theorem ThT.mono (t : ThT K H x) (s : Same H H') : ThT K H' x := by
 have e := rowOf_mono t.kd s
 exact ⟨t.kd.mono s, fun ys h => t.len ys (by rw [← e]; exact h), fun ys h y hy => (t.it ys (by rw [← e]; exact h) y hy).mono s⟩
theorem all_congr {xs : List V} {f g : V → Bool} (h : ∀ x ∈ xs, f x = g x) : xs.all f = xs.all g := by
 rw [Bool.eq_iff_iff, List.all_eq_true, List.all_eq_true]
 exact ⟨fun q y hy => by rw [← h y hy]; exact q y hy, fun q y hy => by rw [h y hy]; exact q y hy⟩
theorem lineB_mono (t : ThL K H x) (s : Same H H') : lineB H' x = lineB H x := by
 unfold lineB
 rw [rowOf_mono t.kd s]
 cases h : rowOf H x with
 | none => rfl
 | some ys =>
  dsimp only
  rw [all_congr fun y hy => picB_mono (t.it ys h y hy) s]
theorem tilesB_mono (t : ThT K H x) (s : Same H H') : tilesB H' x = tilesB H x := by
 unfold tilesB
 rw [rowOf_mono t.kd s]
 cases h : rowOf H x with
 | none => rfl
 | some ys =>
  dsimp only
  rw [all_congr fun y hy => lineB_mono (t.it ys h y hy) s]
end
noncomputable def spRowT (K : W.Frag) : Sp := fun vs H Q _ => ∃ x, vs = [x] ∧ ThL K H x ∧ ∀ H', Same H H' → Q (.bl (lineB H x)) H'
noncomputable def spNeedT (K : W.Frag) (cBP : Addr) : Sp := fun vs H Q E => ∃ v, vs = [v] ∧ ThT K H v ∧ (tilesB H v = true → ∀ H', Same H H' → Q .non H') ∧ (tilesB H v = false → ∀ H', Same H H' → E (.ref cBP) none H')
noncomputable def szOf (H : Hp) (y : V) : Nat × Nat := match rowOf H y with
 | some zs => (lenOf H (zs.headD .non), zs.length)
 | none => (0, 0)
noncomputable def likeT (H : Hp) (xs : List V) (y0 : V) : Prop := ∀ x ∈ xs, lenOf H x = lenOf H (xs.headD .non) ∧ ∀ ys, rowOf H x = some ys → ∀ y ∈ ys, szOf H y = szOf H y0
noncomputable def fitsT (H : Hp) (xs : List V) (y0 : V) : Prop := (szOf H y0).1 * lenOf H (xs.headD .non) ≤ 24 ∧ (szOf H y0).2 * xs.length ≤ 24
noncomputable def first0 (H : Hp) (xs : List V) : V := match rowOf H (xs.headD .non) with
 | some ys => ys.headD .non
 | none => .non
noncomputable def spLikeT (K : W.Frag) (cBS : Addr) : Sp := fun vs H Q E => ∃ (p : Addr) (xs : List V), vs = [.ref p] ∧ H p = some (.lst xs) ∧ ThT K H (.ref p) ∧ tilesB H (.ref p) = true ∧ (likeT H xs (first0 H xs) ∧ fitsT H xs (first0 H xs) → ∀ H', Same H H' → Q .non H') ∧ (¬ (likeT H xs (first0 H xs) ∧ fitsT H xs (first0 H xs)) → ∀ H', Same H H' → E (.ref cBS) none H')
theorem szOf_mono {K : W.Frag} {H H' : Hp} {y : V} (t : Th K H y) (s : Same H H') : szOf H' y = szOf H y := by
 unfold szOf
 rw [rowOf_mono t.kd s]
 cases h : rowOf H y with
 | none => rfl
 | some zs =>
  dsimp only
  cases zs with
  | nil => rfl
  | cons z r => rw [show (z :: r).headD .non = z from rfl, lenOf_mono (t.it _ h z List.mem_cons_self).kd s]
section
variable {P : Program} {w : World} {K : W.Frag} {mg : Str → Option Value} {base : Heap} {cFE cBP cBS : Addr} {tS tC : Tok}
theorem sc_is_row_of_tiles : FnScope ["thing"] ["thing"] (defScope s_is_row_of_tiles) := ⟨rfl, rfl, rfl, by decide +kernel, rfl, by decide +kernel, by decide +kernel⟩
theorem ok_is_row_of_tiles {f : Addr} {fd : FuncData} (F : FunD K "is_row_of_tiles" "is_row_of_tiles" s_is_row_of_tiles .none f fd) (T : Txt K mg cFE cBP cBS tS tC) (g_is_picture : Def P w K mg base 6 "is_picture" ["thing"] [] (spPic K)) : FnOk P w K mg base CX0 7 f fd ["thing"] (spRowT K) := by
 refine F.ok sc_is_row_of_tiles (fun vs H Q E h => ?_) (fun cdv A outer s H vs Q E hr h => ?_)
 ·obtain ⟨x, rfl, _⟩ := h; rfl
 ·obtain ⟨x, rfl, t, k⟩ := h
  refine ⟨_, (pss_one (ps_ret (pe_and (isiK K rfl (pv 0) rfl T.isinstance rfl T.list PyProof.Rows.boot_list) (pe_and (pe_cmpR op_gt (pe_callB (lenK K rfl) rfl T.len PySem.boot_len (pa_cons (pv 0) pa_nil)) pe_int (nomark _)) (pe_one (pe_callB (allK K rfl rfl) rfl T.all PyProof.Rows.boot_all (pa_cons (pe_comp (N := ["tile"]) (src := [none]) rfl ⟨rfl, rfl, rfl, rfl, rfl, by decide +kernel⟩ (piK K rfl (pv 0)) (fun s H C fp => pg_name (i := 0) (show (["tile"] : List Str).Nodup by decide +kernel) rfl (by first | exact Or.inl rfl | exact Or.inr rfl)) (fun s H C fp => pts_nil) (fun s H C fp => (pe_callD g_is_picture (hr.mono (by decide)) rfl (pa_cons (pv 0) pa_nil)))) pa_nil))))))), ?_⟩
  cases hx : rowOf H x with
  | none =>
   have e : lineB H x = false := by unfold lineB; rw [hx]
   rw [e] at k
   refine ⟨_, rfl, _, t.kd.isList, _, rfl, ?_⟩
   rw [isL_row t.kd, hx]
   exact k H (Same.refl H)
  | some ys =>
   obtain ⟨a, rfl, e⟩ := rowOf_ref hx
   have eb : lineB H (.ref a) = (decide (0 < ys.length) && ys.all (picB H)) := by unfold lineB; rw [hx]
   rw [eb] at k
   refine ⟨_, rfl, true, isList_lst e, _, rfl, ⟨_, rfl, a, _, rfl, .inl (SqL.of e), _, _, rfl, rfl, _, rfl, ?_⟩⟩
   have eg : decide ((ys.length : Int) > 0) = decide (0 < ys.length) := by rw [Bool.eq_iff_iff, decide_eq_true_eq, decide_eq_true_eq]; omega
   rw [eg]
   by_cases h0 : 0 < ys.length
   rotate_left
   ·rw [decide_eq_false h0, Bool.false_and] at k
    rw [decide_eq_false h0]
    exact k H (Same.refl H)
   rw [decide_eq_true h0, Bool.true_and] at k
   rw [decide_eq_true h0]
   refine ⟨_, rfl, a, rfl, ⟨_, SqL.of e⟩, fun D hD => ?_⟩
   refine comp_fm (k := 0) (fun y => .bl (picB H y)) (fun _ => true) (src_list (SqL.of e)) (Nat.le_trans (t.len ys hx) (by decide)) hD (fun x _ H' Qb _ kk => kk H' (Same.refl _)) (fun y hy _ H' Q' sm kk => ?_) fun H1 s1 hD1 => ?_
   ·have ty := t.it ys hx y hy
    exact ⟨_, rfl, y, rfl, ty.mono sm, fun H2 s2 => by rw [picB_mono ty sm]; exact kk H2 s2⟩
   refine ⟨D, ys.map (picB H), rfl, SqL.of (by rw [hD1, filter_t, List.map_map]; rfl), ?_⟩
   rw [all_map_id]
   exact k H1 s1
theorem sc_need_tiles : FnScope ["tiles"] ["tiles"] (defScope s_need_tiles) := ⟨rfl, rfl, rfl, by decide +kernel, rfl, by decide +kernel, by decide +kernel⟩
theorem ok_need_tiles {f : Addr} {fd : FuncData} (F : FunD K "need_tiles" "need_tiles" s_need_tiles .none f fd) (T : Txt K mg cFE cBP cBS tS tC) (g_is_row_of_tiles : Def P w K mg base 7 "is_row_of_tiles" ["thing"] [] (spRowT K)) : FnOk P w K mg base (CX1 P w) 8 f fd ["tiles"] (spNeedT K cBP) := by
 refine F.okX sc_need_tiles (fun vs H Q E h => ?_) (fun cdv A outer s H vs Q E hr h => ?_)
 ·obtain ⟨v, rfl, _⟩ := h; rfl
 ·obtain ⟨v, rfl, t, kY, kN⟩ := h
  refine ⟨_, (pss_cons (ps_if (PW.pt (pw_or (pt_not (pt_val (isiK K rfl (pv 0) rfl T.isinstance rfl T.list PyProof.Rows.boot_list))) (pw_or1 (pt_cmpR op_eq (pe_callB (lenK K rfl) rfl T.len PySem.boot_len (pa_cons (pv 0) pa_nil)) pe_int (nomark _))))) (pss_one (ps_raise rfl raises1 rfl T.BadPicture T.xBadPicture (pa_cons pe_str pa_nil))) pss_nil)
    (pss_one (ps_if (pt_not (pt_val (pe_callB (allK K rfl rfl) rfl T.all PyProof.Rows.boot_all (pa_cons (pe_comp (N := ["line"]) (src := [none]) rfl ⟨rfl, rfl, rfl, rfl, rfl, by decide +kernel⟩ (piK K rfl (pv 0)) (fun s H C fp => pg_name (i := 0) (show (["line"] : List Str).Nodup by decide +kernel) rfl (by first | exact Or.inl rfl | exact Or.inr rfl)) (fun s H C fp => pts_nil) (fun s H C fp => (pe_callD g_is_row_of_tiles (hr.mono (by decide)) rfl (pa_cons (pv 0) pa_nil)))) pa_nil)))) (pss_one (ps_raise rfl raises1 rfl T.BadPicture T.xBadPicture (pa_cons pe_str pa_nil))) pss_nil))), ?_⟩
  cases hx : rowOf H v with
  | none =>
   have e : tilesB H v = false := by unfold tilesB; rw [hx]
   refine ⟨_, rfl, _, t.kd.isList, _, rfl, ?_⟩
   rw [isL_row t.kd, hx]
   exact ⟨sz1, kN e H (Same.refl H)⟩
  | some xs =>
   obtain ⟨a, rfl, e⟩ := rowOf_ref hx
   have eb : tilesB H (.ref a) = (decide (0 < xs.length) && xs.all (lineB H)) := by unfold tilesB; rw [hx]
   rw [eb] at kY kN
   refine ⟨_, rfl, true, isList_lst e, _, rfl, ⟨_, rfl, a, _, rfl, .inl (SqL.of e), rfl, _, rfl, ?_⟩⟩
   by_cases h0 : 0 < xs.length
   rotate_left
   ·rw [decide_eq_false h0, Bool.false_and] at kN
    rw [decide_eq_true (show V.int (xs.length : Int) = V.int 0 by congr 1; omega)]
    exact ⟨sz1, kN rfl H (Same.refl H)⟩
   rw [decide_eq_true h0, Bool.true_and] at kY kN
   rw [decide_eq_false (fun z => by injection z with z; omega)]
   refine ⟨_, rfl, a, rfl, ⟨_, SqL.of e⟩, fun D hD => ?_⟩
   refine comp_fm (k := 0) (fun y => .bl (lineB H y)) (fun _ => true) (src_list (SqL.of e)) (Nat.le_trans (t.len xs hx) (by decide)) hD (fun x _ H' Qb _ kk => kk H' (Same.refl _)) (fun y hy _ H' Q' sm kk => ?_) fun H1 s1 hD1 => ?_
   ·have ty := t.it xs hx y hy
    exact ⟨_, rfl, y, rfl, ty.mono sm, fun H2 s2 => by rw [lineB_mono ty sm]; exact kk H2 s2⟩
   refine ⟨D, xs.map (lineB H), rfl, SqL.of (by rw [hD1, filter_t, List.map_map]; rfl), _, rfl, ?_⟩
   rw [all_map_id]
   exact iteN (fun h => ⟨sz1, kN h H1 s1⟩) (fun h => kY h H1 s1)
theorem sc_need_like_tiles : FnScope ["tiles", "size", "line", "tile"] ["tiles"] (defScope s_need_like_tiles) := ⟨rfl, rfl, rfl, by decide +kernel, rfl, by decide +kernel, by decide +kernel⟩
theorem ok_need_like_tiles {f : Addr} {fd : FuncData} (F : FunD K "need_like_tiles" "need_like_tiles" s_need_like_tiles .none f fd) (T : Txt K mg cFE cBP cBS tS tC) (g_size_of : DefX P w K mg base 8 "size_of" ["picture"] [] (spSize K cBP)) (g_need_like_sizes : DefX P w K mg base 1 "need_like_sizes" ["one", "other"] [] (spLikeS K cBS)) (g_need_sides : DefX P w K mg base 4 "need_sides" ["wide", "high"] [] (spNeedS K cBS)) : FnOk P w K mg base (CX1 P w) 9 f fd ["tiles"] (spLikeT K cBS) := by
 refine F.okX sc_need_like_tiles (fun vs H Q E h => ?_) (fun cdv A outer s H vs Q E hr h => ?_)
 ·obtain ⟨p, xs, rfl, _⟩ := h; rfl
 ·obtain ⟨p, xs, rfl, ep, t, tb, kY, kN⟩ := h
  have hx : rowOf H (.ref p) = some xs := rowOf_lst ep
  have tb' : decide (0 < xs.length) = true ∧ xs.all (lineB H) = true := by
   unfold tilesB at tb; rw [hx] at tb; exact Bool.and_eq_true_iff.mp tb
  have h0 : 0 < xs.length := of_decide_eq_true tb'.1
  have lines : ∀ x ∈ xs, ∃ l ys, x = .ref l ∧ H l = some (.lst ys) ∧ rowOf H x = some ys ∧ lenOf H x = ys.length ∧ 0 < ys.length ∧ ys.length ≤ 1000 ∧ ∀ y ∈ ys, Th K H y ∧ picB H y = true := fun x hxm => by
   have q := List.all_eq_true.mp tb'.2 x hxm
   have tl := t.it xs hx x hxm
   unfold lineB at q
   cases hy : rowOf H x with
   | none => rw [hy] at q; cases q
   | some ys =>
    rw [hy] at q
    obtain ⟨l, rfl, el⟩ := rowOf_ref hy
    have q := Bool.and_eq_true_iff.mp q
    exact ⟨l, ys, rfl, el, rfl, by unfold lenOf; rw [hy], of_decide_eq_true q.1, tl.len ys hy, fun y hym => ⟨tl.it ys hy y hym, List.all_eq_true.mp q.2 y hym⟩⟩
  have hm0 : xs.headD .non ∈ xs := by cases xs with | nil => simp at h0 | cons z r => exact List.mem_cons_self
  obtain ⟨l0, ys0, e0, el0, er0, en0, p0, b0, it0⟩ := lines _ hm0
  have hy0 : ys0.headD .non ∈ ys0 := by cases ys0 with | nil => simp at p0 | cons z r => exact List.mem_cons_self
  have ef : first0 H xs = ys0.headD .non := by unfold first0; rw [er0]
  rw [ef] at kY kN
  have sides : ∀ {y : V}, Th K H y → picB H y = true → ∃ zs, rowOf H y = some zs ∧ szOf H y = (lenOf H (zs.headD .non), zs.length) ∧ 1 ≤ lenOf H (zs.headD .non) ∧ lenOf H (zs.headD .non) ≤ 24 ∧ 1 ≤ zs.length ∧ zs.length ≤ 24 := fun {y} ty pb => by
   cases hy : rowOf H y with
   | none => unfold picB at pb; rw [hy] at pb; cases pb
   | some zs =>
    obtain ⟨ly, rfl, _⟩ := rowOf_ref hy
    have q := (picB_iff hy).mp pb
    obtain ⟨n, en, n1, n24⟩ := wh_side q.1
    injection en with en
    have hz : zs.headD .non ∈ zs := by cases zs with | nil => simp at en; omega | cons z r => exact List.mem_cons_self
    have rq := q.2.1 _ hz
    unfold rowQ at rq
    cases hz2 : rowOf H (zs.headD .non) with
    | none => rw [hz2] at rq; cases rq
    | some ws =>
     rw [hz2] at rq
     unfold rowB at rq
     obtain ⟨m, em, m1, m24⟩ := wh_side (Bool.and_eq_true_iff.mp rq).2
     injection em with em
     have el : lenOf H (zs.headD .non) = ws.length := by unfold lenOf; rw [hz2]
     exact ⟨zs, rfl, by unfold szOf; rw [hy], by omega, by omega, by omega, by omega⟩
  refine ⟨_, (pss_cons (ps_set (i := 1) sc_need_like_tiles.nd rfl (by first | exact Or.inl rfl | exact Or.inr rfl) (pe_callX g_size_of (hr.mono (by decide)) passes1R rfl (pa_cons (pe_ix (ixK K rfl) (pe_ix (ixK K rfl) (pv 0) pe_int (fun _ _ => rfl)) pe_int (fun _ _ => rfl)) pa_nil)))
    (pss_cons (ps_for ownE1 rfl (piK K rfl (pv 0)) (pg_name (i := 2) sc_need_like_tiles.nd rfl (by first | exact Or.inl rfl | exact Or.inr rfl)) (pss_cons (ps_if (pt_cmpR op_ne (pe_callB (lenK K rfl) rfl T.len PySem.boot_len (pa_cons (pv 2) pa_nil)) (pe_callB (lenK K rfl) rfl T.len PySem.boot_len (pa_cons (pe_ix (ixK K rfl) (pv 0) pe_int (fun _ _ => rfl)) pa_nil)) (nomark _)) (pss_one (ps_raise rfl raises1 rfl T.BadSize T.xBadSize (pa_cons pe_str pa_nil))) pss_nil)
    (pss_one (ps_for ownE1 rfl (piK K rfl (pv 2)) (pg_name (i := 3) sc_need_like_tiles.nd rfl (by first | exact Or.inl rfl | exact Or.inr rfl)) (pss_one (ps_expr (pe_callX g_need_like_sizes (hr.mono (by decide)) passes1R rfl (pa_cons (pv 1) (pa_cons (pe_callX g_size_of (hr.mono (by decide)) passes1R rfl (pa_cons (pv 3) pa_nil)) pa_nil)))))))))
    (pss_one (ps_expr (pe_callX g_need_sides (hr.mono (by decide)) passes1R rfl (pa_cons (pe_op op_mul (pe_ix (ixTK K rfl) (pv 1) pe_int (fun _ _ => rfl)) (pe_callB (lenK K rfl) rfl T.len PySem.boot_len (pa_cons (pe_ix (ixK K rfl) (pv 0) pe_int (fun _ _ => rfl)) pa_nil))) (pa_cons (pe_op op_mul (pe_ix (ixTK K rfl) (pv 1) pe_int (fun _ _ => rfl)) (pe_callB (lenK K rfl) rfl T.len PySem.boot_len (pa_cons (pv 0) pa_nil))) pa_nil))))))), ?_⟩
  obtain ⟨th0, pb0⟩ := it0 _ hy0
  refine ⟨_, rfl, p, _, _, .ref l0, rfl, rfl, SqL.of ep, atI_nat (j := 0) (by rw [head_at h0, e0]), l0, _, _, ys0.headD .non, rfl, rfl, SqL.of el0, atI_nat (j := 0) (head_at p0), ys0.headD .non, rfl, th0, fun _ zs0 tp H1 hz0 s1 htp etp => ?_, fun z => by rw [pb0] at z; cases z⟩
  obtain ⟨zs, hz, esz, w1, w24, g1, g24⟩ := sides th0 pb0
  rw [hz0] at hz; cases hz
  have hz0m : zs0.headD .non ∈ zs0 := by cases zs0 with | nil => simp at g1 | cons z r => exact List.mem_cons_self
  refine ⟨_, rfl, p, rfl, ⟨_, SqL.of (s1 _ _ ep)⟩, ?_⟩
  refine for_list (xs := xs) (fun i σ H3 => Same H1 H3 ∧ (∀ (j : Nat) x, j < i → xs[j]? = some x → lenOf H x = ys0.length ∧ ∀ ys, rowOf H x = some ys → ∀ y ∈ ys, szOf H y = szOf H (ys0.headD .non)) ∧ ∃ v2 v3 : Option V, σ = [some (.ref p), some (.ref tp), v2, v3]) ⟨Same.refl _, (fun j x h => absurd h (Nat.not_lt_zero _)), none, none, rfl⟩ (fun i σ H3 _ q => SqL.of (q.1 _ _ (s1 _ _ ep))) ?_ ?_
  ·rintro i x σ H3 hxi ⟨s3, ok, v2, v3, rfl⟩
   have hxm := List.mem_of_getElem? hxi
   obtain ⟨l, ys, rfl, el, er, en, pp, bb, it⟩ := lines x hxm
   have s13 := s1.trans s3
   refine ⟨_, rfl, l, _, rfl, .inl (SqL.of (s13 _ _ el)), _, rfl, p, _, _, .ref l0, rfl, rfl, SqL.of (s13 _ _ ep), atI_nat (j := 0) (by rw [head_at h0, e0]), l0, _, rfl, .inl (SqL.of (s13 _ _ el0)), rfl, _, rfl, ?_⟩
   by_cases hl : ys.length = ys0.length
   rotate_left
   ·rw [decide_eq_false (fun z => hl (by injection z with z; omega))]
    exact iteT ⟨sz1, kN (fun z => hl (by have := (z.1 _ hxm).1; rw [en, en0] at this; exact this)) H3 s13⟩
   rw [hl, decide_eq_true rfl]
   refine iteF ?_
   refine ⟨_, rfl, l, rfl, ⟨_, SqL.of (s13 _ _ el)⟩, ?_⟩
   refine for_list (xs := ys) (fun j σ H4 => Same H3 H4 ∧ (∀ (j' : Nat) y, j' < j → ys[j']? = some y → szOf H y = szOf H (ys0.headD .non)) ∧ ∃ v3 : Option V, σ = [some (.ref p), some (.ref tp), some (.ref l), v3]) ⟨Same.refl _, (fun j x h => absurd h (Nat.not_lt_zero _)), _, rfl⟩ (fun j σ H4 _ q => SqL.of (q.1 _ _ (s13 _ _ el))) ?_ ?_
   ·rintro j y σ H4 hyj ⟨s4, ok4, v3, rfl⟩
    have hym := List.mem_of_getElem? hyj
    obtain ⟨ty, pby⟩ := it y hym
    have s14 := s13.trans s4
    refine ⟨_, rfl, _, rfl, y, rfl, ty.mono s14, fun _ zs tq H5 hz s5 htq etq => ?_, fun z => by rw [picB_mono ty s14, pby] at z; cases z⟩
    obtain ⟨zs', hz', esz', w1', w24', g1', g24'⟩ := sides ty pby
    rw [rowOf_mono ty.kd s14, hz'] at hz
    have hzz : zs' = zs := Option.some.inj hz
    subst hzz
    have hzm : zs'.headD .non ∈ zs' := by cases zs' with | nil => simp at g1' | cons z r => exact List.mem_cons_self
    rw [lenOf_mono (ty.it _ hz' _ hzm).kd s14] at etq
    refine ⟨tp, tq, lenOf H (zs0.headD .non), zs0.length, lenOf H (zs'.headD .non), zs'.length, rfl, s5 _ _ ((s3.trans s4) _ _ etp), etq, fun e => ?_, fun ne => kN (fun z => ne ?_) H5 (s14.trans s5)⟩
    ·refine ⟨s4.trans s5, fun j' y' hj hy' => ?_, _, rfl⟩
     by_cases q : j' < j
     ·exact ok4 j' y' q hy'
     ·have : j' = j := by omega
      subst this
      rw [hyj] at hy'; cases hy'
      rw [esz', esz, e.1, e.2]
    ·have := (z.1 _ hxm).2 ys er y hym
     rw [esz', esz] at this
     exact ⟨(congrArg Prod.fst this).symm, (congrArg Prod.snd this).symm⟩
   ·rintro σ H4 ⟨s4, ok4, v3, rfl⟩
    refine ⟨s3.trans s4, fun j x' hj hx' => ?_, _, _, rfl⟩
    by_cases q : j < i
    ·exact ok j x' q hx'
    ·have : j = i := by omega
     subst this
     rw [hxi] at hx'; cases hx'
     refine ⟨by rw [en, hl], fun ys' hy' y hym => ?_⟩
     rw [er] at hy'; cases hy'
     obtain ⟨k, hk⟩ := List.mem_iff_getElem?.mp hym
     exact ok4 k y (List.getElem?_eq_some_iff.mp hk).1 hk
  ·rintro σ H3 ⟨s3, ok, v2, v3, rfl⟩
   have s13 := s1.trans s3
   have like : likeT H xs (ys0.headD .non) := fun x hxm => by
    obtain ⟨k, hk⟩ := List.mem_iff_getElem?.mp hxm
    have := ok k x (List.getElem?_eq_some_iff.mp hk).1 hk
    exact ⟨by rw [this.1, en0], this.2⟩
   have n1000 := t.len xs hx
   have etp3 := s3 _ _ etp
   have eW : ((lenOf H (zs0.headD .non) : Nat) : Int) * (ys0.length : Int) = ((lenOf H (zs0.headD .non) * ys0.length : Nat) : Int) := by push_cast; rfl
   have eH : (zs0.length : Int) * (xs.length : Int) = ((zs0.length * xs.length : Nat) : Int) := by push_cast; rfl
   have pW : 1 ≤ lenOf H (zs0.headD .non) * ys0.length := Nat.mul_pos w1 p0
   have pH : 1 ≤ zs0.length * xs.length := Nat.mul_pos g1 h0
   have fit : fitsT H xs (ys0.headD .non) ↔ (lenOf H (zs0.headD .non) * ys0.length ≤ 24 ∧ zs0.length * xs.length ≤ 24) := by
    unfold fitsT; rw [esz, en0]
   refine ⟨_, rfl, tp, _, _, _, rfl, rfl, SqT.of etp3, atI_nat (j := 0) rfl, _, rfl, p, _, _, .ref l0, rfl, rfl, SqL.of (s13 _ _ ep), atI_nat (j := 0) (by rw [head_at h0, e0]), l0, _, rfl, .inl (SqL.of (s13 _ _ el0)), _, _, rfl, rfl, .inl ⟨by omega, by omega⟩, _, rfl, tp, _, _, _, rfl, rfl, SqT.of etp3, atI_nat (j := 1) rfl, _, rfl, p, _, rfl, .inl (SqL.of (s13 _ _ ep)), _, _, rfl, rfl, .inl ⟨by omega, by omega⟩, .int ((lenOf H (zs0.headD .non) * ys0.length : Nat) : Int), .int ((zs0.length * xs.length : Nat) : Int), (by rw [← eW, ← eH]; rfl), .int _, .int _, fun z => ?_, fun z => kN (fun q => ?_) H3 s13⟩
   ·rw [Bool.and_eq_true, side_iff pW, side_iff pH] at z
    exact kY ⟨like, fit.mpr z⟩ H3 s13
   ·have q := fit.mp q.2
    rw [(side_iff pW).mpr q.1, (side_iff pH).mpr q.2] at z
    cases z
end
end K13
set_option Elab.async false
set_option linter.all false
set_option maxRecDepth 100000
set_option maxHeartbeats 1600000
namespace K13
open PySem L2 M4
theorem PicV.ext {H H3 : Hp} {S D : Addr} {rs qs : List Addr} {A B : List (List V)} (pic : PicV H S rs A) (s : Same H H3) (pD : PicV H3 D qs B) (fr : Fresh H qs) : PicV (upd H3 S (.lst (rs.map V.ref ++ qs.map V.ref))) S (rs ++ qs) (A ++ B) := by
 have nS : S ∉ qs := fun z => by
  have := fr S z
  rw [pic.top] at this; cases this
 refine ⟨by rw [upd_same, List.map_append], Paired.app (Paired.mapI pic.row fun x r hx e => ?_) (Paired.mapI pD.row fun x r hx e => ?_), ?_, fun z => ?_⟩
 ·rw [upd_ne (fun z => pic.out (by rw [← z]; exact hx))]; exact s _ _ e
 ·rw [upd_ne (fun z => nS (by rw [← z]; exact hx))]; exact e
 ·rw [List.nodup_append]
  exact ⟨pic.nd, pD.nd, fun x hx y hy e => by
   obtain ⟨r, _, e1⟩ := pic.mem hx
   have := fr y hy
   rw [← e, e1] at this; cases this⟩
 ·rcases List.mem_append.mp z with h | h
  ·exact pic.out h
  ·exact nS h
theorem lf_mono {K : W.Frag} {H H1 : Hp} {p : Addr} {xs : List V} (ep : H p = some (.lst xs)) (t : ThT K H (.ref p)) (tb : tilesB H (.ref p) = true) (s : Same H H1) (z : likeT H1 xs (first0 H1 xs) ∧ fitsT H1 xs (first0 H1 xs)) : likeT H xs (first0 H xs) ∧ fitsT H xs (first0 H xs) := by
 have hx : rowOf H (.ref p) = some xs := rowOf_lst ep
 have tb' : decide (0 < xs.length) = true ∧ xs.all (lineB H) = true := by
  unfold tilesB at tb; rw [hx] at tb; exact Bool.and_eq_true_iff.mp tb
 have h0 : 0 < xs.length := of_decide_eq_true tb'.1
 have hm0 : xs.headD .non ∈ xs := by cases xs with | nil => simp at h0 | cons z r => exact List.mem_cons_self
 have tl := t.it xs hx _ hm0
 have er := rowOf_mono tl.kd s
 have ef : first0 H1 xs = first0 H xs := by unfold first0; rw [er]
 have eh := lenOf_mono tl.kd s
 have tf : Th K H (first0 H xs) := by
  have q := List.all_eq_true.mp tb'.2 _ hm0
  unfold first0
  unfold lineB at q
  cases hy : rowOf H (xs.headD .non) with
  | none => rw [hy] at q; cases q
  | some ys =>
   rw [hy] at q
   have p0 := of_decide_eq_true (Bool.and_eq_true_iff.mp q).1
   exact tl.it ys hy _ (by cases ys with | nil => simp at p0 | cons z r => exact List.mem_cons_self)
 have es := szOf_mono tf s
 rw [ef] at z
 refine ⟨fun x hxm => ?_, ?_⟩
 ·have tx := t.it xs hx x hxm
  have q := z.1 x hxm
  rw [lenOf_mono tx.kd s, eh] at q
  refine ⟨q.1, fun ys hy y hym => ?_⟩
  have := q.2 ys (by rw [rowOf_mono tx.kd s]; exact hy) y hym
  rw [szOf_mono (tx.it ys hy y hym) s, es] at this
  exact this
 ·have q := z.2
  unfold fitsT at q ⊢
  rw [es, eh] at q
  exact q
noncomputable def rowT (Rs : List (List (List Int))) (y : Nat) : List Int := (Rs.map fun R => R.getD y []).flatten
noncomputable def lineT (Rs : List (List (List Int))) (d : Nat) : List (List Int) := (List.range d).map (rowT Rs)
noncomputable def joinF (G : List (List (List (List Int)))) (d : Nat) : List (List Int) := (G.map fun Rs => lineT Rs d).flatten
structure GT (G : List (List (List (List Int)))) (n c d : Nat) : Prop where
 ne : 1 ≤ G.length
 n1 : 1 ≤ n
 line : ∀ Rs ∈ G, Rs.length = n ∧ ∀ R ∈ Rs, Good R c ∧ R.length = d
 w : c * n ≤ 24
 h : d * G.length ≤ 24
 d1 : 1 ≤ d
 c1 : 1 ≤ c
theorem rowT_len {Rs : List (List (List Int))} {c d y : Nat} (h : ∀ R ∈ Rs, Good R c ∧ R.length = d) (hy : y < d) : (rowT Rs y).length = c * Rs.length ∧ ∀ x ∈ rowT Rs y, 0 ≤ x ∧ x ≤ 15 := by
 induction Rs with
 | nil => exact ⟨by simp [rowT], fun x hx => by simp [rowT] at hx⟩
 | cons R r ih =>
  have a := ih fun R' h' => h R' (List.mem_cons_of_mem _ h')
  obtain ⟨g, hl⟩ := h R List.mem_cons_self
  have b := row_inf g (show y < R.length by omega)
  have e : rowT (R :: r) y = R.getD y [] ++ rowT r y := rfl
  rw [e]
  refine ⟨by rw [List.length_append, a.1, b.1, List.length_cons, Nat.mul_add, Nat.mul_one]; omega, fun x hx => ?_⟩
  rcases List.mem_append.mp hx with h | h
  ·exact b.2 x h
  ·exact a.2 x h
theorem joinF_rows {G : List (List (List (List Int)))} {n c d : Nat} (h : ∀ Rs ∈ G, Rs.length = n ∧ ∀ R ∈ Rs, Good R c ∧ R.length = d) : (joinF G d).length = d * G.length ∧ ∀ r ∈ joinF G d, r.length = c * n ∧ ∀ x ∈ r, 0 ≤ x ∧ x ≤ 15 := by
 induction G with
 | nil => exact ⟨by simp [joinF], fun r hr => by simp [joinF] at hr⟩
 | cons Rs r ih =>
  have a := ih fun R' h' => h R' (List.mem_cons_of_mem _ h')
  have b := h Rs List.mem_cons_self
  have e : joinF (Rs :: r) d = lineT Rs d ++ joinF r d := rfl
  rw [e]
  refine ⟨by rw [List.length_append, a.1, List.length_cons, Nat.mul_add, Nat.mul_one]; simp [lineT]; omega, fun q hq => ?_⟩
  rcases List.mem_append.mp hq with z | z
  ·obtain ⟨y, hy, rfl⟩ := List.mem_map.mp z
   have := rowT_len b.2 (List.mem_range.mp hy)
   rw [b.1] at this
   exact this
  ·exact a.2 q z
theorem GT.line_le {G : List (List (List (List Int)))} {n c d : Nat} (g : GT G n c d) : n ≤ 24 ∧ G.length ≤ 24 ∧ c ≤ 24 ∧ d ≤ 24 :=
 ⟨Nat.le_trans (Nat.le_mul_of_pos_left n g.c1) g.w, Nat.le_trans (Nat.le_mul_of_pos_left _ g.d1) g.h, Nat.le_trans (Nat.le_mul_of_pos_right c g.n1) g.w, Nat.le_trans (Nat.le_mul_of_pos_right d g.ne) g.h⟩
noncomputable def spThrough (K : W.Frag) : Sp := fun vs H Q _ => ∃ (l : Addr) (es : List (Addr × List Addr)) (Rs : List (List (List Int))) (c d y : Nat), vs = [.ref l, .int (y : Int)] ∧ LineV H l es Rs ∧ (∀ R ∈ Rs, Good R c ∧ R.length = d) ∧ y < d ∧ c * Rs.length ≤ 24 ∧ 1 ≤ c ∧ ∀ q H', Same H H' → H q = none → H' q = some (.lst ((rowT Rs y).map V.int)) → Q (.ref q) H'
noncomputable def spFrom (K : W.Frag) (cBP cBS : Addr) : Sp := fun vs H Q E => ∃ v, vs = [v] ∧
 ((ThT K H v ∧ tilesB H v = false ∧ ∀ H', Same H H' → E (.ref cBP) none H') ∨
  (∃ p xs, v = .ref p ∧ H p = some (.lst xs) ∧ ThT K H v ∧ tilesB H v = true ∧ ¬ (likeT H xs (first0 H xs) ∧ fitsT H xs (first0 H xs)) ∧ ∀ H', Same H H' → E (.ref cBS) none H') ∨
  (∃ p ls G n c d, v = .ref p ∧ TilesV H p ls G ∧ GT G n c d ∧ NewP H Q (joinF G d)))
section
variable {K : W.Frag} {H : Hp}
theorem LineV.mem {l : Addr} {es : List (Addr × List Addr)} {Rs : List (List (List Int))} (v : LineV H l es Rs) {x : V} (hx : x ∈ es.map fun e => V.ref e.1) : ∃ (e : Addr × List Addr) (R : List (List Int)), x = .ref e.1 ∧ R ∈ Rs ∧ PicV H e.1 e.2 (ir R) := by
 obtain ⟨e, he, rfl⟩ := List.mem_map.mp hx
 obtain ⟨i, hi⟩ := List.mem_iff_getElem?.mp he
 have hl : i < Rs.length := by rw [← v.len]; exact (List.getElem?_eq_some_iff.mp hi).1
 exact ⟨e, Rs[i], rfl, List.getElem_mem hl, v.at_ i e _ hi (List.getElem?_eq_getElem hl)⟩
theorem LineV.th {l : Addr} {es : List (Addr × List Addr)} {Rs : List (List (List Int))} {c d : Nat} (v : LineV H l es Rs) (g : ∀ R ∈ Rs, Good R c ∧ R.length = d) (hl : Rs.length ≤ 1000) (h1 : 1 ≤ Rs.length) : ThL K H (.ref l) ∧ lineB H (.ref l) = true := by
 have hr := rowOf_lst v.top
 refine ⟨⟨.lst v.top, fun ys h => ?_, fun ys h y hy => ?_⟩, ?_⟩
 ·rw [hr] at h; cases h; rw [List.length_map, v.len]; exact hl
 ·rw [hr] at h; cases h
  obtain ⟨e, R, rfl, hR, p⟩ := v.mem hy
  exact (th_good p (g R hR).1).1
 ·unfold lineB
  rw [hr]
  refine Bool.and_eq_true_iff.mpr ⟨decide_eq_true (by rw [List.length_map, v.len]; exact h1), List.all_eq_true.mpr fun y hy => ?_⟩
  obtain ⟨e, R, rfl, hR, p⟩ := v.mem hy
  exact picB_good p (g R hR).1
theorem sz_good {a : Addr} {ps : List Addr} {R : List (List Int)} {wd : Nat} (p : PicV H a ps (ir R)) (g : Good R wd) : szOf H (.ref a) = (wd, R.length) := by
 unfold szOf
 rw [rowOf_lst p.top]
 dsimp only
 rw [head_good p g, lenF p]
theorem TilesV.mem {p : Addr} {ls : List (Addr × List (Addr × List Addr))} {G : List (List (List (List Int)))} (v : TilesV H p ls G) {x : V} (hx : x ∈ ls.map fun l => V.ref l.1) : ∃ (l : Addr × List (Addr × List Addr)) (Rs : List (List (List Int))), x = .ref l.1 ∧ Rs ∈ G ∧ LineV H l.1 l.2 Rs := by
 obtain ⟨e, he, rfl⟩ := List.mem_map.mp hx
 obtain ⟨i, hi⟩ := List.mem_iff_getElem?.mp he
 have hl : i < G.length := by rw [← v.len]; exact (List.getElem?_eq_some_iff.mp hi).1
 exact ⟨e, G[i], rfl, List.getElem_mem hl, v.at_ i e _ hi (List.getElem?_eq_getElem hl)⟩
theorem TilesV.all {p : Addr} {ls : List (Addr × List (Addr × List Addr))} {G : List (List (List (List Int)))} {n c d : Nat} (v : TilesV H p ls G) (g : GT G n c d) :
  ThT K H (.ref p) ∧ tilesB H (.ref p) = true ∧ likeT H (ls.map fun l => V.ref l.1) (first0 H (ls.map fun l => V.ref l.1)) ∧ fitsT H (ls.map fun l => V.ref l.1) (first0 H (ls.map fun l => V.ref l.1)) := by
 have hr := rowOf_lst v.top
 obtain ⟨n24, G24, _, _⟩ := g.line_le
 have lth : ∀ x ∈ ls.map (fun l => V.ref l.1), ThL K H x ∧ lineB H x = true := fun x hx => by
  obtain ⟨l, Rs, rfl, hRs, lv⟩ := v.mem hx
  have := g.line Rs hRs
  exact lv.th this.2 (by omega) (by rw [this.1]; exact g.n1)
 have llen : ∀ x ∈ ls.map (fun l => V.ref l.1), lenOf H x = n := fun x hx => by
  obtain ⟨l, Rs, rfl, hRs, lv⟩ := v.mem hx
  rw [lenOf_lst lv.top, List.length_map, lv.len, (g.line Rs hRs).1]
 have lsz : ∀ x ∈ ls.map (fun l => V.ref l.1), ∀ ys, rowOf H x = some ys → ∀ y ∈ ys, szOf H y = (c, d) := fun x hx ys hy y hym => by
  obtain ⟨l, Rs, rfl, hRs, lv⟩ := v.mem hx
  rw [rowOf_lst lv.top] at hy; cases hy
  obtain ⟨e, R, rfl, hR, p⟩ := lv.mem hym
  obtain ⟨gR, hR2⟩ := (g.line Rs hRs).2 R hR
  rw [sz_good p gR, hR2]
 have h0 : 0 < (ls.map fun l => V.ref l.1).length := by rw [List.length_map, v.len]; exact g.ne
 have hm0 : (ls.map fun l => V.ref l.1).headD .non ∈ ls.map fun l => V.ref l.1 := by
  generalize (ls.map fun l => V.ref l.1) = xs at h0
  cases xs with | nil => simp at h0 | cons z r => exact List.mem_cons_self
 have f0 : szOf H (first0 H (ls.map fun l => V.ref l.1)) = (c, d) := by
  unfold first0
  obtain ⟨l, Rs, e, hRs, lv⟩ := v.mem hm0
  have hrl : rowOf H ((ls.map fun l => V.ref l.1).headD .non) = some (l.2.map fun e => V.ref e.1) := by rw [e]; exact rowOf_lst lv.top
  rw [hrl]
  refine lsz _ hm0 _ hrl _ ?_
  have : 0 < (l.2.map fun e => V.ref e.1).length := by rw [List.length_map, lv.len, (g.line Rs hRs).1]; exact g.n1
  generalize (l.2.map fun e => V.ref e.1) = ys at this
  cases ys with | nil => simp at this | cons z r => exact List.mem_cons_self
 refine ⟨⟨.lst v.top, fun ys h => ?_, fun ys h y hy => ?_⟩, ?_, fun x hx => ⟨by rw [llen x hx, llen _ hm0], fun ys hy y hym => by rw [lsz x hx ys hy y hym, f0]⟩, ?_⟩
 ·rw [hr] at h; cases h; rw [List.length_map, v.len]; omega
 ·rw [hr] at h; cases h; exact (lth y hy).1
 ·unfold tilesB
  rw [hr]
  exact Bool.and_eq_true_iff.mpr ⟨decide_eq_true h0, List.all_eq_true.mpr fun y hy => (lth y hy).2⟩
 ·unfold fitsT
  rw [f0, llen _ hm0, List.length_map, v.len]
  exact ⟨g.w, g.h⟩
end
section
variable {P : Program} {w : World} {K : W.Frag} {mg : Str → Option Value} {base : Heap} {cFE cBP cBS : Addr} {tS tC : Tok}
theorem sc_row_through_tiles : FnScope ["line", "y", "cells", "tile"] ["line", "y"] (defScope s_row_through_tiles) := ⟨rfl, rfl, rfl, by decide +kernel, rfl, by decide +kernel, by decide +kernel⟩
theorem ok_row_through_tiles {f : Addr} {fd : FuncData} (F : FunD K "row_through_tiles" "row_through_tiles" s_row_through_tiles .none f fd) (T : Txt K mg cFE cBP cBS tS tC) : FnOk P w K mg base CX0 1 f fd ["line", "y"] (spThrough K) := by
 refine F.ok sc_row_through_tiles (fun vs H Q E h => ?_) (fun cdv A outer s H vs Q E hr h => ?_)
 ·obtain ⟨l, es, Rs, c, d, y, rfl, _⟩ := h; rfl
 ·obtain ⟨l, es, Rs, c, d, y, rfl, lv, g, hy, hw, c1, k⟩ := h
  refine ⟨_, (pss_cons (ps_set (i := 2) sc_row_through_tiles.nd rfl (by first | exact Or.inl rfl | exact Or.inr rfl) (pe_lst pa_nil))
    (pss_cons (ps_for PassesOwn.never rfl (piK K rfl (pv 0)) (pg_name (i := 3) sc_row_through_tiles.nd rfl (by first | exact Or.inl rfl | exact Or.inr rfl)) (pss_one (ps_expr (pe_bm PySem.F.plainAttrs_list PySem.F.slot_list_extend PySem.F.type_list_extend mt_extend (pv 2) (pa_cons (pe_ix (ixK K rfl) (pv 3) (pv 1) (fun _ _ => rfl)) pa_nil)))))
    (pss_one (ps_ret (pv 2))))), ?_⟩
  refine ⟨Nat.zero_le _, fun S hS => ?_⟩
  have sS := same_new (o := HO.lst []) hS
  refine ⟨_, rfl, l, rfl, ⟨_, SqL.of (sS _ _ lv.top)⟩, ?_⟩
  refine for_list (xs := es.map fun e => V.ref e.1) (fun i σ H3 => Same H H3 ∧ H3 S = some (.lst ((rowT (Rs.take i) y).map V.int)) ∧ ∃ v3 : Option V, σ = [some (.ref l), some (.int (y : Int)), some (.ref S), v3]) ⟨sS, by rw [upd_same]; rfl, none, rfl⟩ (fun i σ H3 _ q => SqL.of (q.1 _ _ lv.top)) ?_ ?_
  ·rintro i x σ H3 hx ⟨s3, e3, v3, rfl⟩
   rw [List.getElem?_map] at hx
   cases he : es[i]? with
   | none => rw [he] at hx; cases hx
   | some e =>
    rw [he] at hx; cases hx
    have hi : i < Rs.length := by rw [← lv.len]; exact (List.getElem?_eq_some_iff.mp he).1
    have pe := (lv.at_ i e _ he (List.getElem?_eq_getElem hi)).mono s3
    obtain ⟨gR, hR⟩ := g _ (List.getElem_mem hi)
    obtain ⟨q, q1, q2, lr⟩ := row_getD pe gR (show y < (Rs[i]).length by omega)
    have tk : rowT (Rs.take (i + 1)) y = rowT (Rs.take i) y ++ (Rs[i]).getD y [] := by
     unfold rowT
     rw [List.take_succ_eq_append_getElem hi, List.map_append, List.flatten_append]
     simp
    have lenT := (rowT_len (Rs := Rs.take i) (fun R hR => g R (List.mem_of_mem_take hR)) hy).1
    refine ⟨_, rfl, .inl ⟨rfl, _, SqL.of e3⟩, _, rfl, _, rfl, e.1, _, _, .ref q, rfl, rfl, SqL.of pe.top, atI_nat q1, S, q, _, _, rfl, rfl, e3, q2, ?_, same_upd s3 hS, ?_, _, rfl⟩
    ·rw [List.length_map, List.length_map, lenT, lr, List.length_take, Nat.min_eq_left (by omega)]
     have : c * i + c ≤ c * Rs.length := by
      have := Nat.mul_le_mul_left c (show i + 1 ≤ Rs.length by omega)
      rw [Nat.mul_add, Nat.mul_one] at this
      exact this
     exact Nat.le_trans (Nat.le_trans this hw) (by decide)
    ·rw [upd_same, tk, List.map_append, getD_row (show y < (Rs[i]).length by omega)]
  ·rintro σ H3 ⟨s3, e3, v3, rfl⟩
   rw [List.length_map, lv.len, List.take_length] at e3
   exact ⟨_, rfl, k S H3 s3 hS e3⟩
theorem sc_from_tiles : FnScope ["tiles", "rows", "line"] ["tiles"] (defScope s_from_tiles) := ⟨rfl, rfl, rfl, by decide +kernel, rfl, by decide +kernel, by decide +kernel⟩
theorem ok_from_tiles {f : Addr} {fd : FuncData} (F : FunD K "from_tiles" "from_tiles" s_from_tiles .none f fd) (T : Txt K mg cFE cBP cBS tS tC) (g_need_tiles : DefX P w K mg base 8 "need_tiles" ["tiles"] [] (spNeedT K cBP)) (g_need_like_tiles : DefX P w K mg base 9 "need_like_tiles" ["tiles"] [] (spLikeT K cBS)) (g_row_through_tiles : Def P w K mg base 1 "row_through_tiles" ["line", "y"] [] (spThrough K)) : FnOk P w K mg base (CX1 P w) 10 f fd ["tiles"] (spFrom K cBP cBS) := by
 refine F.okX sc_from_tiles (fun vs H Q E h => ?_) (fun cdv A outer s H vs Q E hr h => ?_)
 ·obtain ⟨v, rfl, _⟩ := h; rfl
 ·obtain ⟨v, rfl, h⟩ := h
  refine ⟨_, (pss_cons (ps_expr (pe_callX g_need_tiles (hr.mono (by decide)) passes1R rfl (pa_cons (pv 0) pa_nil)))
    (pss_cons (ps_expr (pe_callX g_need_like_tiles (hr.mono (by decide)) passes1R rfl (pa_cons (pv 0) pa_nil)))
    (pss_cons (ps_set (i := 1) sc_from_tiles.nd rfl (by first | exact Or.inl rfl | exact Or.inr rfl) (pe_lst pa_nil))
    (pss_cons (PS.nox (ps_for PassesOwn.never rfl (piK K rfl (pv 0)) (pg_name (i := 2) sc_from_tiles.nd rfl (by first | exact Or.inl rfl | exact Or.inr rfl)) (pss_one (ps_expr (pe_bm PySem.F.plainAttrs_list PySem.F.slot_list_extend PySem.F.type_list_extend mt_extend (pv 1) (pa_cons (pe_comp (N := ["y", "line"]) (src := [none, some 2]) rfl ⟨rfl, rfl, rfl, rfl, rfl, by decide +kernel⟩ (pi_range1 rfl T.range (pa_cons (pe_callB (lenK K rfl) rfl T.len PySem.boot_len (pa_cons (pe_ix (ixK K rfl) (pv 2) pe_int (fun _ _ => rfl)) pa_nil)) pa_nil)) (fun s H C fp => pg_name (i := 0) (show (["y", "line"] : List Str).Nodup by decide +kernel) rfl (by first | exact Or.inl rfl | exact Or.inr rfl)) (fun s H C fp => pts_nil) (fun s H C fp => (pe_callD g_row_through_tiles (hr.mono (by decide)) rfl (pa_cons (pv 1) (pa_cons (pv 0) pa_nil))))) pa_nil))))))
    (pss_one (ps_ret (pv 1))))))), ?_⟩
  rcases h with ⟨th, hb, kB⟩ | ⟨p, xs, rfl, ep, th, hb, nl, kS⟩ | ⟨p, ls, G, n, c, d, rfl, tv, g, k⟩
  ·exact ⟨_, rfl, v, rfl, th, fun z => (by rw [hb] at z; cases z), fun _ => kB⟩
  ·refine ⟨_, rfl, .ref p, rfl, th, fun _ H1 s1 => ?_, fun z => (by rw [hb] at z; cases z)⟩
   exact ⟨_, rfl, p, xs, rfl, s1 _ _ ep, th.mono s1, by rw [tilesB_mono th s1]; exact hb, fun z => absurd (lf_mono ep th hb s1 z) nl, fun _ H2 s2 => kS H2 (s1.trans s2)⟩
  ·obtain ⟨th, hb, lk, ft⟩ := tv.all (K := K) g
   refine ⟨_, rfl, .ref p, rfl, th, fun _ H1 s1 => ?_, fun z => (by rw [hb] at z; cases z)⟩
   have tv1 := tv.mono s1
   obtain ⟨th1, hb1, lk1, ft1⟩ := tv1.all (K := K) g
   refine ⟨_, rfl, p, _, rfl, tv1.top, th1, hb1, fun _ H2 s2 => ?_, fun z => absurd ⟨lk1, ft1⟩ z⟩
   have tv2 := tv1.mono s2
   obtain ⟨n24, G24, c24, d24⟩ := g.line_le
   have G0 := g.ne
   refine ⟨Nat.zero_le _, fun S hS => ?_⟩
   have sS := same_new (o := HO.lst []) hS
   refine ⟨_, rfl, p, rfl, ⟨_, SqL.of (sS _ _ tv2.top)⟩, ?_⟩
   refine for_list (xs := ls.map fun l => V.ref l.1) (fun i σ H3 => Same H2 H3 ∧ ∃ (rs : List Addr) (v2 : Option V), Fresh H2 rs ∧ PicV H3 S rs (ir (joinF (G.take i) d)) ∧ σ = [some (.ref p), some (.ref S), v2]) ⟨sS, [], none, (fun q h => nomatch h), ⟨by rw [upd_same]; rfl, .nil, List.nodup_nil, by simp⟩, rfl⟩ (fun i σ H3 _ q => SqL.of (q.1 _ _ tv2.top)) ?_ ?_
   ·rintro i x σ H3 hx ⟨s3, rs, v2, fr, picS, rfl⟩
    rw [List.getElem?_map] at hx
    cases he : ls[i]? with
    | none => rw [he] at hx; cases hx
    | some l =>
     rw [he] at hx; cases hx
     have hi : i < G.length := by rw [← tv2.len]; exact (List.getElem?_eq_some_iff.mp he).1
     obtain ⟨Rs, hRs⟩ : ∃ Rs, G[i]? = some Rs := ⟨_, List.getElem?_eq_getElem hi⟩
     have hRm := List.mem_of_getElem? hRs
     obtain ⟨ln, lg⟩ := g.line Rs hRm
     have lv := (tv2.at_ i l Rs he hRs).mono s3
     have n1 := g.n1
     have h0 : 0 < Rs.length := by omega
     obtain ⟨e0, he0⟩ : ∃ e, l.2[0]? = some e := ⟨_, List.getElem?_eq_getElem (show 0 < l.2.length by rw [lv.len]; exact h0)⟩
     have p0 := lv.at_ 0 e0 _ he0 (List.getElem?_eq_getElem h0)
     have hd0 : (Rs[0]).length = d := (lg _ (List.getElem_mem h0)).2
     have len3 : (joinF (G.take i) d).length = d * i := by
      have := (joinF_rows (G := G.take i) fun R hR => g.line R (List.mem_of_mem_take hR)).1
      rw [List.length_take, Nat.min_eq_left (by omega)] at this
      exact this
     refine ⟨_, rfl, .inl ⟨rfl, _, SqL.of picS.top⟩, ?_⟩
     refine ⟨_, rfl, l.1, _, _, .ref e0.1, rfl, rfl, SqL.of lv.top, atI_nat (j := 0) (by rw [List.getElem?_map, he0]; rfl), e0.1, _, rfl, .inl (SqL.of p0.top), (d : Int), (by rw [lenF p0, hd0]), by omega, by omega, fun D hD => ?_⟩
     rw [Int.toNat_natCast]
     refine comp_rows (k := 0) (fun v => match v with | .int y => (rowT Rs y.toNat).map V.int | _ => []) src_range (by simp; exact Nat.le_trans d24 (by decide)) hD (fun x hx H' Q' sm kk => ?_) fun qs H5 s5 frq picD => ?_
     ·obtain ⟨y, hy, rfl⟩ := List.mem_map.mp hx
      have hy := List.mem_range.mp hy
      refine ⟨_, rfl, _, rfl, l.1, l.2, Rs, c, d, y, (by rw [Int.zero_add]; rfl), lv.mono sm, lg, hy, by rw [ln]; exact g.w, g.c1, fun q H9 s9 hq eq => kk q H9 s9 hq ?_⟩
      rw [eq]
      show _ = some (HO.lst ((rowT Rs ((0 : Int) + (y : Int)).toNat).map V.int))
      rw [show ((0 : Int) + (y : Int)).toNat = y by omega]
     have e : ((List.range d).map fun (i : Nat) => V.int ((0 : Int) + (i : Int))).map (fun v => match v with | .int y => (rowT Rs y.toNat).map V.int | _ => []) = ir (lineT Rs d) := by
      unfold ir lineT
      rw [List.map_map, List.map_map]
      refine List.map_congr_left fun y _ => ?_
      show (rowT Rs ((0 : Int) + (y : Int)).toNat).map V.int = _
      rw [show ((0 : Int) + (y : Int)).toNat = y by omega]
      rfl
     rw [e] at picD
     have tk : joinF (G.take (i + 1)) d = joinF (G.take i) d ++ lineT Rs d := by
      unfold joinF
      rw [List.take_succ, hRs]
      simp
     refine ⟨S, D, _, _, rfl, rfl, s5 _ _ picS.top, picD.top, ?_, same_upd (s3.trans s5) hS, rs ++ qs, _, fun q hq => ?_, ?_, rfl⟩
     ·rw [lenF picS, lenF picD, len3]
      have : d * i + d ≤ d * G.length := by
       have := Nat.mul_le_mul_left d (show i + 1 ≤ G.length by omega)
       rw [Nat.mul_add, Nat.mul_one] at this
       exact this
      have ll : (lineT Rs d).length = d := by simp [lineT]
      rw [ll]
      exact Nat.le_trans (Nat.le_trans this g.h) (by decide)
     ·rcases List.mem_append.mp hq with h | h
      ·exact fr q h
      ·exact s3.free (frq q h)
     ·rw [tk, ir_app]
      exact PicV.ext picS s5 picD frq
   ·rintro σ H3 ⟨s3, rs, v2, fr, picS, rfl⟩
    rw [List.length_map, tv2.len, List.take_length] at picS
    exact ⟨_, rfl, k S rs H3 (s1.trans (s2.trans s3)) (s1.free (s2.free hS)) (fun q hq => s1.free (s2.free (fr q hq))) picS⟩
end
end K13
set_option Elab.async false
set_option linter.all false
set_option maxRecDepth 100000
set_option maxHeartbeats 1600000
namespace K13
open PySem L2 M4
noncomputable def NT (H H' : Hp) : Prop := ∀ b o, (∀ ps, o ≠ .tbl ps) → H b = some o → H' b = some o
section
variable {K : W.Frag} {H H' : Hp}
theorem NT.lst {a : Addr} {xs : List V} (s : NT H H') (e : H a = some (.lst xs)) : H' a = some (.lst xs) := s _ _ (fun _ z => by cases z) e
theorem NT.tup {a : Addr} {xs : List V} (s : NT H H') (e : H a = some (.tup xs)) : H' a = some (.tup xs) := s _ _ (fun _ z => by cases z) e
theorem NT.sq {a : Addr} {xs : List V} (s : NT H H') (h : SqL K H a xs) : SqL K H' a xs := by
 rcases h with (h | ⟨o, h⟩) | h
 ·exact .inl (.inl (s.lst h))
 ·exact .inl (.inr ⟨o, s _ _ (fun _ z => by cases z) h⟩)
 ·exact .inr h
theorem NT.pic {a : Addr} {ps : List Addr} {R : List (List V)} (s : NT H H') (p : PicV H a ps R) : PicV H' a ps R := ⟨s.lst p.top, Paired.mapI p.row fun _ _ _ e => s.lst e, p.nd, p.out⟩
end
section
variable {K : W.Frag} {H H' : Hp} {x : V}
theorem NT.kd (s : NT H H') (k : Kd K H x) : Kd K H' x := by
 cases k with
 | non => exact .non
 | bl b => exact .bl b
 | int i => exact .int i
 | str y => exact .str y
 | lst e => exact .lst (s.lst e)
 | tup e => exact .tup (s.tup e)
 | dict e => exact .dict (s _ _ (fun _ z => by unfold DictO at z; cases z) e)
theorem NT.rowOf (s : NT H H') (k : Kd K H x) : rowOf H' x = rowOf H x := by
 cases k with
 | lst e => rw [rowOf_lst e, rowOf_lst (s.lst e)]
 | tup e => simp only [K13.rowOf, e, s.tup e]
 | dict e =>
  have e2 := s _ _ (fun _ z => by unfold DictO at z; cases z) e
  simp only [K13.rowOf, e, e2, DictO]
 | _ => rfl
theorem NT.rw (s : NT H H') (r : Rw K H x) : Rw K H' x := by
 have e := s.rowOf r.kd
 exact ⟨s.kd r.kd, fun ys h => r.len ys (by rw [← e]; exact h), fun ys h y hy => s.kd (r.it ys (by rw [← e]; exact h) y hy)⟩
theorem NT.th (s : NT H H') (t : Th K H x) : Th K H' x := by
 have e := s.rowOf t.kd
 exact ⟨s.kd t.kd, fun ys h => t.len ys (by rw [← e]; exact h), fun ys h y hy => s.rw (t.it ys (by rw [← e]; exact h) y hy)⟩
theorem NT.picB (s : NT H H') (t : Th K H x) : picB H' x = picB H x := by
 have e := s.rowOf t.kd
 unfold K13.picB
 rw [e]
 cases h : K13.rowOf H x with
 | none => rfl
 | some xs =>
  have q : ∀ y ∈ xs, K13.rowOf H' y = K13.rowOf H y := fun y hy => s.rowOf (t.it xs h y hy).kd
  have q1 : ∀ y ∈ xs, rowQ H' y = rowQ H y := fun y hy => by unfold rowQ; rw [q y hy]
  have q2 : ∀ y ∈ xs, lenOf H' y = lenOf H y := fun y hy => by unfold lenOf; rw [q y hy]
  dsimp only
  cases xs with
  | nil => rfl
  | cons z r =>
   have h1 : (z :: r).all (rowQ H') = (z :: r).all (rowQ H) := by
    rw [Bool.eq_iff_iff, List.all_eq_true, List.all_eq_true]
    exact ⟨fun hh y hy => by rw [← q1 y hy]; exact hh y hy, fun hh y hy => by rw [q1 y hy]; exact hh y hy⟩
   have h2 : ((z :: r).all fun x => decide (lenOf H' x = lenOf H' ((z :: r).headD .non))) = (z :: r).all fun x => decide (lenOf H x = lenOf H ((z :: r).headD .non)) := by
    rw [Bool.eq_iff_iff, List.all_eq_true, List.all_eq_true]
    have hz : lenOf H' ((z :: r).headD .non) = lenOf H ((z :: r).headD .non) := q2 z List.mem_cons_self
    exact ⟨fun hh y hy => by have := hh y hy; rw [hz, q2 y hy] at this; exact this, fun hh y hy => by rw [hz, q2 y hy]; exact hh y hy⟩
   rw [h1, h2]
end
noncomputable def small (v : V) : Prop := ∀ i, v = .int i → i < 2 ^ 100
noncomputable def spStep (K : W.Frag) : Sp := fun vs H Q _ => ∃ c : Int, vs = [.int c] ∧ ∀ v H', Same H H' → Kd K H' v → small v → Q v H'
theorem cut_row {r : List Int} {l c : Nat} (h : l + c ≤ r.length) : (r.drop l).take c = (List.range c).map fun x => r.getD (l + x) 0 := by
 refine List.ext_getElem ?_ fun x b1 b2 => ?_
 ·simp only [List.length_map, List.length_take, List.length_drop, List.length_range]; omega
 ·simp only [List.length_map, List.length_range] at b2
  simp only [List.getElem_map, List.getElem_take, List.getElem_drop, List.getElem_range]
  have : l + x < r.length := by omega
  simp [List.getD, this]
noncomputable def spOther (K : W.Frag) : Sp := fun vs H Q _ => ∃ (a : Addr) (ns : List Int) (p : Addr) (ps : List Addr) (R : List (List Int)) (wd : Nat), vs = [.ref a, .ref p] ∧ SqL K H a (ns.map V.int) ∧ PicV H p ps (ir R) ∧ Good R wd ∧
 ∀ q qs S u H', Same H H' → H q = none → Fresh H qs → PicV H' q qs (ir S) → Good S u → Q (.ref q) H'
noncomputable def spTilesL (K : W.Frag) : Sp := fun vs H Q _ => ∃ (p : Addr) (ps : List Addr) (R : List (List Int)) (wd c d : Nat), vs = [.ref p, .int (c : Int), .int (d : Int)] ∧ PicV H p ps (ir R) ∧ Good R wd ∧ 1 ≤ c ∧ 1 ≤ d ∧ wd % c = 0 ∧ R.length % d = 0 ∧ NewT H Q (tilesG R wd c d)
noncomputable def RefT (H : Hp) (Q : VK) (b0 b1 : Bool) : Prop := ∀ n p H', Same H H' → H n = none → H p = none → H' n = some (.lst [.bl b0, .bl b1]) → H' p = some (.tup [.str "refused", .ref n, .bl true]) → Q (.ref p) H'
noncomputable def spRef (P : Program) (w : World) (K : W.Frag) (mg : Str → Option Value) (cBP cBS : Addr) (base : Heap) : Sp := fun vs H Q _ => ∃ f L sp0, vs = [.ref f] ∧ H f = some (LamOC f L) ∧ LamX P w K mg base 11 f sp0 ∧
 ∀ E' : XK, (∀ H1, RefT H1 Q true false → E' (.ref cBP) none H1) → (∀ H1, RefT H1 Q false true → E' (.ref cBS) none H1) → sp0 H Q E'
section
variable {P : Program} {w : World} {K : W.Frag} {mg : Str → Option Value} {base : Heap} {cFE cBP cBS : Addr} {tS tC : Tok}
theorem sc_law_step : FnScope ["_law_cell"] ["_law_cell"] (defScope s_law_step) := ⟨rfl, rfl, rfl, by decide +kernel, rfl, by decide +kernel, by decide +kernel⟩
theorem ok_law_step {f : Addr} {fd : FuncData} (F : FunD K "_law_step" "_law_step" s_law_step .none f fd) : FnOk P w K mg base CX0 1 f fd ["_law_cell"] (spStep K) := by
 refine F.ok sc_law_step (fun vs H Q E h => ?_) (fun cdv A outer s H vs Q E hr h => ?_)
 ·obtain ⟨c, rfl, _⟩ := h; rfl
 ·obtain ⟨c, rfl, k⟩ := h
  refine ⟨_, (pss_cons (ps_if (pt_cmpR op_eq (pe_op op_mod (pv 0) pe_int) pe_int (nomark _)) (pss_one (ps_ret (pe_ix (ixK K rfl) (pe_lst (pa_cons pe_int (pa_cons (pe_un un_neg pe_int) (pa_cons pe_bl (pa_cons pe_non (pa_cons pe_str (pa_cons (pe_lst (pa_cons pe_int pa_nil)) (pa_cons (pe_op op_sub (pe_un un_neg pe_int) (pe_op op_mod (pe_op op_fdiv (pv 0) pe_int) (pe_op op_pow pe_int pe_int))) pa_nil)))))))) (pe_op op_mod (pe_op op_fdiv (pv 0) pe_int) pe_int) (fun _ _ => rfl)))) pss_nil)
    (pss_one (ps_ret (pe_ix (ixK K rfl) (pe_lst (pa_cons (pe_op op_add pe_int (pe_op op_mod (pe_op op_fdiv (pv 0) pe_int) pe_int)) (pa_cons (pe_op op_add pe_int (pe_op op_mod (pe_op op_fdiv (pv 0) pe_int) pe_int)) (pa_cons (pe_op op_add pe_int (pe_op op_mod (pe_op op_fdiv (pv 0) pe_int) pe_int)) (pa_cons (pe_op op_add pe_int (pe_op op_mod (pe_op op_fdiv (pv 0) pe_int) (pe_op op_pow pe_int pe_int))) pa_nil))))) (pe_op op_mod (pv 0) pe_int) (fun _ _ => rfl))))), ?_⟩
  refine ⟨_, rfl, _, _, rfl, rfl, (by show (0 : Int) < 8; decide), rfl, _, rfl, ite2 (fun _ => ?_) (fun hn => ?_)⟩
  ·have f0 := Int.emod_nonneg (c / 56) (show (10 ^ 20 : Int) ≠ 0 by decide)
   refine ⟨_, rfl, sz1, fun z hz => ⟨_, rfl, _, rfl, _, _, rfl, rfl, ⟨by decide, by decide⟩, _, _, rfl, rfl, ⟨by decide, by decide, by decide⟩, _, _, rfl, rfl, (by show (0 : Int) < 10 ^ 20; decide), _, _, rfl, rfl, sz7, fun o ho => ?_⟩⟩
   obtain ⟨v, hv, hvm⟩ : ∃ v, atI [V.int 0, .int (-1), .bl true, .non, .str "2", .ref z, .int (-1 - c / 56 % 10 ^ 20)] (c / 8 % 7) = some v ∧ v ∈ [V.int 0, .int (-1), .bl true, .non, .str "2", .ref z, .int (-1 - c / 56 % 10 ^ 20)] := atI_mem (Int.emod_nonneg _ (by decide)) (Int.emod_lt_of_pos _ (by decide))
   refine ⟨_, rfl, _, _, rfl, rfl, ⟨by decide, by decide⟩, _, _, rfl, rfl, (by show (0 : Int) < 7; decide), o, _, _, v, rfl, rfl, SqL.of upd_same, hv, ?_⟩
   simp only [List.mem_cons, List.not_mem_nil, or_false] at hvm
   have ss := (same_new (o := HO.lst [V.int 1]) hz).trans (same_new (o := HO.lst [V.int 0, .int (-1), .bl true, .non, .str "2", .ref z, .int (-1 - c / 56 % 10 ^ 20)]) ho)
   rcases hvm with rfl | rfl | rfl | rfl | rfl | rfl | rfl
   ·exact k _ _ ss (.int _) fun i e => by cases e; decide
   ·exact k _ _ ss (.int _) fun i e => by cases e; decide
   ·exact k _ _ ss (.bl _) fun i e => by cases e
   ·exact k _ _ ss .non fun i e => by cases e
   ·exact k _ _ ss (.str _) fun i e => by cases e
   ·exact k _ _ ss (.lst (same_new ho _ _ upd_same)) fun i e => by cases e
   ·exact k _ _ ss (.int _) fun i e => by cases e; omega
  ·have f0 := Int.emod_nonneg (c / 8) (show (9 : Int) ≠ 0 by decide)
   have f1 := Int.emod_lt_of_pos (c / 8) (show (0 : Int) < 9 by decide)
   have f4 := Int.emod_lt_of_pos (c / 8) (show (0 : Int) < 4 by decide)
   have f2 := Int.emod_lt_of_pos (c / 8) (show (0 : Int) < 3 by decide)
   have f3 := Int.emod_lt_of_pos (c / 8) (show (0 : Int) < 10 ^ 20 by decide)
   have big : (10 : Int) ^ 20 = 100000000000000000000 := by decide
   refine ⟨_, rfl, _, _, rfl, rfl, ⟨by decide, by decide⟩, _, _, rfl, rfl, (by show (0 : Int) < 9; decide), _, _, rfl, rfl, _, rfl, _, _, rfl, rfl, ⟨by decide, by decide⟩, _, _, rfl, rfl, (by show (0 : Int) < 3; decide), _, _, rfl, rfl, _, rfl, _, _, rfl, rfl, ⟨by decide, by decide⟩, _, _, rfl, rfl, (by show (0 : Int) < 4; decide), _, _, rfl, rfl, _, rfl, _, _, rfl, rfl, ⟨by decide, by decide⟩, _, _, rfl, rfl, ⟨by decide, by decide, by decide⟩, _, _, rfl, rfl, (by show (0 : Int) < 10 ^ 20; decide), _, _, rfl, rfl, sz4, fun o ho => ?_⟩
   obtain ⟨v, hv, hvm⟩ : ∃ v, atI [V.int (1 + c / 8 % 9), .int (1 + c / 8 % 3), .int (1 + c / 8 % 4), .int (20 + c / 8 % 10 ^ 20)] (c % 4) = some v ∧ v ∈ [V.int (1 + c / 8 % 9), .int (1 + c / 8 % 3), .int (1 + c / 8 % 4), .int (20 + c / 8 % 10 ^ 20)] := atI_mem (Int.emod_nonneg _ (by decide)) (Int.emod_lt_of_pos _ (by decide))
   refine ⟨_, rfl, _, _, rfl, rfl, (by show (0 : Int) < 4; decide), o, _, _, v, rfl, rfl, SqL.of upd_same, hv, ?_⟩
   simp only [List.mem_cons, List.not_mem_nil, or_false] at hvm
   rcases hvm with rfl | rfl | rfl | rfl
   ·exact k _ _ (same_new ho) (.int _) fun i e => by cases e; omega
   ·exact k _ _ (same_new ho) (.int _) fun i e => by cases e; omega
   ·exact k _ _ (same_new ho) (.int _) fun i e => by cases e; omega
   ·exact k _ _ (same_new ho) (.int _) fun i e => by cases e; omega
theorem sc_law_refused : FnScope ["_law_deed", "e", "_law_names"] ["_law_deed"] (defScope s_law_refused) := ⟨rfl, rfl, rfl, by decide +kernel, rfl, by decide +kernel, by decide +kernel⟩
theorem ok_law_refused {f : Addr} {fd : FuncData} (F : FunD K "_law_refused" "_law_refused" s_law_refused .none f fd) (T : Txt K mg cFE cBP cBS tS tC) : FnOk P w K mg base CX0 12 f fd ["_law_deed"] (spRef P w K mg cBP cBS base) := by
 refine F.ok sc_law_refused (fun vs H Q E h => ?_) (fun cdv A outer s H vs Q E hr h => ?_)
 ·obtain ⟨fl, L, sp0, rfl, _⟩ := h; rfl
 ·obtain ⟨fl, L, sp0, rfl, hf, LX, h⟩ := h
  refine ⟨_, (pss_one (ps_try2 (i := 1) sc_law_refused.nd rfl rfl rfl T.FolioError rfl rfl (fun pn XE R hx => (pss_one (ps_ret (pe_callL0K P w K mg base rfl rfl rfl rfl rfl 0 11 (hr.mono (by decide)) hx)))) (fun ea => (pss_cons (ps_set (i := 2) sc_law_refused.nd rfl (by first | exact Or.inl rfl | exact Or.inr rfl) (pe_lst (pa_cons (isiCK K rfl (pv 1) rfl T.isinstance rfl T.BadPicture) (pa_cons (isiCK K rfl (pv 1) rfl T.isinstance rfl T.BadSize) pa_nil))))
    (pss_one (ps_ret (pe_tup (pa_cons pe_str (pa_cons (pv 2) (pa_cons (isiK K rfl (pv 1) rfl T.isinstance rfl T.ValueError boot_VE) pa_nil)))))))))), ?_⟩
  refine ⟨fl, L, _, rfl, hf, LX, h _ (fun H1 r => ⟨cBP, rfl, T.eP, fun ea hea => ?_⟩) (fun H1 r => ⟨cBS, rfl, T.eS, fun ea hea => ?_⟩)⟩
  ·have ex : upd H1 ea (ExcO ea cBP) ea = some (ExcO ea cBP) := upd_same
   refine ⟨_, rfl, true, ⟨_, .exc ex T.kP, T.iPP⟩, _, rfl, false, ⟨_, .exc ex T.kP, T.iPS⟩, sz2, fun n hn => ?_⟩
   have ex2 := same_new (o := HO.lst [.bl true, .bl false]) hn _ _ ex
   refine ⟨_, rfl, _, rfl, true, ⟨_, .exc ex2 T.kP, T.iPV⟩, sz3, fun p hp => ?_⟩
   have s1 := same_new (o := ExcO ea cBP) hea
   have s2 := s1.trans (same_new (o := HO.lst [.bl true, .bl false]) hn)
   exact r n p _ (s2.trans (same_new hp)) (s1.free hn) (s2.free hp) (same_new hp _ _ upd_same) upd_same
  ·have ex : upd H1 ea (ExcO ea cBS) ea = some (ExcO ea cBS) := upd_same
   refine ⟨_, rfl, false, ⟨_, .exc ex T.kS, T.iSP⟩, _, rfl, true, ⟨_, .exc ex T.kS, T.iSS⟩, sz2, fun n hn => ?_⟩
   have ex2 := same_new (o := HO.lst [.bl false, .bl true]) hn _ _ ex
   refine ⟨_, rfl, _, rfl, true, ⟨_, .exc ex2 T.kS, T.iSV⟩, sz3, fun p hp => ?_⟩
   have s1 := same_new (o := ExcO ea cBS) hea
   have s2 := s1.trans (same_new (o := HO.lst [.bl false, .bl true]) hn)
   exact r n p _ (s2.trans (same_new hp)) (s1.free hn) (s2.free hp) (same_new hp _ _ upd_same) upd_same
theorem sc_law_tiles : FnScope ["_law_picture_here", "_law_wide", "_law_high", "_law_found", "_law_top", "_law_row", "_law_left"] ["_law_picture_here", "_law_wide", "_law_high"] (defScope s_law_tiles) := ⟨rfl, rfl, rfl, by decide +kernel, rfl, by decide +kernel, by decide +kernel⟩
theorem ok_law_tiles {f : Addr} {fd : FuncData} (F : FunD K "_law_tiles" "_law_tiles" s_law_tiles .none f fd) (T : Txt K mg cFE cBP cBS tS tC) : FnOk P w K mg base CX0 1 f fd ["_law_picture_here", "_law_wide", "_law_high"] (spTilesL K) := by
 refine F.ok sc_law_tiles (fun vs H Q E h => ?_) (fun cdv A outer s H vs Q E hr h => ?_)
 ·obtain ⟨p, ps, R, wd, c, d, rfl, _⟩ := h; rfl
 ·obtain ⟨p, ps, R, wd, c, d, rfl, pic, gd, c1, d1, hc, hd, k⟩ := h
  have h24 := gd.le
  have w24 := gd.w24
  have w1 := gd.w1
  have hn1 := gd.ne
  have pR := parts hn1 d1 hd
  have pW := parts w1 c1 hc
  have lG : (tilesG R wd c d).length = R.length / d := by simp [tilesG]
  have c24 : c ≤ 24 := Nat.le_trans (Nat.le_of_dvd (by omega) (Nat.dvd_of_mod_eq_zero hc)) w24
  have d24 : d ≤ 24 := Nat.le_trans (Nat.le_of_dvd (by omega) (Nat.dvd_of_mod_eq_zero hd)) h24
  have c100 : c < 2 ^ 100 := by omega
  have d100 : d < 2 ^ 100 := by omega
  refine ⟨_, (pss_cons (ps_set (i := 3) sc_law_tiles.nd rfl (by first | exact Or.inl rfl | exact Or.inr rfl) (pe_lst pa_nil))
    (pss_cons (ps_for PassesOwn.never rfl (pi_range3B rfl T.range (pa_cons pe_int (pa_cons (pe_callB (lenK K rfl) rfl T.len PySem.boot_len (pa_cons (pv 0) pa_nil)) (pa_cons (pv 2) pa_nil)))) (pg_name (i := 4) sc_law_tiles.nd rfl (by first | exact Or.inl rfl | exact Or.inr rfl)) (pss_cons (ps_set (i := 5) sc_law_tiles.nd rfl (by first | exact Or.inl rfl | exact Or.inr rfl) (pe_lst pa_nil))
    (pss_cons (ps_for PassesOwn.never rfl (pi_range3B rfl T.range (pa_cons pe_int (pa_cons (pe_callB (lenK K rfl) rfl T.len PySem.boot_len (pa_cons (pe_ix (ixK K rfl) (pv 0) pe_int (fun _ _ => rfl)) pa_nil)) (pa_cons (pv 1) pa_nil)))) (pg_name (i := 6) sc_law_tiles.nd rfl (by first | exact Or.inl rfl | exact Or.inr rfl)) (pss_one (ps_expr (pe_bm PySem.F.plainAttrs_list PySem.F.slot_list_append PySem.F.type_list_append mt_append (pv 5) (pa_cons (pe_comp (N := ["_law_y", "_law_picture_here", "_law_top", "_law_left", "_law_wide"]) (src := [none, some 0, some 4, some 6, some 1]) rfl ⟨rfl, rfl, rfl, rfl, rfl, by decide +kernel⟩ (pi_range1 rfl T.range (pa_cons (pv 2) pa_nil)) (fun s H C fp => pg_name (i := 0) (show (["_law_y", "_law_picture_here", "_law_top", "_law_left", "_law_wide"] : List Str).Nodup by decide +kernel) rfl (by first | exact Or.inl rfl | exact Or.inr rfl)) (fun s H C fp => pts_nil) (fun s H C fp => (pe_slice (slK K rfl) (pe_ix (ixK K rfl) (pv 1) (pe_op op_add (pv 2) (pv 0)) (fun _ _ => rfl)) (po_some (pv 3)) (po_some (pe_op op_add (pv 3) (pv 4)))))) pa_nil)))))
    (pss_one (ps_expr (pe_bm PySem.F.plainAttrs_list PySem.F.slot_list_append PySem.F.type_list_append mt_append (pv 3) (pa_cons (pv 5) pa_nil)))))))
    (pss_one (ps_ret (pv 3))))), ?_⟩
  refine ⟨Nat.zero_le _, fun S hS => ?_⟩
  have sS := same_new (o := HO.lst []) hS
  refine ⟨_, rfl, p, _, rfl, .inl (SqL.of (sS _ _ pic.top)), _, rfl, 0, (R.length : Int), (d : Int), (R.length - 1) / d + 1, (by rw [lenF pic]), by omega, log_100 d100, size_nat hn1 d1, ?_⟩
  rw [pR]
  refine for_range3 (n := R.length / d) (fun i σ H3 => Same H H3 ∧ ∃ (ls : List (Addr × List (Addr × List Addr))) (v4 v5 v6 : Option V), (∀ l ∈ ls, ∀ y, AdrL l y → H y = none) ∧ TilesV H3 S ls ((tilesG R wd c d).take i) ∧ σ = [some (.ref p), some (.int (c : Int)), some (.int (d : Int)), some (.ref S), v4, v5, v6]) ⟨sS, [], none, none, none, (fun l hl => nomatch hl), ⟨by rw [upd_same]; rfl, rfl, (fun i l Rs h => nomatch h), List.Pairwise.nil, (fun l hl => nomatch hl)⟩, rfl⟩ ?_ ?_
  ·rintro i σ H3 hi ⟨s3, ls, v4, v5, v6, fr, tv, rfl⟩
   have ll : ls.length = i := by rw [tv.len, List.length_take, lG]; omega
   have eT : (0 : Int) + (i : Int) * (d : Int) = ((i * d : Nat) : Int) := by push_cast; omega
   have hiG : i < (tilesG R wd c d).length := by rw [lG]; exact hi
   have lGi : ((tilesG R wd c d)[i]'hiG).length = wd / c := by simp [tilesG]
   refine ⟨Nat.zero_le _, fun RW hRW => ?_⟩
   have sR := same_new (o := HO.lst []) hRW
   have s4 := s3.trans sR
   have pic4 := pic.mono s4
   obtain ⟨q0, n0, e00, e01, e02⟩ := gd.first pic4
   refine ⟨_, rfl, p, _, _, .ref q0, rfl, rfl, SqL.of pic4.top, atI_nat (j := 0) e00, q0, _, rfl, .inl (SqL.of e01), _, rfl, 0, (wd : Int), (c : Int), (wd - 1) / c + 1, (by rw [List.length_map, e02]), by omega, log_100 c100, size_nat w1 c1, ?_⟩
   rw [pW]
   refine for_range3 (n := wd / c) (fun j σ H5 => Same H3 H5 ∧ ∃ (es : List (Addr × List Addr)) (v6 : Option V), (∀ y, AdrL (RW, es) y → H3 y = none) ∧ LineV H5 RW es (((tilesG R wd c d)[i]'hiG).take j) ∧ σ = [some (.ref p), some (.int (c : Int)), some (.int (d : Int)), some (.ref S), some (.int ((0 : Int) + (i : Int) * (d : Int))), some (.ref RW), v6])
    ⟨sR, [], _, (fun y hy => by
     rcases hy with rfl | ⟨e, he, _⟩
     ·exact hRW
     ·cases he), ⟨by rw [upd_same]; rfl, rfl, (fun i e R h => nomatch h), List.Pairwise.nil, (fun e he => nomatch he)⟩, rfl⟩ ?_ ?_
   ·rintro j σ H5 hj ⟨s5, es, v6, frE, lv, rfl⟩
    have le : es.length = j := by rw [lv.len, List.length_take, lGi]; omega
    have eL : (0 : Int) + (j : Int) * (c : Int) = ((j * c : Nat) : Int) := by push_cast; omega
    have pin := part_in hc hj
    have pid := part_in hd hi
    refine ⟨_, rfl, .inl ⟨rfl, _, SqL.of lv.top⟩, ?_⟩
    refine ⟨_, rfl, _, rfl, by omega, by omega, fun D hD => ?_⟩
    rw [Int.toNat_natCast]
    refine comp_rows (k := 0) (fun v => match v with | .int y => ((List.range c).map fun x => cAt R (j * c + x) (i * d + y.toNat)).map V.int | _ => []) src_range (by simp; exact Nat.le_trans d24 (by decide)) hD (fun x hx H' Q' sm kk => ?_) fun qs H6 s6 frq picD => ?_
    ·obtain ⟨y, hy, rfl⟩ := List.mem_map.mp hx
     have hy := List.mem_range.mp hy
     have hyl : i * d + y < R.length := by omega
     have eY : (0 : Int) + (i : Int) * (d : Int) + (0 + (y : Int)) = ((i * d + y : Nat) : Int) := by push_cast; omega
     have pic' := ((pic.mono s3).mono s5).mono sm
     obtain ⟨q, e1, e2, lr⟩ := row_getD pic' gd hyl
     refine ⟨_, rfl, _, rfl, _, rfl, _, _, rfl, rfl, p, _, _, .ref q, rfl, rfl, SqL.of pic'.top, (by show atI _ ((0 : Int) + (i : Int) * (d : Int) + (0 + (y : Int))) = _; rw [eY]; exact atI_nat e1), _, rfl, _, rfl, _, rfl, _, rfl, _, _, rfl, rfl, _, rfl, q, _, rfl, SqL.of e2, fun L hL => ?_⟩
     have ec : cutV (R[i * d + y].map V.int) (some ((0 : Int) + (j : Int) * (c : Int))) (some ((0 : Int) + (j : Int) * (c : Int) + (c : Int))) = ((R[i * d + y].drop (j * c)).take c).map V.int := by
      rw [eL, cut_nat (b := c) (by rw [List.length_map, lr]; exact pin) (by push_cast; omega), List.map_take, List.map_drop]
     refine kk L _ (same_new hL) hL ?_
     rw [upd_same, ec, cut_row (by rw [lr]; exact pin)]
     show some (HO.lst (((List.range c).map fun x => R[i * d + y].getD (j * c + x) 0).map V.int)) = some (HO.lst (((List.range c).map fun x => cAt R (j * c + x) (i * d + ((0 : Int) + (y : Int)).toNat)).map V.int))
     rw [show ((0 : Int) + (y : Int)).toNat = y by omega]
     unfold cAt
     rw [getD_row hyl]
    ·have e : ((List.range d).map fun (i : Nat) => V.int ((0 : Int) + (i : Int))).map (fun v => match v with | .int y => ((List.range c).map fun x => cAt R (j * c + x) (i * d + y.toNat)).map V.int | _ => []) = ir (cutF R (j * c) (i * d) c d) := by
      unfold ir cutF grid
      rw [List.map_map, List.map_map]
      refine List.map_congr_left fun y _ => ?_
      show ((List.range c).map fun x => cAt R (j * c + x) (i * d + ((0 : Int) + (y : Int)).toNat)).map V.int = _
      rw [show ((0 : Int) + (y : Int)).toNat = y by omega]
      rfl
     rw [e] at picD
     have hjG : j < ((tilesG R wd c d)[i]'hiG).length := by rw [lGi]; exact hj
     have eg : ((tilesG R wd c d)[i]'hiG)[j]'hjG = cutF R (j * c) (i * d) c d := by simp [tilesG]
     refine ⟨RW, _, _, rfl, rfl, s6 _ _ lv.top, by rw [List.length_map, le]; exact Nat.lt_of_lt_of_le (Nat.lt_of_lt_of_le hj (Nat.div_le_self _ _)) (Nat.le_trans w24 (by decide)), same_upd (s5.trans s6) hRW, es ++ [(D, qs)], _, fun y hy => ?_, ?_, rfl⟩
     ·rcases hy with rfl | ⟨e', he', hy⟩
      ·exact hRW
      ·rcases List.mem_append.mp he' with h | h
       ·exact frE y (.inr ⟨e', h, hy⟩)
       ·rw [List.mem_singleton.mp h] at hy
        exact s5.free (adr_fresh hD frq hy)
     ·rw [List.take_succ_eq_append_getElem hjG, eg]
      exact lv.push s6 hD frq picD
   ·rintro σ H5 ⟨s5, es, v6, frE, lv, rfl⟩
    rw [← lGi, List.take_length] at lv
    have s35 := s5
    refine ⟨_, rfl, .inl ⟨rfl, _, SqL.of (s35 _ _ tv.top)⟩, _, rfl, S, _, .ref RW, rfl, rfl, s35 _ _ tv.top, by rw [List.length_map, ll]; exact Nat.lt_of_lt_of_le (Nat.lt_of_lt_of_le hi (Nat.div_le_self _ _)) (Nat.le_trans h24 (by decide)), same_upd (s3.trans s35) hS, ls ++ [(RW, es)], _, _, _, fun l hl y hy => ?_, ?_, rfl⟩
    ·rcases List.mem_append.mp hl with h | h
     ·exact fr l h y hy
     ·rw [List.mem_singleton.mp h] at hy
      exact s3.free (frE y hy)
    ·rw [List.take_succ_eq_append_getElem hiG]
     exact tv.push s35 frE lv
  ·rintro σ H3 ⟨s3, ls, v4, v5, v6, fr, tv, rfl⟩
   rw [← lG, List.take_length] at tv
   exact ⟨_, rfl, k S ls H3 s3 hS fr tv⟩
end
end K13
set_option Elab.async false
set_option linter.all false
set_option maxRecDepth 100000
set_option maxHeartbeats 1600000
namespace K13
open PySem L2 M4
section
variable {P : Program} {w : World} {K : W.Frag} {mg : Str → Option Value} {base : Heap} {cFE cBP cBS : Addr} {tS tC : Tok}
noncomputable abbrev nmother : List Str := ["_law_script", "_law_picture_here", "_law_other_here", "_law_cell", "_law_high", "_law_wide"]
theorem sc_law_other : FnScope ["_law_script", "_law_picture_here", "_law_other_here", "_law_cell", "_law_high", "_law_wide"] ["_law_script", "_law_picture_here"] (defScope s_law_other) := ⟨rfl, rfl, rfl, by decide +kernel, rfl, by decide +kernel, by decide +kernel⟩
theorem ok_law_other {f : Addr} {fd : FuncData} (F : FunD K "_law_other" "_law_other" s_law_other .none f fd) (T : Txt K mg cFE cBP cBS tS tC) (g__law_picture : Def P w K mg base 3 "_law_picture" ["_law_script", "_law_at", "_law_most"] [] (spPicture K)) (g__law_cell_at : Def P w K mg base 2 "_law_cell_at" ["_law_script", "_law_k"] [] (spCell K)) : FnOk P w K mg base CX0 4 f fd ["_law_script", "_law_picture_here"] (spOther K) := by
 refine F.ok sc_law_other (fun vs H Q E h => ?_) (fun cdv A outer s H vs Q E hr h => ?_)
 ·obtain ⟨a, ns, p, ps, R, wd, rfl, _⟩ := h; rfl
 ·obtain ⟨a, ns, p, ps, R, wd, rfl, hS, pic, gd, k⟩ := h
  obtain ⟨t7, r7, k7⟩ : ∃ tr, PSs ((cxOf CX0 P w K mg base nmother "_law_other" (defScope s_law_other) f cdv A outer s H E).nox) ((defBody s_law_other).drop 7) tr ∧
    ∀ (q : Addr) (qs : List Addr) (S : List (List Int)) (u : Nat) (cl : Int) (hn wn : Nat) (H2 : Hp), Same H H2 → PicV H2 q qs (ir S) → Good S u → 1 ≤ hn → hn ≤ 24 → 1 ≤ wn → wn ≤ 24 → tr { nx := fun _ H' => Q .non H', rt := Q } [some (.ref a), some (.ref p), some (.ref q), some (.int cl), some (.int (hn : Int)), some (.int (wn : Int))] H2 := by
   refine ⟨_, (pss_one (ps_ret (pe_comp (N := ["_law_y", "_law_wide", "_law_other_here"]) (src := [none, some 5, some 2]) rfl ⟨rfl, rfl, rfl, rfl, rfl, by decide +kernel⟩ (pi_range1 rfl T.range (pa_cons (pv 4) pa_nil)) (fun s H C fp => pg_name (i := 0) (show (["_law_y", "_law_wide", "_law_other_here"] : List Str).Nodup by decide +kernel) rfl (by first | exact Or.inl rfl | exact Or.inr rfl)) (fun s H C fp => pts_nil) (fun s H C fp => (pe_comp (N := ["_law_x", "_law_other_here", "_law_y"]) (src := [none, some 2, some 0]) rfl ⟨rfl, rfl, rfl, rfl, rfl, by decide +kernel⟩ (pi_range1 rfl T.range (pa_cons (pv 1) pa_nil)) (fun s H C fp => pg_name (i := 0) (show (["_law_x", "_law_other_here", "_law_y"] : List Str).Nodup by decide +kernel) rfl (by first | exact Or.inl rfl | exact Or.inr rfl)) (fun s H C fp => pts_nil) (fun s H C fp => (pe_ix (ixK K rfl) (pe_ix (ixK K rfl) (pv 1) (pe_op op_mod (pv 2) (pe_callB (lenK K rfl) rfl T.len PySem.boot_len (pa_cons (pv 1) pa_nil))) (fun _ _ => rfl)) (pe_op op_mod (pv 0) (pe_callB (lenK K rfl) rfl T.len PySem.boot_len (pa_cons (pe_ix (ixK K rfl) (pv 1) pe_int (fun _ _ => rfl)) pa_nil))) (fun _ _ => rfl)))))))), ?_⟩
   intro q qs S u cl hn wn H2 s2 pq gq h1 h24 w1 w24
   have uw := gq.w1
   have un := gq.ne
   have u24 := gq.w24
   have n24 := gq.le
   have hpos : (0 : Int) < ((qs.map V.ref).length : Int) := by rw [lenF pq]; omega
   refine ⟨_, rfl, _, rfl, by omega, by omega, fun D hD => ?_⟩
   rw [Int.toNat_natCast]
   refine comp_rows (k := 0) (fun v => match v with | .int y => ((List.range wn).map fun x => cAt S (x % u) (y.toNat % S.length)).map V.int | _ => []) src_range (by simp; exact Nat.le_trans h24 (by decide)) hD (fun z hz H' Q' sm kk => ?_) fun es H3 s3 fr pic3 => ?_
   ·obtain ⟨y, hy, rfl⟩ := List.mem_map.mp hz
    have hyl : y % S.length < S.length := Nat.mod_lt _ (by omega)
    have ey : ((0 : Int) + (y : Int)) % ((qs.map V.ref).length : Int) = ((y % S.length : Nat) : Int) := by rw [lenF pq, Int.zero_add]; push_cast; rfl
    refine ⟨_, rfl, _, rfl, by omega, by omega, fun D2 hD2 => ?_⟩
    rw [Int.toNat_natCast]
    refine comp_fm (k := 0) (fun v => match v with | .int x => .int (cAt S (x.toNat % u) (y % S.length)) | _ => .non) (fun _ => true) src_range (by simp; exact Nat.le_trans w24 (by decide)) hD2 (fun x _ H4 Qb _ kb => kb H4 (Same.refl _)) (fun z2 hz2 _ H4 Q4 s4 k4 => ?_) fun H4 s4 e4 => ?_
    ·obtain ⟨x, hx, rfl⟩ := List.mem_map.mp hz2
     have hxl : x % u < u := Nat.mod_lt _ (by omega)
     have pq' := (pq.mono sm).mono s4
     obtain ⟨q1, e1, e2, lr⟩ := row_getD pq' gq hyl
     obtain ⟨q0, n0, e00, e01, e02⟩ := gq.first pq'
     have ex : ((0 : Int) + (x : Int)) % ((n0.map V.int).length : Int) = ((x % u : Nat) : Int) := by rw [List.length_map, e02, Int.zero_add]; push_cast; rfl
     refine ⟨_, rfl, _, rfl, _, rfl, q, _, rfl, .inl (SqL.of pq'.top), _, _, rfl, rfl, hpos, q, _, _, .ref q1, rfl, rfl, SqL.of pq'.top, (by show atI _ (((0 : Int) + (y : Int)) % ((qs.map V.ref).length : Int)) = _; rw [ey]; exact atI_nat e1), _, rfl, _, rfl, q, _, _, .ref q0, rfl, rfl, SqL.of pq'.top, atI_nat (j := 0) e00, q0, _, rfl, .inl (SqL.of e01), _, _, rfl, rfl, (by show (0 : Int) < ((n0.map V.int).length : Int); rw [List.length_map, e02]; omega), q1, _, _, .int (cAt S (x % u) (y % S.length)), rfl, rfl, SqL.of e2, (by show atI _ (((0 : Int) + (x : Int)) % ((n0.map V.int).length : Int)) = _; rw [ex]; exact atI_nat (by rw [getD_int (by rw [lr]; exact hxl)]; unfold cAt; rw [getD_row hyl])), ?_⟩
     have := k4 H4 (Same.refl _)
     dsimp only at this
     rw [show ((0 : Int) + (x : Int)).toNat = x by omega] at this
     exact this
    ·refine kk D2 H4 s4 hD2 ?_
     rw [e4, filter_t, List.map_map]
     show some (HO.lst _) = some (HO.lst (((List.range wn).map fun x => cAt S (x % u) (((0 : Int) + (y : Int)).toNat % S.length)).map V.int))
     rw [show ((0 : Int) + (y : Int)).toNat = y by omega, List.map_map]
     congr 2
     refine List.map_congr_left fun x _ => ?_
     show V.int (cAt S (((0 : Int) + (x : Int)).toNat % u) (y % S.length)) = _
     rw [show ((0 : Int) + (x : Int)).toNat = x by omega]
     rfl
   ·have e : ((List.range hn).map fun (i : Nat) => V.int ((0 : Int) + (i : Int))).map (fun v => match v with | .int y => ((List.range wn).map fun x => cAt S (x % u) (y.toNat % S.length)).map V.int | _ => []) = ir (grid wn hn fun x y => cAt S (x % u) (y % S.length)) := by
     unfold ir grid
     rw [List.map_map, List.map_map]
     refine List.map_congr_left fun y _ => ?_
     show ((List.range wn).map fun x => cAt S (x % u) (((0 : Int) + (y : Int)).toNat % S.length)).map V.int = _
     rw [show ((0 : Int) + (y : Int)).toNat = y by omega]
     rfl
    rw [e] at pic3
    exact k D es _ wn H3 (s2.trans s3) (s2.free hD) (fun y hy => s2.free (fr y hy)) pic3 (grid_good w1 w24 h1 h24 fun x y _ _ => cell_in gq (Nat.mod_lt _ (by omega)) (Nat.mod_lt _ (by omega)))
  have mx : ∀ (m : Nat) (cl : Int), 1 ≤ m → m ≤ 24 → ∃ v : Nat, (if (1 : Int) < 24 + cl / 16 % 2 - (m : Int) then 24 + cl / 16 % 2 - (m : Int) else 1) = (v : Int) ∧ 1 ≤ v ∧ v ≤ 24 := fun m cl h1 h2 => by
   split
   ·exact ⟨(24 + cl / 16 % 2 - (m : Int)).toNat, by omega, by omega, by omega⟩
   ·exact ⟨1, rfl, by decide, by decide⟩
  obtain ⟨t6, r6, k6⟩ : ∃ tr, PSs ((cxOf CX0 P w K mg base nmother "_law_other" (defScope s_law_other) f cdv A outer s H E).nox) ((defBody s_law_other).drop 6) tr ∧
    ∀ (q : Addr) (qs : List Addr) (S : List (List Int)) (u : Nat) (cl : Int) (hn wn : Nat) (H2 : Hp), Same H H2 → PicV H2 q qs (ir S) → Good S u → 1 ≤ hn → hn ≤ 24 → 1 ≤ wn → wn ≤ 24 → tr { nx := fun _ H' => Q .non H', rt := Q } [some (.ref a), some (.ref p), some (.ref q), some (.int cl), some (.int (hn : Int)), some (.int (wn : Int))] H2 := by
   refine ⟨_, (pss_cons (ps_if (pt_cmpR op_eq (pe_op op_mod (pv 3) pe_int) pe_int (nomark _)) (pss_one (ps_set (i := 4) sc_law_other.nd rfl (by first | exact Or.inl rfl | exact Or.inr rfl) (pe_callB (call_max2 rfl) rfl T.max PyProof.Rows.boot_max (pa_cons pe_int (pa_cons (pe_op op_sub (pe_op op_add pe_int (pe_op op_mod (pe_op op_fdiv (pv 3) pe_int) pe_int)) (pv 4)) pa_nil))))) pss_nil)
    (@r7)), ?_⟩
   intro q qs S u cl hn wn H2 s2 pq gq h1 h24 w1 w24
   refine ⟨_, rfl, _, _, rfl, rfl, (by show (0 : Int) < 16; decide), rfl, _, rfl, ite2 (fun _ => ?_) (fun _ => ?_)⟩
   ·obtain ⟨v, ev, v1, v24⟩ := mx hn cl h1 h24
    refine ⟨_, rfl, _, _, rfl, rfl, ⟨by decide, by decide⟩, _, _, rfl, rfl, (by show (0 : Int) < 2; decide), _, _, rfl, rfl, _, rfl, _, _, rfl, rfl, 1, _, rfl, ?_⟩
    show gName 4 (V.int (if (1 : Int) < 24 + cl / 16 % 2 - (hn : Int) then 24 + cl / 16 % 2 - (hn : Int) else 1)) _ H2 _
    rw [ev]
    exact k7 q qs S u cl v wn H2 s2 pq gq v1 v24 w1 w24
   ·exact k7 q qs S u cl hn wn H2 s2 pq gq h1 h24 w1 w24
  obtain ⟨t5, r5, k5⟩ : ∃ tr, PSs ((cxOf CX0 P w K mg base nmother "_law_other" (defScope s_law_other) f cdv A outer s H E).nox) ((defBody s_law_other).drop 5) tr ∧
    ∀ (q : Addr) (qs : List Addr) (S : List (List Int)) (u : Nat) (cl : Int) (hn wn : Nat) (H2 : Hp), Same H H2 → PicV H2 q qs (ir S) → Good S u → 1 ≤ hn → hn ≤ 24 → 1 ≤ wn → wn ≤ 24 → tr { nx := fun _ H' => Q .non H', rt := Q } [some (.ref a), some (.ref p), some (.ref q), some (.int cl), some (.int (hn : Int)), some (.int (wn : Int))] H2 := by
   refine ⟨_, (pss_cons (ps_if (pt_cmpR op_eq (pe_op op_mod (pv 3) pe_int) pe_int (nomark _)) (pss_one (ps_set (i := 5) sc_law_other.nd rfl (by first | exact Or.inl rfl | exact Or.inr rfl) (pe_callB (call_max2 rfl) rfl T.max PyProof.Rows.boot_max (pa_cons pe_int (pa_cons (pe_op op_sub (pe_op op_add pe_int (pe_op op_mod (pe_op op_fdiv (pv 3) pe_int) pe_int)) (pv 5)) pa_nil))))) pss_nil)
    (@r6)), ?_⟩
   intro q qs S u cl hn wn H2 s2 pq gq h1 h24 w1 w24
   refine ⟨_, rfl, _, _, rfl, rfl, (by show (0 : Int) < 16; decide), rfl, _, rfl, ite2 (fun _ => ?_) (fun _ => ?_)⟩
   ·obtain ⟨v, ev, v1, v24⟩ := mx wn cl w1 w24
    refine ⟨_, rfl, _, _, rfl, rfl, ⟨by decide, by decide⟩, _, _, rfl, rfl, (by show (0 : Int) < 2; decide), _, _, rfl, rfl, _, rfl, _, _, rfl, rfl, 1, _, rfl, ?_⟩
    show gName 5 (V.int (if (1 : Int) < 24 + cl / 16 % 2 - (wn : Int) then 24 + cl / 16 % 2 - (wn : Int) else 1)) _ H2 _
    rw [ev]
    exact k6 q qs S u cl hn v H2 s2 pq gq h1 h24 v1 v24
   ·exact k6 q qs S u cl hn wn H2 s2 pq gq h1 h24 w1 w24
  obtain ⟨t4, r4, k4⟩ : ∃ tr, PSs ((cxOf CX0 P w K mg base nmother "_law_other" (defScope s_law_other) f cdv A outer s H E).nox) ((defBody s_law_other).drop 4) tr ∧
    ∀ (q : Addr) (qs : List Addr) (S : List (List Int)) (u : Nat) (cl : Int) (hn wn : Nat) (H2 : Hp), Same H H2 → PicV H2 q qs (ir S) → Good S u → 1 ≤ hn → hn ≤ 24 → 1 ≤ wn → wn ≤ 24 → tr { nx := fun _ H' => Q .non H', rt := Q } [some (.ref a), some (.ref p), some (.ref q), some (.int cl), some (.int (hn : Int)), some (.int (wn : Int))] H2 := by
   refine ⟨_, (pss_cons (ps_if (pt_cmpR op_eq (pe_op op_mod (pv 3) pe_int) pe_int (nomark _)) (pss_one (ps_set (i := 4) sc_law_other.nd rfl (by first | exact Or.inl rfl | exact Or.inr rfl) (pe_callB (lenK K rfl) rfl T.len PySem.boot_len (pa_cons (pv 2) pa_nil)))) pss_nil)
    (@r5)), ?_⟩
   intro q qs S u cl hn wn H2 s2 pq gq h1 h24 w1 w24
   refine ⟨_, rfl, _, _, rfl, rfl, (by show (0 : Int) < 16; decide), rfl, _, rfl, ite2 (fun _ => ?_) (fun _ => ?_)⟩
   ·refine ⟨_, rfl, q, _, rfl, .inl (SqL.of pq.top), ?_⟩
    rw [lenF pq]
    exact k5 q qs S u cl S.length wn H2 s2 pq gq gq.ne gq.le w1 w24
   ·exact k5 q qs S u cl hn wn H2 s2 pq gq h1 h24 w1 w24
  obtain ⟨t3, r3, k3⟩ : ∃ tr, PSs ((cxOf CX0 P w K mg base nmother "_law_other" (defScope s_law_other) f cdv A outer s H E).nox) ((defBody s_law_other).drop 3) tr ∧
    ∀ (q : Addr) (qs : List Addr) (S : List (List Int)) (u : Nat) (cl : Int) (hn : Nat) (H2 : Hp), Same H H2 → PicV H2 q qs (ir S) → Good S u → 1 ≤ hn → hn ≤ 24 → tr { nx := fun _ H' => Q .non H', rt := Q } [some (.ref a), some (.ref p), some (.ref q), some (.int cl), some (.int (hn : Int)), none] H2 := by
   refine ⟨_, (pss_cons (ps_set (i := 5) sc_law_other.nd rfl (by first | exact Or.inl rfl | exact Or.inr rfl) (pe_ifExp (pt_cmpR op_gt (pe_op op_mod (pv 3) pe_int) pe_int (nomark _)) (pe_callB (lenK K rfl) rfl T.len PySem.boot_len (pa_cons (pe_ix (ixK K rfl) (pv 1) pe_int (fun _ _ => rfl)) pa_nil)) (pe_callB (lenK K rfl) rfl T.len PySem.boot_len (pa_cons (pe_ix (ixK K rfl) (pv 2) pe_int (fun _ _ => rfl)) pa_nil))))
    (@r4)), ?_⟩
   intro q qs S u cl hn H2 s2 pq gq h1 h24
   refine ⟨_, rfl, _, _, rfl, rfl, (by show (0 : Int) < 4; decide), _, _, rfl, rfl, _, rfl, ite2 (fun _ => ?_) (fun _ => ?_)⟩
   ·have pic2 := pic.mono s2
    obtain ⟨q0, n0, e00, e01, e02⟩ := gd.first pic2
    refine ⟨_, rfl, p, _, _, .ref q0, rfl, rfl, SqL.of pic2.top, atI_nat (j := 0) e00, q0, _, rfl, .inl (SqL.of e01), ?_⟩
    rw [List.length_map, e02]
    exact k4 q qs S u cl hn wd H2 s2 pq gq h1 h24 gd.w1 gd.w24
   ·obtain ⟨q0, n0, e00, e01, e02⟩ := gq.first pq
    refine ⟨_, rfl, q, _, _, .ref q0, rfl, rfl, SqL.of pq.top, atI_nat (j := 0) e00, q0, _, rfl, .inl (SqL.of e01), ?_⟩
    rw [List.length_map, e02]
    exact k4 q qs S u cl hn u H2 s2 pq gq h1 h24 gq.w1 gq.w24
  refine ⟨_, (pss_cons (ps_set (i := 2) sc_law_other.nd rfl (by first | exact Or.inl rfl | exact Or.inr rfl) (pe_callD g__law_picture (hr.mono (by decide)) rfl (pa_cons (pv 0) (pa_cons pe_int (pa_cons pe_int pa_nil)))))
    (pss_cons (ps_set (i := 3) sc_law_other.nd rfl (by first | exact Or.inl rfl | exact Or.inr rfl) (pe_callD g__law_cell_at (hr.mono (by decide)) rfl (pa_cons (pv 0) (pa_cons pe_int pa_nil))))
    (pss_cons (ps_set (i := 4) sc_law_other.nd rfl (by first | exact Or.inl rfl | exact Or.inr rfl) (pe_ifExp (pt_cmpR op_ne (pe_op op_mod (pv 3) pe_int) pe_int (nomark _)) (pe_callB (lenK K rfl) rfl T.len PySem.boot_len (pa_cons (pv 1) pa_nil)) (pe_callB (lenK K rfl) rfl T.len PySem.boot_len (pa_cons (pv 2) pa_nil))))
    (@r3)))), ?_⟩
  refine ⟨_, rfl, a, ns, 3, rfl, hS, fun q qs S u H2 s2 hq frq pq gq => ?_⟩
  refine ⟨_, rfl, a, ns, 6, rfl, s2.sq hS, ?_⟩
  generalize ns.getD 6 0 = cl
  refine ⟨_, rfl, _, _, rfl, rfl, (by show (0 : Int) < 4; decide), rfl, _, rfl, ?_⟩
  have pic2 := pic.mono s2
  by_cases h : decide (V.int (cl % 4) = V.int 1) = true
  ·rw [h]
   refine iteF ⟨_, rfl, q, _, rfl, .inl (SqL.of pq.top), ?_⟩
   rw [lenF pq]
   exact k3 q qs S u cl S.length H2 s2 pq gq gq.ne gq.le
  ·rw [Bool.eq_false_iff.mpr h]
   refine iteT ⟨_, rfl, p, _, rfl, .inl (SqL.of pic2.top), ?_⟩
   rw [lenF pic2]
   exact k3 q qs S u cl R.length H2 s2 pq gq gd.ne gd.le
end
end K13
set_option Elab.async false
set_option linter.all false
set_option maxRecDepth 100000
set_option maxHeartbeats 1600000
namespace K13
open PySem L2 M4
theorem TabG.keep {ts fq : List Addr} {p : Addr} {q : Str} {H H' : Hp} (t : TabG ts p q H) (k : ∀ b o, H b = some o → b ∉ fq → H' b = some o) (hf : ∀ x ∈ fq, ∃ r, H x = some (.lst r)) : TabG ts p q H' := by
 obtain ⟨ps, e, o, kk⟩ := t
 refine ⟨ps, k _ _ e fun z => ?_, o, fun pos cv hq => ?_⟩
 ·obtain ⟨r, e2⟩ := hf _ z
  rw [e] at e2; cases e2
 ·obtain ⟨c, e1, e2, e3⟩ := kk pos cv hq
  refine ⟨c, e1, e2, k _ _ e3 fun z => ?_⟩
  obtain ⟨r, e4⟩ := hf _ z
  rw [e3] at e4
  unfold CodeO at e4; cases e4
noncomputable abbrev Tbs := List (Addr × Str)
noncomputable abbrev qJ : Str := ("_law_joined_right" ++ ".<locals>.") ++ "<lambda>"
noncomputable abbrev qT : Str := ("_law_tiled_right" ++ ".<locals>.") ++ "<lambda>"
noncomputable abbrev qS : Str := ("_law_tiles_right" ++ ".<locals>.") ++ "<lambda>"
noncomputable abbrev qL : Str := ("law" ++ ".<locals>.") ++ "<lambda>"
noncomputable def AllG (ms : Tbs) (H : Hp) : Prop := ∀ m ∈ ms, TabG (ms.map (·.1)) m.1 m.2 H
section
variable {ms : Tbs} {H H' H1 H2 : Hp}
theorem AllG.mono (g : AllG ms H) (s : Same H H') : AllG ms H' := fun m hm => (g m hm).mono s
theorem AllG.hts (g : AllG ms H) : ∀ t ∈ ms.map (·.1), H t ≠ none := fun t ht => by
 obtain ⟨m, hm, rfl⟩ := List.mem_map.mp ht
 obtain ⟨ps, e, _⟩ := g m hm
 rw [e]; simp
theorem AllG.nt (g : AllG ms H) (b : ButL (ms.map (·.1)) H H') : NT H H' := fun c o n e => b c o (fun z => by
 obtain ⟨m, hm, rfl⟩ := List.mem_map.mp z
 obtain ⟨ps, e2, _⟩ := g m hm
 rw [e] at e2; cases e2
 exact n ps rfl) e
theorem AllG.st {m : Addr × Str} (nd : ∀ a ∈ ms, ∀ b ∈ ms, a.1 = b.1 → a = b) (hm : m ∈ ms) (g : AllG ms H) (b : ButL (ms.map (·.1)) H H') (o : ∀ t ∈ ms.map (·.1), t ≠ m.1 → H' t = H t) (t : TabG (ms.map (·.1)) m.1 m.2 H') : AllG ms H' := fun m' hm' => by
 by_cases e : m'.1 = m.1
 ·have := nd m' hm' m hm e
  subst this; exact t
 ·exact (g m' hm').but (o m'.1 (List.mem_map_of_mem hm') e) fun c u n e => b c u n e
theorem AllG.keep {fq : List Addr} (g : AllG ms H) (k : ∀ b o, H b = some o → b ∉ fq → H' b = some o) (hf : ∀ x ∈ fq, ∃ r, H x = some (.lst r)) : AllG ms H' := fun m hm => TabG.keep (g m hm) k hf
structure Ok (ms : Tbs) (H H' : Hp) : Prop where
 but : ButL (ms.map (·.1)) H H'
 tab : AllG ms H'
theorem Ok.same (o : Ok ms H H1) (s : Same H1 H2) : Ok ms H H2 := ⟨o.but.trans (ButL.of s), o.tab.mono s⟩
theorem Ok.refl (g : AllG ms H) : Ok ms H H := ⟨ButL.of (Same.refl _), g⟩
theorem Ok.back (o : Ok ms H H1) {q : Addr} (h : H1 q = none) : H q = none := by
 cases e : H q with
 | none => rfl
 | some u =>
  by_cases hz : q ∈ ms.map (·.1)
  ·exact absurd h (o.tab.hts q hz)
  ·rw [o.but q u hz e] at h; cases h
theorem Ok.mark {fq : List Addr} {F : Addr} {R : List (List V)} (o : Ok ms H H1) (p : PicV H1 F fq R) (fr : ∀ q ∈ fq, H q = none) (k : ∀ b u, H1 b = some u → b ∉ fq → H2 b = some u) : Ok ms H H2 :=
 ⟨fun b u n e => k b u (o.but b u n e) fun z => (by have := fr b z; rw [e] at this; cases this), o.tab.keep k fun x hx => (by obtain ⟨r, _, e⟩ := p.mem hx; exact ⟨r, e⟩)⟩
theorem Ok.pic {F : Addr} {fq : List Addr} {R : List (List V)} (o : Ok ms H H1) (t : AllG ms H) (p : PicV H F fq R) : PicV H1 F fq R := (t.nt o.but).pic p
theorem Ok.lam {m : Addr × Str} {H3 : Hp} (nd : ∀ a ∈ ms, ∀ b ∈ ms, a.1 = b.1 → a = b) (hm : m ∈ ms) (o : Ok ms H H1) (b : ButL (ms.map (·.1)) H1 H3) (ot : ∀ t ∈ ms.map (·.1), t ≠ m.1 → H3 t = H1 t) (t : TabG (ms.map (·.1)) m.1 m.2 H3) : Ok ms H H3 := ⟨o.but.trans b, o.tab.st nd hm b ot t⟩
end
structure Told (H : Hp) (p t : Addr) (b0 b1 : Bool) : Prop where
 top : H p = some (.tup [.str "refused", .ref t, .bl true])
 row : H t = some (.lst [.bl b0, .bl b1])
theorem Told.mono {H H' : Hp} {p t : Addr} {b0 b1 : Bool} (h : Told H p t b0 b1) (s : Same H H') : Told H' p t b0 b1 := ⟨s _ _ h.top, s _ _ h.row⟩
theorem Told.nt {H H' : Hp} {p t : Addr} {b0 b1 : Bool} (h : Told H p t b0 b1) (s : NT H H') : Told H' p t b0 b1 := ⟨s.tup h.top, s.lst h.row⟩
theorem EqL.told {K : W.Frag} {H : Hp} {p q t u : Addr} {b0 b1 : Bool} (h1 : Told H p t b0 b1) (h2 : Told H q u b0 b1) : EqL K H (EqD K H 1) p q true := by
 refine ⟨_, _, .inr ⟨.inr ⟨SqT.of h1.top, SqT.of h2.top⟩, rfl, fun _ => true, fun i x y e1 e2 => ?_, rfl⟩⟩
 match i, e1, e2 with
 | 0, e1, e2 => cases e1; cases e2; exact .inl (.inr ⟨rfl, rfl, rfl⟩)
 | 1, e1, e2 =>
  cases e1; cases e2
  by_cases e : t = u
  ·subst e; exact .inl (.inl ⟨t, rfl, rfl, rfl⟩)
  ·exact .inr ⟨t, u, rfl, rfl, e, EqL.same (.inl ⟨SqL.of h1.row, SqL.of h2.row⟩) fun z hz => by simp only [List.mem_cons, List.not_mem_nil, or_false] at hz; rcases hz with rfl | rfl <;> exact .inl rfl⟩
 | 2, e1, e2 => cases e1; cases e2; exact .inl (.inr ⟨rfl, rfl, rfl⟩)
 | i + 3, e1, e2 => cases e1
noncomputable def stAt (st : Stmt) (i : Nat) : Stmt := (defBody st).getD i (.Pass ⟨0, 0, 0, 0⟩)
noncomputable def lamPrm : Expr → Option Arguments
 | .Lambda p _ _ _ => some p
 | _ => none
noncomputable def lamBody : Expr → Expr
 | .Lambda _ b _ _ => b
 | e => e
noncomputable def lamSc (d : Scope) : Expr → Scope
 | .Lambda _ _ s _ => s
 | _ => d
noncomputable def argOf : Expr → Expr
 | .Call _ (l :: _) _ _ => l
 | e => e
noncomputable def lamA : Stmt → Expr
 | .Assign _ e _ => argOf e
 | _ => .Name "" ⟨0, 0, 0, 0⟩
noncomputable def lamC (i : Nat) : Stmt → Expr
 | .Assign _ (.List es _) _ => argOf (es.getD i (.Name "" ⟨0, 0, 0, 0⟩))
 | _ => .Name "" ⟨0, 0, 0, 0⟩
noncomputable def lamX : Stmt → Expr
 | .Expr e _ => argOf (argOf e)
 | _ => .Name "" ⟨0, 0, 0, 0⟩
noncomputable def lamFI : Stmt → Expr
 | .For _ _ (.If (.Compare l _ _ _) _ _ _ :: _) _ _ => argOf l
 | _ => .Name "" ⟨0, 0, 0, 0⟩
noncomputable def lamB (i : Nat) : Stmt → Expr
 | .Assign _ (.BinOp _ _ (.List es _) _) _ => argOf (es.getD i (.Name "" ⟨0, 0, 0, 0⟩))
 | _ => .Name "" ⟨0, 0, 0, 0⟩
noncomputable def lA : Expr := lamA (stAt s_law_joined_right 1)
noncomputable def scA : Scope := lamSc (defScope s_law_joined_right) lA
theorem lsA : LamSc ["_law_one", "_law_other_here"] scA := ⟨rfl, rfl, rfl, by decide +kernel, by decide +kernel⟩
theorem fhA : ∀ y ∈ scA.names, y.2 = NameKind.free → (defScope s_law_joined_right).names.lookup y.1 = some .cell := by decide +kernel
noncomputable def lB : Expr := lamA (stAt s_law_joined_right 3)
noncomputable def scB : Scope := lamSc (defScope s_law_joined_right) lB
theorem lsB : LamSc ["_law_one", "_law_other_here"] scB := ⟨rfl, rfl, rfl, by decide +kernel, by decide +kernel⟩
theorem fhB : ∀ y ∈ scB.names, y.2 = NameKind.free → (defScope s_law_joined_right).names.lookup y.1 = some .cell := by decide +kernel
noncomputable def lC : Expr := lamA (stAt s_law_tiled_right 0)
noncomputable def scC : Scope := lamSc (defScope s_law_tiled_right) lC
theorem lsC : LamSc ["_law_handed", "_law_across", "_law_down"] scC := ⟨rfl, rfl, rfl, by decide +kernel, by decide +kernel⟩
theorem fhC : ∀ y ∈ scC.names, y.2 = NameKind.free → (defScope s_law_tiled_right).names.lookup y.1 = some .cell := by decide +kernel
noncomputable def lD : Expr := lamA (stAt s_law_tiles_right 0)
noncomputable def scD : Scope := lamSc (defScope s_law_tiles_right) lD
theorem lsD : LamSc ["_law_handed", "_law_wide", "_law_high"] scD := ⟨rfl, rfl, rfl, by decide +kernel, by decide +kernel⟩
theorem fhD : ∀ y ∈ scD.names, y.2 = NameKind.free → (defScope s_law_tiles_right).names.lookup y.1 = some .cell := by decide +kernel
noncomputable def lE : Expr := lamA (stAt s_law 14)
noncomputable def scE : Scope := lamSc (defScope s_law) lE
theorem lsE : LamSc ["_law_tiles_here"] scE := ⟨rfl, rfl, rfl, by decide +kernel, by decide +kernel⟩
theorem fhE : ∀ y ∈ scE.names, y.2 = NameKind.free → (defScope s_law).names.lookup y.1 = some .cell := by decide +kernel
noncomputable def lG : Expr := lamFI (stAt s_law 16)
noncomputable def scG : Scope := lamSc (defScope s_law) lG
theorem lsG : LamSc ["_law_tiles_here"] scG := ⟨rfl, rfl, rfl, by decide +kernel, by decide +kernel⟩
theorem fhG : ∀ y ∈ scG.names, y.2 = NameKind.free → (defScope s_law).names.lookup y.1 = some .cell := by decide +kernel
noncomputable def lH : Expr := lamC 0 (stAt s_law 18)
noncomputable def scH : Scope := lamSc (defScope s_law) lH
theorem lsH : LamSc ["_law_bad", "_law_picture_here"] scH := ⟨rfl, rfl, rfl, by decide +kernel, by decide +kernel⟩
theorem fhH : ∀ y ∈ scH.names, y.2 = NameKind.free → (defScope s_law).names.lookup y.1 = some .cell := by decide +kernel
noncomputable def lI : Expr := lamC 1 (stAt s_law 18)
noncomputable def scI : Scope := lamSc (defScope s_law) lI
theorem lsI : LamSc ["_law_picture_here", "_law_bad"] scI := ⟨rfl, rfl, rfl, by decide +kernel, by decide +kernel⟩
theorem fhI : ∀ y ∈ scI.names, y.2 = NameKind.free → (defScope s_law).names.lookup y.1 = some .cell := by decide +kernel
noncomputable def lK : Expr := lamX (stAt s_law 19)
noncomputable def scK : Scope := lamSc (defScope s_law) lK
theorem lsK : LamSc ["_law_picture_here", "_law_bad"] scK := ⟨rfl, rfl, rfl, by decide +kernel, by decide +kernel⟩
theorem fhK : ∀ y ∈ scK.names, y.2 = NameKind.free → (defScope s_law).names.lookup y.1 = some .cell := by decide +kernel
noncomputable def lL : Expr := lamX (stAt s_law 20)
noncomputable def scL : Scope := lamSc (defScope s_law) lL
theorem lsL : LamSc ["_law_bad", "_law_picture_here"] scL := ⟨rfl, rfl, rfl, by decide +kernel, by decide +kernel⟩
theorem fhL : ∀ y ∈ scL.names, y.2 = NameKind.free → (defScope s_law).names.lookup y.1 = some .cell := by decide +kernel
noncomputable def lM : Expr := lamB 0 (stAt s_law 21)
noncomputable def scM : Scope := lamSc (defScope s_law) lM
theorem lsM : LamSc ["_law_bad"] scM := ⟨rfl, rfl, rfl, by decide +kernel, by decide +kernel⟩
theorem fhM : ∀ y ∈ scM.names, y.2 = NameKind.free → (defScope s_law).names.lookup y.1 = some .cell := by decide +kernel
noncomputable def lN : Expr := lamB 1 (stAt s_law 21)
noncomputable def scN : Scope := lamSc (defScope s_law) lN
theorem lsN : LamSc ["_law_bad"] scN := ⟨rfl, rfl, rfl, by decide +kernel, by decide +kernel⟩
theorem fhN : ∀ y ∈ scN.names, y.2 = NameKind.free → (defScope s_law).names.lookup y.1 = some .cell := by decide +kernel
section
variable {P : Program} {w : World} {K : W.Frag} {mg : Str → Option Value} {base : Heap} {cFE cBP cBS : Addr} {tS tC : Tok}
theorem lamXA {prm : Arguments} (hp : lamPrm lA = some prm) {f c : Addr} {cl : List (Str × Addr)} {v0 v1 : V} (g : DefX P w K mg base 9 "set_beside" ["one", "other"] [] (spTwo noBeside besideF K cBP cBS)) (hhas : ∀ x, scA.names.lookup x = some .free → ∃ c, cl.lookup x = some c) (hce : CellsAt base ["_law_one", "_law_other_here"] cl [some v0, some v1]) :
  LamX P w K mg base 11 f (fun H Q E => H f = some (LamOC f ⟨prm, lamBody lA, scA, qJ, cl, .none, c⟩) ∧ H c = some (CodeO c qJ) ∧ spTwo noBeside besideF K cBP cBS [v0, v1] H Q E) := by
 cases hp
 refine lamX_of (k := 10) (H0 := fun _ => True) lsA hhas hce (fun H Q E h => ⟨h.1, h.2.1, trivial⟩) (fun s H doc pm ctv _ _ => bind_none (fun _ _ _ => rfl) s doc pm ctv) fun A outer s H Q E hr h => ?_
 obtain ⟨_, _, h⟩ := h
 refine ⟨_, (pe_callX g (hr.mono (by decide)) passesL rfl (pa_cons (pv 0) (pa_cons (pv 1) pa_nil))), ?_⟩
 exact ⟨_, rfl, _, rfl, h⟩
theorem lamXB {prm : Arguments} (hp : lamPrm lB = some prm) {f c T : Addr} {cl : List (Str × Addr)} {v0 v1 : V} (g : DefX P w K mg base 9 "set_above" ["one", "other"] [] (spTwo noAbove (fun R S => R ++ S) K cBP cBS)) (hhas : ∀ x, scB.names.lookup x = some .free → ∃ c, cl.lookup x = some c) (hce : CellsAt base ["_law_one", "_law_other_here"] cl [some v0, some v1]) :
  LamX P w K mg base 11 f (fun H Q E => H f = some (LamOC f ⟨prm, lamBody lB, scB, qJ, cl, .ref T, c⟩) ∧ H c = some (CodeO c qJ) ∧ H T = some (.tup [.int 0]) ∧ spTwo noAbove (fun R S => R ++ S) K cBP cBS [v0, v1] H Q E) := by
 cases hp
 refine lamX_of (k := 10) (H0 := fun H => H T = some (.tup [.int 0])) lsB hhas hce (fun H Q E h => ⟨h.1, h.2.1, h.2.2.1⟩) (fun s H doc pm ctv ok hT => bind_one (x := "_law_more") rfl hT rfl (fun _ _ _ => ⟨_, rfl, fun _ => rfl⟩) s doc pm ctv ok) fun A outer s H Q E hr h => ?_
 obtain ⟨_, _, _, h⟩ := h
 refine ⟨_, (pe_callX g (hr.mono (by decide)) passesL rfl (pa_cons (pv 0) (pa_cons (pv 1) pa_nil))), ?_⟩
 exact ⟨_, rfl, _, rfl, h⟩
theorem lamXC {prm : Arguments} (hp : lamPrm lC = some prm) {f c : Addr} {cl : List (Str × Addr)} {v0 v1 v2 : V} (g : DefX P w K mg base 9 "tiled" ["picture", "across", "down"] [] (spTiled K cBP cBS)) (hhas : ∀ x, scC.names.lookup x = some .free → ∃ c, cl.lookup x = some c) (hce : CellsAt base ["_law_handed", "_law_across", "_law_down"] cl [some v0, some v1, some v2]) :
  LamX P w K mg base 11 f (fun H Q E => H f = some (LamOC f ⟨prm, lamBody lC, scC, qT, cl, .none, c⟩) ∧ H c = some (CodeO c qT) ∧ spTiled K cBP cBS [v0, v1, v2] H Q E) := by
 cases hp
 refine lamX_of (k := 10) (H0 := fun _ => True) lsC hhas hce (fun H Q E h => ⟨h.1, h.2.1, trivial⟩) (fun s H doc pm ctv _ _ => bind_none (fun _ _ _ => rfl) s doc pm ctv) fun A outer s H Q E hr h => ?_
 obtain ⟨_, _, h⟩ := h
 refine ⟨_, (pe_callX g (hr.mono (by decide)) passesL rfl (pa_cons (pv 0) (pa_cons (pv 1) (pa_cons (pv 2) pa_nil)))), ?_⟩
 exact ⟨_, rfl, _, rfl, _, rfl, h⟩
theorem lamXD {prm : Arguments} (hp : lamPrm lD = some prm) {f c : Addr} {cl : List (Str × Addr)} {v0 v1 v2 : V} (g : DefX P w K mg base 9 "tiles_of" ["picture", "wide", "high"] [] (spTiles K cBP cBS)) (hhas : ∀ x, scD.names.lookup x = some .free → ∃ c, cl.lookup x = some c) (hce : CellsAt base ["_law_handed", "_law_wide", "_law_high"] cl [some v0, some v1, some v2]) :
  LamX P w K mg base 11 f (fun H Q E => H f = some (LamOC f ⟨prm, lamBody lD, scD, qS, cl, .none, c⟩) ∧ H c = some (CodeO c qS) ∧ spTiles K cBP cBS [v0, v1, v2] H Q E) := by
 cases hp
 refine lamX_of (k := 10) (H0 := fun _ => True) lsD hhas hce (fun H Q E h => ⟨h.1, h.2.1, trivial⟩) (fun s H doc pm ctv _ _ => bind_none (fun _ _ _ => rfl) s doc pm ctv) fun A outer s H Q E hr h => ?_
 obtain ⟨_, _, h⟩ := h
 refine ⟨_, (pe_callX g (hr.mono (by decide)) passesL rfl (pa_cons (pv 0) (pa_cons (pv 1) (pa_cons (pv 2) pa_nil)))), ?_⟩
 exact ⟨_, rfl, _, rfl, _, rfl, h⟩
theorem lamXE {prm : Arguments} (hp : lamPrm lE = some prm) {f c : Addr} {cl : List (Str × Addr)} {v0 : V} (g : DefX P w K mg base 10 "from_tiles" ["tiles"] [] (spFrom K cBP cBS)) (hhas : ∀ x, scE.names.lookup x = some .free → ∃ c, cl.lookup x = some c) (hce : CellsAt base ["_law_tiles_here"] cl [some v0]) :
  LamX P w K mg base 11 f (fun H Q E => H f = some (LamOC f ⟨prm, lamBody lE, scE, qL, cl, .none, c⟩) ∧ H c = some (CodeO c qL) ∧ spFrom K cBP cBS [v0] H Q E) := by
 cases hp
 refine lamX_of (k := 10) (H0 := fun _ => True) lsE hhas hce (fun H Q E h => ⟨h.1, h.2.1, trivial⟩) (fun s H doc pm ctv _ _ => bind_none (fun _ _ _ => rfl) s doc pm ctv) fun A outer s H Q E hr h => ?_
 obtain ⟨_, _, h⟩ := h
 refine ⟨_, (pe_callX g (hr.mono (by decide)) passesL rfl (pa_cons (pv 0) pa_nil)), ?_⟩
 exact ⟨_, rfl, h⟩
theorem lamXG {prm : Arguments} (hp : lamPrm lG = some prm) {f c : Addr} {cl : List (Str × Addr)} {v0 : V} (g : DefX P w K mg base 10 "from_tiles" ["tiles"] [] (spFrom K cBP cBS)) (hhas : ∀ x, scG.names.lookup x = some .free → ∃ c, cl.lookup x = some c) (hce : CellsAt base ["_law_tiles_here"] cl [some v0]) :
  LamX P w K mg base 11 f (fun H Q E => H f = some (LamOC f ⟨prm, lamBody lG, scG, qL, cl, .none, c⟩) ∧ H c = some (CodeO c qL) ∧ spFrom K cBP cBS [v0] H Q E) := by
 cases hp
 refine lamX_of (k := 10) (H0 := fun _ => True) lsG hhas hce (fun H Q E h => ⟨h.1, h.2.1, trivial⟩) (fun s H doc pm ctv _ _ => bind_none (fun _ _ _ => rfl) s doc pm ctv) fun A outer s H Q E hr h => ?_
 obtain ⟨_, _, h⟩ := h
 refine ⟨_, (pe_callX g (hr.mono (by decide)) passesL rfl (pa_cons (pv 0) pa_nil)), ?_⟩
 exact ⟨_, rfl, h⟩
theorem lamXH {prm : Arguments} (hp : lamPrm lH = some prm) {f c T : Addr} {cl : List (Str × Addr)} {v0 v1 : V} (g : DefX P w K mg base 9 "set_beside" ["one", "other"] [] (spTwo noBeside besideF K cBP cBS)) (hhas : ∀ x, scH.names.lookup x = some .free → ∃ c, cl.lookup x = some c) (hce : CellsAt base ["_law_bad", "_law_picture_here"] cl [some v0, some v1]) :
  LamX P w K mg base 11 f (fun H Q E => H f = some (LamOC f ⟨prm, lamBody lH, scH, qL, cl, .ref T, c⟩) ∧ H c = some (CodeO c qL) ∧ H T = some (.tup [.int 0]) ∧ spTwo noBeside besideF K cBP cBS [v0, v1] H Q E) := by
 cases hp
 refine lamX_of (k := 10) (H0 := fun H => H T = some (.tup [.int 0])) lsH hhas hce (fun H Q E h => ⟨h.1, h.2.1, h.2.2.1⟩) (fun s H doc pm ctv ok hT => bind_one (x := "_law_one") rfl hT rfl (fun _ _ _ => ⟨_, rfl, fun _ => rfl⟩) s doc pm ctv ok) fun A outer s H Q E hr h => ?_
 obtain ⟨_, _, _, h⟩ := h
 refine ⟨_, (pe_callX g (hr.mono (by decide)) passesL rfl (pa_cons (pv 0) (pa_cons (pv 1) pa_nil))), ?_⟩
 exact ⟨_, rfl, _, rfl, h⟩
theorem lamXI {prm : Arguments} (hp : lamPrm lI = some prm) {f c T : Addr} {cl : List (Str × Addr)} {v0 v1 : V} (g : DefX P w K mg base 9 "set_above" ["one", "other"] [] (spTwo noAbove (fun R S => R ++ S) K cBP cBS)) (hhas : ∀ x, scI.names.lookup x = some .free → ∃ c, cl.lookup x = some c) (hce : CellsAt base ["_law_picture_here", "_law_bad"] cl [some v0, some v1]) :
  LamX P w K mg base 11 f (fun H Q E => H f = some (LamOC f ⟨prm, lamBody lI, scI, qL, cl, .ref T, c⟩) ∧ H c = some (CodeO c qL) ∧ H T = some (.tup [.int 0]) ∧ spTwo noAbove (fun R S => R ++ S) K cBP cBS [v0, v1] H Q E) := by
 cases hp
 refine lamX_of (k := 10) (H0 := fun H => H T = some (.tup [.int 0])) lsI hhas hce (fun H Q E h => ⟨h.1, h.2.1, h.2.2.1⟩) (fun s H doc pm ctv ok hT => bind_one (x := "_law_two") rfl hT rfl (fun _ _ _ => ⟨_, rfl, fun _ => rfl⟩) s doc pm ctv ok) fun A outer s H Q E hr h => ?_
 obtain ⟨_, _, _, h⟩ := h
 refine ⟨_, (pe_callX g (hr.mono (by decide)) passesL rfl (pa_cons (pv 0) (pa_cons (pv 1) pa_nil))), ?_⟩
 exact ⟨_, rfl, _, rfl, h⟩
theorem lamXK {prm : Arguments} (hp : lamPrm lK = some prm) {f c T : Addr} {cl : List (Str × Addr)} {v0 v1 : V} (g : DefX P w K mg base 9 "set_beside" ["one", "other"] [] (spTwo noBeside besideF K cBP cBS)) (hhas : ∀ x, scK.names.lookup x = some .free → ∃ c, cl.lookup x = some c) (hce : CellsAt base ["_law_picture_here", "_law_bad"] cl [some v0, some v1]) :
  LamX P w K mg base 11 f (fun H Q E => H f = some (LamOC f ⟨prm, lamBody lK, scK, qL, cl, .ref T, c⟩) ∧ H c = some (CodeO c qL) ∧ H T = some (.tup [.int 0]) ∧ spTwo noBeside besideF K cBP cBS [v0, v1] H Q E) := by
 cases hp
 refine lamX_of (k := 10) (H0 := fun H => H T = some (.tup [.int 0])) lsK hhas hce (fun H Q E h => ⟨h.1, h.2.1, h.2.2.1⟩) (fun s H doc pm ctv ok hT => bind_one (x := "_law_five") rfl hT rfl (fun _ _ _ => ⟨_, rfl, fun _ => rfl⟩) s doc pm ctv ok) fun A outer s H Q E hr h => ?_
 obtain ⟨_, _, _, h⟩ := h
 refine ⟨_, (pe_callX g (hr.mono (by decide)) passesL rfl (pa_cons (pv 0) (pa_cons (pv 1) pa_nil))), ?_⟩
 exact ⟨_, rfl, _, rfl, h⟩
theorem lamXL {prm : Arguments} (hp : lamPrm lL = some prm) {f c T : Addr} {cl : List (Str × Addr)} {v0 v1 : V} (g : DefX P w K mg base 9 "set_above" ["one", "other"] [] (spTwo noAbove (fun R S => R ++ S) K cBP cBS)) (hhas : ∀ x, scL.names.lookup x = some .free → ∃ c, cl.lookup x = some c) (hce : CellsAt base ["_law_bad", "_law_picture_here"] cl [some v0, some v1]) :
  LamX P w K mg base 11 f (fun H Q E => H f = some (LamOC f ⟨prm, lamBody lL, scL, qL, cl, .ref T, c⟩) ∧ H c = some (CodeO c qL) ∧ H T = some (.tup [.int 0]) ∧ spTwo noAbove (fun R S => R ++ S) K cBP cBS [v0, v1] H Q E) := by
 cases hp
 refine lamX_of (k := 10) (H0 := fun H => H T = some (.tup [.int 0])) lsL hhas hce (fun H Q E h => ⟨h.1, h.2.1, h.2.2.1⟩) (fun s H doc pm ctv ok hT => bind_one (x := "_law_six") rfl hT rfl (fun _ _ _ => ⟨_, rfl, fun _ => rfl⟩) s doc pm ctv ok) fun A outer s H Q E hr h => ?_
 obtain ⟨_, _, _, h⟩ := h
 refine ⟨_, (pe_callX g (hr.mono (by decide)) passesL rfl (pa_cons (pv 0) (pa_cons (pv 1) pa_nil))), ?_⟩
 exact ⟨_, rfl, _, rfl, h⟩
theorem lamXM {prm : Arguments} (hp : lamPrm lM = some prm) {f c T : Addr} {cl : List (Str × Addr)} {v0 : V} (g : DefX P w K mg base 9 "tiled" ["picture", "across", "down"] [] (spTiled K cBP cBS)) (hhas : ∀ x, scM.names.lookup x = some .free → ∃ c, cl.lookup x = some c) (hce : CellsAt base ["_law_bad"] cl [some v0]) :
  LamX P w K mg base 11 f (fun H Q E => H f = some (LamOC f ⟨prm, lamBody lM, scM, qL, cl, .ref T, c⟩) ∧ H c = some (CodeO c qL) ∧ H T = some (.tup [.int 0]) ∧ spTiled K cBP cBS [v0, .int 0, .int 0] H Q E) := by
 cases hp
 refine lamX_of (k := 10) (H0 := fun H => H T = some (.tup [.int 0])) lsM hhas hce (fun H Q E h => ⟨h.1, h.2.1, h.2.2.1⟩) (fun s H doc pm ctv ok hT => bind_one (x := "_law_three") rfl hT rfl (fun _ _ _ => ⟨_, rfl, fun _ => rfl⟩) s doc pm ctv ok) fun A outer s H Q E hr h => ?_
 obtain ⟨_, _, _, h⟩ := h
 refine ⟨_, (pe_callX g (hr.mono (by decide)) passesL rfl (pa_cons (pv 0) (pa_cons pe_int (pa_cons pe_int pa_nil)))), ?_⟩
 exact ⟨_, rfl, h⟩
theorem lamXN {prm : Arguments} (hp : lamPrm lN = some prm) {f c T : Addr} {cl : List (Str × Addr)} {v0 : V} (g : DefX P w K mg base 9 "tiles_of" ["picture", "wide", "high"] [] (spTiles K cBP cBS)) (hhas : ∀ x, scN.names.lookup x = some .free → ∃ c, cl.lookup x = some c) (hce : CellsAt base ["_law_bad"] cl [some v0]) :
  LamX P w K mg base 11 f (fun H Q E => H f = some (LamOC f ⟨prm, lamBody lN, scN, qL, cl, .ref T, c⟩) ∧ H c = some (CodeO c qL) ∧ H T = some (.tup [.int 0]) ∧ spTiles K cBP cBS [v0, .int 0, .int 0] H Q E) := by
 cases hp
 refine lamX_of (k := 10) (H0 := fun H => H T = some (.tup [.int 0])) lsN hhas hce (fun H Q E h => ⟨h.1, h.2.1, h.2.2.1⟩) (fun s H doc pm ctv ok hT => bind_one (x := "_law_four") rfl hT rfl (fun _ _ _ => ⟨_, rfl, fun _ => rfl⟩) s doc pm ctv ok) fun A outer s H Q E hr h => ?_
 obtain ⟨_, _, _, h⟩ := h
 refine ⟨_, (pe_callX g (hr.mono (by decide)) passesL rfl (pa_cons (pv 0) (pa_cons pe_int (pa_cons pe_int pa_nil)))), ?_⟩
 exact ⟨_, rfl, h⟩
end
end K13
set_option Elab.async false
set_option linter.all false
set_option maxRecDepth 100000
set_option maxHeartbeats 1600000
namespace K13
open PySem L2 M4
noncomputable def spJoin (K : W.Frag) (ms : Tbs) : Sp := fun vs H Q _ => ∃ (a b : Addr) (ps qs : List Addr) (R S : List (List Int)) (wd u : Nat), vs = [.ref a, .ref b] ∧ PicV H a ps (ir R) ∧ Good R wd ∧ PicV H b qs (ir S) ∧ Good S u ∧ (∀ y ∈ qs, y ∉ ps) ∧ AllG ms H ∧ ∀ H', Ok ms H H' → Q (.bl true) H'
theorem dec_len {n m : Nat} : decide (V.int (n : Int) = V.int (m : Int)) = decide (n = m) := by
 rw [Bool.eq_iff_iff, decide_eq_true_eq, decide_eq_true_eq]
 exact ⟨fun z => by injection z with z; omega, fun z => by rw [z]⟩
theorem dec_gt {n m : Nat} : decide ((n : Int) + (m : Int) > 24) = decide (24 < n + m) := by
 rw [Bool.eq_iff_iff, decide_eq_true_eq, decide_eq_true_eq]; omega
section
variable {P : Program} {w : World} {K : W.Frag} {mg : Str → Option Value} {base : Heap} {cFE cBP cBS : Addr} {tS tC : Tok}
theorem sc_law_joined_right : FnScope ["_law_one", "_law_other_here", "_law_due", "_law_found"] ["_law_one", "_law_other_here"] (defScope s_law_joined_right) := ⟨rfl, rfl, rfl, by decide +kernel, rfl, by decide +kernel, by decide +kernel⟩
theorem ok_law_joined_right {ms : Tbs} {f c0 p : Addr} {fd : FuncData} (F : FunD K "_law_joined_right" "_law_joined_right" s_law_joined_right .none f fd) (hc : fd.code = .ref c0) (hC : W.CodeHd base c0 p) (hB : BMain mg base) (nd : ∀ a ∈ ms, ∀ b ∈ ms, a.1 = b.1 → a = b) (hm : (p, qJ) ∈ ms) (T : Txt K mg cFE cBP cBS tS tC)
  (gB : ∀ base', BaseOk K mg base' → Def P w K mg base' 12 "_law_refused" ["_law_deed"] [] (spRef P w K mg cBP cBS base')) (gSB : ∀ base', BaseOk K mg base' → DefX P w K mg base' 9 "set_beside" ["one", "other"] [] (spTwo noBeside besideF K cBP cBS)) (gSA : ∀ base', BaseOk K mg base' → DefX P w K mg base' 9 "set_above" ["one", "other"] [] (spTwo noAbove (fun R S => R ++ S) K cBP cBS)) (g__law_is_like : Def P w K mg base 2 "_law_is_like" ["_law_found", "_law_due"] [] (spLike K)) (g__law_marked : Def P w K mg base 1 "_law_marked" ["_law_found"] [] (spMarked K)) : FnOk P w K mg base CX0 13 f fd ["_law_one", "_law_other_here"] (spJoin K ms) := by
 refine F.okT hc sc_law_joined_right (fun vs H Q E h => ?_) (fun cdv hcdv A outer s H vs Q E hr h => ?_)
 ·obtain ⟨a, b, ps, qs, R, S, wd, u, rfl, _⟩ := h; rfl
 ·obtain ⟨a, b, ps, qs, R, S, wd, u, rfl, pa, gd, pb, gd2, dj, tab, k⟩ := h
  have hu : _ + 64 < cLine := hr.units
  have w24 := gd.w24
  have h24 := gd.le
  have w24' := gd2.w24
  have h24' := gd2.le
  have hpm := List.mem_map_of_mem (f := fun x : Addr × Str => x.1) hm
  obtain ⟨t3, r3, k3⟩ : ∃ tr, PSs ((cxOf CX0 P w K mg base ["_law_one", "_law_other_here", "_law_due", "_law_found"] "_law_joined_right" (defScope s_law_joined_right) f cdv A outer s H E).nox) ((defBody s_law_joined_right).drop 3) tr ∧
    ∀ (du dn : Addr) (v3 : Option V) (H1 : Hp), Ok ms H H1 → Told H1 du dn false true → tr { nx := fun _ H' => Q .non H', rt := Q } [some (.ref a), some (.ref b), some (.ref du), v3] H1 := by
   refine ⟨_, (pss_cons (ps_set (i := 3) sc_law_joined_right.nd rfl (by first | exact Or.inl rfl | exact Or.inr rfl) (pe_callR0 gB hB (hr.mono (by decide)) rfl (pa_cons (pe_lamD hcdv hC hB (FreeHas.of fhB) rfl) pa_nil)))
    (pss_cons (ps_if (PW.pt (pw_or (pt_cmpR op_ne (pe_callB (lenK K rfl) rfl T.len PySem.boot_len (pa_cons (pe_ix (ixK K rfl) (pv 0) pe_int (fun _ _ => rfl)) pa_nil)) (pe_callB (lenK K rfl) rfl T.len PySem.boot_len (pa_cons (pe_ix (ixK K rfl) (pv 1) pe_int (fun _ _ => rfl)) pa_nil)) (nomark _)) (pw_or1 (pt_cmpR op_gt (pe_op op_add (pe_callB (lenK K rfl) rfl T.len PySem.boot_len (pa_cons (pv 0) pa_nil)) (pe_callB (lenK K rfl) rfl T.len PySem.boot_len (pa_cons (pv 1) pa_nil))) pe_int (nomark _))))) (pss_one (ps_ret (pe_cmpR (eqDK K rfl hu) (pv 3) (pv 2) (nomark _)))) pss_nil)
    (pss_one (ps_ret (pe_and (pe_callD g__law_is_like (hr.mono (by decide)) rfl (pa_cons (pv 3) (pa_cons (pe_op op_cat (pv 0) (pv 1)) pa_nil))) (pe_one (pe_callD g__law_marked (hr.mono (by decide)) rfl (pa_cons (pv 3) pa_nil)))))))), ?_⟩
   intro du dn v3 H1 ok1 td
   try dsimp only [tNext, tSeq, tIfS, tTest, tRet, tOp, tAsg, tCallR0, tCons, tLamC, gName, List.set_cons_zero, List.set_cons_succ]
   intro T1 hT1
   have z2 := same_new (o := HO.tup [V.int 0]) hT1
   have ok2 := ok1.same z2
   have td2 := td.mono z2
   have eT1 := upd_same (H := H1) (a := T1) (o := HO.tup [V.int 0])
   generalize upd H1 T1 (.tup [.int 0]) = H2 at ok2 td2 eT1 ⊢
   refine tLamW_of (ts := ms.map (·.1)) hpm ok2.tab.hts (ok2.tab _ hm) fun f3 c3 H3 bt3 ot3 tb3 hf3 hc3 base' ok cap => ?_
   have m3 := ok2.tab.nt bt3
   have ok3 := ok2.lam nd hm bt3 ot3 tb3
   have td3 := td2.nt m3
   have pa3 := ok3.pic tab pa
   have pb3 := ok3.pic tab pb
   refine ⟨f3, _, _, rfl, hf3, lamXB rfl (gSA base' ok) clOf_hasL (cells_of cap (FreeHas.of fhB) rfl fun i x y e1 e2 => ?_), fun E' kP kS => ⟨hf3, hc3, m3.tup eT1, .ref a, .ref b, rfl, .inr ⟨a, ps, R, wd, rfl, pa3, gd, .inr ⟨b, qs, S, u, rfl, pb3, gd2, fun no H4 s4 => kS H4 fun nn tt H5 s5 hn ht en et => ?_, fun yes FF fq H5 s5 hF frF pF => ?_⟩⟩⟩⟩
   ·match i, e1, e2 with
    | 0, e1, e2 => cases e1; cases e2; exact ⟨by decide +kernel, rfl, 0, rfl, rfl⟩
    | 1, e1, e2 => cases e1; cases e2; exact ⟨by decide +kernel, rfl, 1, rfl, rfl⟩
    | i + 2, e1, e2 => cases e1
   ·have s35 := s4.trans s5
    have ok5 := ok3.same s35
    have pa5 := ok5.pic tab pa
    have pb5 := ok5.pic tab pb
    have td5 := td3.mono s35
    have tf : Told H5 tt nn false true := ⟨et, en⟩
    obtain ⟨a0, m0, a00, a01, a02⟩ := gd.first pa5
    obtain ⟨b0, n0, b00, b01, b02⟩ := gd2.first pb5
    refine ⟨_, rfl, a, _, _, .ref a0, rfl, rfl, SqL.of pa5.top, atI_nat (j := 0) a00, a0, _, rfl, .inl (SqL.of a01), _, rfl, b, _, _, .ref b0, rfl, rfl, SqL.of pb5.top, atI_nat (j := 0) b00, b0, _, rfl, .inl (SqL.of b01), rfl, _, rfl, ?_⟩
    rw [List.length_map, List.length_map, a02, b02, dec_len]
    have fin : ∀ X : Prop, X → X := fun _ x => x
    by_cases hw : wd = u
    ·rw [decide_eq_true hw]
     refine ⟨_, rfl, a, _, rfl, .inl (SqL.of pa5.top), _, rfl, b, _, rfl, .inl (SqL.of pb5.top), _, _, rfl, rfl, _, _, rfl, rfl, _, rfl, ?_⟩
     rw [lenF pa5, lenF pb5, dec_gt, decide_eq_true (by unfold noAbove at no; omega)]
     exact iteT ⟨_, rfl, _, rfl, 1, tt, du, true, by decide, rfl, rfl, EqL.told tf td5, k H5 ok5⟩
    ·rw [decide_eq_false hw]
     exact ⟨_, rfl, _, rfl, 1, tt, du, true, by decide, rfl, rfl, EqL.told tf td5, k H5 ok5⟩
   ·have ok5 := ok3.same s5
    have pa5 := ok5.pic tab pa
    have pb5 := ok5.pic tab pb
    have hno : wd = u ∧ R.length + S.length ≤ 24 := by unfold noAbove at yes; omega
    obtain ⟨a0, m0, a00, a01, a02⟩ := gd.first pa5
    obtain ⟨b0, n0, b00, b01, b02⟩ := gd2.first pb5
    refine ⟨_, rfl, a, _, _, .ref a0, rfl, rfl, SqL.of pa5.top, atI_nat (j := 0) a00, a0, _, rfl, .inl (SqL.of a01), _, rfl, b, _, _, .ref b0, rfl, rfl, SqL.of pb5.top, atI_nat (j := 0) b00, b0, _, rfl, .inl (SqL.of b01), rfl, _, rfl, ?_⟩
    rw [List.length_map, List.length_map, a02, b02, dec_len, decide_eq_true hno.1]
    refine ⟨_, rfl, a, _, rfl, .inl (SqL.of pa5.top), _, rfl, b, _, rfl, .inl (SqL.of pb5.top), _, _, rfl, rfl, _, _, rfl, rfl, _, rfl, ?_⟩
    rw [lenF pa5, lenF pb5, dec_gt, decide_eq_false (by omega)]
    refine iteF ?_
    refine ⟨_, rfl, _, rfl, _, rfl, a, b, _, _, rfl, rfl, pa5.top, pb5.top, by rw [lenF pa5, lenF pb5]; exact Nat.le_trans hno.2 (by decide), fun D hD => ?_⟩
    have z6 := same_new (o := HO.lst (ps.map V.ref ++ qs.map V.ref)) hD
    have frH : ∀ y ∈ fq, H y = none := fun y hy => ok3.back (frF y hy)
    have pD : PicV (upd H5 D (HO.lst (ps.map V.ref ++ qs.map V.ref))) D (ps ++ qs) (ir (R ++ S)) := by
     refine ⟨by rw [upd_same, List.map_append], by rw [ir_app]; exact Paired.app (pa5.mono z6).row (pb5.mono z6).row, ?_, fun z => ?_⟩
     ·rw [List.nodup_append]
      exact ⟨pa.nd, pb.nd, fun x hx y hy e => dj y hy (by rw [← e]; exact hx)⟩
     ·rcases List.mem_append.mp z with h | h
      ·exact not_new pa5 hD h
      ·exact not_new pb5 hD h
    refine ⟨FF, D, fq, ps ++ qs, R ++ S, wd, rfl, pF.mono z6, pD, above_good gd gd2 yes, fun y hy hz => ?_, not_new pF hD, fun H7 s7 => ?_⟩
    ·have := frH y hz
     rcases List.mem_append.mp hy with h | h
     ·obtain ⟨r, _, e⟩ := pa.mem h; rw [this] at e; cases e
     ·obtain ⟨r, _, e⟩ := pb.mem h; rw [this] at e; cases e
    have ok7 := ok5.same (z6.trans s7)
    have pF7 := (pF.mono z6).mono s7
    refine ⟨_, rfl, _, rfl, FF, fq, R ++ S, wd, rfl, pF7, above_good gd gd2 yes, fun H8 k8 => ?_⟩
    exact k H8 (ok7.mark pF7 frH k8)
  refine ⟨_, (pss_cons (ps_set (i := 2) sc_law_joined_right.nd rfl (by first | exact Or.inl rfl | exact Or.inr rfl) (pe_tup (pa_cons pe_str (pa_cons (pe_lst (pa_cons pe_bl (pa_cons pe_bl pa_nil))) (pa_cons pe_bl pa_nil)))))
    (pss_cons (ps_set (i := 3) sc_law_joined_right.nd rfl (by first | exact Or.inl rfl | exact Or.inr rfl) (pe_callR0 gB hB (hr.mono (by decide)) rfl (pa_cons (pe_lamC hcdv hC hB (FreeHas.of fhA)) pa_nil)))
    (pss_cons (ps_if (PW.pt (pw_or (pt_cmpR op_ne (pe_callB (lenK K rfl) rfl T.len PySem.boot_len (pa_cons (pv 0) pa_nil)) (pe_callB (lenK K rfl) rfl T.len PySem.boot_len (pa_cons (pv 1) pa_nil)) (nomark _)) (pw_or1 (pt_cmpR op_gt (pe_op op_add (pe_callB (lenK K rfl) rfl T.len PySem.boot_len (pa_cons (pe_ix (ixK K rfl) (pv 0) pe_int (fun _ _ => rfl)) pa_nil)) (pe_callB (lenK K rfl) rfl T.len PySem.boot_len (pa_cons (pe_ix (ixK K rfl) (pv 1) pe_int (fun _ _ => rfl)) pa_nil))) pe_int (nomark _))))) (pss_one (ps_if (pt_cmpR (neDK K rfl hu) (pv 3) (pv 2) (nomark _)) (pss_one (ps_ret pe_bl)) pss_nil)) (pss_one (ps_if (pt_not (pt_val (pe_callD g__law_is_like (hr.mono (by decide)) rfl (pa_cons (pv 3) (pa_cons (pe_comp (N := ["_law_row", "_law_more"]) (src := [none, none]) rfl ⟨rfl, rfl, rfl, rfl, rfl, by decide +kernel⟩ (pi_zip rfl T.zip (pa_cons (pv 0) (pa_cons (pv 1) pa_nil))) (fun s H C fp => (pg_tupK (n := 2) K rfl rfl (pgs_cons (pg_name (i := 0) (show (["_law_row", "_law_more"] : List Str).Nodup by decide +kernel) rfl (by first | exact Or.inl rfl | exact Or.inr rfl)) (pgs_cons (pg_name (i := 1) (show (["_law_row", "_law_more"] : List Str).Nodup by decide +kernel) rfl (by first | exact Or.inl rfl | exact Or.inr rfl)) pgs_nil)))) (fun s H C fp => pts_nil) (fun s H C fp => (pe_op op_cat (pv 0) (pv 1)))) pa_nil))))) (pss_one (ps_ret pe_bl)) (pss_one (ps_expr (pe_callD g__law_marked (hr.mono (by decide)) rfl (pa_cons (pv 3) pa_nil)))))))
    (@r3)))), ?_⟩
  refine ⟨sz2, fun dn hdn => ⟨sz3, fun du hdu => ?_⟩⟩
  have z1 := (same_new (o := HO.lst [V.bl false, .bl true]) hdn).trans (same_new (o := HO.tup [V.str "refused", .ref dn, .bl true]) hdu)
  have td : Told (upd (upd H dn (HO.lst [V.bl false, .bl true])) du (HO.tup [V.str "refused", .ref dn, .bl true])) du dn false true := ⟨upd_same, same_new hdu _ _ upd_same⟩
  have ok1 := (Ok.refl tab).same z1
  generalize upd (upd H dn (HO.lst [V.bl false, .bl true])) du (HO.tup [V.str "refused", .ref dn, .bl true]) = H1 at td ok1 ⊢
  try dsimp only [tNext, tSeq, tIfS, tTest, tRet, tOp, tAsg, tCallR0, tCons, tLamC, gName, List.set_cons_zero, List.set_cons_succ]
  refine tLamW_of (ts := ms.map (·.1)) hpm ok1.tab.hts (ok1.tab _ hm) fun f3 c3 H3 bt3 ot3 tb3 hf3 hc3 base' ok cap => ?_
  have m3 := ok1.tab.nt bt3
  have ok3 := ok1.lam nd hm bt3 ot3 tb3
  have td3 := td.nt m3
  have pa3 := ok3.pic tab pa
  have pb3 := ok3.pic tab pb
  refine ⟨f3, _, _, rfl, hf3, lamXA rfl (gSB base' ok) clOf_hasL (cells_of cap (FreeHas.of fhA) rfl fun i x y e1 e2 => ?_), fun E' kP kS => ⟨hf3, hc3, .ref a, .ref b, rfl, .inr ⟨a, ps, R, wd, rfl, pa3, gd, .inr ⟨b, qs, S, u, rfl, pb3, gd2, fun no H4 s4 => kS H4 fun nn tt H5 s5 hn ht en et => ?_, fun yes FF fq H5 s5 hF frF pF => ?_⟩⟩⟩⟩
  ·match i, e1, e2 with
   | 0, e1, e2 => cases e1; cases e2; exact ⟨by decide +kernel, rfl, 0, rfl, rfl⟩
   | 1, e1, e2 => cases e1; cases e2; exact ⟨by decide +kernel, rfl, 1, rfl, rfl⟩
   | i + 2, e1, e2 => cases e1
  ·have s35 := s4.trans s5
   have ok5 := ok3.same s35
   have pa5 := ok5.pic tab pa
   have pb5 := ok5.pic tab pb
   have td5 := td3.mono s35
   have tf : Told H5 tt nn false true := ⟨et, en⟩
   obtain ⟨a0, m0, a00, a01, a02⟩ := gd.first pa5
   obtain ⟨b0, n0, b00, b01, b02⟩ := gd2.first pb5
   refine ⟨_, rfl, a, _, rfl, .inl (SqL.of pa5.top), _, rfl, b, _, rfl, .inl (SqL.of pb5.top), rfl, _, rfl, ?_⟩
   rw [lenF pa5, lenF pb5, dec_len]
   by_cases hh : R.length = S.length
   ·rw [decide_eq_true hh]
    refine ⟨_, rfl, a, _, _, .ref a0, rfl, rfl, SqL.of pa5.top, atI_nat (j := 0) a00, a0, _, rfl, .inl (SqL.of a01), _, rfl, b, _, _, .ref b0, rfl, rfl, SqL.of pb5.top, atI_nat (j := 0) b00, b0, _, rfl, .inl (SqL.of b01), _, _, rfl, rfl, _, _, rfl, rfl, _, rfl, ?_⟩
    rw [List.length_map, List.length_map, a02, b02, dec_gt, decide_eq_true (by unfold noBeside at no; omega)]
    exact iteT ⟨_, rfl, _, rfl, 1, tt, du, true, by decide, rfl, rfl, EqL.told tf td5, _, rfl, iteF (k3 du dn _ H5 ok5 td5)⟩
   ·rw [decide_eq_false hh]
    exact ⟨_, rfl, _, rfl, 1, tt, du, true, by decide, rfl, rfl, EqL.told tf td5, _, rfl, iteF (k3 du dn _ H5 ok5 td5)⟩
  ·have ok5 := ok3.same s5
   have pa5 := ok5.pic tab pa
   have pb5 := ok5.pic tab pb
   have td5 := td3.mono s5
   have hno : R.length = S.length ∧ wd + u ≤ 24 := by unfold noBeside at yes; omega
   obtain ⟨a0, m0, a00, a01, a02⟩ := gd.first pa5
   obtain ⟨b0, n0, b00, b01, b02⟩ := gd2.first pb5
   refine ⟨_, rfl, a, _, rfl, .inl (SqL.of pa5.top), _, rfl, b, _, rfl, .inl (SqL.of pb5.top), rfl, _, rfl, ?_⟩
   rw [lenF pa5, lenF pb5, dec_len, decide_eq_true hno.1]
   refine ⟨_, rfl, a, _, _, .ref a0, rfl, rfl, SqL.of pa5.top, atI_nat (j := 0) a00, a0, _, rfl, .inl (SqL.of a01), _, rfl, b, _, _, .ref b0, rfl, rfl, SqL.of pb5.top, atI_nat (j := 0) b00, b0, _, rfl, .inl (SqL.of b01), _, _, rfl, rfl, _, _, rfl, rfl, _, rfl, ?_⟩
   rw [List.length_map, List.length_map, a02, b02, dec_gt, decide_eq_false (by omega)]
   refine iteF ?_
   refine ⟨_, rfl, _, rfl, _, rfl, a, b, rfl, ⟨_, SqL.of pa5.top⟩, ⟨_, SqL.of pb5.top⟩, fun D hD => ?_⟩
   refine comp2_rows (k1 := 0) (k2 := 1) (fun pr => gOf H5 pr.1 ++ gOf H5 pr.2) (src2_zip (SqL.of pa5.top) (SqL.of pb5.top) (by rw [lenF pa5, lenF pb5]; exact hno.1)) (by rw [List.length_zip, lenF pa5]; exact Nat.le_trans (Nat.min_le_left _ _) (Nat.le_trans h24 (by decide))) hD (fun pr hpr H' Q' sm kk => ?_) fun es H6 s6 fr6 pD => ?_
   ·obtain ⟨i, hi⟩ := List.mem_iff_getElem?.mp hpr
    obtain ⟨x, y⟩ := pr
    obtain ⟨i1, i2⟩ := List.getElem?_zip_eq_some.mp hi
    have hil : i < R.length := by
     have := (List.getElem?_eq_some_iff.mp i1).1
     rw [lenF pa5] at this; exact this
    obtain ⟨q, e1, e2, lr⟩ := row_getD pa5 gd hil
    obtain ⟨q', e1', e2', lr'⟩ := row_getD pb5 gd2 (show i < S.length by omega)
    rw [i1] at e1; cases e1
    rw [i2] at e1'; cases e1'
    refine ⟨_, rfl, _, rfl, q, q', _, _, rfl, rfl, sm _ _ e2, sm _ _ e2', by rw [List.length_map, List.length_map, lr, lr']; exact Nat.le_trans hno.2 (by decide), fun l hl => kk l _ (same_new hl) hl ?_⟩
    rw [upd_same, gOf_at e2, gOf_at e2']
   have eD : ((ps.map V.ref).zip (qs.map V.ref)).map (fun pr => gOf H5 pr.1 ++ gOf H5 pr.2) = ir (besideF R S) := by
    have lz : ((ps.map V.ref).zip (qs.map V.ref)).length = R.length := by rw [List.length_zip, lenF pa5, lenF pb5, ← hno.1, Nat.min_self]
    refine List.ext_getElem (by rw [List.length_map, lz, ir_len]; simp [besideF]) fun i b1 b2 => ?_
    have hil : i < R.length := by rw [List.length_map, lz] at b1; exact b1
    obtain ⟨q, e1, e2, lr⟩ := row_getD pa5 gd hil
    obtain ⟨q', e1', e2', lr'⟩ := row_getD pb5 gd2 (show i < S.length by omega)
    rw [List.getElem_map, List.getElem_zip]
    have g1 : (ps.map V.ref)[i]'(by rw [lenF pa5]; exact hil) = .ref q := (List.getElem?_eq_some_iff.mp e1).2
    have g2 : (qs.map V.ref)[i]'(by rw [lenF pb5]; omega) = .ref q' := (List.getElem?_eq_some_iff.mp e1').2
    dsimp only
    rw [g1, g2, gOf_at e2, gOf_at e2']
    simp only [ir, besideF, List.getElem_map, List.getElem_range]
    rw [getD_row hil, getD_row (show i < S.length by omega), List.map_append]
   rw [eD] at pD
   have gB' := beside_good gd gd2 yes
   have frH : ∀ y ∈ fq, H y = none := fun y hy => ok3.back (frF y hy)
   have frE := fresh_out pF fr6
   refine ⟨FF, D, fq, es, besideF R S, wd + u, rfl, pF.mono s6, pD, gB', fun y hy hz => frE.1 y hz hy, not_new pF hD, fun H7 s7 => ?_⟩
   have ok7 := ok5.same (s6.trans s7)
   have pF7 := (pF.mono s6).mono s7
   have td7 := td5.mono (s6.trans s7)
   refine ⟨_, rfl, ?_⟩
   refine ⟨_, rfl, FF, fq, besideF R S, wd + u, rfl, pF7, gB', fun H8 k8 => ?_⟩
   have nf : ∀ y ∈ fq, H7 y ≠ some (.tup [.str "refused", .ref dn, .bl true]) ∧ y ≠ dn := fun y hy => by
    have := frF y hy
    refine ⟨fun z => ?_, fun z => ?_⟩
    ·obtain ⟨r, _, e⟩ := pF7.mem hy
     rw [e] at z; cases z
    ·rw [z, td3.row] at this; cases this
   exact k3 du dn _ H8 (ok7.mark pF7 frH k8) ⟨k8 _ _ td7.top fun z => (nf du z).1 td7.top, k8 _ _ td7.row fun z => (nf dn z).2 rfl⟩
end
end K13
set_option Elab.async false
set_option linter.all false
set_option maxRecDepth 100000
set_option maxHeartbeats 1600000
namespace K13
open PySem L2 M4
theorem good_of {u1 u2 : V} (h : (isWf 1 u1 && isWf 1 u2) = true) (s1 : small u1) (s2 : small u2) : ∃ c d : Nat, u1 = .int (c : Int) ∧ u2 = .int (d : Int) ∧ 1 ≤ c ∧ 1 ≤ d ∧ c < 2 ^ 100 ∧ d < 2 ^ 100 := by
 rw [Bool.and_eq_true] at h
 have one : ∀ {u : V}, isWf 1 u = true → small u → ∃ c : Nat, u = .int (c : Int) ∧ 1 ≤ c ∧ c < 2 ^ 100 := fun {u} h s => by
  cases u with
  | int i =>
   have h1 := of_decide_eq_true (show decide ((1 : Int) ≤ i) = true from h)
   have h2 := s i rfl
   exact ⟨i.toNat, by congr 1; omega, by omega, by omega⟩
  | _ => cases h
 obtain ⟨c, e1, c1, c2⟩ := one h.1 s1
 obtain ⟨d, e2, d1, d2⟩ := one h.2 s2
 exact ⟨c, d, e1, e2, c1, d1, c2, d2⟩
theorem rep_range (r : List Int) (h : 0 < r.length) : ∀ c, (List.replicate c r).flatten = (List.range (r.length * c)).map fun x => r.getD (x % r.length) 0
 | 0 => by simp
 | c + 1 => by
  rw [List.replicate_succ', List.flatten_append, rep_range r h c, Nat.mul_add, Nat.mul_one, List.range_add, List.map_append]
  congr 1
  rw [List.map_map]
  refine List.ext_getElem (by simp) fun i b1 b2 => ?_
  have hi : i < r.length := by simpa using b1
  simp only [List.getElem_map, List.getElem_range, Function.comp, Nat.mul_add_mod, Nat.mod_eq_of_lt hi]
  simp [List.getD, hi]
noncomputable def spTiledR (K : W.Frag) (ms : Tbs) : Sp := fun vs H Q _ => ∃ (a h : Addr) (ps qs : List Addr) (R : List (List Int)) (wd : Nat) (u1 u2 : V), vs = [.ref a, .ref h, u1, u2] ∧ PicV H a ps (ir R) ∧ PicV H h qs (ir R) ∧ Good R wd ∧ Kd K H u1 ∧ Kd K H u2 ∧ small u1 ∧ small u2 ∧ AllG ms H ∧ ∀ H', Ok ms H H' → Q (.bl true) H'
noncomputable def badTile (R : List (List Int)) (wd : Nat) (u1 u2 : V) : Prop := (isWf 1 u1 && isWf 1 u2) = false ∨ ∃ c d : Nat, u1 = .int (c : Int) ∧ u2 = .int (d : Int) ∧ 1 ≤ c ∧ 1 ≤ d ∧ c < 2 ^ 100 ∧ d < 2 ^ 100 ∧ ¬ (wd * c ≤ 24 ∧ R.length * d ≤ 24)
theorem dec_mul {n m : Nat} : decide ((n : Int) * (m : Int) > 24) = decide (24 < n * m) := by
 have e : (n : Int) * (m : Int) = ((n * m : Nat) : Int) := by push_cast; rfl
 rw [e, Bool.eq_iff_iff, decide_eq_true_eq, decide_eq_true_eq]; omega
section
variable {P : Program} {w : World} {K : W.Frag} {mg : Str → Option Value} {base : Heap} {cFE cBP cBS : Addr} {tS tC : Tok}
theorem sc_law_tiled_right : FnScope ["_law_picture_here", "_law_handed", "_law_across", "_law_down", "_law_found", "_law_good", "_law_due", "_law_y", "_law_row"] ["_law_picture_here", "_law_handed", "_law_across", "_law_down"] (defScope s_law_tiled_right) := ⟨rfl, rfl, rfl, by decide +kernel, rfl, by decide +kernel, by decide +kernel⟩
theorem ok_law_tiled_right {ms : Tbs} {f c0 p : Addr} {fd : FuncData} (F : FunD K "_law_tiled_right" "_law_tiled_right" s_law_tiled_right .none f fd) (hc : fd.code = .ref c0) (hC : W.CodeHd base c0 p) (hB : BMain mg base) (nd : ∀ a ∈ ms, ∀ b ∈ ms, a.1 = b.1 → a = b) (hm : (p, qT) ∈ ms) (T : Txt K mg cFE cBP cBS tS tC)
  (gB : ∀ base', BaseOk K mg base' → Def P w K mg base' 12 "_law_refused" ["_law_deed"] [] (spRef P w K mg cBP cBS base')) (gTI : ∀ base', BaseOk K mg base' → DefX P w K mg base' 9 "tiled" ["picture", "across", "down"] [] (spTiled K cBP cBS)) (g__law_is_like : Def P w K mg base 2 "_law_is_like" ["_law_found", "_law_due"] [] (spLike K)) (g__law_marked : Def P w K mg base 1 "_law_marked" ["_law_found"] [] (spMarked K)) (g__law_is_number : Def P w K mg base 1 "_law_is_number" ["_law_thing"] [] (spIsN K)) : FnOk P w K mg base CX0 13 f fd ["_law_picture_here", "_law_handed", "_law_across", "_law_down"] (spTiledR K ms) := by
 refine F.okT hc sc_law_tiled_right (fun vs H Q E h => ?_) (fun cdv hcdv A outer s H vs Q E hr h => ?_)
 ·obtain ⟨a, h, ps, qs, R, wd, u1, u2, rfl, _⟩ := h; rfl
 ·obtain ⟨a, h, ps, qs, R, wd, u1, u2, rfl, pa, ph, gd, ku1, ku2, sm1, sm2, tab, k⟩ := h
  have hu : _ + 64 < cLine := hr.units
  have w24 := gd.w24
  have h24 := gd.le
  have w1 := gd.w1
  have n1 := gd.ne
  have hpm := List.mem_map_of_mem (f := fun x : Addr × Str => x.1) hm
  obtain ⟨t2, r2, k2a, k2b⟩ : ∃ tr, PSs ((cxOf CX0 P w K mg base ["_law_picture_here", "_law_handed", "_law_across", "_law_down", "_law_found", "_law_good", "_law_due", "_law_y", "_law_row"] "_law_tiled_right" (defScope s_law_tiled_right) f cdv A outer s H E).nox) ((defBody s_law_tiled_right).drop 2) tr ∧
    (∀ (tt nn : Addr) (H1 : Hp), Ok ms H H1 → Told H1 tt nn false true → badTile R wd u1 u2 → tr { nx := fun _ H' => Q .non H', rt := Q } [some (.ref a), some (.ref h), some u1, some u2, some (.ref tt), some (.bl (isWf 1 u1 && isWf 1 u2)), none, none, none] H1) ∧
    (∀ (c d : Nat) (FF : Addr) (fq : List Addr) (H1 : Hp), u1 = .int (c : Int) → u2 = .int (d : Int) → 1 ≤ c → 1 ≤ d → wd * c ≤ 24 → R.length * d ≤ 24 → Ok ms H H1 → PicV H1 FF fq (ir (tiledF R c d)) → (∀ y ∈ fq, H y = none) → tr { nx := fun _ H' => Q .non H', rt := Q } [some (.ref a), some (.ref h), some u1, some u2, some (.ref FF), some (.bl (isWf 1 u1 && isWf 1 u2)), none, none, none] H1) := by
   refine ⟨_, (pss_cons (ps_if (PW.pt (pw_or (pt_not (pt_val (pv 5))) (pw_or (pt_cmpR op_gt (pe_op op_mul (pe_callB (lenK K rfl) rfl T.len PySem.boot_len (pa_cons (pe_ix (ixK K rfl) (pv 0) pe_int (fun _ _ => rfl)) pa_nil)) (pv 2)) pe_int (nomark _)) (pw_or1 (pt_cmpR op_gt (pe_op op_mul (pe_callB (lenK K rfl) rfl T.len PySem.boot_len (pa_cons (pv 0) pa_nil)) (pv 3)) pe_int (nomark _)))))) (pss_one (ps_ret (pe_cmpR (eqDK K rfl hu) (pv 4) (pe_tup (pa_cons pe_str (pa_cons (pe_lst (pa_cons pe_bl (pa_cons pe_bl pa_nil))) (pa_cons pe_bl pa_nil)))) (nomark _)))) pss_nil)
    (pss_cons (ps_set (i := 6) sc_law_tiled_right.nd rfl (by first | exact Or.inl rfl | exact Or.inr rfl) (pe_lst pa_nil))
    (pss_cons (ps_for PassesOwn.never rfl (pi_range1 rfl T.range (pa_cons (pe_op op_mul (pe_callB (lenK K rfl) rfl T.len PySem.boot_len (pa_cons (pv 0) pa_nil)) (pv 3)) pa_nil)) (pg_name (i := 7) sc_law_tiled_right.nd rfl (by first | exact Or.inl rfl | exact Or.inr rfl)) (pss_cons (ps_set (i := 8) sc_law_tiled_right.nd rfl (by first | exact Or.inl rfl | exact Or.inr rfl) (pe_ix (ixK K rfl) (pv 0) (pe_op op_mod (pv 7) (pe_callB (lenK K rfl) rfl T.len PySem.boot_len (pa_cons (pv 0) pa_nil))) (fun _ _ => rfl)))
    (pss_one (ps_expr (pe_bm PySem.F.plainAttrs_list PySem.F.slot_list_append PySem.F.type_list_append mt_append (pv 6) (pa_cons (pe_comp (N := ["_law_x", "_law_row"]) (src := [none, some 8]) rfl ⟨rfl, rfl, rfl, rfl, rfl, by decide +kernel⟩ (pi_range1 rfl T.range (pa_cons (pe_op op_mul (pe_callB (lenK K rfl) rfl T.len PySem.boot_len (pa_cons (pv 8) pa_nil)) (pv 2)) pa_nil)) (fun s H C fp => pg_name (i := 0) (show (["_law_x", "_law_row"] : List Str).Nodup by decide +kernel) rfl (by first | exact Or.inl rfl | exact Or.inr rfl)) (fun s H C fp => pts_nil) (fun s H C fp => (pe_ix (ixK K rfl) (pv 1) (pe_op op_mod (pv 0) (pe_callB (lenK K rfl) rfl T.len PySem.boot_len (pa_cons (pv 1) pa_nil))) (fun _ _ => rfl)))) pa_nil))))))
    (pss_one (ps_ret (pe_and (pe_callD g__law_is_like (hr.mono (by decide)) rfl (pa_cons (pv 4) (pa_cons (pv 6) pa_nil))) (pe_and (pe_callD g__law_marked (hr.mono (by decide)) rfl (pa_cons (pv 4) pa_nil)) (pe_one (pe_cmpR (eqDK K rfl hu) (pv 1) (pv 0) (nomark _)))))))))), ?_, ?_⟩
   ·intro tt nn H1 ok1 td bad
    have pa1 := ok1.pic tab pa
    have fin : ∀ {X : Prop}, X → X := fun x => x
    have ret : ∀ dn, H1 dn = none → ∀ du, upd H1 dn (.lst [.bl false, .bl true]) du = none → Told (upd (upd H1 dn (.lst [.bl false, .bl true])) du (.tup [.str "refused", .ref dn, .bl true])) tt nn false true ∧ Told (upd (upd H1 dn (.lst [.bl false, .bl true])) du (.tup [.str "refused", .ref dn, .bl true])) du dn false true ∧ Ok ms H (upd (upd H1 dn (.lst [.bl false, .bl true])) du (.tup [.str "refused", .ref dn, .bl true])) := fun dn hdn du hdu => by
     have z := (same_new (o := HO.lst [V.bl false, .bl true]) hdn).trans (same_new (o := HO.tup [V.str "refused", .ref dn, .bl true]) hdu)
     exact ⟨td.mono z, ⟨upd_same, same_new hdu _ _ upd_same⟩, ok1.same z⟩
    rcases bad with bad | ⟨c, d, rfl, rfl, c1, d1, c100, d100, bad⟩
    ·rw [bad]
     refine ⟨_, rfl, _, rfl, _, rfl, sz2, fun dn hdn => ⟨sz3, fun du hdu => ?_⟩⟩
     obtain ⟨x1, x2, x3⟩ := ret dn hdn du hdu
     exact ⟨1, tt, du, true, by decide, rfl, rfl, EqL.told x1 x2, k _ x3⟩
    ·rw [wf1 c1, wf1 d1]
     obtain ⟨a0, m0, a00, a01, a02⟩ := gd.first pa1
     refine ⟨_, rfl, _, rfl, _, rfl, a, _, _, .ref a0, rfl, rfl, SqL.of pa1.top, atI_nat (j := 0) a00, a0, _, rfl, .inl (SqL.of a01), _, rfl, _, _, rfl, rfl, .inl ⟨by rw [List.length_map, a02]; omega, by rw [List.length_map, a02]; omega⟩, _, _, rfl, rfl, _, rfl, ?_⟩
     rw [List.length_map, a02, dec_mul]
     by_cases hw : 24 < wd * c
     ·rw [decide_eq_true hw]
      refine ⟨_, rfl, sz2, fun dn hdn => ⟨sz3, fun du hdu => ?_⟩⟩
      obtain ⟨x1, x2, x3⟩ := ret dn hdn du hdu
      exact ⟨1, tt, du, true, by decide, rfl, rfl, EqL.told x1 x2, k _ x3⟩
     ·rw [decide_eq_false hw]
      refine ⟨_, rfl, a, _, rfl, .inl (SqL.of pa1.top), _, rfl, _, _, rfl, rfl, .inl ⟨by rw [lenF pa1]; omega, by rw [lenF pa1]; omega⟩, _, _, rfl, rfl, _, rfl, ?_⟩
      rw [lenF pa1, dec_mul, decide_eq_true (by omega)]
      refine iteT ⟨_, rfl, sz2, fun dn hdn => ⟨sz3, fun du hdu => ?_⟩⟩
      obtain ⟨x1, x2, x3⟩ := ret dn hdn du hdu
      exact ⟨1, tt, du, true, by decide, rfl, rfl, EqL.told x1 x2, k _ x3⟩
   ·intro c d FF fq H1 e1 e2 c1 d1 gw gh ok1 pF frF
    subst e1 e2
    have c24 : c ≤ 24 := Nat.le_trans (Nat.le_mul_of_pos_left c w1) gw
    have d24 : d ≤ 24 := Nat.le_trans (Nat.le_mul_of_pos_left d n1) gh
    have pa1 := ok1.pic tab pa
    have gT := tiled_good gd c1 d1 gw gh
    have lT : (tiledF R c d).length = R.length * d := by simp [tiledF]
    rw [wf1 c1, wf1 d1]
    obtain ⟨a0, m0, a00, a01, a02⟩ := gd.first pa1
    refine ⟨_, rfl, _, rfl, _, rfl, a, _, _, .ref a0, rfl, rfl, SqL.of pa1.top, atI_nat (j := 0) a00, a0, _, rfl, .inl (SqL.of a01), _, rfl, _, _, rfl, rfl, .inl ⟨by rw [List.length_map, a02]; omega, by rw [List.length_map, a02]; omega⟩, _, _, rfl, rfl, _, rfl, ?_⟩
    rw [List.length_map, a02, dec_mul, decide_eq_false (by omega)]
    refine ⟨_, rfl, a, _, rfl, .inl (SqL.of pa1.top), _, rfl, _, _, rfl, rfl, .inl ⟨by rw [lenF pa1]; omega, by rw [lenF pa1]; omega⟩, _, _, rfl, rfl, _, rfl, ?_⟩
    rw [lenF pa1, dec_mul, decide_eq_false (by omega)]
    refine iteF ?_
    refine ⟨Nat.zero_le _, fun S hS => ?_⟩
    have z2 := same_new (o := HO.lst []) hS
    have eS := upd_same (H := H1) (a := S) (o := HO.lst [])
    have eH : (R.length : Int) * (d : Int) = ((R.length * d : Nat) : Int) := by push_cast; rfl
    refine ⟨_, rfl, a, _, rfl, .inl (SqL.of (z2 _ _ pa1.top)), _, rfl, _, _, rfl, rfl, .inl ⟨by rw [lenF pa1]; omega, by rw [lenF pa1]; omega⟩, ((R.length * d : Nat) : Int), (by rw [lenF pa1, ← eH]), by omega, by omega, ?_⟩
    rw [Int.toNat_natCast]
    refine for_range (n := R.length * d) (fun i σ H3 => Same H1 H3 ∧ ∃ (rs : List Addr) (v7 v8 : Option V), Fresh H1 rs ∧ PicV H3 S rs ((ir (tiledF R c d)).take i) ∧ σ = [some (.ref a), some (.ref h), some (.int (c : Int)), some (.int (d : Int)), some (.ref FF), some (.bl (true && true)), some (.ref S), v7, v8]) ⟨z2, [], none, none, (fun q h => nomatch h), ⟨by rw [upd_same]; rfl, .nil, List.nodup_nil, by simp⟩, rfl⟩ ?_ ?_
    ·rintro i σ H3 hi ⟨s3, rs, v7, v8, fr, picS, rfl⟩
     have pa3 := pa1.mono s3
     have hil : i % R.length < R.length := Nat.mod_lt _ (by omega)
     have ei : ((0 : Int) + (i : Int)) % ((ps.map V.ref).length : Int) = ((i % R.length : Nat) : Int) := by rw [lenF pa1, Int.zero_add]; push_cast; rfl
     obtain ⟨q, e1, e2, lr⟩ := row_getD pa3 gd hil
     refine ⟨_, rfl, _, rfl, _, rfl, a, _, rfl, .inl (SqL.of pa3.top), _, _, rfl, rfl, (by rw [lenF pa1]; omega), a, _, _, .ref q, rfl, rfl, SqL.of pa3.top, (by show atI _ (((0 : Int) + (i : Int)) % ((ps.map V.ref).length : Int)) = _; rw [ei]; exact atI_nat e1), ?_⟩
     refine ⟨_, rfl, .inl ⟨rfl, _, SqL.of picS.top⟩, ?_⟩
     have eW : ((R[i % R.length].map V.int).length : Int) * (c : Int) = ((wd * c : Nat) : Int) := by rw [List.length_map, lr]; push_cast; rfl
     refine ⟨_, rfl, q, _, rfl, .inl (SqL.of e2), _, rfl, _, _, rfl, rfl, .inl ⟨by rw [List.length_map, lr]; omega, by rw [List.length_map, lr]; omega⟩, ((wd * c : Nat) : Int), (by rw [← eW]), by omega, by omega, fun D hD => ?_⟩
     rw [Int.toNat_natCast]
     refine comp_fm (k := 0) (fun v => match v with | .int x => .int (R[i % R.length].getD (x.toNat % wd) 0) | _ => .non) (fun _ => true) src_range (by simp; exact Nat.le_trans gw (by decide)) hD (fun x _ H4 Qb _ kb => kb H4 (Same.refl _)) (fun z2 hz2 _ H4 Q4 s4 k4 => ?_) fun H4 s4 e4 => ?_
     ·obtain ⟨x, hx, rfl⟩ := List.mem_map.mp hz2
      have ex : ((0 : Int) + (x : Int)) % ((R[i % R.length].map V.int).length : Int) = ((x % wd : Nat) : Int) := by rw [List.length_map, lr, Int.zero_add]; push_cast; rfl
      have hxl : x % wd < wd := Nat.mod_lt _ (by omega)
      refine ⟨_, rfl, _, rfl, _, rfl, q, _, rfl, .inl (SqL.of (s4 _ _ e2)), _, _, rfl, rfl, (by rw [List.length_map, lr]; omega), q, _, _, .int (R[i % R.length].getD (x % wd) 0), rfl, rfl, SqL.of (s4 _ _ e2), (by show atI _ (((0 : Int) + (x : Int)) % ((R[i % R.length].map V.int).length : Int)) = _; rw [ex]; exact atI_nat (getD_int (by rw [lr]; exact hxl))), ?_⟩
      have := k4 H4 (Same.refl _)
      dsimp only at this
      rw [show ((0 : Int) + (x : Int)).toNat = x by omega] at this
      exact this
     ·have hll : (rs.map V.ref).length = i := by rw [List.length_map, picS.len, List.length_take, ir_len, lT]; omega
      have er : H4 D = some (.lst (((tiledF R c d).getD i []).map V.int)) := by
       rw [e4, filter_t, tiled_row hi, getD_row hil, rep_range _ (by rw [lr]; exact w1), lr, List.map_map]
       congr 2
       rw [List.map_map]
       refine List.map_congr_left fun x _ => ?_
       show V.int (R[i % R.length].getD (((0 : Int) + (x : Int)).toNat % wd) 0) = _
       rw [show ((0 : Int) + (x : Int)).toNat = x by omega]
       rfl
      refine ⟨S, _, _, rfl, rfl, s4 _ _ picS.top, by rw [hll]; exact Nat.lt_of_lt_of_le hi (Nat.le_trans gh (by decide)), same_upd (s3.trans s4) hS, rs ++ [D], _, _, fun y hy => ?_, ?_, rfl⟩
      ·rcases List.mem_append.mp hy with z | z
       ·exact fr y z
       ·rw [List.mem_singleton.mp z]; exact s3.free hD
      ·have pp := PicV.push picS s4 hD er
       have hy2 : i < (ir (tiledF R c d)).length := by rw [ir_len, lT]; exact hi
       have eg : (ir (tiledF R c d))[i] = ((tiledF R c d).getD i []).map V.int := by
        rw [getD_row (by rw [lT]; exact hi)]
        simp only [ir, List.getElem_map]
       rw [List.take_succ_eq_append_getElem hy2, eg]
       exact pp
    ·rintro σ H3 ⟨s3, rs, v7, v8, fr, picS, rfl⟩
     rw [← lT, ← ir_len (tiledF R c d), List.take_length] at picS
     have ok3 := ok1.same s3
     have pF3 := pF.mono s3
     have fo := fresh_out pF fr
     refine ⟨_, rfl, _, rfl, FF, S, fq, rs, tiledF R c d, wd * c, rfl, pF3, picS, gT, fun y hy hz => fo.1 y hz hy, not_new pF hS, fun H4 s4 => ?_⟩
     have ok4 := ok3.same s4
     have pF4 := pF3.mono s4
     refine ⟨_, rfl, _, rfl, FF, fq, tiledF R c d, wd * c, rfl, pF4, gT, fun H5 k5 => ⟨_, rfl, ?_⟩⟩
     have ok5 := ok4.mark pF4 frF k5
     exact ⟨_, rfl, _, rfl, 1, h, a, true, by decide, rfl, rfl, EqL.pic (ok5.pic tab ph) (ok5.pic tab pa), k H5 ok5⟩
  obtain ⟨t1, r1, k1'⟩ : ∃ tr, PSs ((cxOf CX0 P w K mg base ["_law_picture_here", "_law_handed", "_law_across", "_law_down", "_law_found", "_law_good", "_law_due", "_law_y", "_law_row"] "_law_tiled_right" (defScope s_law_tiled_right) f cdv A outer s H E).nox) ((defBody s_law_tiled_right).drop 1) tr ∧
    ∀ (vf : V) (H1 : Hp), Kd K H1 u1 → Kd K H1 u2 → t2 { nx := fun _ H' => Q .non H', rt := Q } [some (.ref a), some (.ref h), some u1, some u2, some vf, some (.bl (isWf 1 u1 && isWf 1 u2)), none, none, none] H1 → tr { nx := fun _ H' => Q .non H', rt := Q } [some (.ref a), some (.ref h), some u1, some u2, some vf, none, none, none, none] H1 := by
   refine ⟨_, (pss_cons (ps_set (i := 5) sc_law_tiled_right.nd rfl (by first | exact Or.inl rfl | exact Or.inr rfl) (pe_and (pe_callD g__law_is_number (hr.mono (by decide)) rfl (pa_cons (pv 2) pa_nil)) (pe_and (pe_callD g__law_is_number (hr.mono (by decide)) rfl (pa_cons (pv 3) pa_nil)) (pe_and (pe_cmpR op_gt (pv 2) pe_int (nomark _)) (pe_one (pe_cmpR op_gt (pv 3) pe_int (nomark _)))))))
    (@r2)), ?_⟩
   intro vf H1 ku1 ku2 k1
   clear k2a k2b k sm1 sm2
   refine ⟨_, rfl, u1, rfl, ku1, _, rfl, iteB (fun hI => ?_) (fun hI => ?_)⟩
   ·cases u1 with
    | int i =>
     refine ⟨_, rfl, u2, rfl, ku2, _, rfl, iteB (fun hJ => ?_) (fun hJ => ?_)⟩
     ·cases u2 with
      | int j =>
       refine ⟨_, rfl, _, _, rfl, rfl, _, rfl, iteB (fun h1 => ⟨_, rfl, _, _, rfl, rfl, ?_⟩) (fun h1 => ?_)⟩
       ·have e : (isWf 1 (.int i) && isWf 1 (.int j)) = decide (0 < j) := by
         have := of_decide_eq_true h1
         simp only [isWf]
         rw [Bool.eq_iff_iff]; simp; omega
        rw [e] at k1; exact k1
       ·have e : (isWf 1 (.int i) && isWf 1 (.int j)) = false := by
         have := of_decide_eq_false h1
         simp only [isWf]
         simp; omega
        rw [e] at k1; exact k1
      | _ => cases hJ
     ·have e : (isWf 1 (.int i) && isWf 1 u2) = false := by cases u2 <;> first | (simp [isWf]; done) | cases hJ
      rw [e] at k1; exact k1
    | _ => cases hI
   ·have e : (isWf 1 u1 && isWf 1 u2) = false := by cases u1 <;> first | rfl | cases hI
    rw [e] at k1; exact k1
  refine ⟨_, (pss_cons (ps_set (i := 4) sc_law_tiled_right.nd rfl (by first | exact Or.inl rfl | exact Or.inr rfl) (pe_callR0 gB hB (hr.mono (by decide)) rfl (pa_cons (pe_lamC hcdv hC hB (FreeHas.of fhC)) pa_nil)))
    (@r1)), ?_⟩
  try dsimp only [tNext, tSeq, tIfS, tTest, tRet, tOp, tAsg, tCallR0, tCons, tLamC, gName, List.set_cons_zero, List.set_cons_succ]
  refine tLamW_of (ts := ms.map (·.1)) hpm tab.hts (tab _ hm) fun f3 c3 H3 bt3 ot3 tb3 hf3 hc3 base' ok cap => ?_
  have m3 := tab.nt bt3
  have ok3 := (Ok.refl tab).lam nd hm bt3 ot3 tb3
  have ph3 := ok3.pic tab ph
  refine ⟨f3, _, _, rfl, hf3, lamXC rfl (gTI base' ok) clOf_hasL (cells_of cap (FreeHas.of fhC) rfl fun i x y e1 e2 => ?_), fun E' kP kS => ⟨hf3, hc3, .ref h, u1, u2, rfl, .inr ⟨h, qs, R, wd, rfl, ph3, gd, ?_⟩⟩⟩
  ·match i, e1, e2 with
   | 0, e1, e2 => cases e1; cases e2; exact ⟨by decide +kernel, rfl, 1, rfl, rfl⟩
   | 1, e1, e2 => cases e1; cases e2; exact ⟨by decide +kernel, rfl, 2, rfl, rfl⟩
   | 2, e1, e2 => cases e1; cases e2; exact ⟨by decide +kernel, rfl, 3, rfl, rfl⟩
   | i + 3, e1, e2 => cases e1
  have kds : ∀ {H4 : Hp}, Same H3 H4 → Kd K H4 u1 ∧ Kd K H4 u2 := fun {H4} s => ⟨(m3.kd ku1).mono s, (m3.kd ku2).mono s⟩
  rcases Bool.eq_false_or_eq_true (isWf 1 u1 && isWf 1 u2) with hg | hg
  rotate_left
  ·refine .inl ⟨m3.kd ku1, m3.kd ku2, hg, fun H4 s4 => kS H4 fun nn tt H5 s5 hn ht en et => ?_⟩
   have s35 := s4.trans s5
   exact k1' _ H5 (kds s35).1 (kds s35).2 (k2a tt nn H5 (ok3.same s35) ⟨et, en⟩ (.inl hg))
  ·obtain ⟨c, d, e1, e2, cc1, dd1, c100, d100⟩ := good_of hg sm1 sm2
   refine .inr ⟨c, d, e1, e2, cc1, dd1, c100, d100, fun no H4 s4 => kS H4 fun nn tt H5 s5 hn ht en et => ?_, fun gw gh FF fq H5 s5 hF frF pF => ?_⟩
   ·have s35 := s4.trans s5
    exact k1' _ H5 (kds s35).1 (kds s35).2 (k2a tt nn H5 (ok3.same s35) ⟨et, en⟩ (.inr ⟨c, d, e1, e2, cc1, dd1, c100, d100, no⟩))
   ·exact k1' _ H5 (kds s5).1 (kds s5).2 (k2b c d FF fq H5 e1 e2 cc1 dd1 gw gh (ok3.same s5) pF fun y hy => ok3.back (frF y hy))
end
end K13
set_option Elab.async false
set_option linter.all false
set_option maxRecDepth 100000
set_option maxHeartbeats 1600000
namespace K13
open PySem L2 M4
theorem chunks {α : Type} (d0 : α) (r : List α) (c : Nat) : ∀ n, n * c ≤ r.length → ((List.range n).map fun j => (List.range c).map fun x => r.getD (j * c + x) d0).flatten = r.take (n * c)
 | 0, _ => by simp
 | n + 1, h => by
  rw [Nat.add_mul, Nat.one_mul] at h
  rw [List.range_succ, List.map_append, List.flatten_append, chunks d0 r c n (by omega), Nat.add_mul, Nat.one_mul, List.take_add]
  congr 1
  simp only [List.map_cons, List.map_nil, List.flatten_cons, List.flatten_nil, List.append_nil]
  refine List.ext_getElem (by simp; omega) fun x b1 b2 => ?_
  have hx : x < c := by simpa using b1
  simp only [List.getElem_map, List.getElem_range, List.getElem_take, List.getElem_drop]
  have : n * c + x < r.length := by omega
  simp [List.getD, this]
theorem cutF_row {R : List (List Int)} {l t c d y : Nat} (hy : y < d) : (cutF R l t c d).getD y [] = (List.range c).map fun x => cAt R (l + x) (t + y) := by
 unfold cutF grid
 simp [List.getD, hy]
theorem div_of {n c : Nat} (h : n % c = 0) : n / c * c = n := Nat.div_mul_cancel (Nat.dvd_of_mod_eq_zero h)
theorem join_tiles {R : List (List Int)} {wd c d : Nat} (g : Good R wd) (hc : wd % c = 0) (hd : R.length % d = 0) : joinF (tilesG R wd c d) d = R := by
 have e1 : ∀ i, i < R.length / d → lineT ((List.range (wd / c)).map fun j => cutF R (j * c) (i * d) c d) d = (List.range d).map fun y => R.getD (i * d + y) [] := fun i hi => by
  unfold lineT
  refine List.map_congr_left fun y hy => ?_
  have hy := List.mem_range.mp hy
  unfold rowT
  rw [List.map_map]
  have hyl : i * d + y < R.length := by have := part_in hd hi; omega
  have lr := (row_inf g hyl).1
  have e2 : ((List.range (wd / c)).map ((fun R => R.getD y []) ∘ fun j => cutF R (j * c) (i * d) c d)) = (List.range (wd / c)).map fun j => (List.range c).map fun x => (R.getD (i * d + y) []).getD (j * c + x) 0 := by
   refine List.map_congr_left fun j _ => ?_
   show (cutF R (j * c) (i * d) c d).getD y [] = _
   rw [cutF_row hy]
   rfl
  rw [e2, chunks 0 _ c _ (by rw [lr, div_of hc]; exact Nat.le_refl _), div_of hc, ← lr, List.take_length]
 unfold joinF tilesG
 rw [List.map_map]
 have e3 : ((List.range (R.length / d)).map ((fun Rs => lineT Rs d) ∘ fun i => (List.range (wd / c)).map fun j => cutF R (j * c) (i * d) c d)) = (List.range (R.length / d)).map fun i => (List.range d).map fun y => R.getD (i * d + y) [] := by
  refine List.map_congr_left fun i hi => ?_
  exact e1 i (List.mem_range.mp hi)
 rw [e3, chunks [] _ d _ (by rw [div_of hd]; exact Nat.le_refl _), div_of hd, List.take_length]
theorem tilesG_GT {R : List (List Int)} {wd c d : Nat} (g : Good R wd) (c1 : 1 ≤ c) (d1 : 1 ≤ d) (hc : wd % c = 0) (hd : R.length % d = 0) : GT (tilesG R wd c d) (wd / c) c d := by
 have w1 := g.w1
 have n1 := g.ne
 have w24 := g.w24
 have h24 := g.le
 have a1 := div_of hc
 have a2 := div_of hd
 have q1 : 1 ≤ wd / c := by
  rcases Nat.eq_zero_or_pos (wd / c) with z | z
  ·rw [z, Nat.zero_mul] at a1; omega
  ·exact z
 have q2 : 1 ≤ R.length / d := by
  rcases Nat.eq_zero_or_pos (R.length / d) with z | z
  ·rw [z, Nat.zero_mul] at a2; omega
  ·exact z
 have lG : (tilesG R wd c d).length = R.length / d := by simp [tilesG]
 refine ⟨by rw [lG]; exact q2, q1, fun Rs hRs => ?_, by rw [Nat.mul_comm, a1]; exact w24, by rw [lG, Nat.mul_comm, a2]; exact h24, d1, c1⟩
 obtain ⟨i, hi, rfl⟩ := List.mem_map.mp hRs
 have hi := List.mem_range.mp hi
 refine ⟨by simp, fun T hT => ?_⟩
 obtain ⟨j, hj, rfl⟩ := List.mem_map.mp hT
 have hj := List.mem_range.mp hj
 exact ⟨cut_good g (part_in hc hj) (part_in hd hi) c1 d1, grid_len ..⟩
theorem dec_mod {n m : Nat} : decide (V.int ((n : Int) % (m : Int)) = V.int 0) = decide (n % m = 0) := by
 have e : (n : Int) % (m : Int) = ((n % m : Nat) : Int) := by push_cast; rfl
 rw [e]
 exact dec_len (m := 0)
theorem EqL.all {K : W.Frag} {H : Hp} {n : Nat} {p q : Addr} {xs ys : List V} (hp : H p = some (.lst xs)) (hq : H q = some (.lst ys)) (hl : xs.length = ys.length) (h : ∀ (i : Nat) x y, xs[i]? = some x → ys[i]? = some y → EqD K H n x y true) : EqL K H (EqD K H n) p q true :=
 ⟨xs, ys, .inr ⟨.inl ⟨SqL.of hp, SqL.of hq⟩, hl, fun _ => true, h, (range_all fun _ _ => rfl).symm⟩⟩
theorem eqD_pic {K : W.Frag} {H : Hp} {x y : Addr} {ps qs : List Addr} {R : List (List Int)} (p : PicV H x ps (ir R)) (q : PicV H y qs (ir R)) : EqD K H 2 (.ref x) (.ref y) true := by
 by_cases e : x = y
 ·subst e; exact .inl (.inl (.inl ⟨x, rfl, rfl, rfl⟩))
 ·exact .inr ⟨x, y, rfl, rfl, e, EqL.pic p q⟩
theorem cut_tail {A tl : List V} {k n : Nat} {hi : Int} (hA : A.length = n) (hk : k ≤ n) (e : hi = (n : Int)) : cutV (A ++ tl) (some (k : Int)) (some hi) = A.drop k := by
 rw [cut_nat (b := n - k) (by rw [List.length_append]; omega) (by omega), List.drop_append_of_le_length (by omega), List.take_append_of_le_length (by rw [List.length_drop]; omega), List.take_of_length_le (by rw [List.length_drop]; omega)]
theorem cut_drop {A : List V} {k : Nat} (hk : k ≤ A.length) : cutV A (some (k : Int)) none = A.drop k := by
 unfold cutV
 have e1 : HT.sIx A.length 0 (some (k : Int)) = k := by rw [HT.sIx_nat, Nat.min_eq_left hk]
 have e2 : HT.sIx A.length A.length none = A.length := rfl
 rw [e1, e2, List.take_of_length_le (by rw [List.length_drop]; exact Nat.le_refl _)]
theorem pw_at {α : Type} {Rr : α → α → Prop} {xs : List α} (h : xs.Pairwise Rr) {i j : Nat} {x y : α} (hx : xs[i]? = some x) (hy : xs[j]? = some y) (hij : i < j) : Rr x y := by
 obtain ⟨l1, e1⟩ := List.getElem?_eq_some_iff.mp hx
 obtain ⟨l2, e2⟩ := List.getElem?_eq_some_iff.mp hy
 have := List.pairwise_iff_getElem.mp h i j l1 l2 hij
 rw [e1, e2] at this
 exact this
theorem rep_map_len {α : Type} {xs : List α} {n : Nat} {f : α → V} (h : ∀ x ∈ xs, f x = V.int (n : Int)) : xs.map f = (List.replicate xs.length (n : Int)).map V.int := by
 induction xs with
 | nil => rfl
 | cons x r ih =>
  rw [List.map_cons, ih fun y hy => h y (List.mem_cons_of_mem _ hy), h x List.mem_cons_self, List.length_cons, List.replicate_succ, List.map_cons]
noncomputable def LnOk (H : Hp) (xs1 xs2 : List V) (n : Nat) : Prop := ∀ (y : Nat), y < xs2.length → ∃ (l1 l2 : Addr) (es es' : List (Addr × List Addr)) (tl : List V), xs1[y]? = some (.ref l1) ∧ xs2[y]? = some (.ref l2) ∧ H l1 = some (.lst ((es.map fun e => V.ref e.1) ++ tl)) ∧ H l2 = some (.lst (es'.map fun e => V.ref e.1)) ∧ es.length = n ∧ es'.length = n ∧ ∀ (j : Nat) e e', (1 ≤ y ∨ 1 ≤ j) → es[j]? = some e → es'[j]? = some e' → ∃ R, PicV H e.1 e.2 (ir R) ∧ PicV H e'.1 e'.2 (ir R)
noncomputable def badParts (R : List (List Int)) (wd : Nat) (u1 u2 : V) : Prop := (isWf 1 u1 && isWf 1 u2) = false ∨ ∃ c d : Nat, u1 = .int (c : Int) ∧ u2 = .int (d : Int) ∧ 1 ≤ c ∧ 1 ≤ d ∧ ¬ (wd % c = 0 ∧ R.length % d = 0)
section
variable {P : Program} {w : World} {K : W.Frag} {mg : Str → Option Value} {base : Heap} {cFE cBP cBS : Addr} {tS tC : Tok}
noncomputable abbrev nmtilesright : List Str := ["_law_picture_here", "_law_handed", "_law_wide", "_law_high", "_law_found", "_law_good", "_law_due", "_law_row", "_law_other_here", "_law_whole", "_law_y"]
theorem sc_law_tiles_right : FnScope ["_law_picture_here", "_law_handed", "_law_wide", "_law_high", "_law_found", "_law_good", "_law_due", "_law_row", "_law_other_here", "_law_whole", "_law_y"] ["_law_picture_here", "_law_handed", "_law_wide", "_law_high"] (defScope s_law_tiles_right) := ⟨rfl, rfl, rfl, by decide +kernel, rfl, by decide +kernel, by decide +kernel⟩
theorem ok_law_tiles_right {ms : Tbs} {f c0 p : Addr} {fd : FuncData} (F : FunD K "_law_tiles_right" "_law_tiles_right" s_law_tiles_right .none f fd) (hc : fd.code = .ref c0) (hC : W.CodeHd base c0 p) (hB : BMain mg base) (nd : ∀ a ∈ ms, ∀ b ∈ ms, a.1 = b.1 → a = b) (hm : (p, qS) ∈ ms) (T : Txt K mg cFE cBP cBS tS tC)
  (gB : ∀ base', BaseOk K mg base' → Def P w K mg base' 12 "_law_refused" ["_law_deed"] [] (spRef P w K mg cBP cBS base')) (gTO : ∀ base', BaseOk K mg base' → DefX P w K mg base' 9 "tiles_of" ["picture", "wide", "high"] [] (spTiles K cBP cBS)) (g__law_is_like : Def P w K mg base 2 "_law_is_like" ["_law_found", "_law_due"] [] (spLike K)) (g__law_marked : Def P w K mg base 1 "_law_marked" ["_law_found"] [] (spMarked K)) (g__law_is_number : Def P w K mg base 1 "_law_is_number" ["_law_thing"] [] (spIsN K)) (g__law_tiles : Def P w K mg base 1 "_law_tiles" ["_law_picture_here", "_law_wide", "_law_high"] [] (spTilesL K)) (g_from_tiles : DefX P w K mg base 10 "from_tiles" ["tiles"] [] (spFrom K cBP cBS)) : FnOk P w K mg base CX0 13 f fd ["_law_picture_here", "_law_handed", "_law_wide", "_law_high"] (spTiledR K ms) := by
 refine F.okT hc sc_law_tiles_right (fun vs H Q E h => ?_) (fun cdv hcdv A outer s H vs Q E hr h => ?_)
 ·obtain ⟨a, h, ps, qs, R, wd, u1, u2, rfl, _⟩ := h; rfl
 ·obtain ⟨a, h, ps, qs, R, wd, u1, u2, rfl, pa, ph, gd, ku1, ku2, sm1, sm2, tab, k⟩ := h
  have hu : _ + 64 < cLine := hr.units
  have w24 := gd.w24
  have h24 := gd.le
  have w1 := gd.w1
  have n1 := gd.ne
  have hpm := List.mem_map_of_mem (f := fun x : Addr × Str => x.1) hm
  obtain ⟨t10, r10, k10⟩ : ∃ tr, PSs ((cxOf CX0 P w K mg base nmtilesright "_law_tiles_right" (defScope s_law_tiles_right) f cdv A outer s H E).nox) ((defBody s_law_tiles_right).drop 10) tr ∧
    ∀ (p1 p2 : Addr) (xs1 xs2 : List V) (n : Nat) (v5 v7 v8 v9 : Option V) (H1 : Hp), Ok ms H H1 → H1 p1 = some (.lst xs1) → H1 p2 = some (.lst xs2) → xs2.length ≤ 24 → 1 ≤ n → n ≤ 24 → LnOk H1 xs1 xs2 n →
     tr { nx := fun _ H' => Q .non H', rt := Q } [some (.ref a), some (.ref h), some u1, some u2, some (.ref p1), v5, some (.ref p2), v7, v8, v9, none] H1 := by
   refine ⟨_, (pss_cons (ps_for PassesOwn.never rfl (pi_range1 rfl T.range (pa_cons (pe_callB (lenK K rfl) rfl T.len PySem.boot_len (pa_cons (pv 6) pa_nil)) pa_nil)) (pg_name (i := 10) sc_law_tiles_right.nd rfl (by first | exact Or.inl rfl | exact Or.inr rfl)) (pss_one (ps_if (pt_cmpR (neDK K rfl hu) (pe_slice (slK K rfl) (pe_ix (ixK K rfl) (pv 4) (pv 10) (fun _ _ => rfl)) (po_some (pe_callTy call_int1 rfl T.int PyProof.Rows.boot_int (pa_cons (pe_cmpR op_eq (pv 10) pe_int (nomark _)) pa_nil))) (po_some (pe_callB (lenK K rfl) rfl T.len PySem.boot_len (pa_cons (pe_ix (ixK K rfl) (pv 6) (pv 10) (fun _ _ => rfl)) pa_nil)))) (pe_slice (slK K rfl) (pe_ix (ixK K rfl) (pv 6) (pv 10) (fun _ _ => rfl)) (po_some (pe_callTy call_int1 rfl T.int PyProof.Rows.boot_int (pa_cons (pe_cmpR op_eq (pv 10) pe_int (nomark _)) pa_nil))) po_none) (nomark _)) (pss_one (ps_ret pe_bl)) pss_nil)))
    (pss_one (ps_ret (pe_cmpR (eqDK K rfl hu) (pv 1) (pv 0) (nomark _))))), ?_⟩
   intro p1 p2 xs1 xs2 n v5 v7 v8 v9 H1 ok1 e1 e2 l24 nn1 nn24 ln
   refine ⟨_, rfl, p2, _, rfl, .inl (SqL.of e2), _, rfl, by omega, by omega, ?_⟩
   refine for_range (n := xs2.length) (fun i σ H3 => Same H1 H3 ∧ ∃ v10 : Option V, σ = [some (.ref a), some (.ref h), some u1, some u2, some (.ref p1), v5, some (.ref p2), v7, v8, v9, v10]) ⟨Same.refl _, none, rfl⟩ ?_ ?_
   ·rintro i σ H3 hi ⟨s3, v10, rfl⟩
    obtain ⟨l1, l2, es, es', tl, x1, x2, el1, el2, n1', n2', tiles⟩ := ln i hi
    obtain ⟨k0, hk0, kn, ek⟩ : ∃ k0 : Nat, (if decide (V.int ((0 : Int) + (i : Int)) = V.int 0) = true then (1 : Int) else 0) = (k0 : Int) ∧ k0 ≤ n ∧ (1 ≤ i ∨ k0 = 1) := by
     by_cases hz : i = 0
     ·subst hz; exact ⟨1, by rw [if_pos (by decide)]; rfl, nn1, .inr rfl⟩
     ·exact ⟨0, by rw [if_neg (fun z => hz (by have := of_decide_eq_true z; injection this with this; omega))]; rfl, by omega, .inl (by omega)⟩
    have lA : (es.map fun e => V.ref e.1).length = n := by rw [List.length_map]; exact n1'
    have lB : (es'.map fun e => V.ref e.1).length = n := by rw [List.length_map]; exact n2'
    refine ⟨_, rfl, _, rfl, p1, _, _, .ref l1, rfl, rfl, SqL.of (s3 _ _ e1), atI_nat0 x1, _, rfl, rfl, .inr ⟨_, rfl, _, rfl, _, rfl, _, rfl, p2, _, _, .ref l2, rfl, rfl, SqL.of (s3 _ _ e2), atI_nat0 x2, l2, _, rfl, .inl (SqL.of (s3 _ _ el2)), _, rfl, l1, _, rfl, SqL.of (s3 _ _ el1), fun S1 hS1 => ?_⟩⟩
    rw [hk0, cut_tail lA kn (by rw [lB])]
    have z1 := same_new (o := HO.lst ((es.map fun e => V.ref e.1).drop k0)) hS1
    have s4 := s3.trans z1
    refine ⟨_, rfl, _, rfl, p2, _, _, .ref l2, rfl, rfl, SqL.of (s4 _ _ e2), atI_nat0 x2, _, rfl, rfl, .inr ⟨_, rfl, _, rfl, l2, _, rfl, SqL.of (s4 _ _ el2), fun S2 hS2 => ?_⟩⟩
    rw [hk0, cut_drop (by rw [lB]; exact kn)]
    have z2 := same_new (o := HO.lst ((es'.map fun e => V.ref e.1).drop k0)) hS2
    have s5 := s4.trans z2
    refine ⟨2, S1, S2, true, by decide, rfl, rfl, EqL.all (z2 _ _ upd_same) upd_same (by rw [List.length_drop, List.length_drop, lA, lB]) (fun j x y hx hy => ?_), _, rfl, iteF ⟨s5, _, rfl⟩⟩
    rw [List.getElem?_drop, List.getElem?_map] at hx hy
    cases ha : es[k0 + j]? with
    | none => rw [ha] at hx; cases hx
    | some e =>
     cases hb : es'[k0 + j]? with
     | none => rw [hb] at hy; cases hy
     | some e' =>
      rw [ha] at hx; rw [hb] at hy
      cases hx; cases hy
      obtain ⟨RR, q1, q2⟩ := tiles (k0 + j) e e' (by omega) ha hb
      exact eqD_pic (q1.mono s5) (q2.mono s5)
   ·rintro σ H3 ⟨s3, v10, rfl⟩
    have ok3 := ok1.same s3
    exact ⟨_, rfl, _, rfl, 1, h, a, true, by decide, rfl, rfl, EqL.pic (ok3.pic tab ph) (ok3.pic tab pa), k H3 ok3⟩
  obtain ⟨t6, r6, k6⟩ : ∃ tr, PSs ((cxOf CX0 P w K mg base nmtilesright "_law_tiles_right" (defScope s_law_tiles_right) f cdv A outer s H E).nox) ((defBody s_law_tiles_right).drop 6) tr ∧
    ∀ (c d : Nat) (p1 p2 : Addr) (ls ds : List (Addr × List (Addr × List Addr))) (v5 v7 v8 : Option V) (H1 : Hp), 1 ≤ c → 1 ≤ d → wd % c = 0 → R.length % d = 0 → Ok ms H H1 → TilesV H1 p1 ls (tilesG R wd c d) → TilesV H1 p2 ds (tilesG R wd c d) → (∀ l ∈ ls, ∀ y, AdrL l y → H y = none) → (∀ l ∈ ls, ∀ y, AdrL l y → y ≠ p2 ∧ ∀ l' ∈ ds, ¬ AdrL l' y) →
     tr { nx := fun _ H' => Q .non H', rt := Q } [some (.ref a), some (.ref h), some u1, some u2, some (.ref p1), v5, some (.ref p2), v7, v8, none, none] H1 := by
   refine ⟨_, (pss_cons (ps_set (i := 9) sc_law_tiles_right.nd rfl (by first | exact Or.inl rfl | exact Or.inr rfl) (pe_callX g_from_tiles (hr.mono (by decide)) passF rfl (pa_cons (pv 4) pa_nil)))
    (pss_cons (ps_expr (pe_callD g__law_marked (hr.mono (by decide)) rfl (pa_cons (pe_ix (ixK K rfl) (pe_ix (ixK K rfl) (pv 4) pe_int (fun _ _ => rfl)) pe_int (fun _ _ => rfl)) pa_nil)))
    (pss_cons (ps_expr (pe_bm PySem.F.plainAttrs_list PySem.F.slot_list_append PySem.F.type_list_append mt_append (pe_ix (ixK K rfl) (pv 4) pe_int (fun _ _ => rfl)) (pa_cons pe_non pa_nil)))
    (pss_cons (ps_if (PW.pt (pw_or (pt_cmpR (neDK K rfl hu) (pe_comp (N := ["_law_row"]) (src := [none]) rfl ⟨rfl, rfl, rfl, rfl, rfl, by decide +kernel⟩ (piK K rfl (pe_slice (slK K rfl) (pv 4) (po_some pe_int) po_none)) (fun s H C fp => pg_name (i := 0) (show (["_law_row"] : List Str).Nodup by decide +kernel) rfl (by first | exact Or.inl rfl | exact Or.inr rfl)) (fun s H C fp => pts_nil) (fun s H C fp => (pe_callB (lenK K rfl) rfl T.len PySem.boot_len (pa_cons (pv 0) pa_nil)))) (pe_comp (N := ["_law_row"]) (src := [none]) rfl ⟨rfl, rfl, rfl, rfl, rfl, by decide +kernel⟩ (piK K rfl (pe_slice (slK K rfl) (pv 6) (po_some pe_int) po_none)) (fun s H C fp => pg_name (i := 0) (show (["_law_row"] : List Str).Nodup by decide +kernel) rfl (by first | exact Or.inl rfl | exact Or.inr rfl)) (fun s H C fp => pts_nil) (fun s H C fp => (pe_callB (lenK K rfl) rfl T.len PySem.boot_len (pa_cons (pv 0) pa_nil)))) (nomark _)) (pw_or1 (pt_not (pt_val (pe_callD g__law_is_like (hr.mono (by decide)) rfl (pa_cons (pv 9) (pa_cons (pv 0) pa_nil)))))))) (pss_one (ps_ret pe_bl)) pss_nil)
    (@r10))))), ?_⟩
   intro c d p1 p2 ls ds v5 v7 v8 H1 c1 d1 hc hd ok1 tv dv frl djd
   have gt := tilesG_GT gd c1 d1 hc hd
   obtain ⟨n24, G24, c24, d24⟩ := gt.line_le
   have g1 := gt.ne
   have m1 := gt.n1
   obtain ⟨Rs0, hRs0⟩ : ∃ Rs, (tilesG R wd c d)[0]? = some Rs := ⟨_, List.getElem?_eq_getElem (by omega)⟩
   obtain ⟨l0, hl0⟩ : ∃ l, ls[0]? = some l := ⟨_, List.getElem?_eq_getElem (by rw [tv.len]; omega)⟩
   have lg0 := gt.line Rs0 (List.mem_of_getElem? hRs0)
   have lv0 := tv.at_ 0 l0 Rs0 hl0 hRs0
   obtain ⟨T0, hT0⟩ : ∃ T, Rs0[0]? = some T := ⟨_, List.getElem?_eq_getElem (by omega)⟩
   obtain ⟨e0, he0⟩ : ∃ e, l0.2[0]? = some e := ⟨_, List.getElem?_eq_getElem (by rw [lv0.len]; omega)⟩
   have p00 := lv0.at_ 0 e0 T0 he0 hT0
   obtain ⟨gT0, _⟩ := lg0.2 T0 (List.mem_of_getElem? hT0)
   have hm0 := List.mem_of_getElem? hl0
   refine ⟨_, rfl, .ref p1, rfl, .inr (.inr ⟨p1, ls, _, wd / c, c, d, rfl, tv, gt, fun W ws H2 s2 hW frW pW => ?_⟩)⟩
   rw [join_tiles gd hc hd] at pW
   have tv2 := tv.mono s2
   have dv2 := dv.mono s2
   have lv02 := lv0.mono s2
   have ok2 := ok1.same s2
   refine ⟨_, rfl, p1, _, _, .ref l0.1, rfl, rfl, SqL.of tv2.top, atI_nat (j := 0) (by rw [List.getElem?_map, hl0]; rfl), l0.1, _, _, .ref e0.1, rfl, rfl, SqL.of lv02.top, atI_nat (j := 0) (by rw [List.getElem?_map, he0]; rfl), e0.1, e0.2, T0, c, rfl, p00.mono s2, gT0, fun H3 k3 => ?_⟩
   have fre : ∀ y ∈ e0.2, H y = none := fun y hy => frl l0 hm0 y (.inr ⟨e0, List.mem_of_getElem? he0, .inr hy⟩)
   have ok3 := ok2.mark (p00.mono s2) fre k3
   have np1 : p1 ∉ e0.2 := fun z => tv.out l0 hm0 (.inr ⟨e0, List.mem_of_getElem? he0, .inr z⟩)
   have nl0 : l0.1 ∉ e0.2 := fun z => lv0.out e0 (List.mem_of_getElem? he0) (.inr z)
   have top3 := k3 _ _ tv2.top np1
   have ltop3 := k3 _ _ lv02.top nl0
   refine ⟨_, rfl, p1, _, _, .ref l0.1, rfl, rfl, SqL.of top3, atI_nat (j := 0) (by rw [List.getElem?_map, hl0]; rfl), .inl ⟨rfl, _, SqL.of ltop3⟩, l0.1, _, .non, rfl, rfl, ltop3, ?_, ?_⟩
   ·rw [List.length_map, lv0.len, lg0.1]; exact Nat.lt_of_le_of_lt n24 (by decide)
   have frl0 : H l0.1 = none := frl l0 hm0 _ (.inl rfl)
   have ok4 : Ok ms H (upd H3 l0.1 (.lst ((l0.2.map fun e => V.ref e.1) ++ [.non]))) := ⟨fun b u n e => by
     rw [upd_ne (fun z => by rw [z, frl0] at e; cases e)]
     exact ok3.but b u n e, ok3.tab.keep (fq := [l0.1]) (fun b o e n => by rw [upd_ne (fun z => n (by rw [z]; exact List.mem_singleton_self _))]; exact e) fun x hx => by
     have e := List.mem_singleton.mp hx
     subst e
     exact ⟨_, ltop3⟩⟩
   have kp : ∀ b o, ¬ AdrL l0 b → H2 b = some o → upd H3 l0.1 (.lst ((l0.2.map fun e => V.ref e.1) ++ [.non])) b = some o := fun b o n e => by
    rw [upd_ne (fun z => n (.inl z))]
    exact k3 _ _ e fun z => n (.inr ⟨e0, List.mem_of_getElem? he0, .inr z⟩)
   have kp0 : ∀ b o, b ∉ e0.2 → b ≠ l0.1 → H2 b = some o → upd H3 l0.1 (.lst ((l0.2.map fun e => V.ref e.1) ++ [.non])) b = some o := fun b o n1 n2 e => by
    rw [upd_ne n2]; exact k3 _ _ e n1
   have lt4 : upd H3 l0.1 (.lst ((l0.2.map fun e => V.ref e.1) ++ [.non])) l0.1 = some (.lst ((l0.2.map fun e => V.ref e.1) ++ [.non])) := upd_same
   generalize upd H3 l0.1 (.lst ((l0.2.map fun e => V.ref e.1) ++ [.non])) = H4 at ok4 kp kp0 lt4 ⊢
   have ftop : H4 p1 = some (.lst (ls.map fun l => V.ref l.1)) := kp _ _ (tv.out l0 hm0) tv2.top
   have dtop : H4 p2 = some (.lst (ds.map fun l => V.ref l.1)) := kp _ _ (fun z => (djd l0 hm0 p2 z).1 rfl) dv2.top
   have pW4 : PicV H4 W ws (ir R) := PicV.keepA pW fun b o hb e => kp b o (fun z => by
    have q := adr_fresh hW frW hb
    obtain ⟨o', eo⟩ := lv0.has z
    rw [q] at eo; cases eo) e
   have dl : ∀ (y : Nat) l Rs, ds[y]? = some l → (tilesG R wd c d)[y]? = some Rs → LineV H4 l.1 l.2 Rs := fun y l Rs h1 h2 => (dv2.at_ y l Rs h1 h2).keep fun b o hb e => kp b o (fun z => (djd l0 hm0 b z).2 l (List.mem_of_getElem? h1) hb) e
   have fl : ∀ (y : Nat) l Rs, 1 ≤ y → ls[y]? = some l → (tilesG R wd c d)[y]? = some Rs → LineV H4 l.1 l.2 Rs := fun y l Rs hy h1 h2 => (tv2.at_ y l Rs h1 h2).keep fun b o hb e => kp b o (pw_at tv.dj hl0 h1 (by omega) b hb) e
   have lnl : ∀ {l : Addr} {es : List (Addr × List Addr)} {Rs : List (List (List Int))}, Rs ∈ tilesG R wd c d → LineV H4 l es Rs → es.length = wd / c := fun hR lv => by rw [lv.len, (gt.line _ hR).1]
   have ln : LnOk H4 (ls.map fun l => V.ref l.1) (ds.map fun l => V.ref l.1) (wd / c) := fun y hy => by
    rw [List.length_map] at hy
    have hyG : y < (tilesG R wd c d).length := by rw [← dv.len]; exact hy
    obtain ⟨Rs, hRs⟩ : ∃ Rs, (tilesG R wd c d)[y]? = some Rs := ⟨_, List.getElem?_eq_getElem hyG⟩
    obtain ⟨l', hl'⟩ : ∃ l, ds[y]? = some l := ⟨_, List.getElem?_eq_getElem hy⟩
    obtain ⟨l, hl⟩ : ∃ l, ls[y]? = some l := ⟨_, List.getElem?_eq_getElem (by rw [tv.len]; exact hyG)⟩
    have hRm := List.mem_of_getElem? hRs
    have d4 := dl y l' Rs hl' hRs
    by_cases y0 : y = 0
    ·subst y0
     rw [hl0] at hl; cases hl
     rw [hRs0] at hRs; cases hRs
     refine ⟨l0.1, l'.1, l0.2, l'.2, [.non], by rw [List.getElem?_map, hl0]; rfl, by rw [List.getElem?_map, hl']; rfl, lt4, d4.top, by rw [lv0.len]; exact lg0.1, lnl hRm d4, fun j e e' hj he he' => ?_⟩
     have hjR : j < Rs0.length := by rw [← lv0.len]; exact (List.getElem?_eq_some_iff.mp he).1
     refine ⟨_, PicV.keepA (lv02.at_ j e _ he (List.getElem?_eq_getElem hjR)) fun b o hb eb => kp0 b o (fun z => pw_at lv0.dj he0 he (by omega) b hb (.inr z)) (fun z => lv0.out e (List.mem_of_getElem? he) (by rw [← z]; exact hb)) eb, d4.at_ j e' _ he' (List.getElem?_eq_getElem hjR)⟩
    ·have f4 := fl y l Rs (by omega) hl hRs
     refine ⟨l.1, l'.1, l.2, l'.2, [], by rw [List.getElem?_map, hl]; rfl, by rw [List.getElem?_map, hl']; rfl, by rw [List.append_nil]; exact f4.top, d4.top, lnl hRm f4, lnl hRm d4, fun j e e' _ he he' => ?_⟩
     have hjR : j < Rs.length := by rw [← f4.len]; exact (List.getElem?_eq_some_iff.mp he).1
     exact ⟨_, f4.at_ j e _ he (List.getElem?_eq_getElem hjR), d4.at_ j e' _ he' (List.getElem?_eq_getElem hjR)⟩
   have dropM : ∀ {zs : List (Addr × List (Addr × List Addr))} {x : V}, x ∈ (zs.map fun l => V.ref l.1).drop 1 → ∃ (y : Nat) (l : Addr × List (Addr × List Addr)), 1 ≤ y ∧ zs[y]? = some l ∧ x = .ref l.1 := fun {zs x} hx => by
    obtain ⟨i, hi⟩ := List.mem_iff_getElem?.mp hx
    rw [List.getElem?_drop, List.getElem?_map] at hi
    cases e : zs[1 + i]? with
    | none => rw [e] at hi; cases hi
    | some l => rw [e] at hi; cases hi; exact ⟨1 + i, l, by omega, e, rfl⟩
   have lls : ls.length = (tilesG R wd c d).length := tv.len
   have lds : ds.length = (tilesG R wd c d).length := dv.len
   refine ⟨_, rfl, _, rfl, p1, _, rfl, SqL.of ftop, fun S1 hS1 => ?_⟩
   have q1 := same_new (o := HO.lst (cutV (ls.map fun l => V.ref l.1) (some 1) none)) hS1
   have eS1 := upd_same (H := H4) (a := S1) (o := HO.lst (cutV (ls.map fun l => V.ref l.1) (some 1) none))
   generalize upd H4 S1 (HO.lst (cutV (ls.map fun l => V.ref l.1) (some 1) none)) = H5 at q1 eS1 ⊢
   have c1' : cutV (ls.map fun l => V.ref l.1) (some 1) none = (ls.map fun l => V.ref l.1).drop 1 := cut_drop (k := 1) (by rw [List.length_map]; omega)
   have c2' : cutV (ds.map fun l => V.ref l.1) (some 1) none = (ds.map fun l => V.ref l.1).drop 1 := cut_drop (k := 1) (by rw [List.length_map]; omega)
   rw [c1'] at eS1
   refine ⟨S1, rfl, ⟨_, SqL.of eS1⟩, fun D1 hD1 => ?_⟩
   refine comp_fm (k := 0) (fun _ => .int ((wd / c : Nat) : Int)) (fun _ => true) (src_list (SqL.of eS1)) (by rw [List.length_drop, List.length_map]; exact Nat.le_trans (Nat.sub_le _ _) (Nat.le_trans (by rw [lls]; exact G24) (by decide))) hD1 (fun x _ H' Qb _ kb => kb H' (Same.refl _)) (fun x hx _ H' Q' sm kk => ?_) fun H6 s6 e6 => ?_
   ·obtain ⟨y, l, hy, hl, rfl⟩ := dropM hx
    have hyG : y < (tilesG R wd c d).length := by rw [← lls]; exact (List.getElem?_eq_some_iff.mp hl).1
    have f4 := fl y l _ hy hl (List.getElem?_eq_getElem hyG)
    refine ⟨_, rfl, l.1, _, rfl, .inl (SqL.of (sm _ _ (q1 _ _ f4.top))), ?_⟩
    rw [List.length_map, lnl (List.getElem_mem hyG) f4]
    exact kk H' (Same.refl _)
   have q46 := q1.trans s6
   refine ⟨_, rfl, _, rfl, p2, _, rfl, SqL.of (q46 _ _ dtop), fun S2 hS2 => ?_⟩
   have q2 := same_new (o := HO.lst (cutV (ds.map fun l => V.ref l.1) (some 1) none)) hS2
   have eS2 := upd_same (H := H6) (a := S2) (o := HO.lst (cutV (ds.map fun l => V.ref l.1) (some 1) none))
   generalize upd H6 S2 (HO.lst (cutV (ds.map fun l => V.ref l.1) (some 1) none)) = H7 at q2 eS2 ⊢
   rw [c2'] at eS2
   refine ⟨S2, rfl, ⟨_, SqL.of eS2⟩, fun D2 hD2 => ?_⟩
   refine comp_fm (k := 0) (fun _ => .int ((wd / c : Nat) : Int)) (fun _ => true) (src_list (SqL.of eS2)) (by rw [List.length_drop, List.length_map]; exact Nat.le_trans (Nat.sub_le _ _) (Nat.le_trans (by rw [lds]; exact G24) (by decide))) hD2 (fun x _ H' Qb _ kb => kb H' (Same.refl _)) (fun x hx _ H' Q' sm kk => ?_) fun H8 s8 e8 => ?_
   ·obtain ⟨y, l, hy, hl, rfl⟩ := dropM hx
    have hyG : y < (tilesG R wd c d).length := by rw [← lds]; exact (List.getElem?_eq_some_iff.mp hl).1
    have f4 := dl y l _ hl (List.getElem?_eq_getElem hyG)
    refine ⟨_, rfl, l.1, _, rfl, .inl (SqL.of (sm _ _ (q2 _ _ (q46 _ _ f4.top)))), ?_⟩
    rw [List.length_map, lnl (List.getElem_mem hyG) f4]
    exact kk H' (Same.refl _)
   have q48 := q46.trans (q2.trans s8)
   rw [filter_t, rep_map_len (n := wd / c) (fun _ _ => rfl), List.length_drop, List.length_map] at e6 e8
   rw [lls] at e6
   rw [lds] at e8
   have eq8 : EqL K H8 (EqD K H8 0) D1 D2 true := EqL.same (.inl ⟨SqL.of ((q2.trans s8) _ _ e6), SqL.of e8⟩) flat_ints
   refine ⟨0, D1, D2, true, by decide, rfl, rfl, eq8, _, rfl, ?_⟩
   have ok8 := ok4.same q48
   have pa8 := ok8.pic tab pa
   refine ⟨_, rfl, _, rfl, W, a, ws, ps, R, wd, rfl, pW4.mono q48, pa8, gd, fun y hy hz => ?_, fun hz => ?_, fun H9 s9 => ⟨_, rfl, iteF ?_⟩⟩
   ·obtain ⟨r, _, e⟩ := pa.mem hy
    have := ok1.back (frW y hz)
    rw [this] at e; cases e
   ·have := ok1.back (frW a hz)
    rw [pa.top] at this; cases this
   have q49 := q48.trans s9
   have ln9 : LnOk H9 (ls.map fun l => V.ref l.1) (ds.map fun l => V.ref l.1) (wd / c) := fun y hy => by
    obtain ⟨l1, l2, es, es', tl, x1, x2, a1, a2, b1, b2, tt⟩ := ln y hy
    exact ⟨l1, l2, es, es', tl, x1, x2, q49 _ _ a1, q49 _ _ a2, b1, b2, fun j e e' hj he he' => by
     obtain ⟨RR, u1', u2'⟩ := tt j e e' hj he he'
     exact ⟨RR, u1'.mono q49, u2'.mono q49⟩⟩
   exact k10 p1 p2 _ _ (wd / c) _ _ _ _ H9 (ok4.same q49) (q49 _ _ ftop) (q49 _ _ dtop) (by rw [List.length_map, lds]; exact G24) m1 n24 ln9
  obtain ⟨t3, r3, k3⟩ : ∃ tr, PSs ((cxOf CX0 P w K mg base nmtilesright "_law_tiles_right" (defScope s_law_tiles_right) f cdv A outer s H E).nox) ((defBody s_law_tiles_right).drop 3) tr ∧
    ∀ (c d : Nat) (p1 : Addr) (ls : List (Addr × List (Addr × List Addr))) (v5 : Option V) (H1 : Hp), u1 = .int (c : Int) → u2 = .int (d : Int) → 1 ≤ c → 1 ≤ d → wd % c = 0 → R.length % d = 0 → Ok ms H H1 → TilesV H1 p1 ls (tilesG R wd c d) → (∀ l ∈ ls, ∀ y, AdrL l y → H y = none) →
     tr { nx := fun _ H' => Q .non H', rt := Q } [some (.ref a), some (.ref h), some u1, some u2, some (.ref p1), v5, none, none, none, none, none] H1 := by
   refine ⟨_, (pss_cons (ps_set (i := 6) sc_law_tiles_right.nd rfl (by first | exact Or.inl rfl | exact Or.inr rfl) (pe_callD g__law_tiles (hr.mono (by decide)) rfl (pa_cons (pv 0) (pa_cons (pv 2) (pa_cons (pv 3) pa_nil)))))
    (pss_cons (ps_if (PW.pt (pw_or (pt_not (pt_val (isiK K rfl (pv 4) rfl T.isinstance rfl T.list PyProof.Rows.boot_list))) (pw_or1 (pt_cmpR op_ne (pe_callB (lenK K rfl) rfl T.len PySem.boot_len (pa_cons (pv 4) pa_nil)) (pe_callB (lenK K rfl) rfl T.len PySem.boot_len (pa_cons (pv 6) pa_nil)) (nomark _))))) (pss_one (ps_ret pe_bl)) pss_nil)
    (pss_cons (ps_for PassesOwn.never rfl (pi_zip rfl T.zip (pa_cons (pv 4) (pa_cons (pv 6) pa_nil))) (pg_tup rfl (pgs_cons (pg_name (i := 7) sc_law_tiles_right.nd rfl (by first | exact Or.inl rfl | exact Or.inr rfl)) (pgs_cons (pg_name (i := 8) sc_law_tiles_right.nd rfl (by first | exact Or.inl rfl | exact Or.inr rfl)) pgs_nil))) (pss_cons (ps_if (PW.pt (pw_or (pt_not (pt_val (isiK K rfl (pv 7) rfl T.isinstance rfl T.list PyProof.Rows.boot_list))) (pw_or1 (pt_cmpR op_ne (pe_callB (lenK K rfl) rfl T.len PySem.boot_len (pa_cons (pv 7) pa_nil)) (pe_callB (lenK K rfl) rfl T.len PySem.boot_len (pa_cons (pv 8) pa_nil)) (nomark _))))) (pss_one (ps_ret pe_bl)) pss_nil)
    (pss_one (ps_if (pt_not (pt_val (pe_callB (allK K rfl rfl) rfl T.all PyProof.Rows.boot_all (pa_cons (pe_comp (N := ["_law_tile", "_law_mine"]) (src := [none, none]) rfl ⟨rfl, rfl, rfl, rfl, rfl, by decide +kernel⟩ (pi_zip rfl T.zip (pa_cons (pv 7) (pa_cons (pv 8) pa_nil))) (fun s H C fp => (pg_tupK (n := 2) K rfl rfl (pgs_cons (pg_name (i := 0) (show (["_law_tile", "_law_mine"] : List Str).Nodup by decide +kernel) rfl (by first | exact Or.inl rfl | exact Or.inr rfl)) (pgs_cons (pg_name (i := 1) (show (["_law_tile", "_law_mine"] : List Str).Nodup by decide +kernel) rfl (by first | exact Or.inl rfl | exact Or.inr rfl)) pgs_nil)))) (fun s H C fp => pts_nil) (fun s H C fp => (pe_callD g__law_is_like (hr.mono (by decide)) rfl (pa_cons (pv 0) (pa_cons (pv 1) pa_nil))))) pa_nil)))) (pss_one (ps_ret pe_bl)) pss_nil))))
    (@r6)))), ?_⟩
   intro c d p1 ls v5 H1 e1 e2 c1 d1 hc hd ok1 tv frl
   subst e1 e2
   have gt := tilesG_GT gd c1 d1 hc hd
   obtain ⟨n24, G24, c24, d24⟩ := gt.line_le
   refine ⟨_, rfl, _, rfl, _, rfl, a, ps, R, wd, c, d, rfl, ok1.pic tab pa, gd, c1, d1, hc, hd, fun p2 ds H2 s2 hp2 frD dv => ?_⟩
   have tv2 := tv.mono s2
   have lls : ls.length = (tilesG R wd c d).length := tv.len
   have lds : ds.length = (tilesG R wd c d).length := dv.len
   refine ⟨_, rfl, true, isList_lst tv2.top, _, rfl, ⟨_, rfl, p1, _, rfl, .inl (SqL.of tv2.top), _, rfl, p2, _, rfl, .inl (SqL.of dv.top), rfl, _, rfl, ?_⟩⟩
   rw [List.length_map, List.length_map, dec_len, decide_eq_true (by rw [lls, lds])]
   refine iteF ?_
   have djd : ∀ l ∈ ls, ∀ y, AdrL l y → y ≠ p2 ∧ ∀ l' ∈ ds, ¬ AdrL l' y := fun l hl y hy => by
    obtain ⟨o, eo⟩ := tv.has (y := y) (.inr ⟨l, hl, hy⟩)
    refine ⟨fun z => (by rw [z, hp2] at eo; cases eo), fun l' hl' hy' => ?_⟩
    rw [frD l' hl' y hy'] at eo; cases eo
   refine ⟨_, rfl, _, rfl, p1, p2, rfl, ⟨_, SqL.of tv2.top⟩, ⟨_, SqL.of dv.top⟩, ?_⟩
   refine for_zip (xs := ls.map fun l => V.ref l.1) (ys := ds.map fun l => V.ref l.1) (by rw [List.length_map, List.length_map, lls, lds]) (fun i σ H3 => Same H2 H3 ∧ ∃ v7 v8 : Option V, σ = [some (.ref a), some (.ref h), some (.int (c : Int)), some (.int (d : Int)), some (.ref p1), v5, some (.ref p2), v7, v8, none, none]) ⟨Same.refl _, none, none, rfl⟩ (fun i σ H3 _ q => ⟨SqL.of (q.1 _ _ tv2.top), SqL.of (q.1 _ _ dv.top)⟩) ?_ ?_
   ·rintro i x y σ H3 Tt hx hy ⟨s3, v7, v8, rfl⟩ hT
    rw [List.getElem?_map] at hx hy
    cases hl : ls[i]? with
    | none => rw [hl] at hx; cases hx
    | some l =>
     cases hl' : ds[i]? with
     | none => rw [hl'] at hy; cases hy
     | some l' =>
      rw [hl] at hx; rw [hl'] at hy
      cases hx; cases hy
      have hiG : i < (tilesG R wd c d).length := by rw [← lls]; exact (List.getElem?_eq_some_iff.mp hl).1
      obtain ⟨Rs, hRs⟩ : ∃ Rs, (tilesG R wd c d)[i]? = some Rs := ⟨_, List.getElem?_eq_getElem hiG⟩
      obtain ⟨ln, lg⟩ := gt.line Rs (List.mem_of_getElem? hRs)
      have sT := same_new (o := HO.tup [V.ref l.1, V.ref l'.1]) hT
      have s4 := s3.trans sT
      have lv := (tv2.at_ i l Rs hl hRs).mono s4
      have lw := (dv.at_ i l' Rs hl' hRs).mono s4
      refine ⟨Tt, _, rfl, SqT.of upd_same, rfl, _, _, rfl, _, _, rfl, rfl, ?_⟩
      generalize upd H3 Tt (HO.tup [V.ref l.1, V.ref l'.1]) = H4 at s4 lv lw ⊢
      refine ⟨_, rfl, true, isList_lst lv.top, _, rfl, ⟨_, rfl, l.1, _, rfl, .inl (SqL.of lv.top), _, rfl, l'.1, _, rfl, .inl (SqL.of lw.top), rfl, _, rfl, ?_⟩⟩
      rw [List.length_map, List.length_map, dec_len, decide_eq_true (by rw [lv.len, lw.len])]
      refine iteF ?_
      refine ⟨_, rfl, _, rfl, l.1, l'.1, rfl, ⟨_, SqL.of lv.top⟩, ⟨_, SqL.of lw.top⟩, fun D hD => ?_⟩
      refine comp2_fm (k1 := 0) (k2 := 1) (fun _ => .bl true) (fun _ => true) (src2_zip (SqL.of lv.top) (SqL.of lw.top) (by rw [List.length_map, List.length_map, lv.len, lw.len])) (by rw [List.length_zip, List.length_map, lv.len, ln]; exact Nat.le_trans (Nat.min_le_left _ _) (Nat.le_trans n24 (by decide))) hD (fun x _ H' Qb _ kb => kb H' (Same.refl _)) (fun pr hpr _ H' Q' sm kk => ?_) fun H5 s5 e5 => ?_
      ·obtain ⟨j, hj⟩ := List.mem_iff_getElem?.mp hpr
       obtain ⟨x, y⟩ := pr
       obtain ⟨j1, j2⟩ := List.getElem?_zip_eq_some.mp hj
       rw [List.getElem?_map] at j1 j2
       cases he : l.2[j]? with
       | none => rw [he] at j1; cases j1
       | some e =>
        cases he' : l'.2[j]? with
        | none => rw [he'] at j2; cases j2
        | some e' =>
         rw [he] at j1; rw [he'] at j2
         cases j1; cases j2
         have hjR : j < Rs.length := by rw [← lv.len]; exact (List.getElem?_eq_some_iff.mp he).1
         have pe := lv.at_ j e _ he (List.getElem?_eq_getElem hjR)
         have pe' := lw.at_ j e' _ he' (List.getElem?_eq_getElem hjR)
         have dd : ∀ y, Adr e' y → ¬ Adr e y := fun y hy' hy => (djd l (List.mem_of_getElem? hl) y (.inr ⟨e, List.mem_of_getElem? he, hy⟩)).2 l' (List.mem_of_getElem? hl') (.inr ⟨e', List.mem_of_getElem? he', hy'⟩)
         exact ⟨_, rfl, _, rfl, e.1, e'.1, e.2, e'.2, _, c, rfl, pe.mono sm, pe'.mono sm, (lg _ (List.getElem_mem hjR)).1, fun y hy hz => dd y (.inr hy) (.inr hz), fun hz => dd e'.1 (.inl rfl) (.inr hz), fun H6 s6 => kk H6 s6⟩
      refine ⟨D, (((l.2.map fun e => V.ref e.1).zip (l'.2.map fun e => V.ref e.1)).map fun _ => true), rfl, SqL.of (by rw [e5, filter_t, List.map_map]; rfl), _, rfl, ?_⟩
      have ea : ∀ zs : List (V × V), (zs.map fun _ => true).all id = true := fun zs => by
       induction zs with
       | nil => rfl
       | cons z r ih => rw [List.map_cons, List.all_cons, ih]; rfl
      rw [ea]
      exact iteF ⟨s4.trans s5, _, _, rfl⟩
   ·rintro σ H3 ⟨s3, v7, v8, rfl⟩
    exact k6 c d p1 p2 ls ds _ _ _ H3 c1 d1 hc hd (ok1.same (s2.trans s3)) (tv2.mono s3) (dv.mono s3) frl djd
  obtain ⟨t2, r2, k2a, k2b⟩ : ∃ tr, PSs ((cxOf CX0 P w K mg base nmtilesright "_law_tiles_right" (defScope s_law_tiles_right) f cdv A outer s H E).nox) ((defBody s_law_tiles_right).drop 2) tr ∧
    (∀ (tt nn : Addr) (H1 : Hp), Ok ms H H1 → Told H1 tt nn false true → badParts R wd u1 u2 → tr { nx := fun _ H' => Q .non H', rt := Q } [some (.ref a), some (.ref h), some u1, some u2, some (.ref tt), some (.bl (isWf 1 u1 && isWf 1 u2)), none, none, none, none, none] H1) ∧
    (∀ (c d : Nat) (p1 : Addr) (ls : List (Addr × List (Addr × List Addr))) (H1 : Hp), u1 = .int (c : Int) → u2 = .int (d : Int) → 1 ≤ c → 1 ≤ d → wd % c = 0 → R.length % d = 0 → Ok ms H H1 → TilesV H1 p1 ls (tilesG R wd c d) → (∀ l ∈ ls, ∀ y, AdrL l y → H y = none) → tr { nx := fun _ H' => Q .non H', rt := Q } [some (.ref a), some (.ref h), some u1, some u2, some (.ref p1), some (.bl (isWf 1 u1 && isWf 1 u2)), none, none, none, none, none] H1) := by
   refine ⟨_, (pss_cons (ps_if (PW.pt (pw_or (pt_not (pt_val (pv 5))) (pw_or (pt_cmpR op_ne (pe_op op_mod (pe_callB (lenK K rfl) rfl T.len PySem.boot_len (pa_cons (pe_ix (ixK K rfl) (pv 0) pe_int (fun _ _ => rfl)) pa_nil)) (pv 2)) pe_int (nomark _)) (pw_or1 (pt_cmpR op_ne (pe_op op_mod (pe_callB (lenK K rfl) rfl T.len PySem.boot_len (pa_cons (pv 0) pa_nil)) (pv 3)) pe_int (nomark _)))))) (pss_one (ps_ret (pe_cmpR (eqDK K rfl hu) (pv 4) (pe_tup (pa_cons pe_str (pa_cons (pe_lst (pa_cons pe_bl (pa_cons pe_bl pa_nil))) (pa_cons pe_bl pa_nil)))) (nomark _)))) pss_nil)
    (@r3)), ?_, ?_⟩
   ·intro tt nn H1 ok1 td bad
    have pa1 := ok1.pic tab pa
    have ret : ∀ dn, H1 dn = none → ∀ du, upd H1 dn (.lst [.bl false, .bl true]) du = none → Told (upd (upd H1 dn (.lst [.bl false, .bl true])) du (.tup [.str "refused", .ref dn, .bl true])) tt nn false true ∧ Told (upd (upd H1 dn (.lst [.bl false, .bl true])) du (.tup [.str "refused", .ref dn, .bl true])) du dn false true ∧ Ok ms H (upd (upd H1 dn (.lst [.bl false, .bl true])) du (.tup [.str "refused", .ref dn, .bl true])) := fun dn hdn du hdu => by
     have z := (same_new (o := HO.lst [V.bl false, .bl true]) hdn).trans (same_new (o := HO.tup [V.str "refused", .ref dn, .bl true]) hdu)
     exact ⟨td.mono z, ⟨upd_same, same_new hdu _ _ upd_same⟩, ok1.same z⟩
    rcases bad with bad | ⟨c, d, rfl, rfl, c1, d1, bad⟩
    ·rw [bad]
     refine ⟨_, rfl, _, rfl, _, rfl, sz2, fun dn hdn => ⟨sz3, fun du hdu => ?_⟩⟩
     obtain ⟨x1, x2, x3⟩ := ret dn hdn du hdu
     exact ⟨1, tt, du, true, by decide, rfl, rfl, EqL.told x1 x2, k _ x3⟩
    ·rw [wf1 c1, wf1 d1]
     obtain ⟨a0, m0, a00, a01, a02⟩ := gd.first pa1
     refine ⟨_, rfl, _, rfl, _, rfl, a, _, _, .ref a0, rfl, rfl, SqL.of pa1.top, atI_nat (j := 0) a00, a0, _, rfl, .inl (SqL.of a01), _, rfl, _, _, rfl, rfl, (by omega), rfl, _, rfl, ?_⟩
     rw [List.length_map, a02, dec_mod]
     by_cases hw : wd % c = 0
     rotate_left
     ·rw [decide_eq_false hw]
      refine ⟨_, rfl, sz2, fun dn hdn => ⟨sz3, fun du hdu => ?_⟩⟩
      obtain ⟨x1, x2, x3⟩ := ret dn hdn du hdu
      exact ⟨1, tt, du, true, by decide, rfl, rfl, EqL.told x1 x2, k _ x3⟩
     ·rw [decide_eq_true hw]
      refine ⟨_, rfl, a, _, rfl, .inl (SqL.of pa1.top), _, rfl, _, _, rfl, rfl, (by omega), rfl, _, rfl, ?_⟩
      rw [lenF pa1, dec_mod, decide_eq_false (fun z => bad ⟨hw, z⟩)]
      refine iteT ⟨_, rfl, sz2, fun dn hdn => ⟨sz3, fun du hdu => ?_⟩⟩
      obtain ⟨x1, x2, x3⟩ := ret dn hdn du hdu
      exact ⟨1, tt, du, true, by decide, rfl, rfl, EqL.told x1 x2, k _ x3⟩
   ·intro c d p1 ls H1 e1 e2 c1 d1 hc hd ok1 tv frl
    have kk := k3 c d p1 ls (some (.bl (isWf 1 u1 && isWf 1 u2))) H1 e1 e2 c1 d1 hc hd ok1 tv frl
    subst e1 e2
    have pa1 := ok1.pic tab pa
    obtain ⟨a0, m0, a00, a01, a02⟩ := gd.first pa1
    rw [wf1 c1, wf1 d1] at kk ⊢
    refine ⟨_, rfl, _, rfl, _, rfl, a, _, _, .ref a0, rfl, rfl, SqL.of pa1.top, atI_nat (j := 0) a00, a0, _, rfl, .inl (SqL.of a01), _, rfl, _, _, rfl, rfl, (by omega), rfl, _, rfl, ?_⟩
    rw [List.length_map, a02, dec_mod, decide_eq_true hc]
    refine ⟨_, rfl, a, _, rfl, .inl (SqL.of pa1.top), _, rfl, _, _, rfl, rfl, (by omega), rfl, _, rfl, ?_⟩
    rw [lenF pa1, dec_mod, decide_eq_true hd]
    exact iteF kk
  obtain ⟨t1, r1, k1'⟩ : ∃ tr, PSs ((cxOf CX0 P w K mg base nmtilesright "_law_tiles_right" (defScope s_law_tiles_right) f cdv A outer s H E).nox) ((defBody s_law_tiles_right).drop 1) tr ∧
    ∀ (vf : V) (H1 : Hp), Kd K H1 u1 → Kd K H1 u2 → t2 { nx := fun _ H' => Q .non H', rt := Q } [some (.ref a), some (.ref h), some u1, some u2, some vf, some (.bl (isWf 1 u1 && isWf 1 u2)), none, none, none, none, none] H1 → tr { nx := fun _ H' => Q .non H', rt := Q } [some (.ref a), some (.ref h), some u1, some u2, some vf, none, none, none, none, none, none] H1 := by
   refine ⟨_, (pss_cons (ps_set (i := 5) sc_law_tiles_right.nd rfl (by first | exact Or.inl rfl | exact Or.inr rfl) (pe_and (pe_callD g__law_is_number (hr.mono (by decide)) rfl (pa_cons (pv 2) pa_nil)) (pe_and (pe_callD g__law_is_number (hr.mono (by decide)) rfl (pa_cons (pv 3) pa_nil)) (pe_and (pe_cmpR op_gt (pv 2) pe_int (nomark _)) (pe_one (pe_cmpR op_gt (pv 3) pe_int (nomark _)))))))
    (@r2)), ?_⟩
   intro vf H1 ku1 ku2 k1
   clear k2a k2b k3 k6 k10 k sm1 sm2
   refine ⟨_, rfl, u1, rfl, ku1, _, rfl, iteB (fun hI => ?_) (fun hI => ?_)⟩
   ·cases u1 with
    | int i =>
     refine ⟨_, rfl, u2, rfl, ku2, _, rfl, iteB (fun hJ => ?_) (fun hJ => ?_)⟩
     ·cases u2 with
      | int j =>
       refine ⟨_, rfl, _, _, rfl, rfl, _, rfl, iteB (fun h1 => ⟨_, rfl, _, _, rfl, rfl, ?_⟩) (fun h1 => ?_)⟩
       ·have e : (isWf 1 (.int i) && isWf 1 (.int j)) = decide (0 < j) := by
         have := of_decide_eq_true h1
         simp only [isWf]
         rw [Bool.eq_iff_iff]; simp; omega
        rw [e] at k1; exact k1
       ·have e : (isWf 1 (.int i) && isWf 1 (.int j)) = false := by
         have := of_decide_eq_false h1
         simp only [isWf]
         simp; omega
        rw [e] at k1; exact k1
      | _ => cases hJ
     ·have e : (isWf 1 (.int i) && isWf 1 u2) = false := by cases u2 <;> first | (simp [isWf]; done) | cases hJ
      rw [e] at k1; exact k1
    | _ => cases hI
   ·have e : (isWf 1 u1 && isWf 1 u2) = false := by cases u1 <;> first | rfl | cases hI
    rw [e] at k1; exact k1
  refine ⟨_, (pss_cons (ps_set (i := 4) sc_law_tiles_right.nd rfl (by first | exact Or.inl rfl | exact Or.inr rfl) (pe_callR0 gB hB (hr.mono (by decide)) rfl (pa_cons (pe_lamC hcdv hC hB (FreeHas.of fhD)) pa_nil)))
    (@r1)), ?_⟩
  try dsimp only [tNext, tSeq, tIfS, tTest, tRet, tOp, tAsg, tCallR0, tCons, tLamC, gName, List.set_cons_zero, List.set_cons_succ]
  refine tLamW_of (ts := ms.map (·.1)) hpm tab.hts (tab _ hm) fun f3 c3 H3 bt3 ot3 tb3 hf3 hc3 base' ok cap => ?_
  have m3 := tab.nt bt3
  have ok3 := (Ok.refl tab).lam nd hm bt3 ot3 tb3
  have ph3 := ok3.pic tab ph
  refine ⟨f3, _, _, rfl, hf3, lamXD rfl (gTO base' ok) clOf_hasL (cells_of cap (FreeHas.of fhD) rfl fun i x y e1 e2 => ?_), fun E' kP kS => ⟨hf3, hc3, .ref h, u1, u2, rfl, .inr ⟨h, qs, R, wd, rfl, ph3, gd, ?_⟩⟩⟩
  ·match i, e1, e2 with
   | 0, e1, e2 => cases e1; cases e2; exact ⟨by decide +kernel, rfl, 1, rfl, rfl⟩
   | 1, e1, e2 => cases e1; cases e2; exact ⟨by decide +kernel, rfl, 2, rfl, rfl⟩
   | 2, e1, e2 => cases e1; cases e2; exact ⟨by decide +kernel, rfl, 3, rfl, rfl⟩
   | i + 3, e1, e2 => cases e1
  have kds : ∀ {H4 : Hp}, Same H3 H4 → Kd K H4 u1 ∧ Kd K H4 u2 := fun {H4} s => ⟨(m3.kd ku1).mono s, (m3.kd ku2).mono s⟩
  rcases Bool.eq_false_or_eq_true (isWf 1 u1 && isWf 1 u2) with hg | hg
  rotate_left
  ·refine .inl ⟨m3.kd ku1, m3.kd ku2, hg, fun H4 s4 => kS H4 fun nn tt H5 s5 hn ht en et => ?_⟩
   have s35 := s4.trans s5
   exact k1' _ H5 (kds s35).1 (kds s35).2 (k2a tt nn H5 (ok3.same s35) ⟨et, en⟩ (.inl hg))
  ·obtain ⟨c, d, e1, e2, cc1, dd1, c100, d100⟩ := good_of hg sm1 sm2
   refine .inr ⟨c, d, e1, e2, cc1, dd1, c100, d100, fun no H4 s4 => kS H4 fun nn tt H5 s5 hn ht en et => ?_, fun hc hd p1 ls H5 s5 hp1 frl tv => ?_⟩
   ·have s35 := s4.trans s5
    exact k1' _ H5 (kds s35).1 (kds s35).2 (k2a tt nn H5 (ok3.same s35) ⟨et, en⟩ (.inr ⟨c, d, e1, e2, cc1, dd1, no⟩))
   ·exact k1' _ H5 (kds s5).1 (kds s5).2 (k2b c d p1 ls H5 e1 e2 cc1 dd1 hc hd (ok3.same s5) tv fun l hl y hy => ok3.back (frl l hl y hy))
end
end K13
set_option Elab.async false
set_option linter.all false
namespace L2
open PySem
theorem len0 {us : List Value} (h : us.length = 0) : us = [] := List.eq_nil_of_length_eq_zero h
theorem lenS {us : List Value} {n : Nat} (h : us.length = n + 1) : ∃ a r, us = a :: r ∧ r.length = n := by
 cases us with
 | nil => exact absurd h (Nat.succ_ne_zero n).symm
 | cons a r => exact ⟨a, r, rfl, Nat.succ.inj h⟩
theorem len1 {us : List Value} (h : us.length = 1) : ∃ a, us = [a] := by
 obtain ⟨a, r, rfl, h2⟩ := lenS h; cases len0 h2; exact ⟨a, rfl⟩
theorem len2 {us : List Value} (h : us.length = 2) : ∃ a b, us = [a, b] := by
 obtain ⟨a, r, rfl, h2⟩ := lenS h; obtain ⟨b, rfl⟩ := len1 h2; exact ⟨a, b, rfl⟩
theorem len3 {us : List Value} (h : us.length = 3) : ∃ a b c, us = [a, b, c] := by
 obtain ⟨a, r, rfl, h2⟩ := lenS h; obtain ⟨b, c, rfl⟩ := len2 h2; exact ⟨a, b, c, rfl⟩
theorem len4 {us : List Value} (h : us.length = 4) : ∃ a b c d, us = [a, b, c, d] := by
 obtain ⟨a, r, rfl, h2⟩ := lenS h; obtain ⟨b, c, d, rfl⟩ := len3 h2; exact ⟨a, b, c, d, rfl⟩
theorem len5 {us : List Value} (h : us.length = 5) : ∃ a b c d e, us = [a, b, c, d, e] := by
 obtain ⟨a, r, rfl, h2⟩ := lenS h; obtain ⟨b, c, d, e, rfl⟩ := len4 h2; exact ⟨a, b, c, d, e, rfl⟩
end L2
set_option Elab.async false
set_option linter.all false
set_option maxRecDepth 100000
namespace L2
open PySem PySem.Spec PyProof.Rows
structure ShE (X : Cx) (e : Expr) (t : TE) : Prop where
 pe : PE X e t
structure ShA (X : Cx) (es : List Expr) (t : TA) : Prop where
 pa : PA X es t
structure ShT (X : Cx) (e : Expr) (t : TT) : Prop where
 pt : PT X e t
structure ShW (X : Cx) (e : Expr) (t : TT) : Prop where
 pw : PW X e t
structure ShG (X : Cx) (e : Expr) (t : TG) : Prop where
 pg : PG X e t
structure ShS (X : Cx) (st : Stmt) (t : TS) : Prop where
 ps : PS X st t
structure ShB (X : Cx) (l : List Stmt) (t : TS) : Prop where
 pss : PSs X l t
section
variable {X : Cx} {a b c e : Expr} {es : List Expr} {ta tb te : TE} {t : TA} {p pos : Pos}
theorem slSub : Sl (.Subscript a b p) := fun _ _ => rfl
theorem slIf : Sl (.IfExp a b c p) := fun _ _ => rfl
theorem slLst {xs : List Expr} : Sl (.List xs p) := fun _ _ => rfl
theorem slTup {xs : List Expr} {k : Nat} : Sl (.Tuple xs k p) := fun _ _ => rfl
theorem slBin {o : Operator} : Sl (.BinOp a o b p) := fun _ _ => rfl
theorem slCall {xs : List Expr} {ks : List Keyword} : Sl (.Call a xs ks p) := fun _ _ => rfl
theorem slC {k : Const} {n : Nat} : Sl (.Constant k n p) := fun _ _ => rfl
theorem slN {x : Str} : Sl (.Name x p) := fun _ _ => rfl
theorem qpv (i : Nat) {x : Str} (hN : X.N[i]? = some x := by rfl) (hv : Vis X.env.scope x := by first | exact Or.inl rfl | exact Or.inr (Or.inl rfl) | exact Or.inr (Or.inr rfl)) (hd : (x == ("__debug__" : Str)) = false := by decide)
  (hcd : (x == ("__classdict__" : Str)) = false := by decide) : ShE X (.Name x pos) (tVar i) := ⟨pe_var hN hv hd hcd⟩
theorem qpe_int {i : Int} {j : Nat} : ShE X (.Constant (.int i) j pos) (tC (.int i)) := ⟨pe_int⟩
theorem qpe_bl {x : Bool} {j : Nat} : ShE X (.Constant (.bool x) j pos) (tC (.bl x)) := ⟨pe_bl⟩
theorem qpe_non {j : Nat} : ShE X (.Constant .none j pos) (tC .non) := ⟨pe_non⟩
theorem qpe_str {x : Str} {j : Nat} : ShE X (.Constant (.str x) j pos) (tC (.str x)) := ⟨pe_str⟩
theorem qpe_op {op : Operator} {r : R2} (ho : OpR X (binaryOp op) r) (ha : ShE X a ta) (hb : ShE X b tb) : ShE X (.BinOp a op b pos) (tOp r ta tb) := ⟨pe_op ho ha.pe hb.pe⟩
theorem qpe_ix {r : R2} (hr : IxR X r) (ha : ShE X a ta) (hb : ShE X b tb) (hs : PlainIx b) : ShE X (.Subscript a b pos) (tOp r ta tb) := ⟨pe_ix hr ha.pe hb.pe hs⟩
theorem qpe_cmpR {op : CmpOp} {r : R2} (ho : OpR X (compareOp op) r) (ha : ShE X a ta) (hb : ShE X b tb) (hm : behindInMarks op b = false) : ShE X (.Compare a [op] [b] pos) (tOp r ta tb) := ⟨pe_cmpR ho ha.pe hb.pe hm⟩
theorem qpt_cmpR {op : CmpOp} {r : R2} (ho : OpR X (compareOp op) r) (ha : ShE X a ta) (hb : ShE X b tb) (hm : behindInMarks op b = false) : ShT X (.Compare a [op] [b] pos) (tTest (tOp r ta tb)) := ⟨pt_cmpR ho ha.pe hb.pe hm⟩
theorem qpe_ifExp {tA : TT} (hc : ShT X c tA) (ha : ShE X a ta) (hb : ShE X b tb) : ShE X (.IfExp c a b pos) (tIf tA ta tb) := ⟨pe_ifExp hc.pt ha.pe hb.pe⟩
theorem qpt_val (h : ShE X e te) (he : ∀ whole, isTrue e X.env whole = (do let v ← whole; standAt e.pos; holding [v] (truthy v)) := by intro _; rfl) : ShT X e (tB te) := ⟨pt_val h.pe he⟩
theorem qpw_or1 {tA : TT} (ha : ShT X a tA) : ShW X (.BoolOp .Or [a] pos) tA := ⟨pw_or1 ha.pt⟩
theorem qpw_or {tA tB' : TT} {rest : List Expr} (ha : ShT X a tA) (hb : ShW X (.BoolOp .Or (b :: rest) pos) tB') : ShW X (.BoolOp .Or (a :: b :: rest) pos) (tOr tA tB') := ⟨pw_or ha.pt hb.pw⟩
theorem ShW.pt {tA : TT} (h : ShW X e tA) : ShT X e tA := ⟨PW.pt h.pw⟩
theorem qpa_nil : ShA X [] tNil := ⟨pa_nil⟩
theorem qpa_cons (ha : ShE X e te) (hs : Sl e) (hr : ShA X es t) : ShA X (e :: es) (tCons te t) := ⟨pa_cons ha.pe hr.pa (hs _ _)⟩
theorem qpe_lst (h : ShA X es t) : ShE X (.List es pos) (tLst t) := ⟨pe_lst h.pa⟩
theorem qpe_tup {k : Nat} (h : ShA X es t) : ShE X (.Tuple es k pos) (tTup t) := ⟨pe_tup h.pa⟩
theorem qpe_callB {x : Str} {id : String} {r : List V → Hp → VK → Prop} (hc : CallR X (.builtin id) r) (hg : Gl X x) (hm : X.mg x = none) (hv : bootBuiltins x = some (.builtin id)) (ha : ShE X e te) (hs : Sl e) (hn : x ≠ "__name__" := by decide) (hdb : (x == ("__debug__" : Str)) = false := by decide) : ShE X (.Call (.Name x p) [e] [] pos) (tCB r (tCons te tNil)) :=
 ⟨pe_callB hc hg hm hv (pa_cons ha.pe pa_nil (hs _ _)) hn hdb (hs _ _) rfl⟩
theorem qpe_callTy {x : Str} {T : String} {r : List V → Hp → VK → Prop} (hc : CallR X (.type T) r) (hg : Gl X x) (hm : X.mg x = none) (hv : bootBuiltins x = some (.type T)) (ha : ShE X e te) (hs : Sl e) (hn : x ≠ "__name__" := by decide) (hdb : (x == ("__debug__" : Str)) = false := by decide) : ShE X (.Call (.Name x p) [e] [] pos) (tCB r (tCons te tNil)) :=
 ⟨pe_callTy hc hg hm hv (pa_cons ha.pe pa_nil (hs _ _)) hn hdb (hs _ _) rfl⟩
theorem qpss_nil : ShB X [] tNext := ⟨pss_nil⟩
theorem qpss_one {st : Stmt} {t : TS} (h1 : ShS X st t) : ShB X [st] t := ⟨pss_one h1.ps⟩
theorem qpss_cons {st : Stmt} {rest : List Stmt} {t u : TS} (h1 : ShS X st t) (h2 : ShB X rest u) : ShB X (st :: rest) (tSeq t u) := ⟨pss_cons h1.ps h2.pss⟩
theorem qps_if {x y : List Stmt} {tc : TT} {t u : TS} (hc : ShT X c tc) (ha : ShB X x t) (hb : ShB X y u) : ShS X (.If c x y pos) (tIfS tc t u) := ⟨ps_if hc.pt ha.pss hb.pss⟩
theorem qps_ret (he : ShE X e te) : ShS X (.Return (some e) pos) (tRet te) := ⟨ps_ret he.pe⟩
theorem qps_set {i : Nat} {x : Str} {pos' : Pos} (hN : X.N.Nodup) (hi : X.N[i]? = some x) (hx : Loc X.env.scope x) (he : ShE X e te) (hs : swapsWith e (some (.Name x pos')) pos.line X.env = pure false := by rfl) (hf : X.fn x = true ∨ X.env.scope.names.lookup x = some .local := by first | exact .inl rfl | exact .inr rfl | assumption) :
  ShS X (.Assign [.Name x pos'] e pos) (tAsg te (gName i)) := ⟨ps_set hN hi hx he.pe hs hf⟩
theorem qps_asg {tg : Expr} {g : TG} (he : ShE X e te) (hg : ShG X tg g) (hs : swapsWithSole [tg] e pos.line X.env = pure false := by rfl) (hw : swappedStores [tg] e X.env = pure none := by rfl)
  (h1 : (assignEach [tg] X.env).map (·.2) = [assign tg X.env] := by rfl) : ShS X (.Assign [tg] e pos) (tAsg te g) := ⟨ps_asg he.pe hg.pg hs hw h1⟩
theorem qpg_sub {o i : Expr} {to ti : TE} {t : TSet} (ho : ShE X o to) (hi : ShE X i ti) (hs : PSet X t)
  (ha : ∀ v, assign (.Subscript o i pos) X.env v = (do
   let ov ← holding [v] (eval o X.env)
   let iv ← holding [v, ov] (eval i X.env)
   standAt pos
   holding [v, ov, iv] (setItem ov iv v)
   release [v, ov, iv] []) := by intro _; rfl) : ShG X (.Subscript o i pos) (gSub to ti t) := ⟨pg_sub ho.pe hi.pe hs ha⟩
end
end L2
set_option Elab.async false
set_option linter.all false
set_option maxRecDepth 100000
set_option maxHeartbeats 1600000
namespace K13
open PySem L2 M4
theorem tupleK {X : Cx} (K : W.Frag) (hK : X.K = K) : CallR X (.type "tuple") (fun xs H Q => ∃ p ys, xs = [V.ref p] ∧ ((SqL K H p ys ∧ ∀ (l : Addr), H l = none → Q (V.ref l) (upd H l (HO.tup ys))) ∨ SqT K H p ys ∧ Q (V.ref p) H)) := by
 subst hK
 exact call_tuple_of
structure BadV (K : W.Frag) (H : Hp) (v : V) : Prop where
 th : ThT K H v
 no : tilesB H v = false
section
variable {K : W.Frag} {H H' : Hp} {v : V}
theorem BadV.mono (b : BadV K H v) (s : Same H H') : BadV K H' v := ⟨b.th.mono s, by rw [tilesB_mono b.th s]; exact b.no⟩
theorem BadV.leaf (k : Kd K H v) (h : rowOf H v = none) : BadV K H v := ⟨⟨k, fun ys e => (by rw [h] at e; cases e), fun ys e => (by rw [h] at e; cases e)⟩, by unfold tilesB; rw [h]⟩
theorem BadV.empty {a : Addr} (e : H a = some (.lst [])) : BadV K H (.ref a) := ⟨⟨.lst e, fun ys h => (by rw [rowOf_lst e] at h; cases h; decide), fun ys h => (by rw [rowOf_lst e] at h; cases h; exact fun x hx => nomatch hx)⟩, by unfold tilesB; rw [rowOf_lst e]; rfl⟩
theorem BadV.tup {a : Addr} {xs : List V} (e : H a = some (.tup xs)) : BadV K H (.ref a) := .leaf (.tup e) (by
 cases h : rowOf H (.ref a) with
 | none => rfl
 | some ys => obtain ⟨b, z, e2⟩ := rowOf_ref h; cases z; rw [e] at e2; cases e2)
end
theorem alias_big {K : W.Frag} {H : Hp} {t l q r : Addr} {m n d c : Nat} (et : H t = some (.lst (List.replicate m (V.ref l)))) (el : H l = some (.lst (List.replicate n (V.ref q)))) (eq : H q = some (.lst (List.replicate d (V.ref r)))) (er : H r = some (.lst (List.replicate c (V.int 1))))
  (c1 : 1 ≤ c) (c24 : c ≤ 24) (d1 : 1 ≤ d) (d24 : d ≤ 24) (n1 : 1 ≤ n) (nk : n ≤ 1000) (m1 : 1 ≤ m) (mk : m ≤ 1000) (big : 24 < c * n ∨ 24 < d * m) :
  ThT K H (.ref t) ∧ tilesB H (.ref t) = true ∧ ¬ (likeT H (List.replicate m (V.ref l)) (first0 H (List.replicate m (V.ref l))) ∧ fitsT H (List.replicate m (V.ref l)) (first0 H (List.replicate m (V.ref l)))) := by
 have hd : ∀ {k : Nat} {v : V}, 1 ≤ k → (List.replicate k v).headD .non = v := fun {k v} h => by
  cases k with
  | zero => omega
  | succ k => rfl
 have rw_ : Rw K H (.ref r) := Rw.lst er (by rw [List.length_replicate]; omega) fun y hy => by rw [(List.mem_replicate.mp hy).2]; exact .int _
 have tq : Th K H (.ref q) := (Th.lst eq (by rw [List.length_replicate]; omega) fun x hx => by rw [(List.mem_replicate.mp hx).2]; exact rw_).1
 have tl : ThL K H (.ref l) := ⟨.lst el, fun ys h => (by rw [rowOf_lst el] at h; cases h; rw [List.length_replicate]; exact nk), fun ys h y hy => (by rw [rowOf_lst el] at h; cases h; rw [(List.mem_replicate.mp hy).2]; exact tq)⟩
 have tt : ThT K H (.ref t) := ⟨.lst et, fun ys h => (by rw [rowOf_lst et] at h; cases h; rw [List.length_replicate]; exact mk), fun ys h y hy => (by rw [rowOf_lst et] at h; cases h; rw [(List.mem_replicate.mp hy).2]; exact tl)⟩
 have pq : picB H (.ref q) = true := (picB_iff (rowOf_lst eq)).mpr ⟨by rw [List.length_replicate]; exact wh_len d1 d24, fun x hx => (by
  rw [(List.mem_replicate.mp hx).2]
  exact (rowQ_iff er).mpr ⟨List.all_eq_true.mpr fun y hy => (by rw [(List.mem_replicate.mp hy).2]; rfl), by rw [List.length_replicate]; exact wh_len c1 c24⟩), fun x hx => by rw [(List.mem_replicate.mp hx).2, hd d1]⟩
 have bl : lineB H (.ref l) = true := by
  unfold lineB; rw [rowOf_lst el]
  exact Bool.and_eq_true_iff.mpr ⟨decide_eq_true (by rw [List.length_replicate]; exact n1), List.all_eq_true.mpr fun y hy => by rw [(List.mem_replicate.mp hy).2]; exact pq⟩
 have bt : tilesB H (.ref t) = true := by
  unfold tilesB; rw [rowOf_lst et]
  exact Bool.and_eq_true_iff.mpr ⟨decide_eq_true (by rw [List.length_replicate]; exact m1), List.all_eq_true.mpr fun y hy => by rw [(List.mem_replicate.mp hy).2]; exact bl⟩
 refine ⟨tt, bt, fun z => ?_⟩
 have f := z.2
 have e1 : first0 H (List.replicate m (V.ref l)) = .ref q := by unfold first0; rw [hd m1, rowOf_lst el]; exact hd n1
 have e2 : szOf H (.ref q) = (c, d) := by unfold szOf; rw [rowOf_lst eq]; dsimp only; rw [hd d1, lenOf_lst er, List.length_replicate, List.length_replicate]
 unfold fitsT at f
 rw [e1, e2, hd m1, lenOf_lst el, List.length_replicate, List.length_replicate] at f
 dsimp only at f
 omega
theorem mem_set_of {α : Type} {xs : List α} {i : Nat} {v z : α} (h : z ∈ xs.set i v) : z ∈ xs ∨ z = v := List.mem_or_eq_of_mem_set h
theorem set_mem {α : Type} {xs : List α} {i : Nat} {v : α} (h : i < xs.length) : v ∈ xs.set i v := List.mem_iff_getElem.mpr ⟨i, by rw [List.length_set]; exact h, List.getElem_set_self (by rw [List.length_set]; exact h)⟩
theorem all_no {xs : List V} {f : V → Bool} {v : V} (h : v ∈ xs) (n : f v = false) : xs.all f = false := by
 rw [Bool.eq_false_iff]
 intro z
 rw [List.all_eq_true.mp z v h] at n; cases n
theorem badL_at {K : W.Frag} {H : Hp} {l : Addr} {ys : List V} {x : Nat} {v : V} (e : H l = some (.lst (ys.set x v))) (hl : ys.length ≤ 1000) (th : ∀ y ∈ ys, Th K H y) (tv : Th K H v) (no : picB H v = false) (hx : x < ys.length) : ThL K H (.ref l) ∧ lineB H (.ref l) = false :=
 ⟨⟨.lst e, fun zs h => (by rw [rowOf_lst e] at h; cases h; rw [List.length_set]; exact hl), fun zs h z hz => (by
  rw [rowOf_lst e] at h; cases h
  rcases mem_set_of hz with hz | rfl
  ·exact th z hz
  ·exact tv)⟩, by unfold lineB; rw [rowOf_lst e]; dsimp only; rw [all_no (set_mem hx) no, Bool.and_false]⟩
theorem bad_at {K : W.Frag} {H : Hp} {S : Addr} {xs : List V} {y : Nat} {v : V} (e : H S = some (.lst (xs.set y v))) (hl : xs.length ≤ 1000) (th : ∀ x ∈ xs, ThL K H x) (tv : ThL K H v) (no : lineB H v = false) (hy : y < xs.length) : BadV K H (.ref S) :=
 ⟨⟨.lst e, fun zs h => (by rw [rowOf_lst e] at h; cases h; rw [List.length_set]; exact hl), fun zs h z hz => (by
  rw [rowOf_lst e] at h; cases h
  rcases mem_set_of hz with hz | rfl
  ·exact th z hz
  ·exact tv)⟩, by unfold tilesB; rw [rowOf_lst e]; dsimp only; rw [all_no (set_mem hy) no, Bool.and_false]⟩
theorem set_same {α : Type} {xs : List α} {i : Nat} {v : α} (h : xs[i]? = some v) : xs.set i v = xs := by
 obtain ⟨hi, rfl⟩ := List.getElem?_eq_some_iff.mp h
 exact List.set_getElem_self hi
theorem set_at {α : Type} {xs : List α} {i j : Nat} {v w : α} (h : (xs.set i v)[j]? = some w) : (j = i ∧ w = v ∧ i < xs.length) ∨ (j ≠ i ∧ xs[j]? = some w) := by
 rw [List.getElem?_set] at h
 by_cases e : i = j
 ·rw [if_pos e] at h
  by_cases l : i < xs.length
  ·rw [if_pos l] at h; cases h; exact .inl ⟨e.symm, rfl, l⟩
  ·rw [if_neg l] at h; cases h
 ·rw [if_neg e] at h; exact .inr ⟨fun z => e z.symm, h⟩
theorem pairwise_set {α : Type} {D : α → α → Prop} {xs : List α} {i : Nat} {v : α} (h : xs.Pairwise D) (a : ∀ (j : Nat) w, j ≠ i → xs[j]? = some w → D w v ∧ D v w) : (xs.set i v).Pairwise D := by
 rw [List.pairwise_iff_getElem]
 intro j k hj hk jk
 rw [List.length_set] at hj hk
 rw [List.getElem_set, List.getElem_set]
 have at_ : ∀ (n : Nat) (hn : n < xs.length), xs[n]? = some xs[n] := fun n hn => List.getElem?_eq_getElem hn
 by_cases e1 : i = j
 ·by_cases e2 : i = k
  ·omega
  ·rw [if_pos e1, if_neg e2]; exact (a k _ (fun z => e2 z.symm) (at_ k hk)).2
 ·by_cases e2 : i = k
  ·rw [if_neg e1, if_pos e2]; exact (a j _ (fun z => e1 z.symm) (at_ j hj)).1
  ·rw [if_neg e1, if_neg e2]; exact List.pairwise_iff_getElem.mp h j k hj hk jk
theorem pw_ne {α : Type} {D : α → α → Prop} {xs : List α} {i j : Nat} {v w : α} (h : xs.Pairwise D) (hi : xs[i]? = some v) (hj : xs[j]? = some w) (n : i ≠ j) : D v w ∨ D w v := by
 obtain ⟨li, rfl⟩ := List.getElem?_eq_some_iff.mp hi
 obtain ⟨lj, rfl⟩ := List.getElem?_eq_some_iff.mp hj
 rcases Nat.lt_or_gt_of_ne n with q | q
 ·exact .inl (List.pairwise_iff_getElem.mp h i j li lj q)
 ·exact .inr (List.pairwise_iff_getElem.mp h j i lj li q)
theorem TilesV.apart {H : Hp} {p : Addr} {ls : List (Addr × List (Addr × List Addr))} {G : List (List (List (List Int)))} (v : TilesV H p ls G) {i j : Nat} {e e' : Addr × List (Addr × List Addr)} (hi : ls[i]? = some e) (hj : ls[j]? = some e') (n : i ≠ j) {z : Addr} (a : AdrL e z) : ¬ AdrL e' z := fun b => by
 rcases pw_ne v.dj hi hj n with q | q
 ·exact q z b a
 ·exact q z a b
theorem LineV.repl {H H' : Hp} {l : Addr} {es : List (Addr × List Addr)} {Rs : List (List (List Int))} {x : Nat} {e' : Addr × List Addr} {R' : List (List Int)} (v : LineV H l es Rs) (top : H' l = some (.lst ((es.set x e').map fun e => V.ref e.1))) (pic : PicV H' e'.1 e'.2 (ir R'))
  (keep : ∀ b o, b ≠ l → H b = some o → H' b = some o) (fr : ∀ z, Adr e' z → ∀ e ∈ es, ¬ Adr e z) (out : ¬ Adr e' l) : LineV H' l (es.set x e') (Rs.set x R') := by
 refine ⟨top, by rw [List.length_set, List.length_set]; exact v.len, fun i e R h1 h2 => ?_, pairwise_set v.dj fun j w _ hw => ?_, fun e he => ?_⟩
 ·rcases set_at h1 with ⟨a1, rfl, _⟩ | ⟨a1, a2⟩
  ·rcases set_at h2 with ⟨b1, rfl, _⟩ | ⟨b1, b2⟩
   ·exact pic
   ·exact absurd a1 b1
  ·rcases set_at h2 with ⟨b1, rfl, _⟩ | ⟨b1, b2⟩
   ·exact absurd b1 a1
   ·exact PicV.keepA (v.at_ i e R a2 b2) fun b o hb eb => keep b o (fun z => v.out e (List.mem_of_getElem? a2) (by rw [← z]; exact hb)) eb
 ·have hm := List.mem_of_getElem? hw
  exact ⟨fun y hy => fr y hy w hm, fun y hy hz => fr y hz w hm hy⟩
 ·rcases List.mem_or_eq_of_mem_set he with h | rfl
  ·exact v.out e h
  ·exact out
theorem TilesV.repl {H H' : Hp} {p : Addr} {ls : List (Addr × List (Addr × List Addr))} {G : List (List (List (List Int)))} {y : Nat} {l' : Addr × List (Addr × List Addr)} {Rs' : List (List (List Int))} (v : TilesV H p ls G) (top : H' p = some (.lst ((ls.set y l').map fun l => V.ref l.1))) (lv : LineV H' l'.1 l'.2 Rs')
  (keep : ∀ (j : Nat) l, j ≠ y → ls[j]? = some l → ∀ b o, AdrL l b → H b = some o → H' b = some o) (fr : ∀ (j : Nat) l, j ≠ y → ls[j]? = some l → ∀ z, AdrL l' z → ¬ AdrL l z) (out : ¬ AdrL l' p) : TilesV H' p (ls.set y l') (G.set y Rs') := by
 refine ⟨top, by rw [List.length_set, List.length_set]; exact v.len, fun i e R h1 h2 => ?_, pairwise_set v.dj fun j w nj hw => ⟨fun z hz => fr j w nj hw z hz, fun z hz hz' => fr j w nj hw z hz' hz⟩, fun e he => ?_⟩
 ·rcases set_at h1 with ⟨a1, rfl, _⟩ | ⟨a1, a2⟩
  ·rcases set_at h2 with ⟨b1, rfl, _⟩ | ⟨b1, b2⟩
   ·exact lv
   ·exact absurd a1 b1
  ·rcases set_at h2 with ⟨b1, rfl, _⟩ | ⟨b1, b2⟩
   ·exact absurd b1 a1
   ·exact (v.at_ i e R a2 b2).keep fun b o hb eb => keep i e a1 a2 b o hb eb
 ·rcases List.mem_or_eq_of_mem_set he with h | rfl
  ·exact v.out e h
  ·exact out
theorem LineV.more {H : Hp} {l p : Addr} {es : List (Addr × List Addr)} {Rs : List (List (List Int))} {e' : Addr × List Addr} {R' : List (List Int)} (v : LineV H l es Rs) (top : H p = some (.lst ((es ++ [e']).map fun e => V.ref e.1))) (pic : PicV H e'.1 e'.2 (ir R'))
  (fr : ∀ z, Adr e' z → ∀ e ∈ es, ¬ Adr e z) (out : ∀ e ∈ es, ¬ Adr e p) (out' : ¬ Adr e' p) : LineV H p (es ++ [e']) (Rs ++ [R']) := by
 refine ⟨top, by rw [List.length_append, List.length_append, v.len]; rfl, fun i e R h1 h2 => ?_, ?_, fun e he => ?_⟩
 ·have := v.len
  rcases snoc_at h1 with ⟨a1, a2⟩ | ⟨a1, rfl⟩
  ·rcases snoc_at h2 with ⟨b1, b2⟩ | ⟨b1, rfl⟩
   ·exact v.at_ i e R a2 b2
   ·omega
  ·rcases snoc_at h2 with ⟨b1, b2⟩ | ⟨b1, rfl⟩
   ·omega
   ·exact pic
 ·rw [List.pairwise_append]
  refine ⟨v.dj, List.pairwise_singleton _ _, fun e he e2 he2 y hy => ?_⟩
  rw [List.mem_singleton.mp he2] at hy
  exact fr y hy e he
 ·rcases List.mem_append.mp he with h | h
  ·exact out e h
  ·rw [List.mem_singleton.mp h]; exact out'
section
variable {K : W.Frag} {H : Hp}
theorem LineV.thx {l : Addr} {es : List (Addr × List Addr)} {Rs : List (List (List Int))} (v : LineV H l es Rs) (g : ∀ R ∈ Rs, ∃ c, Good R c) (hl : Rs.length ≤ 1000) (h1 : 1 ≤ Rs.length) : ThL K H (.ref l) ∧ lineB H (.ref l) = true := by
 have hr := rowOf_lst v.top
 refine ⟨⟨.lst v.top, fun ys h => ?_, fun ys h y hy => ?_⟩, ?_⟩
 ·rw [hr] at h; cases h; rw [List.length_map, v.len]; exact hl
 ·rw [hr] at h; cases h
  obtain ⟨e, R, rfl, hR, p⟩ := v.mem hy
  obtain ⟨c, gc⟩ := g R hR
  exact (th_good p gc).1
 ·unfold lineB
  rw [hr]
  refine Bool.and_eq_true_iff.mpr ⟨decide_eq_true (by rw [List.length_map, v.len]; exact h1), List.all_eq_true.mpr fun y hy => ?_⟩
  obtain ⟨e, R, rfl, hR, p⟩ := v.mem hy
  obtain ⟨c, gc⟩ := g R hR
  exact picB_good p gc
theorem TilesV.look {p : Addr} {ls : List (Addr × List (Addr × List Addr))} {G : List (List (List (List Int)))} (v : TilesV H p ls G) (g : ∀ Rs ∈ G, 1 ≤ Rs.length ∧ Rs.length ≤ 1000 ∧ ∀ R ∈ Rs, ∃ c, Good R c) (h1 : 1 ≤ G.length) (hk : G.length ≤ 1000) :
  ThT K H (.ref p) ∧ tilesB H (.ref p) = true ∧ (likeT H (ls.map fun l => V.ref l.1) (first0 H (ls.map fun l => V.ref l.1)) ∧ fitsT H (ls.map fun l => V.ref l.1) (first0 H (ls.map fun l => V.ref l.1)) →
   ∃ n c d, (∀ Rs ∈ G, Rs.length = n ∧ ∀ R ∈ Rs, ∀ w, Good R w → w = c ∧ R.length = d) ∧ c * n ≤ 24 ∧ d * G.length ≤ 24) := by
 have hr := rowOf_lst v.top
 have lth : ∀ x ∈ ls.map (fun l => V.ref l.1), ThL K H x ∧ lineB H x = true := fun x hx => by
  obtain ⟨l, Rs, rfl, hRs, lv⟩ := v.mem hx
  have := g Rs hRs
  exact lv.thx this.2.2 this.2.1 this.1
 refine ⟨⟨.lst v.top, fun ys h => ?_, fun ys h y hy => ?_⟩, ?_, fun z => ?_⟩
 ·rw [hr] at h; cases h; rw [List.length_map, v.len]; exact hk
 ·rw [hr] at h; cases h; exact (lth y hy).1
 ·unfold tilesB
  rw [hr]
  exact Bool.and_eq_true_iff.mpr ⟨decide_eq_true (by rw [List.length_map, v.len]; exact h1), List.all_eq_true.mpr fun y hy => (lth y hy).2⟩
 ·refine ⟨lenOf H ((ls.map fun l => V.ref l.1).headD .non), (szOf H (first0 H (ls.map fun l => V.ref l.1))).1, (szOf H (first0 H (ls.map fun l => V.ref l.1))).2, fun Rs hRs => ?_, z.2.1, ?_⟩
  ·obtain ⟨i, hi⟩ := List.mem_iff_getElem?.mp hRs
   have hil : i < ls.length := by rw [v.len]; exact (List.getElem?_eq_some_iff.mp hi).1
   have hl : ls[i]? = some ls[i] := List.getElem?_eq_getElem hil
   have lv := v.at_ i _ Rs hl hi
   have hm : V.ref (ls[i]).1 ∈ ls.map fun l => V.ref l.1 := List.mem_map.mpr ⟨_, List.getElem_mem hil, rfl⟩
   have q := z.1 _ hm
   rw [lenOf_lst lv.top, List.length_map, lv.len] at q
   refine ⟨q.1, fun R hR w gw => ?_⟩
   obtain ⟨j, hj⟩ := List.mem_iff_getElem?.mp hR
   have hjl : j < (ls[i]).2.length := by rw [lv.len]; exact (List.getElem?_eq_some_iff.mp hj).1
   have pc := lv.at_ j _ R (List.getElem?_eq_getElem hjl) hj
   have q2 := q.2 _ (rowOf_lst lv.top) (V.ref ((ls[i]).2[j]).1) (List.mem_map.mpr ⟨_, List.getElem_mem hjl, rfl⟩)
   rw [sz_good pc gw] at q2
   exact ⟨congrArg Prod.fst q2, congrArg Prod.snd q2⟩
  ·have := z.2.2
   rw [List.length_map, v.len] at this
   exact this
end
theorem t11 {R : List (List Int)} {wd : Nat} (g : Good R wd) : GT (tilesG R wd 1 1) wd 1 1 := by
 have lG : (tilesG R wd 1 1).length = R.length := by simp [tilesG]
 have := g.ne
 have := g.le
 refine ⟨by omega, g.w1, fun Rs hRs => ?_, by have := g.w24; omega, by omega, Nat.le_refl _, Nat.le_refl _⟩
 unfold tilesG at hRs
 obtain ⟨i, hi, rfl⟩ := List.mem_map.mp hRs
 have hi := List.mem_range.mp hi
 rw [Nat.div_one] at hi
 refine ⟨by simp, fun R' hR' => ?_⟩
 obtain ⟨j, hj, rfl⟩ := List.mem_map.mp hR'
 have hj := List.mem_range.mp hj
 rw [Nat.div_one] at hj
 exact ⟨cut_good g (by omega) (by omega) (Nat.le_refl _) (Nat.le_refl _), by simp [cutF, grid]⟩
theorem TilesV.line {H : Hp} {S : Addr} {ls : List (Addr × List (Addr × List Addr))} {G : List (List (List (List Int)))} {n c d y : Nat} (v : TilesV H S ls G) (g : GT G n c d) (hy : y < G.length) : ∃ l Rs, ls[y]? = some l ∧ G[y]? = some Rs ∧ LineV H l.1 l.2 Rs ∧ l.2.length = n ∧ Rs.length = n ∧ (ls.map fun l => V.ref l.1)[y]? = some (.ref l.1) := by
 have hl : y < ls.length := by rw [v.len]; exact hy
 have h1 : ls[y]? = some ls[y] := List.getElem?_eq_getElem hl
 have h2 : G[y]? = some G[y] := List.getElem?_eq_getElem hy
 have lv := v.at_ y _ _ h1 h2
 have gl := (g.line _ (List.getElem_mem hy)).1
 exact ⟨ls[y], G[y], h1, h2, lv, by rw [lv.len, gl], gl, by rw [List.getElem?_map, h1]; rfl⟩
structure BadL (K : W.Frag) (H : Hp) (v : V) : Prop where
 th : ThL K H v
 no : lineB H v = false
theorem BadL.leaf {K : W.Frag} {H : Hp} {v : V} (k : Kd K H v) (h : rowOf H v = none) : BadL K H v := ⟨⟨k, fun ys e => (by rw [h] at e; cases e), fun ys e => (by rw [h] at e; cases e)⟩, by unfold lineB; rw [h]⟩
theorem BadL.empty {K : W.Frag} {H : Hp} {a : Addr} (e : H a = some (.lst [])) : BadL K H (.ref a) := ⟨⟨.lst e, fun ys h => (by rw [rowOf_lst e] at h; cases h; decide), fun ys h => (by rw [rowOf_lst e] at h; cases h; exact fun x hx => nomatch hx)⟩, by unfold lineB; rw [rowOf_lst e]; rfl⟩
theorem BadL.tup {K : W.Frag} {H : Hp} {a : Addr} {xs : List V} (e : H a = some (.tup xs)) : BadL K H (.ref a) := .leaf (.tup e) (by
 cases h : rowOf H (.ref a) with
 | none => rfl
 | some ys => obtain ⟨b, z, e2⟩ := rowOf_ref h; cases z; rw [e] at e2; cases e2)
theorem bad_line {K : W.Frag} {H : Hp} {S : Addr} {ls : List (Addr × List (Addr × List Addr))} {G : List (List (List (List Int)))} {n c d y : Nat} {v : V} (tv : TilesV H S ls G) (g : GT G n c d) (hy : y < G.length) (b : BadL K (upd H S (.lst ((ls.map fun l => V.ref l.1).set y v))) v) : BadV K (upd H S (.lst ((ls.map fun l => V.ref l.1).set y v))) (.ref S) := by
 obtain ⟨n24, G24, _, _⟩ := g.line_le
 refine bad_at upd_same (by rw [List.length_map, tv.len]; omega) (fun x hx => ?_) b.th b.no (by rw [List.length_map, tv.len]; exact hy)
 obtain ⟨l, hl, rfl⟩ := List.mem_map.mp hx
 obtain ⟨i, hi⟩ := List.mem_iff_getElem?.mp hl
 have hil : i < G.length := by rw [← tv.len]; exact (List.getElem?_eq_some_iff.mp hi).1
 have gl := g.line _ (List.getElem_mem hil)
 have lv := (tv.at_ i l _ hi (List.getElem?_eq_getElem hil)).keep (H' := upd H S (.lst ((ls.map fun l => V.ref l.1).set y v))) fun b o hb eb => by
  rw [upd_ne (fun z => tv.out l hl (by rw [← z]; exact hb))]; exact eb
 exact (lv.th gl.2 (by omega) (by rw [gl.1]; exact g.n1)).1
theorem bad_tile {K : W.Frag} {H : Hp} {S : Addr} {ls : List (Addr × List (Addr × List Addr))} {G : List (List (List (List Int)))} {n c d y x : Nat} {v : V} {l : Addr × List (Addr × List Addr)} (tv : TilesV H S ls G) (g : GT G n c d) (hy : y < G.length) (hl : ls[y]? = some l) (hx : x < n)
  (th : Th K (upd H l.1 (.lst ((l.2.map fun e => V.ref e.1).set x v))) v) (no : picB (upd H l.1 (.lst ((l.2.map fun e => V.ref e.1).set x v))) v = false) : BadV K (upd H l.1 (.lst ((l.2.map fun e => V.ref e.1).set x v))) (.ref S) := by
 obtain ⟨n24, G24, _, _⟩ := g.line_le
 have hm := List.mem_of_getElem? hl
 have hS : S ≠ l.1 := fun z => tv.out l hm (.inl z)
 have lv := tv.at_ y l _ hl (List.getElem?_eq_getElem hy)
 have gl := g.line _ (List.getElem_mem hy)
 have e2 : l.2.length = n := by rw [lv.len, gl.1]
 have hly : (ls.map fun l => V.ref l.1)[y]? = some (.ref l.1) := by rw [List.getElem?_map, hl]; rfl
 have bl : ThL K (upd H l.1 (.lst ((l.2.map fun e => V.ref e.1).set x v))) (.ref l.1) ∧ lineB (upd H l.1 (.lst ((l.2.map fun e => V.ref e.1).set x v))) (.ref l.1) = false := by
  refine badL_at upd_same (by rw [List.length_map]; omega) (fun z hz => ?_) th no (by rw [List.length_map]; omega)
  obtain ⟨e, he, rfl⟩ := List.mem_map.mp hz
  obtain ⟨i, hi⟩ := List.mem_iff_getElem?.mp he
  have hil : i < (G[y]).length := by rw [← lv.len]; exact (List.getElem?_eq_some_iff.mp hi).1
  have pc := PicV.keepA (lv.at_ i e _ hi (List.getElem?_eq_getElem hil)) (H' := upd H l.1 (.lst ((l.2.map fun e => V.ref e.1).set x v))) fun b o hb eb => by
   rw [upd_ne (fun z => lv.out e he (by rw [← z]; exact hb))]; exact eb
  exact (th_good pc (gl.2 _ (List.getElem_mem hil)).1).1
 refine bad_at (y := y) (v := .ref l.1) (xs := ls.map fun l => V.ref l.1) (by rw [upd_ne hS, set_same hly]; exact tv.top) (by rw [List.length_map, tv.len]; omega) (fun z hz => ?_) bl.1 bl.2 (by rw [List.length_map, tv.len]; exact hy)
 obtain ⟨l', hl', rfl⟩ := List.mem_map.mp hz
 obtain ⟨i, hi⟩ := List.mem_iff_getElem?.mp hl'
 by_cases e : i = y
 ·subst e
  rw [hl] at hi; cases hi
  exact bl.1
 have hil : i < G.length := by rw [← tv.len]; exact (List.getElem?_eq_some_iff.mp hi).1
 have gl' := g.line _ (List.getElem_mem hil)
 have lv' := (tv.at_ i l' _ hi (List.getElem?_eq_getElem hil)).keep (H' := upd H l.1 (.lst ((l.2.map fun e => V.ref e.1).set x v))) fun b o hb eb => by
  rw [upd_ne (fun z => tv.apart hi hl e hb (by rw [z]; exact .inl rfl))]; exact eb
 exact (lv'.th gl'.2 (by omega) (by rw [gl'.1]; exact g.n1)).1
theorem odd_pic {K : W.Frag} {H : Hp} {a1 a2 a3 a4 a5 : Addr} {v : V} (e1 : H a1 = some (.lst [])) (e2 : H a2 = some (.lst [.int 16])) (e3 : H a3 = some (.lst [.ref a2])) (e4 : H a4 = some (.lst [])) (e5 : H a5 = some (.lst [.ref a4])) (h : v ∈ [V.non, .ref a1, .ref a3, .ref a5, .int 5, .str "0"]) : Th K H v ∧ picB H v = false := by
 have bad : ∀ {v}, (picB H v = true → False) → picB H v = false := fun {v} hf => by
  cases hb : picB H v with
  | false => rfl
  | true => exact (hf hb).elim
 simp only [List.mem_cons, List.not_mem_nil, or_false] at h
 rcases h with rfl | rfl | rfl | rfl | rfl | rfl
 ·exact ⟨⟨.non, fun xs z => (by cases z), fun xs z => (by cases z)⟩, rfl⟩
 ·refine ⟨(Th.lst e1 (Nat.zero_le _) fun x hx => nomatch hx).1, ?_⟩
  unfold picB; rw [rowOf_lst e1]; rfl
 ·refine ⟨(Th.lst e3 (by show 1 ≤ 1000; decide) fun x hx => ?_).1, bad fun hb => ?_⟩
  ·rw [List.mem_singleton.mp hx]; exact Rw.lst e2 (by decide) (kd_ints (ns := [16]))
  ·have q := ((picB_iff (rowOf_lst e3)).mp hb).2.1 (.ref a2) (by simp)
   exact absurd ((rowQ_iff e2).mp q).1 (by decide)
 ·refine ⟨(Th.lst e5 (by show 1 ≤ 1000; decide) fun x hx => ?_).1, bad fun hb => ?_⟩
  ·rw [List.mem_singleton.mp hx]; exact Rw.lst e4 (by decide) (kd_ints (ns := []))
  ·have q := ((picB_iff (rowOf_lst e5)).mp hb).2.1 (.ref a4) (by simp)
   exact absurd ((rowQ_iff e4).mp q).2 (by decide)
 ·exact ⟨⟨.int _, fun xs z => (by cases z), fun xs z => (by cases z)⟩, rfl⟩
 ·exact ⟨⟨.str _, fun xs z => (by cases z), fun xs z => (by cases z)⟩, rfl⟩
theorem odd_size {R : List (List Int)} {wd y x : Nat} {R' : List (List Int)} {c' : Nat} {Rs : List (List (List Int))} (g : Good R wd) (hy : y < R.length) (hx : x < wd) (hRs : (tilesG R wd 1 1)[y]? = some Rs) (g' : Good R' c') (ne : ¬ (c' = 1 ∧ R'.length = 1)) (many : ¬ (R.length = 1 ∧ wd = 1)) :
  (∀ Rs' ∈ (tilesG R wd 1 1).set y (Rs.set x R'), 1 ≤ Rs'.length ∧ Rs'.length ≤ 1000 ∧ ∀ R ∈ Rs', ∃ c, Good R c) ∧ ¬ ∃ n c d, (∀ Rs' ∈ (tilesG R wd 1 1).set y (Rs.set x R'), Rs'.length = n ∧ ∀ R ∈ Rs', ∀ w, Good R w → w = c ∧ R.length = d) ∧ c * n ≤ 24 ∧ d * ((tilesG R wd 1 1).set y (Rs.set x R')).length ≤ 24 := by
 have gt := t11 g
 have lG : (tilesG R wd 1 1).length = R.length := by simp [tilesG]
 obtain ⟨hyl, rfl⟩ := List.getElem?_eq_some_iff.mp hRs
 have gy := gt.line _ (List.getElem_mem hyl)
 have w24 := g.w24
 have w1 := g.w1
 have h1 := g.ne
 refine ⟨fun Rs' h => ?_, ?_⟩
 ·rcases List.mem_or_eq_of_mem_set h with h | rfl
  ·have := gt.line Rs' h
   exact ⟨by omega, by omega, fun R hR => ⟨1, (this.2 R hR).1⟩⟩
  ·rw [List.length_set]
   refine ⟨by omega, by omega, fun R'' hR => ?_⟩
   rcases List.mem_or_eq_of_mem_set hR with h | rfl
   ·exact ⟨1, (gy.2 _ h).1⟩
   ·exact ⟨c', g'⟩
 rintro ⟨n, c, d, al, _, _⟩
 have hin : (tilesG R wd 1 1)[y].set x R' ∈ (tilesG R wd 1 1).set y ((tilesG R wd 1 1)[y].set x R') := set_mem hyl
 have q1 := (al _ hin).2 R' (set_mem (by omega)) c' g'
 obtain ⟨Rs2, R2, m1, m2, g2, l2⟩ : ∃ Rs2 R2, Rs2 ∈ (tilesG R wd 1 1).set y ((tilesG R wd 1 1)[y].set x R') ∧ R2 ∈ Rs2 ∧ Good R2 1 ∧ R2.length = 1 := by
  by_cases hw : wd = 1
  ·have hR : 2 ≤ R.length := by omega
   obtain ⟨y2, hy2, ny⟩ : ∃ y2, y2 < R.length ∧ y2 ≠ y := by
    by_cases y0 : y = 0
    ·exact ⟨1, by omega, by omega⟩
    ·exact ⟨0, by omega, by omega⟩
   have hy2' : y2 < (tilesG R wd 1 1).length := by omega
   have g2 := gt.line _ (List.getElem_mem hy2')
   have h0 : 0 < ((tilesG R wd 1 1)[y2]).length := by omega
   have gg := g2.2 _ (List.getElem_mem h0)
   refine ⟨_, _, List.mem_iff_getElem?.mpr ⟨y2, ?_⟩, List.getElem_mem h0, gg.1, gg.2⟩
   rw [List.getElem?_set_ne (fun z => ny z.symm), List.getElem?_eq_getElem hy2']
  ·obtain ⟨x2, hx2, nx⟩ : ∃ x2, x2 < wd ∧ x2 ≠ x := by
    by_cases x0 : x = 0
    ·exact ⟨1, by omega, by omega⟩
    ·exact ⟨0, by omega, by omega⟩
   have h2 : x2 < ((tilesG R wd 1 1)[y]).length := by omega
   have gg := gy.2 _ (List.getElem_mem h2)
   refine ⟨_, _, hin, List.mem_iff_getElem?.mpr ⟨x2, ?_⟩, gg.1, gg.2⟩
   rw [List.getElem?_set_ne (fun z => nx z.symm), List.getElem?_eq_getElem h2]
 have q2 := (al _ m1).2 R2 m2 1 g2
 exact ne ⟨by omega, by omega⟩
theorem odd_line {R : List (List Int)} {wd y : Nat} {R' : List (List Int)} {Rs : List (List (List Int))} (g : Good R wd) (hy : y < R.length) (hRs : (tilesG R wd 1 1)[y]? = some Rs) (g' : Good R' 1) (l' : R'.length = 1) :
  (∀ Rs' ∈ (tilesG R wd 1 1).set y (Rs ++ [R']), 1 ≤ Rs'.length ∧ Rs'.length ≤ 1000 ∧ ∀ R ∈ Rs', ∃ c, Good R c) ∧
  ((1 < R.length ∨ 24 < wd + 1) → ¬ ∃ n c d, (∀ Rs' ∈ (tilesG R wd 1 1).set y (Rs ++ [R']), Rs'.length = n ∧ ∀ R ∈ Rs', ∀ w, Good R w → w = c ∧ R.length = d) ∧ c * n ≤ 24 ∧ d * ((tilesG R wd 1 1).set y (Rs ++ [R'])).length ≤ 24) ∧
  (¬ (1 < R.length ∨ 24 < wd + 1) → GT ((tilesG R wd 1 1).set y (Rs ++ [R'])) (wd + 1) 1 1) := by
 have gt := t11 g
 have lG : (tilesG R wd 1 1).length = R.length := by simp [tilesG]
 obtain ⟨hyl, rfl⟩ := List.getElem?_eq_some_iff.mp hRs
 have gy := gt.line _ (List.getElem_mem hyl)
 have w24 := g.w24
 have w1 := g.w1
 have h1 := g.ne
 have snoc : ∀ R2 ∈ (tilesG R wd 1 1)[y] ++ [R'], Good R2 1 ∧ R2.length = 1 := fun R2 h => by
  rcases List.mem_append.mp h with h | h
  ·exact gy.2 R2 h
  ·rw [List.mem_singleton.mp h]; exact ⟨g', l'⟩
 have sl : ((tilesG R wd 1 1)[y] ++ [R']).length = wd + 1 := by rw [List.length_append, gy.1]; rfl
 refine ⟨fun Rs' h => ?_, ?_, fun no => ?_⟩
 ·rcases List.mem_or_eq_of_mem_set h with h | rfl
  ·have := gt.line Rs' h
   exact ⟨by omega, by omega, fun R hR => ⟨1, (this.2 R hR).1⟩⟩
  ·exact ⟨by omega, by omega, fun R'' hR => ⟨1, (snoc R'' hR).1⟩⟩
 ·rintro big ⟨n, c, d, al, q, _⟩
  have hin : (tilesG R wd 1 1)[y] ++ [R'] ∈ (tilesG R wd 1 1).set y ((tilesG R wd 1 1)[y] ++ [R']) := set_mem hyl
  have q1 := (al _ hin).1
  have q2 := (al _ hin).2 R' (List.mem_append_right _ (List.mem_singleton.mpr rfl)) 1 g'
  rw [sl] at q1
  rcases big with big | big
  ·obtain ⟨y2, hy2, ny⟩ : ∃ y2, y2 < R.length ∧ y2 ≠ y := by
    by_cases y0 : y = 0
    ·exact ⟨1, by omega, by omega⟩
    ·exact ⟨0, by omega, by omega⟩
   have hy2' : y2 < (tilesG R wd 1 1).length := by omega
   have g2 := gt.line _ (List.getElem_mem hy2')
   have := (al (tilesG R wd 1 1)[y2] (List.mem_iff_getElem?.mpr ⟨y2, by rw [List.getElem?_set_ne (fun z => ny z.symm), List.getElem?_eq_getElem hy2']⟩)).1
   omega
  ·rw [← q2.1, ← q1] at q; omega
 ·refine ⟨by rw [List.length_set]; omega, by omega, fun Rs' h => ?_, by omega, by rw [List.length_set]; omega, Nat.le_refl _, Nat.le_refl _⟩
  have hR1 : R.length = 1 := by omega
  obtain ⟨i, hi⟩ := List.mem_iff_getElem?.mp h
  rcases set_at hi with ⟨a1, rfl, _⟩ | ⟨a1, a2⟩
  ·exact ⟨sl, snoc⟩
  ·have := (List.getElem?_eq_some_iff.mp a2).1
   omega
theorem repC {v : V} {H : Hp} {Q : VK} {k : Int} (h0 : -(2 ^ 63) ≤ k) (h1 : k < 2 ^ 63) (hk : 1 * k.toNat ≤ sizeLine) (h : ∀ p H', Same H H' → H' p = some (.lst (List.replicate k.toNat v)) → Q (.ref p) H') : [v].length ≤ sizeLine ∧ ∀ p, H p = none → rRep (.ref p) (.int k) (upd H p (.lst [v])) Q :=
 ⟨sz1, fun p0 hp0 => ⟨p0, k, _, rfl, rfl, upd_same, h0, h1, hk, fun p hp => h p _ ((same_new hp0).trans (same_new hp)) (by rw [upd_same, rep_flat])⟩⟩
noncomputable def BadT (K : W.Frag) (H : Hp) (v nm : V) : Prop :=
 (∃ n, nm = .ref n ∧ H n = some (.lst [.bl true, .bl false]) ∧ ThT K H v ∧ tilesB H v = false) ∨
 (∃ n p xs, nm = .ref n ∧ H n = some (.lst [.bl false, .bl true]) ∧ v = .ref p ∧ H p = some (.lst xs) ∧ ThT K H v ∧ tilesB H v = true ∧ ¬ (likeT H xs (first0 H xs) ∧ fitsT H xs (first0 H xs))) ∨
 (∃ p ls G n c d, nm = .non ∧ v = .ref p ∧ TilesV H p ls G ∧ GT G n c d)
noncomputable def spBadT (K : W.Frag) : Sp := fun vs H Q _ => ∃ (p : Addr) (ps : List Addr) (R : List (List Int)) (wd : Nat) (cl : Int), vs = [.ref p, .int cl] ∧ PicV H p ps (ir R) ∧ Good R wd ∧
 ∀ t v nm H', Same H H' → H t = none → H' t = some (.tup [v, nm]) → BadT K H' v nm → Q (.ref t) H'
section
variable {P : Program} {w : World} {K : W.Frag} {mg : Str → Option Value} {base : Heap} {cFE cBP cBS : Addr} {tS tC : Tok}
noncomputable abbrev nmbadtiles : List Str := ["_law_picture_here", "_law_cell", "_law_tiles_here", "_law_y", "_law_x", "_law_alone", "_law_some"]
theorem sc_law_bad_tiles : FnScope ["_law_picture_here", "_law_cell", "_law_tiles_here", "_law_y", "_law_x", "_law_alone", "_law_some"] ["_law_picture_here", "_law_cell"] (defScope s_law_bad_tiles) := ⟨rfl, rfl, rfl, by decide +kernel, rfl, by decide +kernel, by decide +kernel⟩
theorem ok_law_bad_tiles {f : Addr} {fd : FuncData} (F : FunD K "_law_bad_tiles" "_law_bad_tiles" s_law_bad_tiles .none f fd) (T : Txt K mg cFE cBP cBS tS tC) (g__law_tiles : Def P w K mg base 1 "_law_tiles" ["_law_picture_here", "_law_wide", "_law_high"] [] (spTilesL K)) : FnOk P w K mg base CX0 2 f fd ["_law_picture_here", "_law_cell"] (spBadT K) := by
 refine F.ok sc_law_bad_tiles (fun vs H Q E h => ?_) (fun cdv A outer s H vs Q E hr h => ?_)
 ·obtain ⟨p, ps, R, wd, cl, rfl, _⟩ := h; rfl
 ·obtain ⟨p, ps, R, wd, cl, rfl, pic, gd, k⟩ := h
  have h24 := gd.le
  have w24 := gd.w24
  have w1 := gd.w1
  have hn1 := gd.ne
  obtain ⟨t9, r9, k9⟩ : ∃ tr, ShB ((cxOf CX0 P w K mg base nmbadtiles "_law_bad_tiles" (defScope s_law_bad_tiles) f cdv A outer s H E).nox) ((defBody s_law_bad_tiles).drop 9) tr ∧
    ∀ (S : Addr) (y x : Nat) (v5 v6 : Option V) (H1 : Hp), Same H H1 → BadV K H1 (.ref S) →  tr { nx := fun _ H' => Q .non H', rt := Q } [some (.ref p), some (.int cl), some (.ref S), some (.int (y : Int)), some (.int (x : Int)), v5, v6] H1 := by
   refine ⟨_, (qpss_one (qps_ret (qpe_tup (qpa_cons (qpv 2) slN (qpa_cons (qpe_lst (qpa_cons qpe_bl slC (qpa_cons qpe_bl slC qpa_nil))) slLst qpa_nil))))), ?_⟩
   intro S y x v5 v6 H1 s1 bv
   refine ⟨_, rfl, sz2, fun n hn => ⟨sz2, fun t ht => ?_⟩⟩
   have z1 := same_new (o := HO.lst [.bl true, .bl false]) hn
   have z2 := same_new (o := HO.tup [V.ref S, V.ref n]) ht
   have b := bv.mono (z1.trans z2)
   exact k t _ _ _ ((s1.trans z1).trans z2) (s1.free (z1.free ht)) upd_same (.inl ⟨n, rfl, z2 _ _ upd_same, b.th, b.no⟩)
  obtain ⟨t8, r8, k8⟩ : ∃ tr, ShB ((cxOf CX0 P w K mg base nmbadtiles "_law_bad_tiles" (defScope s_law_bad_tiles) f cdv A outer s H E).nox) ((defBody s_law_bad_tiles).drop 8) tr ∧
    ∀ (S : Addr) (y x : Nat) (v5 v6 : Option V) (H1 : Hp), Same H H1 → BadV K H1 (.ref S) ∨ 4 < cl % 8 → (∃ xs, H1 S = some (.lst xs)) →  tr { nx := fun _ H' => Q .non H', rt := Q } [some (.ref p), some (.int cl), some (.ref S), some (.int (y : Int)), some (.int (x : Int)), v5, v6] H1 := by
   refine ⟨_, (qpss_cons (qps_if (qpt_cmpR op_gt (qpe_op op_mod (qpv 1) qpe_int) qpe_int (nomark _)) (qpss_one (qps_ret (qpe_tup (qpa_cons (qpe_ix (ixK K rfl) (qpe_lst (qpa_cons (qpe_lst qpa_nil) slLst (qpa_cons qpe_non slC (qpa_cons (qpe_tup qpa_nil) slTup (qpa_cons qpe_int slC (qpa_cons qpe_str slC (qpa_cons (qpe_callTy (tupleK K rfl) rfl T.tuple PyProof.Rows.boot_tuple (qpv 2) slN) slCall qpa_nil))))))) (qpe_op op_mod (qpe_op op_fdiv (qpv 1) qpe_int) qpe_int) (fun _ _ => rfl)) slSub (qpa_cons (qpe_lst (qpa_cons qpe_bl slC (qpa_cons qpe_bl slC qpa_nil))) slLst qpa_nil))))) qpss_nil)
    (@r9)), ?_⟩
   intro S y x v5 v6 H1 s1 tb lst
   refine ⟨_, rfl, _, _, rfl, rfl, (by show (0 : Int) < 8; decide), _, _, rfl, rfl, _, rfl, iteB (fun h => ?_) (fun h => ?_)⟩
   rotate_left
   ·refine k9 S y x v5 v6 H1 s1 (tb.resolve_right fun z => ?_)
    have := of_decide_eq_false h
    omega
   obtain ⟨xs, eS⟩ := lst
   refine ⟨Nat.zero_le _, fun p0 h0 => ⟨Nat.zero_le _, fun p1 h1 => ⟨_, rfl, S, _, rfl, .inl ⟨SqL.of (same_new h1 _ _ (same_new h0 _ _ eS)), fun p2 h2 => ⟨sz6, fun p3 h3 => ?_⟩⟩⟩⟩⟩
   have z0 := same_new (o := HO.lst []) h0
   have z1 := same_new (o := HO.tup []) h1
   have z2 := same_new (o := HO.tup xs) h2
   have z3 := same_new (o := HO.lst [V.ref p0, .non, .ref p1, .int 5, .str "0", .ref p2]) h3
   have e0 := z3 _ _ (z2 _ _ (z1 _ _ (upd_same (H := H1) (a := p0) (o := HO.lst []))))
   have e1 := z3 _ _ (z2 _ _ (upd_same (H := upd H1 p0 (HO.lst [])) (a := p1) (o := HO.tup [])))
   have e2 := z3 _ _ (upd_same (H := upd (upd H1 p0 (HO.lst [])) p1 (HO.tup [])) (a := p2) (o := HO.tup xs))
   have e3 := upd_same (H := upd (upd (upd H1 p0 (HO.lst [])) p1 (HO.tup [])) p2 (HO.tup xs)) (a := p3) (o := HO.lst [V.ref p0, .non, .ref p1, .int 5, .str "0", .ref p2])
   have s2 := s1.trans (z0.trans (z1.trans (z2.trans z3)))
   generalize upd (upd (upd (upd H1 p0 (HO.lst [])) p1 (HO.tup [])) p2 (HO.tup xs)) p3 (HO.lst [V.ref p0, .non, .ref p1, .int 5, .str "0", .ref p2]) = H2 at e0 e1 e2 e3 s2 ⊢
   obtain ⟨v, hv, hvm⟩ : ∃ v, atI [V.ref p0, .non, .ref p1, .int 5, .str "0", .ref p2] (cl / 8 % 6) = some v ∧ v ∈ [V.ref p0, .non, .ref p1, .int 5, .str "0", .ref p2] := atI_mem (Int.emod_nonneg _ (by decide)) (Int.emod_lt_of_pos _ (by decide))
   refine ⟨_, rfl, _, _, rfl, rfl, ⟨by decide, by decide⟩, _, _, rfl, rfl, (by show (0 : Int) < 6; decide), p3, _, _, v, rfl, rfl, SqL.of e3, hv, sz2, fun n hn => ⟨sz2, fun t ht => ?_⟩⟩
   have y1 := same_new (o := HO.lst [.bl true, .bl false]) hn
   have y2 := same_new (o := HO.tup [v, V.ref n]) ht
   have bb : BadV K H2 v := by
    simp only [List.mem_cons, List.not_mem_nil, or_false] at hvm
    rcases hvm with rfl | rfl | rfl | rfl | rfl | rfl
    ·exact .empty e0
    ·exact .leaf .non rfl
    ·exact .tup e1
    ·exact .leaf (.int _) rfl
    ·exact .leaf (.str _) rfl
    ·exact .tup e2
   have b := bb.mono (y1.trans y2)
   exact k t _ _ _ ((s2.trans y1).trans y2) (s2.free (y1.free ht)) upd_same (.inl ⟨n, rfl, y2 _ _ upd_same, b.th, b.no⟩)
  obtain ⟨t7, r7, k7⟩ : ∃ tr, ShB ((cxOf CX0 P w K mg base nmbadtiles "_law_bad_tiles" (defScope s_law_bad_tiles) f cdv A outer s H E).nox) ((defBody s_law_bad_tiles).drop 7) tr ∧
    ∀ (S : Addr) (y x : Nat) (v5 v6 : Option V) (H1 : Hp), Same H H1 → BadV K H1 (.ref S) ∨ 4 ≤ cl % 8 → (∃ xs, H1 S = some (.lst xs)) →  tr { nx := fun _ H' => Q .non H', rt := Q } [some (.ref p), some (.int cl), some (.ref S), some (.int (y : Int)), some (.int (x : Int)), v5, v6] H1 := by
   refine ⟨_, (qpss_cons (qps_if (qpt_cmpR op_eq (qpe_op op_mod (qpv 1) qpe_int) qpe_int (nomark _)) (qpss_cons (qps_set (i := 6) sc_law_bad_tiles.nd rfl (by first | exact Or.inl rfl | exact Or.inr rfl) (qpe_op op_rep (qpe_lst (qpa_cons (qpe_op op_rep (qpe_lst (qpa_cons (qpe_op op_rep (qpe_lst (qpa_cons (qpe_op op_rep (qpe_lst (qpa_cons qpe_int slC qpa_nil)) qpe_int) slBin qpa_nil)) qpe_int) slBin qpa_nil)) qpe_int) slBin qpa_nil)) qpe_int))
    (qpss_one (qps_ret (qpe_tup (qpa_cons (qpe_ix (ixK K rfl) (qpe_lst (qpa_cons (qpv 6) slN (qpa_cons (qpe_op op_rep (qpe_lst (qpa_cons (qpe_op op_rep (qpe_lst (qpa_cons (qpe_op op_rep (qpe_lst (qpa_cons (qpe_op op_rep (qpe_lst (qpa_cons qpe_int slC qpa_nil)) qpe_int) slBin qpa_nil)) qpe_int) slBin qpa_nil)) qpe_int) slBin qpa_nil)) qpe_int) slBin (qpa_cons (qpe_op op_rep (qpe_lst (qpa_cons (qpe_lst (qpa_cons (qpe_lst (qpa_cons (qpe_lst (qpa_cons qpe_int slC qpa_nil)) slLst qpa_nil)) slLst qpa_nil)) slLst qpa_nil)) qpe_int) slBin qpa_nil)))) (qpe_op op_mod (qpe_op op_fdiv (qpv 1) qpe_int) qpe_int) (fun _ _ => rfl)) slSub (qpa_cons (qpe_lst (qpa_cons qpe_bl slC (qpa_cons qpe_bl slC qpa_nil))) slLst qpa_nil)))))) qpss_nil)
    (@r8)), ?_⟩
   intro S y x v5 v6 H1 s1 tb lst
   refine ⟨_, rfl, _, _, rfl, rfl, (by show (0 : Int) < 8; decide), rfl, _, rfl, iteB (fun h => ?_) (fun h => ?_)⟩
   rotate_left
   ·refine k8 S y x v5 v6 H1 s1 (tb.imp_right fun z => ?_) lst
    have hh := of_decide_eq_false h
    have : cl % 8 ≠ 4 := fun e => hh (congrArg V.int e)
    omega
   dsimp only [tSeq, tAsg, tOp, tLst, tCons, tNil, L2.tC, tRet, tTup, gName]
   refine repC (k := 5) (by decide) (by decide) (by show 1 * 5 ≤ sizeLine; decide) fun a2 G2 z2 e2 => ?_
   refine repC (k := 5) (by decide) (by decide) (by show 1 * 5 ≤ sizeLine; decide) fun a4 G4 z4 e4 => ?_
   refine repC (k := 5) (by decide) (by decide) (by show 1 * 5 ≤ sizeLine; decide) fun a6 G6 z6 e6 => ?_
   refine repC (k := 2) (by decide) (by decide) (by show 1 * 2 ≤ sizeLine; decide) fun a8 G8 z8 e8 => ?_
   refine ⟨_, rfl, ?_⟩
   have fa : ∀ {G}, Same G8 G → _ := fun {G} z => alias_big (K := K) (z _ _ e8) (z _ _ (z8 _ _ e6)) (z _ _ (z8 _ _ (z6 _ _ e4))) (z _ _ (z8 _ _ (z6 _ _ (z4 _ _ e2)))) (by decide) (by decide) (by decide) (by decide) (by decide) (by decide) (by decide) (by decide) (by decide)
   have sa := s1.trans (z2.trans (z4.trans (z6.trans z8)))
   clear z2 z4 z6 e2 e4 e6
   refine repC (k := 5) (by decide) (by decide) (by show 1 * 5 ≤ sizeLine; decide) fun b2 B2 y2 f2 => ?_
   refine repC (k := 5) (by decide) (by decide) (by show 1 * 5 ≤ sizeLine; decide) fun b4 B4 y4 f4 => ?_
   refine repC (k := 2) (by decide) (by decide) (by show 1 * 2 ≤ sizeLine; decide) fun b6 B6 y6 f6 => ?_
   refine repC (k := 5) (by decide) (by decide) (by show 1 * 5 ≤ sizeLine; decide) fun b8 B8 y8 f8 => ?_
   have fb : ∀ {G}, Same B8 G → _ := fun {G} z => alias_big (K := K) (z _ _ f8) (z _ _ (y8 _ _ f6)) (z _ _ (y8 _ _ (y6 _ _ f4))) (z _ _ (y8 _ _ (y6 _ _ (y4 _ _ f2)))) (by decide) (by decide) (by decide) (by decide) (by decide) (by decide) (by decide) (by decide) (by decide)
   have sb := y2.trans (y4.trans (y6.trans y8))
   clear y2 y4 y6 f2 f4 f6
   refine ⟨sz1, fun c1 hc1 => ⟨sz1, fun c2 hc2 => ⟨sz1, fun c3 hc3 => ?_⟩⟩⟩
   have x1 := same_new (o := HO.lst [V.int 1]) hc1
   have x2 := same_new (o := HO.lst [V.ref c1]) hc2
   have x3 := same_new (o := HO.lst [V.ref c2]) hc3
   have g1 := x2 _ _ (upd_same (H := B8) (a := c1) (o := HO.lst [V.int 1]))
   have g2 := x3 _ _ (upd_same (H := upd B8 c1 (HO.lst [V.int 1])) (a := c2) (o := HO.lst [V.ref c1]))
   have g3 := upd_same (H := upd (upd B8 c1 (HO.lst [V.int 1])) c2 (HO.lst [V.ref c1])) (a := c3) (o := HO.lst [V.ref c2])
   refine repC (k := 25) (by decide) (by decide) (by show 1 * 25 ≤ sizeLine; decide) fun c5 C5 x5 g5 => ?_
   have fc : ∀ {G}, Same C5 G → _ := fun {G} z => alias_big (K := K) (n := 1) (d := 1) (c := 1) (z _ _ g5) (z _ _ (x5 _ _ g3)) (z _ _ (x5 _ _ g2)) (z _ _ (x5 _ _ (x3 _ _ g1))) (by decide) (by decide) (by decide) (by decide) (by decide) (by decide) (by decide) (by decide) (by decide)
   have sc := x1.trans (x2.trans (x3.trans x5))
   clear x1 x2 x3 x5 g1 g2 g3
   refine ⟨sz3, fun w h_ => ?_⟩
   have zw := same_new (o := HO.lst [V.ref a8, .ref b8, .ref c5]) h_
   have ew : upd C5 w (HO.lst [V.ref a8, .ref b8, .ref c5]) w = some (HO.lst [V.ref a8, .ref b8, .ref c5]) := upd_same
   generalize upd C5 w (HO.lst [V.ref a8, .ref b8, .ref c5]) = W at zw ew ⊢
   obtain ⟨v, hv, hvm⟩ : ∃ v, atI [V.ref a8, .ref b8, .ref c5] (cl / 8 % 3) = some v ∧ v ∈ [V.ref a8, .ref b8, .ref c5] := atI_mem (Int.emod_nonneg _ (by decide)) (Int.emod_lt_of_pos _ (by decide))
   refine ⟨_, rfl, _, _, rfl, rfl, ⟨by decide, by decide⟩, _, _, rfl, rfl, (by show (0 : Int) < 3; decide), w, _, _, v, rfl, rfl, SqL.of ew, hv, sz2, fun n hn => ⟨sz2, fun t ht => ?_⟩⟩
   have y1 := same_new (o := HO.lst [.bl false, .bl true]) hn
   have y2 := same_new (o := HO.tup [v, V.ref n]) ht
   have y := zw.trans (y1.trans y2)
   have en := y2 _ _ (upd_same (H := W) (a := n) (o := HO.lst [.bl false, .bl true]))
   have sW := sa.trans (sb.trans sc)
   refine k t _ _ _ (sW.trans y) (sW.free (zw.free (y1.free ht))) upd_same (.inr (.inl ?_))
   simp only [List.mem_cons, List.not_mem_nil, or_false] at hvm
   rcases hvm with rfl | rfl | rfl
   ·exact ⟨n, a8, _, rfl, en, rfl, y _ _ (sc _ _ (sb _ _ e8)), fa (sb.trans (sc.trans y))⟩
   ·exact ⟨n, b8, _, rfl, en, rfl, y _ _ (sc _ _ f8), fb (sc.trans y)⟩
   ·exact ⟨n, c5, _, rfl, en, rfl, y _ _ g5, fc y⟩
  obtain ⟨t6, r6, k6⟩ : ∃ tr, ShB ((cxOf CX0 P w K mg base nmbadtiles "_law_bad_tiles" (defScope s_law_bad_tiles) f cdv A outer s H E).nox) ((defBody s_law_bad_tiles).drop 6) tr ∧
    ∀ (S : Addr) (y x : Nat) (H1 : Hp), Same H H1 → H S = none → y < R.length → (BadV K H1 (.ref S) ∧ (∃ xs, H1 S = some (.lst xs)) ∧ cl % 8 = 2) ∨ (3 ≤ cl % 8 ∧ ∃ ls, TilesV H1 S ls (tilesG R wd 1 1)) →  tr { nx := fun _ H' => Q .non H', rt := Q } [some (.ref p), some (.int cl), some (.ref S), some (.int (y : Int)), some (.int (x : Int)), none, none] H1 := by
   refine ⟨_, (qpss_cons (qps_if (qpt_cmpR op_eq (qpe_op op_mod (qpv 1) qpe_int) qpe_int (nomark _)) (qpss_one (qps_asg (qpe_ix (ixK K rfl) (qpe_lst (qpa_cons qpe_non slC (qpa_cons (qpe_lst qpa_nil) slLst (qpa_cons (qpe_tup qpa_nil) slTup (qpa_cons qpe_int slC (qpa_cons (qpe_callTy (tupleK K rfl) rfl T.tuple PyProof.Rows.boot_tuple (qpe_ix (ixK K rfl) (qpv 2) (qpv 3) (fun _ _ => rfl)) slSub) slCall qpa_nil)))))) (qpe_op op_mod (qpe_op op_fdiv (qpv 1) qpe_int) qpe_int) (fun _ _ => rfl)) (qpg_sub (qpv 2) (qpv 3) set_list))) qpss_nil)
    (@r7)), ?_⟩
   intro S y x H1 s1 nS yl tb
   refine ⟨_, rfl, _, _, rfl, rfl, (by show (0 : Int) < 8; decide), rfl, _, rfl, iteB (fun h => ?_) (fun h => ?_)⟩
   rotate_left
   ·have hh := of_decide_eq_false h
    have ne : cl % 8 ≠ 3 := fun e => hh (congrArg V.int e)
    rcases tb with ⟨b, lst, e⟩ | ⟨e, ls, tv⟩
    ·exact k7 S y x none none H1 s1 (.inl b) lst
    ·exact k7 S y x none none H1 s1 (.inr (by omega)) ⟨_, tv.top⟩
   have e3 : cl % 8 = 3 := by have := of_decide_eq_true h; injection this
   obtain ⟨ls, tv⟩ : ∃ ls, TilesV H1 S ls (tilesG R wd 1 1) := by
    rcases tb with ⟨_, _, e⟩ | ⟨_, q⟩
    ·omega
    ·exact q
   have gt := t11 gd
   have lG : (tilesG R wd 1 1).length = R.length := by simp [tilesG]
   obtain ⟨l, Rs, hl, hRs, lv, le, lRs, hly⟩ := tv.line gt (y := y) (by omega)
   have sx := Same.refl H1
   refine ⟨sz0, fun p0 h_ => ?_⟩
   have z_ := same_new (o := HO.lst []) h_
   have fp0 : H1 p0 = none := sx.free h_
   have sx := sx.trans z_
   have ep0 : upd H1 p0 (HO.lst []) p0 = some (HO.lst []) := upd_same
   clear z_
   generalize upd H1 p0 (HO.lst []) = G1 at sx ep0 h_ ⊢
   clear h_
   refine ⟨sz0, fun p1 h_ => ?_⟩
   have z_ := same_new (o := HO.tup []) h_
   have fp1 : H1 p1 = none := sx.free h_
   have sx := sx.trans z_
   have ep0 := z_ _ _ ep0
   have ep1 : upd G1 p1 (HO.tup []) p1 = some (HO.tup []) := upd_same
   clear z_
   generalize upd G1 p1 (HO.tup []) = G2 at sx ep0 ep1 h_ ⊢
   clear h_
   refine ⟨_, rfl, _, rfl, S, _, _, .ref l.1, rfl, rfl, SqL.of (sx _ _ tv.top), atI_nat hly, l.1, _, rfl, .inl ⟨SqL.of (sx _ _ lv.top), fun p2 h_ => ?_⟩⟩
   have z_ := same_new (o := HO.tup (l.2.map fun e => V.ref e.1)) h_
   have fp2 : H1 p2 = none := sx.free h_
   have sx := sx.trans z_
   have ep0 := z_ _ _ ep0
   have ep1 := z_ _ _ ep1
   have ep2 : upd G2 p2 (HO.tup (l.2.map fun e => V.ref e.1)) p2 = some (HO.tup (l.2.map fun e => V.ref e.1)) := upd_same
   clear z_
   generalize upd G2 p2 (HO.tup (l.2.map fun e => V.ref e.1)) = G3 at sx ep0 ep1 ep2 h_ ⊢
   clear h_
   refine ⟨sz5, fun p3 h_ => ?_⟩
   have z_ := same_new (o := HO.lst [V.non, .ref p0, .ref p1, .int 5, .ref p2]) h_
   have fp3 : H1 p3 = none := sx.free h_
   have sx := sx.trans z_
   have ep0 := z_ _ _ ep0
   have ep1 := z_ _ _ ep1
   have ep2 := z_ _ _ ep2
   have ep3 : upd G3 p3 (HO.lst [V.non, .ref p0, .ref p1, .int 5, .ref p2]) p3 = some (HO.lst [V.non, .ref p0, .ref p1, .int 5, .ref p2]) := upd_same
   clear z_
   generalize upd G3 p3 (HO.lst [V.non, .ref p0, .ref p1, .int 5, .ref p2]) = G4 at sx ep0 ep1 ep2 ep3 h_ ⊢
   clear h_
   obtain ⟨v, hv, hvm⟩ : ∃ v, atI [V.non, .ref p0, .ref p1, .int 5, .ref p2] (cl / 4608 % 5) = some v ∧ v ∈ [V.non, .ref p0, .ref p1, .int 5, .ref p2] := atI_mem (Int.emod_nonneg _ (by decide)) (Int.emod_lt_of_pos _ (by decide))
   refine ⟨_, rfl, _, _, rfl, rfl, ⟨by decide, by decide⟩, _, _, rfl, rfl, (by show (0 : Int) < 5; decide), p3, _, _, v, rfl, rfl, SqL.of ep3, hv, _, rfl, _, rfl, S, _, _, y, rfl, rfl, sx _ _ tv.top, ixN_nat (by rw [List.length_map, tv.len]; omega), ?_⟩
   have bl : BadL K (upd G4 S (.lst ((ls.map fun l => V.ref l.1).set y v))) v := by
    have nn : ∀ {p : Addr} {u : HO}, H1 p = none → G4 p = some u → upd G4 S (.lst ((ls.map fun l => V.ref l.1).set y v)) p = some u := fun {p u} hp ep => by rw [upd_ne (ne_of_none tv.top hp).symm]; exact ep
    simp only [List.mem_cons, List.not_mem_nil, or_false] at hvm
    rcases hvm with rfl | rfl | rfl | rfl | rfl
    ·exact .leaf .non rfl
    ·exact .empty (nn fp0 ep0)
    ·exact .tup (nn fp1 ep1)
    ·exact .leaf (.int _) rfl
    ·exact .tup (nn fp2 ep2)
   exact k7 S y x none none _ (same_upd (s1.trans sx) nS) (.inl (bad_line (tv.mono sx) gt (by omega) bl)) ⟨_, upd_same⟩
  obtain ⟨t5, r5, k5⟩ : ∃ tr, ShB ((cxOf CX0 P w K mg base nmbadtiles "_law_bad_tiles" (defScope s_law_bad_tiles) f cdv A outer s H E).nox) ((defBody s_law_bad_tiles).drop 5) tr ∧
    ∀ (S : Addr) (ls : List (Addr × List (Addr × List Addr))) (y x : Nat) (H1 : Hp), Same H H1 → TilesV H1 S ls (tilesG R wd 1 1) → H S = none → (∀ l ∈ ls, ∀ z, AdrL l z → H z = none) → y < R.length → x < wd → 2 ≤ cl % 8 →  tr { nx := fun _ H' => Q .non H', rt := Q } [some (.ref p), some (.int cl), some (.ref S), some (.int (y : Int)), some (.int (x : Int)), none, none] H1 := by
   refine ⟨_, (qpss_cons (qps_if (qpt_cmpR op_eq (qpe_op op_mod (qpv 1) qpe_int) qpe_int (nomark _)) (qpss_one (qps_asg (qpe_ix (ixK K rfl) (qpe_lst (qpa_cons qpe_non slC (qpa_cons (qpe_lst qpa_nil) slLst (qpa_cons (qpe_lst (qpa_cons (qpe_lst (qpa_cons qpe_int slC qpa_nil)) slLst qpa_nil)) slLst (qpa_cons (qpe_lst (qpa_cons (qpe_lst qpa_nil) slLst qpa_nil)) slLst (qpa_cons qpe_int slC (qpa_cons qpe_str slC qpa_nil))))))) (qpe_op op_mod (qpe_op op_fdiv (qpv 1) qpe_int) qpe_int) (fun _ _ => rfl)) (qpg_sub (qpe_ix (ixK K rfl) (qpv 2) (qpv 3) (fun _ _ => rfl)) (qpv 4) set_list))) qpss_nil)
    (@r6)), ?_⟩
   intro S ls y x H1 s1 tv nS fr yl xl c2
   refine ⟨_, rfl, _, _, rfl, rfl, (by show (0 : Int) < 8; decide), rfl, _, rfl, iteB (fun h => ?_) (fun h => ?_)⟩
   rotate_left
   ·have hh := of_decide_eq_false h
    have ne : cl % 8 ≠ 2 := fun e => hh (congrArg V.int e)
    exact k6 S y x H1 s1 nS yl (.inr ⟨by omega, ls, tv⟩)
   have e2 : cl % 8 = 2 := by have := of_decide_eq_true h; injection this
   have gt := t11 gd
   have lG : (tilesG R wd 1 1).length = R.length := by simp [tilesG]
   obtain ⟨l, Rs, hl, hRs, lv, le, lRs, hly⟩ := tv.line gt (y := y) (by omega)
   have sx := Same.refl H1
   refine ⟨sz0, fun a1 h_ => ?_⟩
   have z_ := same_new (o := HO.lst []) h_
   have fa1 : H1 a1 = none := sx.free h_
   have sx := sx.trans z_
   have ea1 : upd H1 a1 (HO.lst []) a1 = some (HO.lst []) := upd_same
   clear z_
   generalize upd H1 a1 (HO.lst []) = G1 at sx ea1 h_ ⊢
   clear h_
   refine ⟨sz1, fun a2 h_ => ?_⟩
   have z_ := same_new (o := HO.lst [V.int 16]) h_
   have fa2 : H1 a2 = none := sx.free h_
   have sx := sx.trans z_
   have ea1 := z_ _ _ ea1
   have ea2 : upd G1 a2 (HO.lst [V.int 16]) a2 = some (HO.lst [V.int 16]) := upd_same
   clear z_
   generalize upd G1 a2 (HO.lst [V.int 16]) = G2 at sx ea1 ea2 h_ ⊢
   clear h_
   refine ⟨sz1, fun a3 h_ => ?_⟩
   have z_ := same_new (o := HO.lst [V.ref a2]) h_
   have fa3 : H1 a3 = none := sx.free h_
   have sx := sx.trans z_
   have ea1 := z_ _ _ ea1
   have ea2 := z_ _ _ ea2
   have ea3 : upd G2 a3 (HO.lst [V.ref a2]) a3 = some (HO.lst [V.ref a2]) := upd_same
   clear z_
   generalize upd G2 a3 (HO.lst [V.ref a2]) = G3 at sx ea1 ea2 ea3 h_ ⊢
   clear h_
   refine ⟨sz0, fun a4 h_ => ?_⟩
   have z_ := same_new (o := HO.lst []) h_
   have fa4 : H1 a4 = none := sx.free h_
   have sx := sx.trans z_
   have ea1 := z_ _ _ ea1
   have ea2 := z_ _ _ ea2
   have ea3 := z_ _ _ ea3
   have ea4 : upd G3 a4 (HO.lst []) a4 = some (HO.lst []) := upd_same
   clear z_
   generalize upd G3 a4 (HO.lst []) = G4 at sx ea1 ea2 ea3 ea4 h_ ⊢
   clear h_
   refine ⟨sz1, fun a5 h_ => ?_⟩
   have z_ := same_new (o := HO.lst [V.ref a4]) h_
   have fa5 : H1 a5 = none := sx.free h_
   have sx := sx.trans z_
   have ea1 := z_ _ _ ea1
   have ea2 := z_ _ _ ea2
   have ea3 := z_ _ _ ea3
   have ea4 := z_ _ _ ea4
   have ea5 : upd G4 a5 (HO.lst [V.ref a4]) a5 = some (HO.lst [V.ref a4]) := upd_same
   clear z_
   generalize upd G4 a5 (HO.lst [V.ref a4]) = G5 at sx ea1 ea2 ea3 ea4 ea5 h_ ⊢
   clear h_
   refine ⟨sz6, fun a6 h_ => ?_⟩
   have z_ := same_new (o := HO.lst [V.non, .ref a1, .ref a3, .ref a5, .int 5, .str "0"]) h_
   have fa6 : H1 a6 = none := sx.free h_
   have sx := sx.trans z_
   have ea1 := z_ _ _ ea1
   have ea2 := z_ _ _ ea2
   have ea3 := z_ _ _ ea3
   have ea4 := z_ _ _ ea4
   have ea5 := z_ _ _ ea5
   have ea6 : upd G5 a6 (HO.lst [V.non, .ref a1, .ref a3, .ref a5, .int 5, .str "0"]) a6 = some (HO.lst [V.non, .ref a1, .ref a3, .ref a5, .int 5, .str "0"]) := upd_same
   clear z_
   generalize upd G5 a6 (HO.lst [V.non, .ref a1, .ref a3, .ref a5, .int 5, .str "0"]) = G6 at sx ea1 ea2 ea3 ea4 ea5 ea6 h_ ⊢
   clear h_
   obtain ⟨v, hv, hvm⟩ : ∃ v, atI [V.non, .ref a1, .ref a3, .ref a5, .int 5, .str "0"] (cl / 4608 % 6) = some v ∧ v ∈ [V.non, .ref a1, .ref a3, .ref a5, .int 5, .str "0"] := atI_mem (Int.emod_nonneg _ (by decide)) (Int.emod_lt_of_pos _ (by decide))
   refine ⟨_, rfl, _, _, rfl, rfl, ⟨by decide, by decide⟩, _, _, rfl, rfl, (by show (0 : Int) < 6; decide), a6, _, _, v, rfl, rfl, SqL.of ea6, hv, ?_⟩
   refine ⟨_, rfl, _, rfl, S, _, _, .ref l.1, rfl, rfl, SqL.of (sx _ _ tv.top), atI_nat hly, _, rfl, l.1, _, _, x, rfl, rfl, sx _ _ lv.top, ixN_nat (by rw [List.length_map]; omega), ?_⟩
   have nn : ∀ {p : Addr} {u : HO}, H1 p = none → G6 p = some u → upd G6 l.1 (.lst ((l.2.map fun e => V.ref e.1).set x v)) p = some u := fun {p u} hp ep => by rw [upd_ne (ne_of_none lv.top hp).symm]; exact ep
   obtain ⟨tq, no⟩ := odd_pic (K := K) (nn fa1 ea1) (nn fa2 ea2) (nn fa3 ea3) (nn fa4 ea4) (nn fa5 ea5) hvm
   have bt := bad_tile (tv.mono sx) gt (by omega) hl xl tq no
   have lm := List.mem_of_getElem? hl
   exact k6 S y x _ (same_upd (s1.trans sx) (fr l lm l.1 (.inl rfl))) nS yl (.inl ⟨bt, ⟨_, by rw [upd_ne (fun z => tv.out l lm (.inl z))]; exact sx _ _ tv.top⟩, e2⟩)
  obtain ⟨t4, r4, k4⟩ : ∃ tr, ShB ((cxOf CX0 P w K mg base nmbadtiles "_law_bad_tiles" (defScope s_law_bad_tiles) f cdv A outer s H E).nox) ((defBody s_law_bad_tiles).drop 4) tr ∧
    ∀ (S : Addr) (ls : List (Addr × List (Addr × List Addr))) (y x : Nat) (H1 : Hp), Same H H1 → TilesV H1 S ls (tilesG R wd 1 1) → H S = none → (∀ l ∈ ls, ∀ z, AdrL l z → H z = none) → y < R.length → x < wd → 1 ≤ cl % 8 →  tr { nx := fun _ H' => Q .non H', rt := Q } [some (.ref p), some (.int cl), some (.ref S), some (.int (y : Int)), some (.int (x : Int)), none, none] H1 := by
   refine ⟨_, (qpss_cons (qps_if (qpt_cmpR op_eq (qpe_op op_mod (qpv 1) qpe_int) qpe_int (nomark _)) (qpss_cons (qps_asg (qpe_op op_cat (qpe_ix (ixK K rfl) (qpv 2) (qpv 3) (fun _ _ => rfl)) (qpe_lst (qpa_cons (qpe_lst (qpa_cons (qpe_lst (qpa_cons qpe_int slC qpa_nil)) slLst qpa_nil)) slLst qpa_nil))) (qpg_sub (qpv 2) (qpv 3) set_list))
    (qpss_one (qps_ret (qpe_tup (qpa_cons (qpv 2) slN (qpa_cons (qpe_ifExp (ShW.pt (qpw_or (qpt_cmpR op_gt (qpe_callB (lenK K rfl) rfl T.len PySem.boot_len (qpv 2) slN) qpe_int (nomark _)) (qpw_or1 (qpt_cmpR op_gt (qpe_callB (lenK K rfl) rfl T.len PySem.boot_len (qpe_ix (ixK K rfl) (qpv 2) qpe_int (fun _ _ => rfl)) slSub) qpe_int (nomark _))))) (qpe_lst (qpa_cons qpe_bl slC (qpa_cons qpe_bl slC qpa_nil))) qpe_non) slIf qpa_nil)))))) qpss_nil)
    (@r5)), ?_⟩
   intro S ls y x H1 s1 tv nS fr yl xl c1
   refine ⟨_, rfl, _, _, rfl, rfl, (by show (0 : Int) < 8; decide), rfl, _, rfl, iteB (fun h => ?_) (fun h => ?_)⟩
   rotate_left
   ·have hh := of_decide_eq_false h
    have ne : cl % 8 ≠ 1 := fun e => hh (congrArg V.int e)
    exact k5 S ls y x H1 s1 tv nS fr yl xl (by omega)
   have gt := t11 gd
   have lG : (tilesG R wd 1 1).length = R.length := by simp [tilesG]
   obtain ⟨l, Rs, hl, hRs, lv, le, lRs, hly⟩ := tv.line gt (y := y) (by omega)
   have sx := Same.refl H1
   refine ⟨_, rfl, _, rfl, S, _, _, .ref l.1, rfl, rfl, SqL.of tv.top, atI_nat hly, ?_⟩
   refine ⟨sz1, fun b1 h_ => ?_⟩
   have z_ := same_new (o := HO.lst [V.int 3]) h_
   have fb1 : H1 b1 = none := sx.free h_
   have sx := sx.trans z_
   have eb1 : upd H1 b1 (HO.lst [V.int 3]) b1 = some (HO.lst [V.int 3]) := upd_same
   clear z_
   generalize upd H1 b1 (HO.lst [V.int 3]) = G1 at sx eb1 h_ ⊢
   clear h_
   refine ⟨sz1, fun b2 h_ => ?_⟩
   have z_ := same_new (o := HO.lst [V.ref b1]) h_
   have fb2 : H1 b2 = none := sx.free h_
   have sx := sx.trans z_
   have eb1 := z_ _ _ eb1
   have eb2 : upd G1 b2 (HO.lst [V.ref b1]) b2 = some (HO.lst [V.ref b1]) := upd_same
   clear z_
   generalize upd G1 b2 (HO.lst [V.ref b1]) = G2 at sx eb1 eb2 h_ ⊢
   clear h_
   refine ⟨sz1, fun b3 h_ => ?_⟩
   have z_ := same_new (o := HO.lst [V.ref b2]) h_
   have fb3 : H1 b3 = none := sx.free h_
   have sx := sx.trans z_
   have eb1 := z_ _ _ eb1
   have eb2 := z_ _ _ eb2
   have eb3 : upd G2 b3 (HO.lst [V.ref b2]) b3 = some (HO.lst [V.ref b2]) := upd_same
   clear z_
   generalize upd G2 b3 (HO.lst [V.ref b2]) = G3 at sx eb1 eb2 eb3 h_ ⊢
   clear h_
   refine ⟨l.1, b3, _, _, rfl, rfl, sx _ _ lv.top, eb3, (by rw [List.length_map, le]; exact Nat.le_trans (show wd + 1 ≤ 25 by omega) (by decide)), fun p5 h_ => ?_⟩
   have z_ := same_new (o := HO.lst ((l.2.map fun e => V.ref e.1) ++ [V.ref b2])) h_
   have fp5 : H1 p5 = none := sx.free h_
   have sx := sx.trans z_
   have eb1 := z_ _ _ eb1
   have eb2 := z_ _ _ eb2
   have eb3 := z_ _ _ eb3
   have ep5 : upd G3 p5 (HO.lst ((l.2.map fun e => V.ref e.1) ++ [V.ref b2])) p5 = some (HO.lst ((l.2.map fun e => V.ref e.1) ++ [V.ref b2])) := upd_same
   clear z_
   generalize upd G3 p5 (HO.lst ((l.2.map fun e => V.ref e.1) ++ [V.ref b2])) = G4 at sx eb1 eb2 eb3 ep5 h_ ⊢
   clear h_
   refine ⟨_, rfl, _, rfl, S, _, _, y, rfl, rfl, sx _ _ tv.top, ixN_nat (by rw [List.length_map, tv.len]; omega), ?_⟩
   have lm := List.mem_of_getElem? hl
   have tv4 := tv.mono sx
   have lv4 := lv.mono sx
   have nS4 : ∀ {p : Addr}, H1 p = none → p ≠ S := fun {p} hp => (ne_of_none tv.top hp).symm
   have na : ∀ {p : Addr}, H1 p = none → ∀ l' ∈ ls, ¬ AdrL l' p := fun {p} hp l' hl' z => by
    obtain ⟨o, e⟩ := tv.has (y := p) (.inr ⟨l', hl', z⟩)
    rw [hp] at e; cases e
   have hb : b1 ≠ b2 := fun z => by rw [z, eb2] at eb1; cases eb1
   have pb : PicV G4 b2 [b1] (ir [[3]]) := ⟨eb2, .cons eb1 .nil, by simp, by simpa using fun z => hb z.symm⟩
   have gb : Good [[3]] 1 := ⟨by decide, by decide, by decide, by decide, fun r hr => by rw [List.mem_singleton.mp hr]; exact ⟨rfl, fun c hc => by rw [List.mem_singleton.mp hc]; decide⟩⟩
   have eS5 : upd G4 S (.lst ((ls.map fun l => V.ref l.1).set y (.ref p5))) S = some (.lst ((ls.map fun l => V.ref l.1).set y (.ref p5))) := upd_same
   have kp : ∀ {b : Addr} {o : HO}, b ≠ S → G4 b = some o → upd G4 S (.lst ((ls.map fun l => V.ref l.1).set y (.ref p5))) b = some o := fun {b o} n e => by rw [upd_ne n]; exact e
   have fA : ∀ z, Adr (b2, [b1]) z → H1 z = none := fun z hz => by
    rcases hz with rfl | hz
    ·exact fb2
    ·rw [List.mem_singleton.mp hz]; exact fb1
   have p5n : ¬ Adr (b2, [b1]) p5 := fun z => by
    rcases z with z | z
    ·rw [show p5 = b2 from z, eb2] at ep5
     injection ep5 with ep5; injection ep5 with ep5
     have := congrArg List.length ep5
     rw [List.length_append, List.length_map, le] at this
     simp at this; omega
    ·rw [List.mem_singleton.mp z, eb1] at ep5
     injection ep5 with ep5; injection ep5 with ep5
     have := congrArg List.length ep5
     rw [List.length_append, List.length_map, le] at this
     simp at this; omega
   have lv5 : LineV (upd G4 S (.lst ((ls.map fun l => V.ref l.1).set y (.ref p5)))) p5 (l.2 ++ [(b2, [b1])]) (Rs ++ [[[3]]]) :=
    (lv4.keep (H' := upd G4 S (.lst ((ls.map fun l => V.ref l.1).set y (.ref p5)))) fun b o hb eb => kp (fun z => tv.out l lm (by rw [← z]; exact hb)) eb).more
     (by rw [List.map_append]; exact kp (nS4 fp5) ep5) (PicV.keepA pb fun b o hb eb => kp (nS4 (fA b hb)) eb)
     (fun z hz e he hz' => na (fA z hz) l lm (.inr ⟨e, he, hz'⟩)) (fun e he hz => na fp5 l lm (.inr ⟨e, he, hz⟩)) p5n
   have fN : ∀ z, AdrL (p5, l.2 ++ [(b2, [b1])]) z → (H1 z = none ∨ ∃ e ∈ l.2, Adr e z) := fun z hz => by
    rcases hz with rfl | ⟨e, he, hz⟩
    ·exact .inl fp5
    ·rcases List.mem_append.mp he with h | h
     ·exact .inr ⟨e, h, hz⟩
     ·rw [List.mem_singleton.mp h] at hz; exact .inl (fA z hz)
   have tv5 : TilesV (upd G4 S (.lst ((ls.map fun l => V.ref l.1).set y (.ref p5)))) S (ls.set y (p5, l.2 ++ [(b2, [b1])])) ((tilesG R wd 1 1).set y (Rs ++ [[[3]]])) :=
    tv4.repl (by rw [List.map_set]; exact eS5) lv5 (fun j l' nj hj b o hb eb => kp (fun z => tv.out l' (List.mem_of_getElem? hj) (by rw [← z]; exact hb)) eb)
     (fun j l' nj hj z hz hz' => by
      rcases fN z hz with h | h
      ·exact na h l' (List.mem_of_getElem? hj) hz'
      ·exact tv.apart hj hl nj hz' (.inr h)) (fun hz => by
      rcases fN S hz with h | h
      ·rw [tv.top] at h; cases h
      ·exact tv.out l lm (.inr h))
   have s5 : Same H (upd G4 S (.lst ((ls.map fun l => V.ref l.1).set y (.ref p5)))) := same_upd (s1.trans sx) nS
   obtain ⟨o1, o2, o3⟩ := odd_line gd yl hRs gb rfl
   obtain ⟨q1, q2, q3⟩ := tv5.look (K := K) o1 (by rw [List.length_set]; omega) (by rw [List.length_set]; omega)
   have eQ : (ls.set y (p5, l.2 ++ [(b2, [b1])])).map (fun l => V.ref l.1) = (ls.map fun l => V.ref l.1).set y (.ref p5) := by rw [List.map_set]
   rw [eQ] at q3
   have lnS : ((ls.map fun l => V.ref l.1).set y (.ref p5)).length = R.length := by rw [List.length_set, List.length_map, tv.len, lG]
   have ep6 := kp (nS4 fp5) ep5
   clear kp eb1 eb2 eb3
   generalize upd G4 S (.lst ((ls.map fun l => V.ref l.1).set y (.ref p5))) = H5 at eS5 lv5 tv5 s5 q1 q2 q3 ep6 ⊢
   have fin : ∀ (nm : V) (H6 : Hp), Same H5 H6 → ((∃ n, nm = .ref n ∧ H6 n = some (.lst [.bl false, .bl true]) ∧ (1 < R.length ∨ 24 < wd + 1)) ∨ (nm = .non ∧ ¬ (1 < R.length ∨ 24 < wd + 1))) → ∀ t, H6 t = none → Q (.ref t) (upd H6 t (.tup [.ref S, nm])) := fun nm H6 s6 hh t ht => by
    have z := same_new (o := HO.tup [.ref S, nm]) ht
    have s7 := s6.trans z
    refine k t _ _ _ (s5.trans s7) ((s5.trans s6).free ht) upd_same ?_
    rcases hh with ⟨n, rfl, en, big⟩ | ⟨rfl, no⟩
    ·exact .inr (.inl ⟨n, S, _, rfl, z _ _ en, rfl, s7 _ _ eS5, q1.mono s7, by rw [tilesB_mono q1 s7]; exact q2, fun zz => o2 big (q3 (lf_mono eS5 q1 q2 s7 zz))⟩)
    ·exact .inr (.inr ⟨S, _, _, _, _, _, rfl, rfl, tv5.mono s7, o3 no⟩)
   refine ⟨_, rfl, _, rfl, S, _, rfl, .inl (SqL.of eS5), _, _, rfl, rfl, _, rfl, iteB (fun hg => ?_) (fun hg => ?_)⟩
   ·have hg := of_decide_eq_true hg
    rw [lnS] at hg
    refine ⟨sz2, fun n hn => ⟨sz2, fun t ht => ?_⟩⟩
    exact fin _ _ (same_new hn) (.inl ⟨n, rfl, upd_same, .inl (by omega)⟩) t ht
   have hg := of_decide_eq_false hg
   rw [lnS] at hg
   have y0 : y = 0 := by omega
   have h0 : ((ls.map fun l => V.ref l.1).set y (.ref p5))[0]? = some (.ref p5) := by rw [y0, List.getElem?_set_self (by rw [List.length_map, tv.len]; omega)]
   refine ⟨_, rfl, S, _, _, .ref p5, rfl, rfl, SqL.of eS5, atI_nat (j := 0) h0, p5, _, rfl, .inl (SqL.of ep6), _, _, rfl, rfl, _, rfl, iteB (fun hk => ?_) (fun hk => ?_)⟩
   ·have hk := of_decide_eq_true hk
    rw [List.length_append, List.length_map, le] at hk
    refine ⟨sz2, fun n hn => ⟨sz2, fun t ht => ?_⟩⟩
    exact fin _ _ (same_new hn) (.inl ⟨n, rfl, upd_same, .inr (by have : ((wd + 1 : Nat) : Int) > 24 := hk; omega)⟩) t ht
   ·have hk := of_decide_eq_false hk
    rw [List.length_append, List.length_map, le] at hk
    refine ⟨sz2, fun t ht => ?_⟩
    exact fin _ _ (Same.refl _) (.inr ⟨rfl, by have : ¬ ((wd + 1 : Nat) : Int) > 24 := hk; omega⟩) t ht
  obtain ⟨t3, r3, k3⟩ : ∃ tr, ShB ((cxOf CX0 P w K mg base nmbadtiles "_law_bad_tiles" (defScope s_law_bad_tiles) f cdv A outer s H E).nox) ((defBody s_law_bad_tiles).drop 3) tr ∧
    ∀ (S : Addr) (ls : List (Addr × List (Addr × List Addr))) (y x : Nat) (H1 : Hp), Same H H1 → TilesV H1 S ls (tilesG R wd 1 1) → H S = none → (∀ l ∈ ls, ∀ z, AdrL l z → H z = none) → y < R.length → x < wd →  tr { nx := fun _ H' => Q .non H', rt := Q } [some (.ref p), some (.int cl), some (.ref S), some (.int (y : Int)), some (.int (x : Int)), none, none] H1 := by
   refine ⟨_, (qpss_cons (qps_if (qpt_cmpR op_eq (qpe_op op_mod (qpv 1) qpe_int) qpe_int (nomark _)) (qpss_cons (qps_set (i := 5) sc_law_bad_tiles.nd rfl (by first | exact Or.inl rfl | exact Or.inr rfl) (qpe_cmpR op_eq (qpe_op op_mul (qpe_callB (lenK K rfl) rfl T.len PySem.boot_len (qpv 2) slN) (qpe_callB (lenK K rfl) rfl T.len PySem.boot_len (qpe_ix (ixK K rfl) (qpv 2) qpe_int (fun _ _ => rfl)) slSub)) qpe_int (nomark _)))
    (qpss_cons (qps_asg (qpe_ifExp (qpt_val (qpv 5)) (qpe_lst (qpa_cons (qpe_lst (qpa_cons qpe_int slC qpa_nil)) slLst qpa_nil)) (qpe_ix (ixK K rfl) (qpe_lst (qpa_cons (qpe_lst (qpa_cons (qpe_lst (qpa_cons qpe_int slC (qpa_cons qpe_int slC qpa_nil))) slLst qpa_nil)) slLst (qpa_cons (qpe_lst (qpa_cons (qpe_lst (qpa_cons qpe_int slC qpa_nil)) slLst (qpa_cons (qpe_lst (qpa_cons qpe_int slC qpa_nil)) slLst qpa_nil))) slLst qpa_nil))) (qpe_op op_mod (qpe_op op_fdiv (qpv 1) qpe_int) qpe_int) (fun _ _ => rfl))) (qpg_sub (qpe_ix (ixK K rfl) (qpv 2) (qpv 3) (fun _ _ => rfl)) (qpv 4) set_list))
    (qpss_one (qps_ret (qpe_tup (qpa_cons (qpv 2) slN (qpa_cons (qpe_ix (ixK K rfl) (qpe_lst (qpa_cons (qpe_lst (qpa_cons qpe_bl slC (qpa_cons qpe_bl slC qpa_nil))) slLst (qpa_cons (qpe_lst (qpa_cons qpe_bl slC (qpa_cons qpe_bl slC qpa_nil))) slLst qpa_nil))) (qpe_callTy call_int1 rfl T.int PyProof.Rows.boot_int (qpv 5) slN) (fun _ _ => rfl)) slSub qpa_nil))))))) qpss_nil)
    (@r4)), ?_⟩
   intro S ls y x H1 s1 tv nS fr yl xl
   refine ⟨_, rfl, _, _, rfl, rfl, (by show (0 : Int) < 8; decide), rfl, _, rfl, iteB (fun h => ?_) (fun h => ?_)⟩
   rotate_left
   ·have hh := of_decide_eq_false h
    have ne : cl % 8 ≠ 0 := fun e => hh (congrArg V.int e)
    exact k4 S ls y x H1 s1 tv nS fr yl xl (by omega)
   have gt := t11 gd
   have lG : (tilesG R wd 1 1).length = R.length := by simp [tilesG]
   obtain ⟨l, Rs, hl, hRs, lv, le, lRs, hly⟩ := tv.line gt (y := y) (by omega)
   have sx := Same.refl H1
   have lm := List.mem_of_getElem? hl
   obtain ⟨l0, Rs0, hl0, hRs0, lv0, le0, lRs0, hl00⟩ := tv.line gt (y := 0) (by omega)
   have lnS : (ls.map fun l => V.ref l.1).length = R.length := by rw [List.length_map, tv.len, lG]
   have ln0 : (l0.2.map fun e => V.ref e.1).length = wd := by rw [List.length_map, le0]
   refine ⟨_, rfl, S, _, rfl, .inl (SqL.of tv.top), _, rfl, S, _, _, .ref l0.1, rfl, rfl, SqL.of tv.top, atI_nat (j := 0) hl00, l0.1, _, rfl, .inl (SqL.of lv0.top), _, _, rfl, rfl, .inl ⟨by omega, by omega⟩, rfl, ?_⟩
   rw [lnS, ln0]
   obtain ⟨al, eal, hal⟩ : ∃ al : Bool, decide (V.int ((R.length : Int) * (wd : Int)) = V.int 1) = al ∧ (al = true ↔ (R.length = 1 ∧ wd = 1)) := by
    refine ⟨_, rfl, ?_⟩
    rw [decide_eq_true_eq]
    constructor
    ·intro z
     injection z with z
     have z : ((R.length * wd : Nat) : Int) = 1 := by push_cast; exact z
     have z : R.length * wd = 1 := by omega
     exact ⟨Nat.dvd_one.mp ⟨wd, z.symm⟩, Nat.dvd_one.mp ⟨R.length, by rw [Nat.mul_comm]; exact z.symm⟩⟩
    ·rintro ⟨z1, z2⟩
     rw [z1, z2]; rfl
   rw [eal]
   refine ⟨_, rfl, _, rfl, iteB (fun ha => ?_) (fun ha => ?_)⟩
   ·have a1_ := hal.mp ha
    refine ⟨sz1, fun a2 h_ => ?_⟩
    have z_ := same_new (o := HO.lst [V.int 16]) h_
    have fa2 : H1 a2 = none := sx.free h_
    have sx := sx.trans z_
    have ea2 : upd H1 a2 (HO.lst [V.int 16]) a2 = some (HO.lst [V.int 16]) := upd_same
    clear z_
    generalize upd H1 a2 (HO.lst [V.int 16]) = G1 at sx ea2 h_ ⊢
    clear h_
    refine ⟨sz1, fun a3 h_ => ?_⟩
    have z_ := same_new (o := HO.lst [V.ref a2]) h_
    have fa3 : H1 a3 = none := sx.free h_
    have sx := sx.trans z_
    have ea2 := z_ _ _ ea2
    have ea3 : upd G1 a3 (HO.lst [V.ref a2]) a3 = some (HO.lst [V.ref a2]) := upd_same
    clear z_
    generalize upd G1 a3 (HO.lst [V.ref a2]) = G2 at sx ea2 ea3 h_ ⊢
    clear h_
    refine ⟨_, rfl, _, rfl, S, _, _, .ref l.1, rfl, rfl, SqL.of (sx _ _ tv.top), atI_nat hly, _, rfl, l.1, _, _, x, rfl, rfl, sx _ _ lv.top, ixN_nat (by rw [List.length_map]; omega), ?_⟩
    have nn : ∀ {p : Addr} {u : HO}, H1 p = none → G2 p = some u → upd G2 l.1 (.lst ((l.2.map fun e => V.ref e.1).set x (.ref a3))) p = some u := fun {p u} hp ep => by rw [upd_ne (ne_of_none lv.top hp).symm]; exact ep
    have ea2 := nn fa2 ea2
    have ea3 := nn fa3 ea3
    have tq : Th K (upd G2 l.1 (.lst ((l.2.map fun e => V.ref e.1).set x (.ref a3)))) (.ref a3) := (Th.lst ea3 (by show 1 ≤ 1000; decide) fun z hz => by
     rw [List.mem_singleton.mp hz]; exact Rw.lst ea2 (by decide) (kd_ints (ns := [16]))).1
    have no : picB (upd G2 l.1 (.lst ((l.2.map fun e => V.ref e.1).set x (.ref a3)))) (.ref a3) = false := by
     cases hb : picB (upd G2 l.1 (.lst ((l.2.map fun e => V.ref e.1).set x (.ref a3)))) (.ref a3) with
     | false => rfl
     | true =>
      have q := ((picB_iff (rowOf_lst ea3)).mp hb).2.1 (.ref a2) (by simp)
      exact absurd ((rowQ_iff ea2).mp q).1 (by decide)
    have bt := bad_tile (tv.mono sx) gt (by omega) hl xl tq no
    have s5 := same_upd (o := .lst ((l.2.map fun e => V.ref e.1).set x (.ref a3))) (s1.trans sx) (fr l lm l.1 (.inl rfl))
    clear nn tq no ea2 ea3
    generalize upd G2 l.1 (.lst ((l.2.map fun e => V.ref e.1).set x (.ref a3))) = H5 at bt s5 ⊢
    refine ⟨_, rfl, sz2, fun n1 hn1 => ⟨sz2, fun n2 hn2 => ⟨sz2, fun n3 hn3 => ⟨_, rfl, .inr ⟨_, rfl, n3, _, _, .ref n2, rfl, rfl, SqL.of upd_same, (by rw [ha]; rfl), sz2, fun t ht => ?_⟩⟩⟩⟩⟩
    have w1 := same_new (o := HO.lst [.bl false, .bl true]) hn1
    have w2 := same_new (o := HO.lst [.bl true, .bl false]) hn2
    have w3 := same_new (o := HO.lst [V.ref n1, .ref n2]) hn3
    have w4 := same_new (o := HO.tup [V.ref S, .ref n2]) ht
    have b := bt.mono (w1.trans (w2.trans (w3.trans w4)))
    exact k t _ _ _ (s5.trans (w1.trans (w2.trans (w3.trans w4)))) (s5.free (w1.free (w2.free (w3.free ht)))) upd_same (.inl ⟨n2, rfl, w4 _ _ (w3 _ _ upd_same), b.th, b.no⟩)
   ·refine ⟨sz2, fun a1 h_ => ?_⟩
    have z_ := same_new (o := HO.lst [V.int 1, .int 2]) h_
    have fa1 : H1 a1 = none := sx.free h_
    have sx := sx.trans z_
    have ea1 : upd H1 a1 (HO.lst [V.int 1, .int 2]) a1 = some (HO.lst [V.int 1, .int 2]) := upd_same
    clear z_
    generalize upd H1 a1 (HO.lst [V.int 1, .int 2]) = G1 at sx ea1 h_ ⊢
    clear h_
    refine ⟨sz1, fun a2 h_ => ?_⟩
    have z_ := same_new (o := HO.lst [V.ref a1]) h_
    have fa2 : H1 a2 = none := sx.free h_
    have sx := sx.trans z_
    have ea1 := z_ _ _ ea1
    have ea2 : upd G1 a2 (HO.lst [V.ref a1]) a2 = some (HO.lst [V.ref a1]) := upd_same
    clear z_
    generalize upd G1 a2 (HO.lst [V.ref a1]) = G2 at sx ea1 ea2 h_ ⊢
    clear h_
    refine ⟨sz1, fun b1 h_ => ?_⟩
    have z_ := same_new (o := HO.lst [V.int 1]) h_
    have fb1 : H1 b1 = none := sx.free h_
    have sx := sx.trans z_
    have ea1 := z_ _ _ ea1
    have ea2 := z_ _ _ ea2
    have eb1 : upd G2 b1 (HO.lst [V.int 1]) b1 = some (HO.lst [V.int 1]) := upd_same
    clear z_
    generalize upd G2 b1 (HO.lst [V.int 1]) = G3 at sx ea1 ea2 eb1 h_ ⊢
    clear h_
    refine ⟨sz1, fun b2 h_ => ?_⟩
    have z_ := same_new (o := HO.lst [V.int 2]) h_
    have fb2 : H1 b2 = none := sx.free h_
    have sx := sx.trans z_
    have ea1 := z_ _ _ ea1
    have ea2 := z_ _ _ ea2
    have eb1 := z_ _ _ eb1
    have eb2 : upd G3 b2 (HO.lst [V.int 2]) b2 = some (HO.lst [V.int 2]) := upd_same
    clear z_
    generalize upd G3 b2 (HO.lst [V.int 2]) = G4 at sx ea1 ea2 eb1 eb2 h_ ⊢
    clear h_
    refine ⟨sz2, fun b3 h_ => ?_⟩
    have z_ := same_new (o := HO.lst [V.ref b1, .ref b2]) h_
    have fb3 : H1 b3 = none := sx.free h_
    have sx := sx.trans z_
    have ea1 := z_ _ _ ea1
    have ea2 := z_ _ _ ea2
    have eb1 := z_ _ _ eb1
    have eb2 := z_ _ _ eb2
    have eb3 : upd G4 b3 (HO.lst [V.ref b1, .ref b2]) b3 = some (HO.lst [V.ref b1, .ref b2]) := upd_same
    clear z_
    generalize upd G4 b3 (HO.lst [V.ref b1, .ref b2]) = G5 at sx ea1 ea2 eb1 eb2 eb3 h_ ⊢
    clear h_
    refine ⟨sz2, fun a6 h_ => ?_⟩
    have z_ := same_new (o := HO.lst [V.ref a2, .ref b3]) h_
    have fa6 : H1 a6 = none := sx.free h_
    have sx := sx.trans z_
    have ea1 := z_ _ _ ea1
    have ea2 := z_ _ _ ea2
    have eb1 := z_ _ _ eb1
    have eb2 := z_ _ _ eb2
    have eb3 := z_ _ _ eb3
    have ea6 : upd G5 a6 (HO.lst [V.ref a2, .ref b3]) a6 = some (HO.lst [V.ref a2, .ref b3]) := upd_same
    clear z_
    generalize upd G5 a6 (HO.lst [V.ref a2, .ref b3]) = G6 at sx ea1 ea2 eb1 eb2 eb3 ea6 h_ ⊢
    clear h_
    obtain ⟨v, hv, hvm⟩ : ∃ v, atI [V.ref a2, .ref b3] (cl / 4608 % 2) = some v ∧ v ∈ [V.ref a2, .ref b3] := atI_mem (Int.emod_nonneg _ (by decide)) (Int.emod_lt_of_pos _ (by decide))
    refine ⟨_, rfl, _, _, rfl, rfl, ⟨by decide, by decide⟩, _, _, rfl, rfl, (by show (0 : Int) < 2; decide), a6, _, _, v, rfl, rfl, SqL.of ea6, hv, ?_⟩
    obtain ⟨q, qs, R', c', rfl, pq, gq, nq, fq⟩ : ∃ (q : Addr) (qs : List Addr) (R' : List (List Int)) (c' : Nat), v = .ref q ∧ PicV G6 q qs (ir R') ∧ Good R' c' ∧ ¬ (c' = 1 ∧ R'.length = 1) ∧ ∀ z, Adr (q, qs) z → H1 z = none := by
     simp only [List.mem_cons, List.not_mem_nil, or_false] at hvm
     rcases hvm with rfl | rfl
     ·refine ⟨a2, [a1], [[1, 2]], 2, rfl, ⟨ea2, .cons ea1 .nil, by simp, ?_⟩, ⟨by decide, by decide, by decide, by decide, fun r hr => ?_⟩, by decide, fun z hz => ?_⟩
      ·intro z
       rw [List.mem_singleton.mp z, ea1] at ea2; cases ea2
      ·rw [List.mem_singleton.mp hr]
       exact ⟨rfl, fun c hc => by simp only [List.mem_cons, List.not_mem_nil, or_false] at hc; rcases hc with rfl | rfl <;> decide⟩
      ·rcases hz with rfl | hz
       ·exact fa2
       ·rw [List.mem_singleton.mp hz]; exact fa1
     ·refine ⟨b3, [b1, b2], [[1], [2]], 1, rfl, ⟨eb3, .cons eb1 (.cons eb2 .nil), ?_, ?_⟩, ⟨by decide, by decide, by decide, by decide, fun r hr => ?_⟩, by decide, fun z hz => ?_⟩
      ·have : b1 ≠ b2 := fun z => by rw [z, eb2] at eb1; cases eb1
       simp [this]
      ·intro z
       simp only [List.mem_cons, List.not_mem_nil, or_false] at z
       rcases z with z | z
       ·rw [z, eb1] at eb3; cases eb3
       ·rw [z, eb2] at eb3; cases eb3
      ·simp only [List.mem_cons, List.not_mem_nil, or_false] at hr
       rcases hr with rfl | rfl
       ·exact ⟨rfl, fun c hc => by rw [List.mem_singleton.mp hc]; decide⟩
       ·exact ⟨rfl, fun c hc => by rw [List.mem_singleton.mp hc]; decide⟩
      ·rcases hz with rfl | hz
       ·exact fb3
       ·simp only [List.mem_cons, List.not_mem_nil, or_false] at hz
        rcases hz with rfl | rfl
        ·exact fb1
        ·exact fb2
    refine ⟨_, rfl, _, rfl, S, _, _, .ref l.1, rfl, rfl, SqL.of (sx _ _ tv.top), atI_nat hly, _, rfl, l.1, _, _, x, rfl, rfl, sx _ _ lv.top, ixN_nat (by rw [List.length_map]; omega), ?_⟩
    have tv4 := tv.mono sx
    have lv4 := lv.mono sx
    have na : ∀ {p : Addr}, H1 p = none → ∀ l' ∈ ls, ¬ AdrL l' p := fun {p} hp l' hl' z => by
     obtain ⟨o, e⟩ := tv.has (y := p) (.inr ⟨l', hl', z⟩)
     rw [hp] at e; cases e
    have kp : ∀ (b : Addr) (o : HO), b ≠ l.1 → G6 b = some o → upd G6 l.1 (.lst ((l.2.map fun e => V.ref e.1).set x (.ref q))) b = some o := fun b o n e => by rw [upd_ne n]; exact e
    have lv5 : LineV (upd G6 l.1 (.lst ((l.2.map fun e => V.ref e.1).set x (.ref q)))) l.1 (l.2.set x (q, qs)) (Rs.set x R') :=
     lv4.repl (by rw [List.map_set]; exact upd_same) (PicV.keepA pq fun b o hb eb => kp b o (ne_of_none lv.top (fq b hb)).symm eb) kp
      (fun z hz e he hz' => na (fq z hz) l lm (.inr ⟨e, he, hz'⟩)) (fun hz => by have := fq l.1 hz; rw [lv.top] at this; cases this)
    have fN : ∀ z, AdrL (l.1, l.2.set x (q, qs)) z → (H1 z = none ∨ AdrL l z) := fun z hz => by
     rcases hz with rfl | ⟨e, he, hz⟩
     ·exact .inr (.inl rfl)
     ·rcases List.mem_or_eq_of_mem_set he with h | rfl
      ·exact .inr (.inr ⟨e, h, hz⟩)
      ·exact .inl (fq z hz)
    have hm : (ls.set y (l.1, l.2.set x (q, qs))).map (fun l => V.ref l.1) = (ls.map fun l => V.ref l.1) := by rw [List.map_set]; exact set_same hly
    have eS5 : upd G6 l.1 (.lst ((l.2.map fun e => V.ref e.1).set x (.ref q))) S = some (.lst (ls.map fun l => V.ref l.1)) := by rw [upd_ne (fun z => tv.out l lm (.inl z))]; exact sx _ _ tv.top
    have tv5 : TilesV (upd G6 l.1 (.lst ((l.2.map fun e => V.ref e.1).set x (.ref q)))) S (ls.set y (l.1, l.2.set x (q, qs))) ((tilesG R wd 1 1).set y (Rs.set x R')) :=
     tv4.repl (by rw [hm]; exact eS5) lv5 (fun j l' nj hj b o hb eb => kp b o (fun z => tv.apart hj hl nj hb (.inl z)) eb)
      (fun j l' nj hj z hz hz' => by
       rcases fN z hz with h | h
       ·exact na h l' (List.mem_of_getElem? hj) hz'
       ·exact tv.apart hj hl nj hz' h) (fun hz => by
       rcases fN S hz with h | h
       ·rw [tv.top] at h; cases h
       ·exact tv.out l lm h)
    have s5 : Same H (upd G6 l.1 (.lst ((l.2.map fun e => V.ref e.1).set x (.ref q)))) := same_upd (s1.trans sx) (fr l lm l.1 (.inl rfl))
    obtain ⟨o1, o2⟩ := odd_size gd yl xl hRs gq nq (fun z => by rw [hal.mpr z] at ha; cases ha)
    obtain ⟨q1, q2, q3⟩ := tv5.look (K := K) o1 (by rw [List.length_set]; omega) (by rw [List.length_set]; omega)
    rw [hm] at q3
    clear kp
    generalize upd G6 l.1 (.lst ((l.2.map fun e => V.ref e.1).set x (.ref q))) = H5 at eS5 s5 q1 q2 q3 ⊢
    refine ⟨_, rfl, sz2, fun n1 hn1 => ⟨sz2, fun n2 hn2 => ⟨sz2, fun n3 hn3 => ⟨_, rfl, .inr ⟨_, rfl, n3, _, _, .ref n1, rfl, rfl, SqL.of upd_same, (by rw [ha]; rfl), sz2, fun t ht => ?_⟩⟩⟩⟩⟩
    have w1 := same_new (o := HO.lst [.bl false, .bl true]) hn1
    have w2 := same_new (o := HO.lst [.bl true, .bl false]) hn2
    have w3 := same_new (o := HO.lst [V.ref n1, .ref n2]) hn3
    have w4 := same_new (o := HO.tup [V.ref S, .ref n1]) ht
    have w := w1.trans (w2.trans (w3.trans w4))
    exact k t _ _ _ (s5.trans w) (s5.free (w1.free (w2.free (w3.free ht)))) upd_same (.inr (.inl ⟨n1, S, _, rfl, w4 _ _ (w3 _ _ (w2 _ _ upd_same)), rfl, w _ _ eS5, q1.mono w, by rw [tilesB_mono q1 w]; exact q2, fun zz => o2 (q3 (lf_mono eS5 q1 q2 w zz))⟩))
  have hh : ShB ((cxOf CX0 P w K mg base nmbadtiles "_law_bad_tiles" (defScope s_law_bad_tiles) f cdv A outer s H E).nox) (defBody s_law_bad_tiles) _ := (qpss_cons (ShS.mk (ps_set (i := 2) sc_law_bad_tiles.nd rfl (by first | exact Or.inl rfl | exact Or.inr rfl) (pe_callD g__law_tiles (hr.mono (by decide)) rfl (pa_cons (pv 0) (pa_cons pe_int (pa_cons pe_int pa_nil))))))
    (qpss_cons (ShS.mk (ps_set (i := 3) sc_law_bad_tiles.nd rfl (by first | exact Or.inl rfl | exact Or.inr rfl) (pe_op op_mod (pe_op op_fdiv (pv 1) pe_int) (pe_callB (lenK K rfl) rfl T.len PySem.boot_len (pa_cons (pv 2) pa_nil)))))
    (qpss_cons (ShS.mk (ps_set (i := 4) sc_law_bad_tiles.nd rfl (by first | exact Or.inl rfl | exact Or.inr rfl) (pe_op op_mod (pe_op op_fdiv (pv 1) pe_int) (pe_callB (lenK K rfl) rfl T.len PySem.boot_len (pa_cons (pe_ix (ixK K rfl) (pv 2) (pv 3) (fun _ _ => rfl)) pa_nil)))))
    (@r3))))
  obtain ⟨hh⟩ := hh
  refine ⟨_, @hh, ?_⟩
  refine ⟨_, rfl, p, ps, R, wd, 1, 1, rfl, pic, gd, Nat.le_refl _, Nat.le_refl _, Nat.mod_one _, Nat.mod_one _, fun S ls H1 s1 nS fr tv => ?_⟩
  have gt := t11 gd
  have lG : (tilesG R wd 1 1).length = R.length := by simp [tilesG]
  have lnS : (ls.map fun l => V.ref l.1).length = R.length := by rw [List.length_map, tv.len, lG]
  refine ⟨_, rfl, _, _, rfl, rfl, ⟨by decide, by decide⟩, _, rfl, S, _, rfl, .inl (SqL.of tv.top), _, _, rfl, rfl, (by show (0 : Int) < ((ls.map fun l => V.ref l.1).length : Int); omega), ?_⟩
  rw [lnS]
  obtain ⟨y, ey, yl⟩ : ∃ y : Nat, cl / 8 % (R.length : Int) = (y : Int) ∧ y < R.length := by
   have f0 := Int.emod_nonneg (cl / 8) (show (R.length : Int) ≠ 0 by omega)
   have f1 := Int.emod_lt_of_pos (cl / 8) (show (0 : Int) < (R.length : Int) by omega)
   exact ⟨(cl / 8 % (R.length : Int)).toNat, by omega, by omega⟩
  show gName 3 (.int (cl / 8 % (R.length : Int))) _ H1 _
  rw [ey]
  obtain ⟨l, Rs, hl, hRs, lv, le, lRs, hly⟩ := tv.line gt (y := y) (by omega)
  have ln : (l.2.map fun e => V.ref e.1).length = wd := by rw [List.length_map, le]
  refine ⟨_, rfl, _, _, rfl, rfl, ⟨by decide, by decide⟩, _, rfl, _, rfl, S, _, _, .ref l.1, rfl, rfl, SqL.of tv.top, atI_nat hly, l.1, _, rfl, .inl (SqL.of lv.top), _, _, rfl, rfl, (by show (0 : Int) < ((l.2.map fun e => V.ref e.1).length : Int); omega), ?_⟩
  rw [ln]
  obtain ⟨x, ex, xl⟩ : ∃ x : Nat, cl / 192 % (wd : Int) = (x : Int) ∧ x < wd := by
   have f0 := Int.emod_nonneg (cl / 192) (show (wd : Int) ≠ 0 by omega)
   have f1 := Int.emod_lt_of_pos (cl / 192) (show (0 : Int) < (wd : Int) by omega)
   exact ⟨(cl / 192 % (wd : Int)).toNat, by omega, by omega⟩
  show gName 4 (.int (cl / 192 % (wd : Int))) _ H1 _
  rw [ex]
  exact k3 S ls y x H1 s1 tv nS fr yl xl
end
end K13
set_option Elab.async false
set_option linter.all false
set_option maxRecDepth 100000
set_option maxHeartbeats 1600000
namespace K13
open PySem L2 M4
theorem piTK {X : Cx} {tg : Expr} (K : W.Frag) (h : X.K = K) {e : Expr} {te : TE} (he : PE X e te) : PI X tg e (iTup K te) := by subst h; exact pi_tup he
theorem src_tup {K : W.Frag} {a : Addr} {xs : List V} {H : Hp} (h : SqT K H a xs) : Src (Itt K a) xs H := fun H' sm =>
 ⟨fun i x e => ⟨⟨xs, x, sm.seqT h, e⟩, fun y H2 ⟨q1, q2⟩ => ⟨by have := q2 xs (sm.seqT h); rw [e] at this; exact (Option.some.inj this).symm, q1⟩⟩, ⟨xs, sm.seqT h, Nat.le_refl _⟩⟩
section
variable {K : W.Frag} {H H' : Hp} {x : V}
theorem nt_thL (s : NT H H') (t : ThL K H x) : ThL K H' x := by
 have e := s.rowOf t.kd
 exact ⟨s.kd t.kd, fun ys h => t.len ys (by rw [← e]; exact h), fun ys h y hy => s.th (t.it ys (by rw [← e]; exact h) y hy)⟩
theorem nt_thT (s : NT H H') (t : ThT K H x) : ThT K H' x := by
 have e := s.rowOf t.kd
 exact ⟨s.kd t.kd, fun ys h => t.len ys (by rw [← e]; exact h), fun ys h y hy => nt_thL s (t.it ys (by rw [← e]; exact h) y hy)⟩
theorem nt_lineB (s : NT H H') (t : ThL K H x) : lineB H' x = lineB H x := by
 unfold lineB
 rw [s.rowOf t.kd]
 cases h : rowOf H x with
 | none => rfl
 | some ys =>
  dsimp only
  rw [all_congr fun y hy => s.picB (t.it ys h y hy)]
theorem nt_tilesB (s : NT H H') (t : ThT K H x) : tilesB H' x = tilesB H x := by
 unfold tilesB
 rw [s.rowOf t.kd]
 cases h : rowOf H x with
 | none => rfl
 | some ys =>
  dsimp only
  rw [all_congr fun y hy => nt_lineB s (t.it ys h y hy)]
theorem nt_len (s : NT H H') (k : Kd K H x) : lenOf H' x = lenOf H x := by unfold lenOf; rw [s.rowOf k]
theorem nt_sz (s : NT H H') (t : Th K H x) : szOf H' x = szOf H x := by
 unfold szOf
 rw [s.rowOf t.kd]
 cases h : rowOf H x with
 | none => rfl
 | some zs =>
  dsimp only
  cases zs with
  | nil => rfl
  | cons z r => rw [show (z :: r).headD .non = z from rfl, nt_len s (t.it _ h z List.mem_cons_self).kd]
end
theorem nt_lf {K : W.Frag} {H H1 : Hp} {p : Addr} {xs : List V} (ep : H p = some (.lst xs)) (t : ThT K H (.ref p)) (tb : tilesB H (.ref p) = true) (s : NT H H1) (z : likeT H1 xs (first0 H1 xs) ∧ fitsT H1 xs (first0 H1 xs)) : likeT H xs (first0 H xs) ∧ fitsT H xs (first0 H xs) := by
 have hx : rowOf H (.ref p) = some xs := rowOf_lst ep
 have tb' : decide (0 < xs.length) = true ∧ xs.all (lineB H) = true := by
  unfold tilesB at tb; rw [hx] at tb; exact Bool.and_eq_true_iff.mp tb
 have h0 : 0 < xs.length := of_decide_eq_true tb'.1
 have hm0 : xs.headD .non ∈ xs := by cases xs with | nil => simp at h0 | cons z r => exact List.mem_cons_self
 have tl := t.it xs hx _ hm0
 have er := s.rowOf tl.kd
 have ef : first0 H1 xs = first0 H xs := by unfold first0; rw [er]
 have eh := nt_len s tl.kd
 have tf : Th K H (first0 H xs) := by
  have q := List.all_eq_true.mp tb'.2 _ hm0
  unfold first0
  unfold lineB at q
  cases hy : rowOf H (xs.headD .non) with
  | none => rw [hy] at q; cases q
  | some ys =>
   rw [hy] at q
   have p0 := of_decide_eq_true (Bool.and_eq_true_iff.mp q).1
   exact tl.it ys hy _ (by cases ys with | nil => simp at p0 | cons z r => exact List.mem_cons_self)
 have es := nt_sz s tf
 rw [ef] at z
 refine ⟨fun x hxm => ?_, ?_⟩
 ·have tx := t.it xs hx x hxm
  have q := z.1 x hxm
  rw [nt_len s tx.kd, eh] at q
  refine ⟨q.1, fun ys hy y hym => ?_⟩
  have := q.2 ys (by rw [s.rowOf tx.kd]; exact hy) y hym
  rw [nt_sz s (tx.it ys hy y hym), es] at this
  exact this
 ·have q := z.2
  unfold fitsT at q ⊢
  rw [es, eh] at q
  exact q
theorem nt_bad {K : W.Frag} {H H' : Hp} {v : V} (s : NT H H') (b : BadV K H v) : BadV K H' v := ⟨nt_thT s b.th, by rw [nt_tilesB s b.th]; exact b.no⟩
theorem nt_tiles {H H' : Hp} {p : Addr} {ls : List (Addr × List (Addr × List Addr))} {G : List (List (List (List Int)))} (s : NT H H') (v : TilesV H p ls G) : TilesV H' p ls G :=
 ⟨s.lst v.top, v.len, fun i l Rs h1 h2 => by
  have lv := v.at_ i l Rs h1 h2
  exact ⟨s.lst lv.top, lv.len, fun j e R g1 g2 => s.pic (lv.at_ j e R g1 g2), lv.dj, lv.out⟩, v.dj, v.out⟩
theorem nt_badT {K : W.Frag} {H H' : Hp} {v nm : V} (s : NT H H') (b : BadT K H v nm) : BadT K H' v nm := by
 rcases b with ⟨n, rfl, en, th, no⟩ | ⟨n, p, xs, rfl, en, rfl, ep, th, yes, nl⟩ | ⟨p, ls, G, n, c, d, rfl, rfl, tv, gt⟩
 ·exact .inl ⟨n, rfl, s.lst en, nt_thT s th, by rw [nt_tilesB s th]; exact no⟩
 ·exact .inr (.inl ⟨n, p, xs, rfl, s.lst en, rfl, s.lst ep, nt_thT s th, by rw [nt_tilesB s th]; exact yes, fun z => nl (nt_lf ep th yes s z)⟩)
 ·exact .inr (.inr ⟨p, ls, G, n, c, d, rfl, rfl, nt_tiles s tv, gt⟩)
theorem ThL.lst {K : W.Frag} {H : Hp} {l : Addr} {ys : List V} (e : H l = some (.lst ys)) (hl : ys.length ≤ 1000) (th : ∀ y ∈ ys, Th K H y) : ThL K H (.ref l) := ⟨.lst e, fun zs h => (by rw [rowOf_lst e] at h; cases h; exact hl), fun zs h => (by rw [rowOf_lst e] at h; cases h; exact th)⟩
theorem ThT.lst {K : W.Frag} {H : Hp} {l : Addr} {ys : List V} (e : H l = some (.lst ys)) (hl : ys.length ≤ 1000) (th : ∀ y ∈ ys, ThL K H y) : ThT K H (.ref l) := ⟨.lst e, fun zs h => (by rw [rowOf_lst e] at h; cases h; exact hl), fun zs h => (by rw [rowOf_lst e] at h; cases h; exact th)⟩
theorem Th.cells {K : W.Frag} {H : Hp} {q r : Addr} {ns : List Int} (e : H q = some (.lst [.ref r])) (er : H r = some (.lst (ns.map V.int))) (hl : ns.length ≤ 1000) : Th K H (.ref q) := (Th.lst e (by show 1 ≤ 1000; decide) fun x hx => by
 rw [List.mem_singleton.mp hx]; exact Rw.lst er (by rw [List.length_map]; exact hl) kd_ints).1
theorem mem2 {α : Type} {p : α → Prop} {x y : α} (h1 : p x) (h2 : p y) : ∀ z ∈ [x, y], p z := fun z hz => by
 simp only [List.mem_cons, List.not_mem_nil, or_false] at hz
 rcases hz with rfl | rfl
 ·exact h1
 ·exact h2
theorem mem1 {α : Type} {p : α → Prop} {x : α} (h1 : p x) : ∀ z ∈ [x], p z := fun z hz => by rw [List.mem_singleton.mp hz]; exact h1
theorem odd_tiles1 {K : W.Frag} {H : Hp} {a1 a2 a3 a4 a5 b1 b2 b3 c1 : Addr} (e1 : H a1 = some (.lst [.int 1])) (e2 : H a2 = some (.lst [.ref a1])) (e3 : H a3 = some (.lst [.int 2])) (e4 : H a4 = some (.lst [.ref a3])) (e5 : H a5 = some (.lst [.ref a2, .ref a4]))
  (f1 : H b1 = some (.lst [.int 3])) (f2 : H b2 = some (.lst [.ref b1])) (f3 : H b3 = some (.lst [.ref b2])) (g1 : H c1 = some (.lst [.ref a5, .ref b3, .non])) : BadV K H (.ref c1) := by
 have t2 : Th K H (.ref a2) := Th.cells (ns := [1]) e2 e1 (by decide)
 have t4 : Th K H (.ref a4) := Th.cells (ns := [2]) e4 e3 (by decide)
 have u2 : Th K H (.ref b2) := Th.cells (ns := [3]) f2 f1 (by decide)
 refine ⟨ThT.lst g1 (by show 3 ≤ 1000; decide) fun y hy => ?_, ?_⟩
 ·simp only [List.mem_cons, List.not_mem_nil, or_false] at hy
  rcases hy with rfl | rfl | rfl
  ·exact ThL.lst e5 (by show 2 ≤ 1000; decide) (mem2 t2 t4)
  ·exact ThL.lst f3 (by show 1 ≤ 1000; decide) (mem1 u2)
  ·exact (BadL.leaf .non rfl).th
 ·unfold tilesB
  rw [rowOf_lst g1]
  dsimp only
  rw [all_no (v := V.non) (by simp) rfl, Bool.and_false]
theorem odd_tiles2 {K : W.Frag} {H : Hp} {a1 a2 a3 a4 a5 b1 b2 b3 b4 b5 c1 : Addr} (e1 : H a1 = some (.lst [.int 1])) (e2 : H a2 = some (.lst [.ref a1])) (e3 : H a3 = some (.lst [.int 1, .int 2])) (e4 : H a4 = some (.lst [.ref a3])) (e5 : H a5 = some (.lst [.ref a2, .ref a4]))
  (f1 : H b1 = some (.lst [.int 1])) (f2 : H b2 = some (.lst [.ref b1])) (f3 : H b3 = some (.lst [.int 16])) (f4 : H b4 = some (.lst [.ref b3])) (f5 : H b5 = some (.lst [.ref b2, .ref b4])) (g1 : H c1 = some (.lst [.ref a5, .ref b5])) : BadV K H (.ref c1) := by
 have t2 : Th K H (.ref a2) := Th.cells (ns := [1]) e2 e1 (by decide)
 have t4 : Th K H (.ref a4) := Th.cells (ns := [1, 2]) e4 e3 (by decide)
 have u2 : Th K H (.ref b2) := Th.cells (ns := [1]) f2 f1 (by decide)
 have u4 : Th K H (.ref b4) := Th.cells (ns := [16]) f4 f3 (by decide)
 have no : picB H (.ref b4) = false := by
  cases hb : picB H (.ref b4) with
  | false => rfl
  | true =>
   have q := ((picB_iff (rowOf_lst f4)).mp hb).2.1 (.ref b3) (by simp)
   exact absurd ((rowQ_iff f3).mp q).1 (by decide)
 have nl : lineB H (.ref b5) = false := by
  unfold lineB
  rw [rowOf_lst f5]
  dsimp only
  rw [all_no (v := V.ref b4) (by simp) no, Bool.and_false]
 refine ⟨ThT.lst g1 (by show 2 ≤ 1000; decide) (mem2 (ThL.lst e5 (by show 2 ≤ 1000; decide) (mem2 t2 t4)) (ThL.lst f5 (by show 2 ≤ 1000; decide) (mem2 u2 u4))), ?_⟩
 unfold tilesB
 rw [rowOf_lst g1]
 dsimp only
 rw [all_no (v := V.ref b5) (by simp) nl, Bool.and_false]
theorem odd_bad {K : W.Frag} {H : Hp} {l1 l4 l5 l6 l7 l8 : Addr} {v : V} (e1 : H l1 = some (.lst [])) (e4 : H l4 = some (.lst [.int 16])) (e5 : H l5 = some (.lst [.ref l4]))
  (e6 : H l6 = some (.lst [.int 1])) (e7 : H l7 = some (.lst [.int 1, .int 2])) (e8 : H l8 = some (.lst [.ref l6, .ref l7])) (h : v ∈ [V.non, .ref l1, .ref l5, .ref l8, .str "0"]) : Th K H v ∧ picB H v = false := by
 have bad : ∀ {v}, (picB H v = true → False) → picB H v = false := fun {v} hf => by
  cases hb : picB H v with
  | false => rfl
  | true => exact (hf hb).elim
 have kin : ∀ (ms : List Int), ∀ y ∈ ms.map V.int, Kd K H y := fun ms => kd_ints
 simp only [List.mem_cons, List.not_mem_nil, or_false] at h
 rcases h with rfl | rfl | rfl | rfl | rfl
 ·exact ⟨⟨.non, fun xs z => (by cases z), fun xs z => (by cases z)⟩, rfl⟩
 ·refine ⟨(Th.lst e1 (Nat.zero_le _) fun x hx => nomatch hx).1, ?_⟩
  unfold picB; rw [rowOf_lst e1]; rfl
 ·refine ⟨(Th.lst e5 (by show 1 ≤ 1000; decide) fun x hx => ?_).1, bad fun hb => ?_⟩
  ·rw [List.mem_singleton.mp hx]; exact Rw.lst e4 (by decide) (kin [16])
  ·have q := ((picB_iff (rowOf_lst e5)).mp hb).2.1 (.ref l4) (by simp)
   have q2 := ((rowQ_iff e4).mp q).1
   cases q2
 ·refine ⟨(Th.lst e8 (by show 2 ≤ 1000; decide) fun x hx => ?_).1, bad fun hb => ?_⟩
  ·simp only [List.mem_cons, List.not_mem_nil, or_false] at hx
   rcases hx with rfl | rfl
   ·exact Rw.lst e6 (by decide) (kin [1])
   ·exact Rw.lst e7 (by decide) (kin [1, 2])
  ·have q := ((picB_iff (rowOf_lst e8)).mp hb).2.2 (.ref l7) (by simp)
   rw [lenOf_lst e7, show [V.ref l6, .ref l7].headD .non = V.ref l6 from rfl, lenOf_lst e6] at q
   cases q
 ·exact ⟨⟨.str _, fun xs z => (by cases z), fun xs z => (by cases z)⟩, rfl⟩
theorem told_upd {H : Hp} {tt nn L t : Addr} {b0 b1 : Bool} {rest : List V} {o : HO} (h : Told H tt nn b0 b1) (eL : H L = some (.lst (.ref t :: rest))) : Told (upd H L o) tt nn b0 b1 := by
 have n1 : tt ≠ L := fun z => by have e := h.top; rw [z, eL] at e; cases e
 have n2 : nn ≠ L := fun z => by have e := h.row; rw [z, eL] at e; cases e
 exact ⟨by rw [upd_ne n1]; exact h.top, by rw [upd_ne n2]; exact h.row⟩
theorem EqD.self {K : W.Frag} {H : Hp} {a : Addr} : ∀ n, EqD K H n (.ref a) (.ref a) true
 | 0 => .inl ⟨a, rfl, rfl, rfl⟩
 | n + 1 => .inl (EqD.self n)
theorem eqd_ref {K : W.Frag} {H : Hp} {n : Nat} {x y : Addr} (e : EqL K H (EqD K H n) x y true) : EqD K H (n + 1) (.ref x) (.ref y) true := by
 by_cases h : x = y
 ·subst h; exact .inl (EqD.self _)
 ·exact .inr ⟨x, y, rfl, rfl, h, e⟩
theorem EqL.tolds {K : W.Frag} {H : Hp} {p q u m : Addr} {ts : List Addr} {n : Nat} (hp : H p = some (.lst (ts.map V.ref))) (hq : H q = some (.lst (List.replicate n (V.ref u)))) (hn : ts.length = n) (ht : ∀ t ∈ ts, ∃ nn, Told H t nn true false) (hu : Told H u m true false) : EqL K H (EqD K H 2) p q true := by
 refine ⟨_, _, .inr ⟨.inl ⟨SqL.of hp, SqL.of hq⟩, by rw [List.length_map, List.length_replicate]; exact hn, fun _ => true, fun i x y e1 e2 => ?_, (range_all fun _ _ => rfl).symm⟩⟩
 obtain ⟨t, htm, rfl⟩ := List.mem_map.mp (List.mem_of_getElem? e1)
 rw [(List.mem_replicate.mp (List.mem_of_getElem? e2)).2]
 obtain ⟨nn, tn⟩ := ht t htm
 exact eqd_ref (EqL.told tn hu)
theorem EqL.two {K : W.Frag} {H : Hp} {n : Nat} {p q x1 x2 y1 y2 : Addr} (hp : H p = some (.lst [.ref x1, .ref x2])) (hq : H q = some (.lst [.ref y1, .ref y2])) (h1 : EqL K H (EqD K H n) x1 y1 true) (h2 : EqL K H (EqD K H n) x2 y2 true) : EqL K H (EqD K H (n + 1)) p q true := by
 refine ⟨_, _, .inr ⟨.inl ⟨SqL.of hp, SqL.of hq⟩, rfl, fun _ => true, fun i x y e1 e2 => ?_, rfl⟩⟩
 match i, e1, e2 with
 | 0, e1, e2 => cases e1; cases e2; exact eqd_ref h1
 | 1, e1, e2 => cases e1; cases e2; exact eqd_ref h2
 | i + 2, e1, e2 => cases e1
noncomputable def rng24 : List V := (List.range 24).map fun (i : Nat) => V.int (1 + (i : Int))
noncomputable def dvP (n : Int) (x : V) : Bool := match x with | .int s => decide (V.int (n % s) = V.int 0) | _ => false
noncomputable def divG (v : V) : List V := match v with | .int n => (rng24.filter (dvP n)).map fun x => x | _ => []
theorem div_mem {n : Int} {x : V} (h : x ∈ divG (.int n)) : ∃ s : Int, x = .int s ∧ 1 ≤ s ∧ s ≤ 24 := by
 have h : x ∈ (rng24.filter (dvP n)).map fun x => x := h
 obtain ⟨y, hy, rfl⟩ := List.mem_map.mp h
 obtain ⟨i, hi, rfl⟩ := List.mem_map.mp (List.mem_filter.mp hy).1
 have := List.mem_range.mp hi
 exact ⟨_, rfl, by omega, by omega⟩
theorem div_pos (n : Int) : 0 < (divG (.int n)).length := by
 refine List.length_pos_of_mem (a := V.int 1) ?_
 show V.int 1 ∈ (rng24.filter (dvP n)).map fun x => x
 refine List.mem_map.mpr ⟨_, List.mem_filter.mpr ⟨List.mem_map.mpr ⟨0, List.mem_range.mpr (by decide), rfl⟩, ?_⟩, rfl⟩
 show decide (V.int (n % (1 + ((0 : Nat) : Int))) = V.int 0) = true
 exact decide_eq_true (by congr 1; omega)
structure Dt (K : W.Frag) (ms : Tbs) (a : Addr) (ns : List Int) (A1 A2 hd h0 h1 : Addr) (ps qs ps' qs' : List Addr) (R S : List (List Int)) (wd u : Nat) (H : Hp) : Prop where
 tab : AllG ms H
 sq : SqL K H a (ns.map V.int)
 pa : PicV H A1 ps (ir R)
 pb : PicV H A2 qs (ir S)
 eh : H hd = some (.lst [.ref h0, .ref h1])
 ph : PicV H h0 ps' (ir R)
 pk : PicV H h1 qs' (ir S)
 g1 : Good R wd
 g2 : Good S u
section
variable {K : W.Frag} {ms : Tbs} {a : Addr} {ns : List Int} {A1 A2 hd h0 h1 : Addr} {ps qs ps' qs' : List Addr} {R S : List (List Int)} {wd u : Nat} {H H' : Hp}
theorem Dt.mono (d : Dt K ms a ns A1 A2 hd h0 h1 ps qs ps' qs' R S wd u H) (s : Same H H') : Dt K ms a ns A1 A2 hd h0 h1 ps qs ps' qs' R S wd u H' :=
 ⟨d.tab.mono s, s.seq d.sq, d.pa.mono s, d.pb.mono s, s _ _ d.eh, d.ph.mono s, d.pk.mono s, d.g1, d.g2⟩
theorem Dt.nt (d : Dt K ms a ns A1 A2 hd h0 h1 ps qs ps' qs' R S wd u H) (m : NT H H') (tab : AllG ms H') : Dt K ms a ns A1 A2 hd h0 h1 ps qs ps' qs' R S wd u H' :=
 ⟨tab, m.sq d.sq, m.pic d.pa, m.pic d.pb, m.lst d.eh, m.pic d.ph, m.pic d.pk, d.g1, d.g2⟩
theorem Dt.ok (d : Dt K ms a ns A1 A2 hd h0 h1 ps qs ps' qs' R S wd u H) (o : Ok ms H H') : Dt K ms a ns A1 A2 hd h0 h1 ps qs ps' qs' R S wd u H' := d.nt (d.tab.nt o.but) o.tab
end
theorem ok_upd {ms : Tbs} {H H' : Hp} {L : Addr} {xs : List V} {o : HO} (k : Ok ms H H') (h : H L = none) (eL : H' L = some (.lst xs)) : Ok ms H (upd H' L o) :=
 ⟨fun b u n e => by rw [upd_ne (ne_of_none e h)]; exact k.but b u n e, k.tab.keep (fq := [L]) (fun b u e n => by rw [upd_ne (by simpa using n)]; exact e) fun x hx => ⟨xs, by rw [List.mem_singleton.mp hx]; exact eL⟩⟩
structure GoV (H : Hp) (D : Addr) (wd hg : Nat) : Prop where
 top : ∃ x y, H D = some (.lst [V.ref x, .ref y]) ∧ H x = some (.lst (divG (.int (wd : Int)))) ∧ H y = some (.lst (divG (.int (hg : Int))))
noncomputable def spLaw (ms : Tbs) (K : W.Frag) : Sp := fun vs H Q _ => ∃ (a : Addr) (ns : List Int), vs = [.ref a] ∧ SqL K H a (ns.map V.int) ∧ (∀ m ∈ ms, H m.1 = some (.tbl #[])) ∧ ∀ H', Q (.bl true) H'
section
variable {P : Program} {w : World} {K : W.Frag} {mg : Str → Option Value} {base : Heap} {cFE cBP cBS : Addr} {tS tC : Tok}
noncomputable abbrev nmlaw : List Str := ["_law_script", "_law_picture_here", "_law_other_here", "_law_handed", "_law_across", "_law_down", "_law_goes", "_law_more", "_law_wide", "_law_high", "_law_tiles_here", "_law_names", "_law_found", "_law_bad", "_law_told"]
theorem sc_law : FnScope ["_law_script", "_law_picture_here", "_law_other_here", "_law_handed", "_law_across", "_law_down", "_law_goes", "_law_more", "_law_wide", "_law_high", "_law_tiles_here", "_law_names", "_law_found", "_law_bad", "_law_told"] ["_law_script"] (defScope s_law) := ⟨rfl, rfl, rfl, by decide +kernel, rfl, by decide +kernel, by decide +kernel⟩
theorem ok_law {ms : Tbs} {f c0 p : Addr} {fd : FuncData} (F : FunD K "law" "law" s_law .none f fd) (hc : fd.code = .ref c0) (hC : W.CodeHd base c0 p) (hB : BMain mg base) (nd : ∀ a ∈ ms, ∀ b ∈ ms, a.1 = b.1 → a = b) (hm : (p, qL) ∈ ms) (T : Txt K mg cFE cBP cBS tS tC)
  (gB : ∀ base', BaseOk K mg base' → Def P w K mg base' 12 "_law_refused" ["_law_deed"] [] (spRef P w K mg cBP cBS base')) (gSB : ∀ base', BaseOk K mg base' → DefX P w K mg base' 9 "set_beside" ["one", "other"] [] (spTwo noBeside besideF K cBP cBS)) (gSA : ∀ base', BaseOk K mg base' → DefX P w K mg base' 9 "set_above" ["one", "other"] [] (spTwo noAbove (fun R S => R ++ S) K cBP cBS)) (gTI : ∀ base', BaseOk K mg base' → DefX P w K mg base' 9 "tiled" ["picture", "across", "down"] [] (spTiled K cBP cBS)) (gTO : ∀ base', BaseOk K mg base' → DefX P w K mg base' 9 "tiles_of" ["picture", "wide", "high"] [] (spTiles K cBP cBS)) (gF : ∀ base', BaseOk K mg base' → DefX P w K mg base' 10 "from_tiles" ["tiles"] [] (spFrom K cBP cBS))
  (g__law_cell_at : Def P w K mg base 2 "_law_cell_at" ["_law_script", "_law_k"] [] (spCell K)) (g__law_picture : Def P w K mg base 3 "_law_picture" ["_law_script", "_law_at", "_law_most"] [] (spPicture K)) (g__law_copied : Def P w K mg base 2 "_law_copied" ["_law_picture_here"] [] (spCopied K)) (g__law_other : Def P w K mg base 4 "_law_other" ["_law_script", "_law_picture_here"] [] (spOther K)) (g__law_step : Def P w K mg base 1 "_law_step" ["_law_cell"] [] (spStep K)) (g__law_joined_right : Def P w K mg base 13 "_law_joined_right" ["_law_one", "_law_other_here"] [] (spJoin K ms)) (g__law_tiled_right : Def P w K mg base 13 "_law_tiled_right" ["_law_picture_here", "_law_handed", "_law_across", "_law_down"] [] (spTiledR K ms)) (g__law_tiles_right : Def P w K mg base 13 "_law_tiles_right" ["_law_picture_here", "_law_handed", "_law_wide", "_law_high"] [] (spTiledR K ms)) (g__law_bad_tiles : Def P w K mg base 2 "_law_bad_tiles" ["_law_picture_here", "_law_cell"] [] (spBadT K)) : FnOk P w K mg base CX0 14 f fd ["_law_script"] (spLaw ms K) := by
 refine F.okT hc sc_law (fun vs H Q E h => ?_) (fun cdv hcdv A outer s H vs Q E hr h => ?_)
 ·obtain ⟨a, ns, rfl, _⟩ := h; rfl
 ·obtain ⟨a, ns, rfl, hS, hp, k⟩ := h
  have hu : _ + 64 < cLine := hr.units
  have hpm := List.mem_map_of_mem (f := fun x : Addr × Str => x.1) hm
  obtain ⟨t18, r18, k18⟩ : ∃ tr, PSs ((cxOf CX0 P w K mg base nmlaw "law" (defScope s_law) f cdv A outer s H E).nox) ((defBody s_law).drop 18) tr ∧
    ∀ (w2 w3 w4 w5 w6 w7 w8 w9 w10 w11 w12 : Option V) (w14 : Option V) (A1 : Addr) (ps : List Addr) (R : List (List Int)) (wd : Nat) (v : V) (H2 : Hp), AllG ms H2 → Th K H2 v → picB H2 v = false → PicV H2 A1 ps (ir R) → Good R wd → tr { nx := fun _ H' => Q .non H', rt := Q } [some (.ref a), some (.ref A1), w2, w3, w4, w5, w6, w7, w8, w9, w10, w11, w12, some v, w14] H2 := by
   refine ⟨_, (pss_cons (ps_set (i := 14) sc_law.nd rfl (by first | exact Or.inl rfl | exact Or.inr rfl) (pe_lst (pa_cons (pe_callR0 gB hB (hr.mono (by decide)) rfl (pa_cons (pe_lamD hcdv hC hB (FreeHas.of fhH) rfl) pa_nil)) (pa_cons (pe_callR0 gB hB (hr.mono (by decide)) rfl (pa_cons (pe_lamD hcdv hC hB (FreeHas.of fhI) rfl) pa_nil)) pa_nil))))
    (pss_cons (ps_expr (pe_bm PySem.F.plainAttrs_list PySem.F.slot_list_append PySem.F.type_list_append mt_append (pv 14) (pa_cons (pe_callR0 gB hB (hr.mono (by decide)) rfl (pa_cons (pe_lamD hcdv hC hB (FreeHas.of fhK) rfl) pa_nil)) pa_nil)))
    (pss_cons (ps_expr (pe_bm PySem.F.plainAttrs_list PySem.F.slot_list_append PySem.F.type_list_append mt_append (pv 14) (pa_cons (pe_callR0 gB hB (hr.mono (by decide)) rfl (pa_cons (pe_lamD hcdv hC hB (FreeHas.of fhL) rfl) pa_nil)) pa_nil)))
    (pss_cons (ps_set (i := 14) sc_law.nd rfl (by first | exact Or.inl rfl | exact Or.inr rfl) (pe_op op_cat (pv 14) (pe_lst (pa_cons (pe_callR0 gB hB (hr.mono (by decide)) rfl (pa_cons (pe_lamD hcdv hC hB (FreeHas.of fhM) rfl) pa_nil)) (pa_cons (pe_callR0 gB hB (hr.mono (by decide)) rfl (pa_cons (pe_lamD hcdv hC hB (FreeHas.of fhN) rfl) pa_nil)) pa_nil)))))
    (pss_one (ps_ret (pe_cmpR (eqDK K rfl hu) (pv 14) (pe_op op_rep (pe_lst (pa_cons (pe_tup (pa_cons pe_str (pa_cons (pe_lst (pa_cons pe_bl (pa_cons pe_bl pa_nil))) (pa_cons pe_bl pa_nil)))) pa_nil)) pe_int) (nomark _)))))))), ?_⟩
   intro w2 w3 w4 w5 w6 w7 w8 w9 w10 w11 w12 w14 A1 ps R wd v H2 tabH th hb pa gd
   have ok0 := Ok.refl tabH
   dsimp only [tSeq, tAsg, tLst, tCallR0, tCons, tLamC]
   intro T1 hT1
   have z := same_new (o := HO.tup [V.int 0]) hT1
   have ok0 := ok0.same z
   have eT := upd_same (H := H2) (a := T1) (o := HO.tup [V.int 0])
   clear z
   generalize upd H2 T1 (.tup [.int 0]) = J1 at ok0 eT ⊢
   refine tLamW_of (ts := ms.map (·.1)) hpm ok0.tab.hts (ok0.tab _ hm) fun f1 c1 J2 bt ot tb hf hcd base' ok cap => ?_
   have mm := ok0.tab.nt bt
   have eT := mm.tup eT
   have ok0 := ok0.lam nd hm bt ot tb
   have n0 := tabH.nt ok0.but
   refine ⟨f1, _, _, rfl, hf, lamXH rfl (gSB base' ok) clOf_hasL (cells_of cap (FreeHas.of fhH) rfl fun i x y e1 e2 => ?_), fun E' kP kS => ⟨hf, hcd, eT, v, .ref A1, rfl, .inl ⟨n0.th th, (n0.picB th).trans hb, fun J3 s5 => kP J3 fun n1 q1 J4 s6 hn ht en et => ?_⟩⟩⟩
   ·match i, e1, e2 with
    | 0, e1, e2 => cases e1; cases e2; exact ⟨by decide +kernel, rfl, 13, rfl, rfl⟩
    | 1, e1, e2 => cases e1; cases e2; exact ⟨by decide +kernel, rfl, 1, rfl, rfl⟩
    | i + 2, e1, e2 => cases e1
   have s56 := s5.trans s6
   have ok0 := ok0.same s56
   have d1 : Told J4 q1 n1 true false := ⟨et, en⟩
   intro T2 hT2
   have z := same_new (o := HO.tup [V.int 0]) hT2
   have ok0 := ok0.same z
   have d1 := d1.mono z
   have eT := upd_same (H := J4) (a := T2) (o := HO.tup [V.int 0])
   clear z
   generalize upd J4 T2 (.tup [.int 0]) = J5 at ok0 d1 eT ⊢
   refine tLamW_of (ts := ms.map (·.1)) hpm ok0.tab.hts (ok0.tab _ hm) fun f2 c2 J6 bt ot tb hf hcd base' ok cap => ?_
   have mm := ok0.tab.nt bt
   have eT := mm.tup eT
   have ok0 := ok0.lam nd hm bt ot tb
   have n0 := tabH.nt ok0.but
   have d1 := d1.nt mm
   refine ⟨f2, _, _, rfl, hf, lamXI rfl (gSA base' ok) clOf_hasL (cells_of cap (FreeHas.of fhI) rfl fun i x y e1 e2 => ?_), fun E' kP kS => ⟨hf, hcd, eT, .ref A1, v, rfl, .inr ⟨A1, ps, R, wd, rfl, n0.pic pa, gd, .inl ⟨n0.th th, (n0.picB th).trans hb, fun J7 s5 => kP J7 fun n2 q2 J8 s6 hn ht en et => ?_⟩⟩⟩⟩
   ·match i, e1, e2 with
    | 0, e1, e2 => cases e1; cases e2; exact ⟨by decide +kernel, rfl, 1, rfl, rfl⟩
    | 1, e1, e2 => cases e1; cases e2; exact ⟨by decide +kernel, rfl, 13, rfl, rfl⟩
    | i + 2, e1, e2 => cases e1
   have s56 := s5.trans s6
   have ok0 := ok0.same s56
   have d1 := d1.mono s56
   have d2 : Told J8 q2 n2 true false := ⟨et, en⟩
   refine ⟨sz2, fun L hL => ?_⟩
   have hL0 : H2 L = none := ok0.back hL
   have z := same_new (o := HO.lst [V.ref q1, .ref q2]) hL
   have ok0 := ok0.same z
   have d1 := d1.mono z
   have d2 := d2.mono z
   have eL : upd J8 L (.lst [V.ref q1, .ref q2]) L = some (.lst [V.ref q1, .ref q2]) := upd_same
   clear z
   generalize upd J8 L (.lst [V.ref q1, .ref q2]) = J9 at ok0 d1 d2 eL ⊢
   refine ⟨_, rfl, .inl ⟨rfl, _, SqL.of eL⟩, ?_⟩
   dsimp only [tCallR0, tCons, tLamC]
   intro T3 hT3
   have z := same_new (o := HO.tup [V.int 0]) hT3
   have ok0 := ok0.same z
   have d1 := d1.mono z
   have d2 := d2.mono z
   have eL := z _ _ eL
   have eT := upd_same (H := J9) (a := T3) (o := HO.tup [V.int 0])
   clear z
   generalize upd J9 T3 (.tup [.int 0]) = J10 at ok0 d1 d2 eL eT ⊢
   refine tLamW_of (ts := ms.map (·.1)) hpm ok0.tab.hts (ok0.tab _ hm) fun f3 c3 J11 bt ot tb hf hcd base' ok cap => ?_
   have mm := ok0.tab.nt bt
   have eT := mm.tup eT
   have ok0 := ok0.lam nd hm bt ot tb
   have n0 := tabH.nt ok0.but
   have d1 := d1.nt mm
   have d2 := d2.nt mm
   have eL := mm.lst eL
   refine ⟨f3, _, _, rfl, hf, lamXK rfl (gSB base' ok) clOf_hasL (cells_of cap (FreeHas.of fhK) rfl fun i x y e1 e2 => ?_), fun E' kP kS => ⟨hf, hcd, eT, .ref A1, v, rfl, .inr ⟨A1, ps, R, wd, rfl, n0.pic pa, gd, .inl ⟨n0.th th, (n0.picB th).trans hb, fun J12 s5 => kP J12 fun n3 q3 J13 s6 hn ht en et => ?_⟩⟩⟩⟩
   ·match i, e1, e2 with
    | 0, e1, e2 => cases e1; cases e2; exact ⟨by decide +kernel, rfl, 1, rfl, rfl⟩
    | 1, e1, e2 => cases e1; cases e2; exact ⟨by decide +kernel, rfl, 13, rfl, rfl⟩
    | i + 2, e1, e2 => cases e1
   have s56 := s5.trans s6
   have ok0 := ok0.same s56
   have d1 := d1.mono s56
   have d2 := d2.mono s56
   have eL := s56 _ _ eL
   have d3 : Told J13 q3 n3 true false := ⟨et, en⟩
   refine ⟨L, _, _, rfl, rfl, eL, (by show 2 < sizeLine; decide), ?_⟩
   have ok0 := ok_upd (o := .lst ([V.ref q1, .ref q2] ++ [.ref q3])) ok0 hL0 eL
   have d1 := told_upd (o := .lst ([V.ref q1, .ref q2] ++ [.ref q3])) d1 eL
   have d2 := told_upd (o := .lst ([V.ref q1, .ref q2] ++ [.ref q3])) d2 eL
   have d3 := told_upd (o := .lst ([V.ref q1, .ref q2] ++ [.ref q3])) d3 eL
   have eL : upd J13 L (.lst ([V.ref q1, .ref q2] ++ [.ref q3])) L = some (.lst [V.ref q1, .ref q2, .ref q3]) := upd_same
   generalize upd J13 L (.lst ([V.ref q1, .ref q2] ++ [.ref q3])) = J14 at ok0 d1 d2 d3 eL ⊢
   refine ⟨_, rfl, .inl ⟨rfl, _, SqL.of eL⟩, ?_⟩
   dsimp only [tCallR0, tCons, tLamC]
   intro T4 hT4
   have z := same_new (o := HO.tup [V.int 0]) hT4
   have ok0 := ok0.same z
   have d1 := d1.mono z
   have d2 := d2.mono z
   have d3 := d3.mono z
   have eL := z _ _ eL
   have eT := upd_same (H := J14) (a := T4) (o := HO.tup [V.int 0])
   clear z
   generalize upd J14 T4 (.tup [.int 0]) = J15 at ok0 d1 d2 d3 eL eT ⊢
   refine tLamW_of (ts := ms.map (·.1)) hpm ok0.tab.hts (ok0.tab _ hm) fun f4 c4 J16 bt ot tb hf hcd base' ok cap => ?_
   have mm := ok0.tab.nt bt
   have eT := mm.tup eT
   have ok0 := ok0.lam nd hm bt ot tb
   have n0 := tabH.nt ok0.but
   have d1 := d1.nt mm
   have d2 := d2.nt mm
   have d3 := d3.nt mm
   have eL := mm.lst eL
   refine ⟨f4, _, _, rfl, hf, lamXL rfl (gSA base' ok) clOf_hasL (cells_of cap (FreeHas.of fhL) rfl fun i x y e1 e2 => ?_), fun E' kP kS => ⟨hf, hcd, eT, v, .ref A1, rfl, .inl ⟨n0.th th, (n0.picB th).trans hb, fun J17 s5 => kP J17 fun n4 q4 J18 s6 hn ht en et => ?_⟩⟩⟩
   ·match i, e1, e2 with
    | 0, e1, e2 => cases e1; cases e2; exact ⟨by decide +kernel, rfl, 13, rfl, rfl⟩
    | 1, e1, e2 => cases e1; cases e2; exact ⟨by decide +kernel, rfl, 1, rfl, rfl⟩
    | i + 2, e1, e2 => cases e1
   have s56 := s5.trans s6
   have ok0 := ok0.same s56
   have d1 := d1.mono s56
   have d2 := d2.mono s56
   have d3 := d3.mono s56
   have eL := s56 _ _ eL
   have d4 : Told J18 q4 n4 true false := ⟨et, en⟩
   refine ⟨L, _, _, rfl, rfl, eL, (by show 3 < sizeLine; decide), ?_⟩
   have ok0 := ok_upd (o := .lst ([V.ref q1, .ref q2, .ref q3] ++ [.ref q4])) ok0 hL0 eL
   have d1 := told_upd (o := .lst ([V.ref q1, .ref q2, .ref q3] ++ [.ref q4])) d1 eL
   have d2 := told_upd (o := .lst ([V.ref q1, .ref q2, .ref q3] ++ [.ref q4])) d2 eL
   have d3 := told_upd (o := .lst ([V.ref q1, .ref q2, .ref q3] ++ [.ref q4])) d3 eL
   have d4 := told_upd (o := .lst ([V.ref q1, .ref q2, .ref q3] ++ [.ref q4])) d4 eL
   have eL : upd J18 L (.lst ([V.ref q1, .ref q2, .ref q3] ++ [.ref q4])) L = some (.lst [V.ref q1, .ref q2, .ref q3, .ref q4]) := upd_same
   generalize upd J18 L (.lst ([V.ref q1, .ref q2, .ref q3] ++ [.ref q4])) = J19 at ok0 d1 d2 d3 d4 eL ⊢
   refine ⟨_, rfl, ?_⟩
   dsimp only [tLst, tCallR0, tCons, tLamC]
   intro T5 hT5
   have z := same_new (o := HO.tup [V.int 0]) hT5
   have ok0 := ok0.same z
   have d1 := d1.mono z
   have d2 := d2.mono z
   have d3 := d3.mono z
   have d4 := d4.mono z
   have eL := z _ _ eL
   have eT := upd_same (H := J19) (a := T5) (o := HO.tup [V.int 0])
   clear z
   generalize upd J19 T5 (.tup [.int 0]) = J20 at ok0 d1 d2 d3 d4 eL eT ⊢
   refine tLamW_of (ts := ms.map (·.1)) hpm ok0.tab.hts (ok0.tab _ hm) fun f5 c5 J21 bt ot tb hf hcd base' ok cap => ?_
   have mm := ok0.tab.nt bt
   have eT := mm.tup eT
   have ok0 := ok0.lam nd hm bt ot tb
   have n0 := tabH.nt ok0.but
   have d1 := d1.nt mm
   have d2 := d2.nt mm
   have d3 := d3.nt mm
   have d4 := d4.nt mm
   have eL := mm.lst eL
   refine ⟨f5, _, _, rfl, hf, lamXM rfl (gTI base' ok) clOf_hasL (cells_of cap (FreeHas.of fhM) rfl fun i x y e1 e2 => ?_), fun E' kP kS => ⟨hf, hcd, eT, v, .int 0, .int 0, rfl, .inl ⟨n0.th th, (n0.picB th).trans hb, fun J22 s5 => kP J22 fun n5 q5 J23 s6 hn ht en et => ?_⟩⟩⟩
   ·match i, e1, e2 with
    | 0, e1, e2 => cases e1; cases e2; exact ⟨by decide +kernel, rfl, 13, rfl, rfl⟩
    | i + 1, e1, e2 => cases e1
   have s56 := s5.trans s6
   have ok0 := ok0.same s56
   have d1 := d1.mono s56
   have d2 := d2.mono s56
   have d3 := d3.mono s56
   have d4 := d4.mono s56
   have eL := s56 _ _ eL
   have d5 : Told J23 q5 n5 true false := ⟨et, en⟩
   intro T6 hT6
   have z := same_new (o := HO.tup [V.int 0]) hT6
   have ok0 := ok0.same z
   have d1 := d1.mono z
   have d2 := d2.mono z
   have d3 := d3.mono z
   have d4 := d4.mono z
   have d5 := d5.mono z
   have eL := z _ _ eL
   have eT := upd_same (H := J23) (a := T6) (o := HO.tup [V.int 0])
   clear z
   generalize upd J23 T6 (.tup [.int 0]) = J24 at ok0 d1 d2 d3 d4 d5 eL eT ⊢
   refine tLamW_of (ts := ms.map (·.1)) hpm ok0.tab.hts (ok0.tab _ hm) fun f6 c6 J25 bt ot tb hf hcd base' ok cap => ?_
   have mm := ok0.tab.nt bt
   have eT := mm.tup eT
   have ok0 := ok0.lam nd hm bt ot tb
   have n0 := tabH.nt ok0.but
   have d1 := d1.nt mm
   have d2 := d2.nt mm
   have d3 := d3.nt mm
   have d4 := d4.nt mm
   have d5 := d5.nt mm
   have eL := mm.lst eL
   refine ⟨f6, _, _, rfl, hf, lamXN rfl (gTO base' ok) clOf_hasL (cells_of cap (FreeHas.of fhN) rfl fun i x y e1 e2 => ?_), fun E' kP kS => ⟨hf, hcd, eT, v, .int 0, .int 0, rfl, .inl ⟨n0.th th, (n0.picB th).trans hb, fun J26 s5 => kP J26 fun n6 q6 J27 s6 hn ht en et => ?_⟩⟩⟩
   ·match i, e1, e2 with
    | 0, e1, e2 => cases e1; cases e2; exact ⟨by decide +kernel, rfl, 13, rfl, rfl⟩
    | i + 1, e1, e2 => cases e1
   have s56 := s5.trans s6
   have ok0 := ok0.same s56
   have d1 := d1.mono s56
   have d2 := d2.mono s56
   have d3 := d3.mono s56
   have d4 := d4.mono s56
   have d5 := d5.mono s56
   have eL := s56 _ _ eL
   have d6 : Told J27 q6 n6 true false := ⟨et, en⟩
   refine ⟨sz2, fun M hM => ?_⟩
   have z := same_new (o := HO.lst [V.ref q5, .ref q6]) hM
   have ok0 := ok0.same z
   have d1 := d1.mono z
   have d2 := d2.mono z
   have d3 := d3.mono z
   have d4 := d4.mono z
   have d5 := d5.mono z
   have d6 := d6.mono z
   have eL := z _ _ eL
   have eM : upd J27 M (.lst [V.ref q5, .ref q6]) M = some (.lst [V.ref q5, .ref q6]) := upd_same
   clear z
   generalize upd J27 M (.lst [V.ref q5, .ref q6]) = J28 at ok0 d1 d2 d3 d4 d5 d6 eL eM ⊢
   refine ⟨L, M, _, _, rfl, rfl, eL, eM, (by show 4 + 2 ≤ sizeLine; decide), fun L2 hL2 => ?_⟩
   have z := same_new (o := HO.lst ([V.ref q1, .ref q2, .ref q3, .ref q4] ++ [V.ref q5, .ref q6])) hL2
   have ok0 := ok0.same z
   have d1 := d1.mono z
   have d2 := d2.mono z
   have d3 := d3.mono z
   have d4 := d4.mono z
   have d5 := d5.mono z
   have d6 := d6.mono z
   have eL := z _ _ eL
   have eN : upd J28 L2 (HO.lst ([V.ref q1, .ref q2, .ref q3, .ref q4] ++ [V.ref q5, .ref q6])) L2 = some (.lst ([q1, q2, q3, q4, q5, q6].map V.ref)) := upd_same
   clear z
   generalize upd J28 L2 (HO.lst ([V.ref q1, .ref q2, .ref q3, .ref q4] ++ [V.ref q5, .ref q6])) = J29 at ok0 d1 d2 d3 d4 d5 d6 eL eN ⊢
   refine ⟨_, rfl, sz2, fun m hm' => ⟨sz3, fun u' hu' => ⟨sz1, fun g hg => ⟨g, 6, _, rfl, rfl, upd_same, by decide, by decide, (by show 1 * 6 ≤ sizeLine; decide), fun r hr' => ?_⟩⟩⟩⟩
   have y4 := same_new (o := HO.lst (List.replicate (6 : Int).toNat [V.ref u']).flatten) hr'
   have y3 := (same_new (o := HO.lst [V.ref u']) hg).trans y4
   have y2 := (same_new (o := HO.tup [V.str "refused", .ref m, .bl true]) hu').trans y3
   have y1 := (same_new (o := HO.lst [V.bl true, .bl false]) hm').trans y2
   have e0 : Told _ u' m true false := ⟨y3 _ _ upd_same, y2 _ _ upd_same⟩
   refine ⟨2, L2, r, true, by decide, rfl, rfl, EqL.tolds (ts := [q1, q2, q3, q4, q5, q6]) (n := 6) (y1 _ _ eN) upd_same rfl (fun t ht => ?_) e0, k _⟩
   simp only [List.mem_cons, List.not_mem_nil, or_false] at ht
   rcases ht with rfl | rfl | rfl | rfl | rfl | rfl
   ·exact ⟨_, d1.mono y1⟩
   ·exact ⟨_, d2.mono y1⟩
   ·exact ⟨_, d3.mono y1⟩
   ·exact ⟨_, d4.mono y1⟩
   ·exact ⟨_, d5.mono y1⟩
   ·exact ⟨_, d6.mono y1⟩
  obtain ⟨px, q1, q2, q3, z1, z2, z3, z4, z5, z6, j1, j2, e1, e2, e3, e4, e5, hsh, l1, l2, l3, l4, l5⟩ : ∃ (px q1 q2 q3 z1 z2 z3 z4 z5 z6 : Pos) (j1 j2 : Nat) (e1 e2 e3 e4 e5 : PySem.Expr), (defBody s_law)[17]? = some (.Assign [.Name "_law_bad" px] (.Subscript (.List [e1, e2, e3, e4, e5] q1) (.BinOp (.Call (.Name "_law_cell_at" z1) [(.Name "_law_script" z2), (.Constant (.int 11) j1 z3)] [] z4) .Mod (.Constant (.int 5) j2 z5) z6) q2) q3) ∧ LitE e1 (L2.tC .non) ∧ LitE e2 (tLst tNil) ∧ LitE e3 (tLst (tCons (tLst (tCons (L2.tC (.int 16)) tNil)) tNil)) ∧ LitE e4 (tLst (tCons (tLst (tCons (L2.tC (.int 1)) tNil)) (tCons (tLst (tCons (L2.tC (.int 1)) (tCons (L2.tC (.int 2)) tNil))) tNil))) ∧ LitE e5 (L2.tC (.str "0")) := ⟨_, _, _, _, _, _, _, _, _, _, _, _, _, _, _, _, _, rfl, lit_non, (lit_lst la_nil), (lit_lst (la_cons (lit_lst (la_cons lit_int la_nil)) la_nil)), (lit_lst (la_cons (lit_lst (la_cons lit_int la_nil)) (la_cons (lit_lst (la_cons lit_int (la_cons lit_int la_nil))) la_nil))), lit_str⟩
  have hx : PE (cxOf CX0 P w K mg base nmlaw "law" (defScope s_law) f cdv A outer s H E).nox (.BinOp (.Call (.Name "_law_cell_at" z1) [(.Name "_law_script" z2), (.Constant (.int 11) j1 z3)] [] z4) .Mod (.Constant (.int 5) j2 z5) z6) _ := (pe_op op_mod (pe_callD g__law_cell_at (hr.mono (by decide)) rfl (pa_cons (pv 0) (pa_cons pe_int pa_nil))) pe_int)
  have h17 := ps_set (X := (cxOf CX0 P w K mg base nmlaw "law" (defScope s_law) f cdv A outer s H E).nox) (i := 13) (x := "_law_bad") (pos' := px) (pos := q3) sc_law.nd rfl (by first | exact Or.inl rfl | exact Or.inr rfl) (pe_ix (pos := q2) (ixK K rfl) (pe_lst (pos := q1) ((la_cons l1 (la_cons l2 (la_cons l3 (la_cons l4 (la_cons l5 la_nil))))).pa _)) hx (fun _ _ => rfl))
  obtain ⟨bd, hbd⟩ : ∃ bd, bd = defBody s_law := ⟨_, rfl⟩
  rw [← hbd] at hsh r18
  have r17' := pss_at 18 hsh rfl (@h17) (@r18)
  subst hbd
  clear hsh hx h17
  obtain ⟨t17, r17, k17⟩ : ∃ tr, PSs ((cxOf CX0 P w K mg base nmlaw "law" (defScope s_law) f cdv A outer s H E).nox) ((defBody s_law).drop 17) tr ∧
    ∀ (w2 w3 w4 w5 w6 w7 w8 w9 w10 w11 w12 : Option V) (A1 A2 hd h0 h1 : Addr) (ps qs ps' qs' : List Addr) (R S : List (List Int)) (wd u : Nat) (H2 : Hp), Dt K ms a ns A1 A2 hd h0 h1 ps qs ps' qs' R S wd u H2 → tr { nx := fun _ H' => Q .non H', rt := Q } [some (.ref a), some (.ref A1), w2, w3, w4, w5, w6, w7, w8, w9, w10, w11, w12, none, none] H2 := by
   refine ⟨_, @r17', ?_⟩
   intro w2 w3 w4 w5 w6 w7 w8 w9 w10 w11 w12 A1 A2 hd h0 h1 ps qs ps' qs' R S wd u H2 dt
   refine ⟨Nat.zero_le _, fun l1 g1 => ⟨sz1, fun l4 g4 => ⟨sz1, fun l5 g5 => ⟨sz1, fun l6 g6 => ⟨sz2, fun l7 g7 => ⟨sz2, fun l8 g8 => ⟨sz5, fun l9 g9 => ?_⟩⟩⟩⟩⟩⟩⟩
   have y9 := same_new (o := HO.lst [V.non, .ref l1, .ref l5, .ref l8, .str "0"]) g9
   have y8 := (same_new (o := HO.lst [.ref l6, .ref l7]) g8).trans y9
   have y7 := (same_new (o := HO.lst [.int 1, .int 2]) g7).trans y8
   have y6 := (same_new (o := HO.lst [.int 1]) g6).trans y7
   have y5 := (same_new (o := HO.lst [.ref l4]) g5).trans y6
   have y4 := (same_new (o := HO.lst [.int 16]) g4).trans y5
   have y1 := (same_new (o := HO.lst []) g1).trans y4
   have e1 := y4 _ _ (upd_same (o := HO.lst []))
   have e4 := y5 _ _ (upd_same (o := HO.lst [.int 16]))
   have e5 := y6 _ _ (upd_same (o := HO.lst [.ref l4]))
   have e6 := y7 _ _ (upd_same (o := HO.lst [.int 1]))
   have e7 := y8 _ _ (upd_same (o := HO.lst [.int 1, .int 2]))
   have e8 := y9 _ _ (upd_same (o := HO.lst [.ref l6, .ref l7]))
   have e9 := upd_same (H := upd (upd (upd (upd (upd (upd H2 l1 (.lst [])) l4 (.lst [.int 16])) l5 (.lst [.ref l4])) l6 (.lst [.int 1])) l7 (.lst [.int 1, .int 2])) l8 (.lst [.ref l6, .ref l7])) (a := l9) (o := HO.lst [V.non, .ref l1, .ref l5, .ref l8, .str "0"])
   have dt := dt.mono y1
   generalize upd (upd (upd (upd (upd (upd (upd H2 l1 (.lst [])) l4 (.lst [.int 16])) l5 (.lst [.ref l4])) l6 (.lst [.int 1])) l7 (.lst [.int 1, .int 2])) l8 (.lst [.ref l6, .ref l7])) l9 (.lst [V.non, .ref l1, .ref l5, .ref l8, .str "0"]) = H10 at e1 e4 e5 e6 e7 e8 e9 dt ⊢
   obtain ⟨v, hv', hvm⟩ : ∃ v, atI [V.non, .ref l1, .ref l5, .ref l8, .str "0"] (ns.getD 11 0 % 5) = some v ∧ v ∈ [V.non, .ref l1, .ref l5, .ref l8, .str "0"] := atI_mem (Int.emod_nonneg _ (by decide)) (Int.emod_lt_of_pos _ (by decide))
   obtain ⟨th, hb⟩ := odd_bad (K := K) e1 e4 e5 e6 e7 e8 hvm
   refine ⟨_, rfl, a, ns, 11, rfl, dt.sq, _, _, rfl, rfl, (by show (0 : Int) < 5; decide), l9, _, _, v, rfl, rfl, SqL.of e9, hv', ?_⟩
   exact k18 _ _ _ _ _ _ _ _ _ _ _ _ A1 ps R wd v H10 dt.tab th hb dt.pa dt.g1
  obtain ⟨px, q1, q2, j1, e1, e2, bdy, hsh, l1, l2, hbd⟩ : ∃ (px q1 q2 : Pos) (j1 : Nat) (e1 e2 : PySem.Expr) (bdy : List Stmt), (defBody s_law)[16]? = some (.For (.Name "_law_tiles_here" px) (.Tuple [e1, e2] j1 q1) bdy [] q2) ∧ LitE e1 (tLst (tCons (tLst (tCons (tLst (tCons (tLst (tCons (L2.tC (.int 1)) tNil)) tNil)) (tCons (tLst (tCons (tLst (tCons (L2.tC (.int 2)) tNil)) tNil)) tNil))) (tCons (tLst (tCons (tLst (tCons (tLst (tCons (L2.tC (.int 3)) tNil)) tNil)) tNil)) (tCons (L2.tC .non) tNil)))) ∧ LitE e2 (tLst (tCons (tLst (tCons (tLst (tCons (tLst (tCons (L2.tC (.int 1)) tNil)) tNil)) (tCons (tLst (tCons (tLst (tCons (L2.tC (.int 1)) (tCons (L2.tC (.int 2)) tNil))) tNil)) tNil))) (tCons (tLst (tCons (tLst (tCons (tLst (tCons (L2.tC (.int 1)) tNil)) tNil)) (tCons (tLst (tCons (tLst (tCons (L2.tC (.int 16)) tNil)) tNil)) tNil))) tNil))) ∧ bdy = forBody ((defBody s_law).getD 16 (.Pass ⟨0, 0, 0, 0⟩)) := ⟨_, _, _, _, _, _, _, rfl, (lit_lst (la_cons (lit_lst (la_cons (lit_lst (la_cons (lit_lst (la_cons lit_int la_nil)) la_nil)) (la_cons (lit_lst (la_cons (lit_lst (la_cons lit_int la_nil)) la_nil)) la_nil))) (la_cons (lit_lst (la_cons (lit_lst (la_cons (lit_lst (la_cons lit_int la_nil)) la_nil)) la_nil)) (la_cons lit_non la_nil)))), (lit_lst (la_cons (lit_lst (la_cons (lit_lst (la_cons (lit_lst (la_cons lit_int la_nil)) la_nil)) (la_cons (lit_lst (la_cons (lit_lst (la_cons lit_int (la_cons lit_int la_nil))) la_nil)) la_nil))) (la_cons (lit_lst (la_cons (lit_lst (la_cons (lit_lst (la_cons lit_int la_nil)) la_nil)) (la_cons (lit_lst (la_cons (lit_lst (la_cons lit_int la_nil)) la_nil)) la_nil))) la_nil))), rfl⟩
  have hbb : PSs (cxOf CX0 P w K mg base nmlaw "law" (defScope s_law) f cdv A outer s H E).nox (forBody ((defBody s_law).getD 16 (.Pass ⟨0, 0, 0, 0⟩))) _ := (pss_one (ps_if (pt_cmpR (neDK K rfl hu) (pe_callR0 gB hB (hr.mono (by decide)) rfl (pa_cons (pe_lamC hcdv hC hB (FreeHas.of fhG)) pa_nil)) (pe_tup (pa_cons pe_str (pa_cons (pe_lst (pa_cons pe_bl (pa_cons pe_bl pa_nil))) (pa_cons pe_bl pa_nil)))) (nomark _)) (pss_one (ps_ret pe_bl)) pss_nil))
  rw [← hbd] at hbb
  have h16 := ps_for (X := (cxOf CX0 P w K mg base nmlaw "law" (defScope s_law) f cdv A outer s H E).nox) (pos := q2) PassesOwn.never rfl (piTK (tg := .Name "_law_tiles_here" px) K rfl (pe_tup (pos := q1) (x1 := j1) ((la_cons l1 (la_cons l2 la_nil)).pa _))) (pg_name (i := 10) sc_law.nd rfl (by first | exact Or.inl rfl | exact Or.inr rfl)) hbb
  obtain ⟨bd, hbd⟩ : ∃ bd, bd = defBody s_law := ⟨_, rfl⟩
  rw [← hbd] at hsh r17
  have r16' := pss_at 17 hsh rfl (@h16) (@r17)
  subst hbd
  obtain ⟨t16, r16, k16⟩ : ∃ tr, PSs ((cxOf CX0 P w K mg base nmlaw "law" (defScope s_law) f cdv A outer s H E).nox) ((defBody s_law).drop 16) tr ∧
    ∀ (w2 w3 w4 w5 w6 w7 w8 w9 w10 w11 w12 : Option V) (A1 A2 hd h0 h1 : Addr) (ps qs ps' qs' : List Addr) (R S : List (List Int)) (wd u : Nat) (H2 : Hp), Dt K ms a ns A1 A2 hd h0 h1 ps qs ps' qs' R S wd u H2 → tr { nx := fun _ H' => Q .non H', rt := Q } [some (.ref a), some (.ref A1), w2, w3, w4, w5, w6, w7, w8, w9, w10, w11, w12, none, none] H2 := by
   refine ⟨_, @r16', ?_⟩
   intro w2 w3 w4 w5 w6 w7 w8 w9 w10 w11 w12 A1 A2 hd h0 h1 ps qs ps' qs' R S wd u H2 dt
   refine ⟨sz1, fun a1 h_ => ?_⟩
   have z_ := same_new (o := HO.lst [V.int 1]) h_
   have dt := dt.mono z_
   have ea1 : upd H2 a1 (HO.lst [V.int 1]) a1 = some (HO.lst [V.int 1]) := upd_same
   clear z_
   generalize upd H2 a1 (HO.lst [V.int 1]) = M1 at dt ea1 ⊢
   clear h_
   refine ⟨sz1, fun a2 h_ => ?_⟩
   have z_ := same_new (o := HO.lst [V.ref a1]) h_
   have dt := dt.mono z_
   have ea1 := z_ _ _ ea1
   have ea2 : upd M1 a2 (HO.lst [V.ref a1]) a2 = some (HO.lst [V.ref a1]) := upd_same
   clear z_
   generalize upd M1 a2 (HO.lst [V.ref a1]) = M2 at dt ea1 ea2 ⊢
   clear h_
   refine ⟨sz1, fun a3 h_ => ?_⟩
   have z_ := same_new (o := HO.lst [V.int 2]) h_
   have dt := dt.mono z_
   have ea1 := z_ _ _ ea1
   have ea2 := z_ _ _ ea2
   have ea3 : upd M2 a3 (HO.lst [V.int 2]) a3 = some (HO.lst [V.int 2]) := upd_same
   clear z_
   generalize upd M2 a3 (HO.lst [V.int 2]) = M3 at dt ea1 ea2 ea3 ⊢
   clear h_
   refine ⟨sz1, fun a4 h_ => ?_⟩
   have z_ := same_new (o := HO.lst [V.ref a3]) h_
   have dt := dt.mono z_
   have ea1 := z_ _ _ ea1
   have ea2 := z_ _ _ ea2
   have ea3 := z_ _ _ ea3
   have ea4 : upd M3 a4 (HO.lst [V.ref a3]) a4 = some (HO.lst [V.ref a3]) := upd_same
   clear z_
   generalize upd M3 a4 (HO.lst [V.ref a3]) = M4 at dt ea1 ea2 ea3 ea4 ⊢
   clear h_
   refine ⟨sz2, fun a5 h_ => ?_⟩
   have z_ := same_new (o := HO.lst [V.ref a2, .ref a4]) h_
   have dt := dt.mono z_
   have ea1 := z_ _ _ ea1
   have ea2 := z_ _ _ ea2
   have ea3 := z_ _ _ ea3
   have ea4 := z_ _ _ ea4
   have ea5 : upd M4 a5 (HO.lst [V.ref a2, .ref a4]) a5 = some (HO.lst [V.ref a2, .ref a4]) := upd_same
   clear z_
   generalize upd M4 a5 (HO.lst [V.ref a2, .ref a4]) = M5 at dt ea1 ea2 ea3 ea4 ea5 ⊢
   clear h_
   refine ⟨sz1, fun b1 h_ => ?_⟩
   have z_ := same_new (o := HO.lst [V.int 3]) h_
   have dt := dt.mono z_
   have ea1 := z_ _ _ ea1
   have ea2 := z_ _ _ ea2
   have ea3 := z_ _ _ ea3
   have ea4 := z_ _ _ ea4
   have ea5 := z_ _ _ ea5
   have eb1 : upd M5 b1 (HO.lst [V.int 3]) b1 = some (HO.lst [V.int 3]) := upd_same
   clear z_
   generalize upd M5 b1 (HO.lst [V.int 3]) = M6 at dt ea1 ea2 ea3 ea4 ea5 eb1 ⊢
   clear h_
   refine ⟨sz1, fun b2 h_ => ?_⟩
   have z_ := same_new (o := HO.lst [V.ref b1]) h_
   have dt := dt.mono z_
   have ea1 := z_ _ _ ea1
   have ea2 := z_ _ _ ea2
   have ea3 := z_ _ _ ea3
   have ea4 := z_ _ _ ea4
   have ea5 := z_ _ _ ea5
   have eb1 := z_ _ _ eb1
   have eb2 : upd M6 b2 (HO.lst [V.ref b1]) b2 = some (HO.lst [V.ref b1]) := upd_same
   clear z_
   generalize upd M6 b2 (HO.lst [V.ref b1]) = M7 at dt ea1 ea2 ea3 ea4 ea5 eb1 eb2 ⊢
   clear h_
   refine ⟨sz1, fun b3 h_ => ?_⟩
   have z_ := same_new (o := HO.lst [V.ref b2]) h_
   have dt := dt.mono z_
   have ea1 := z_ _ _ ea1
   have ea2 := z_ _ _ ea2
   have ea3 := z_ _ _ ea3
   have ea4 := z_ _ _ ea4
   have ea5 := z_ _ _ ea5
   have eb1 := z_ _ _ eb1
   have eb2 := z_ _ _ eb2
   have eb3 : upd M7 b3 (HO.lst [V.ref b2]) b3 = some (HO.lst [V.ref b2]) := upd_same
   clear z_
   generalize upd M7 b3 (HO.lst [V.ref b2]) = M8 at dt ea1 ea2 ea3 ea4 ea5 eb1 eb2 eb3 ⊢
   clear h_
   refine ⟨sz3, fun c1 h_ => ?_⟩
   have z_ := same_new (o := HO.lst [V.ref a5, .ref b3, .non]) h_
   have dt := dt.mono z_
   have ea1 := z_ _ _ ea1
   have ea2 := z_ _ _ ea2
   have ea3 := z_ _ _ ea3
   have ea4 := z_ _ _ ea4
   have ea5 := z_ _ _ ea5
   have eb1 := z_ _ _ eb1
   have eb2 := z_ _ _ eb2
   have eb3 := z_ _ _ eb3
   have ec1 : upd M8 c1 (HO.lst [V.ref a5, .ref b3, .non]) c1 = some (HO.lst [V.ref a5, .ref b3, .non]) := upd_same
   clear z_
   generalize upd M8 c1 (HO.lst [V.ref a5, .ref b3, .non]) = M9 at dt ea1 ea2 ea3 ea4 ea5 eb1 eb2 eb3 ec1 ⊢
   clear h_
   have bc1 := odd_tiles1 (K := K) ea1 ea2 ea3 ea4 ea5 eb1 eb2 eb3 ec1
   clear ea1 ea2 ea3 ea4 ea5 eb1 eb2 eb3 ec1
   refine ⟨sz1, fun d1 h_ => ?_⟩
   have z_ := same_new (o := HO.lst [V.int 1]) h_
   have dt := dt.mono z_
   have bc1 := bc1.mono z_
   have ed1 : upd M9 d1 (HO.lst [V.int 1]) d1 = some (HO.lst [V.int 1]) := upd_same
   clear z_
   generalize upd M9 d1 (HO.lst [V.int 1]) = M10 at dt bc1 ed1 ⊢
   clear h_
   refine ⟨sz1, fun d2 h_ => ?_⟩
   have z_ := same_new (o := HO.lst [V.ref d1]) h_
   have dt := dt.mono z_
   have bc1 := bc1.mono z_
   have ed1 := z_ _ _ ed1
   have ed2 : upd M10 d2 (HO.lst [V.ref d1]) d2 = some (HO.lst [V.ref d1]) := upd_same
   clear z_
   generalize upd M10 d2 (HO.lst [V.ref d1]) = M11 at dt bc1 ed1 ed2 ⊢
   clear h_
   refine ⟨sz2, fun d3 h_ => ?_⟩
   have z_ := same_new (o := HO.lst [V.int 1, .int 2]) h_
   have dt := dt.mono z_
   have bc1 := bc1.mono z_
   have ed1 := z_ _ _ ed1
   have ed2 := z_ _ _ ed2
   have ed3 : upd M11 d3 (HO.lst [V.int 1, .int 2]) d3 = some (HO.lst [V.int 1, .int 2]) := upd_same
   clear z_
   generalize upd M11 d3 (HO.lst [V.int 1, .int 2]) = M12 at dt bc1 ed1 ed2 ed3 ⊢
   clear h_
   refine ⟨sz1, fun d4 h_ => ?_⟩
   have z_ := same_new (o := HO.lst [V.ref d3]) h_
   have dt := dt.mono z_
   have bc1 := bc1.mono z_
   have ed1 := z_ _ _ ed1
   have ed2 := z_ _ _ ed2
   have ed3 := z_ _ _ ed3
   have ed4 : upd M12 d4 (HO.lst [V.ref d3]) d4 = some (HO.lst [V.ref d3]) := upd_same
   clear z_
   generalize upd M12 d4 (HO.lst [V.ref d3]) = M13 at dt bc1 ed1 ed2 ed3 ed4 ⊢
   clear h_
   refine ⟨sz2, fun d5 h_ => ?_⟩
   have z_ := same_new (o := HO.lst [V.ref d2, .ref d4]) h_
   have dt := dt.mono z_
   have bc1 := bc1.mono z_
   have ed1 := z_ _ _ ed1
   have ed2 := z_ _ _ ed2
   have ed3 := z_ _ _ ed3
   have ed4 := z_ _ _ ed4
   have ed5 : upd M13 d5 (HO.lst [V.ref d2, .ref d4]) d5 = some (HO.lst [V.ref d2, .ref d4]) := upd_same
   clear z_
   generalize upd M13 d5 (HO.lst [V.ref d2, .ref d4]) = M14 at dt bc1 ed1 ed2 ed3 ed4 ed5 ⊢
   clear h_
   refine ⟨sz1, fun g1 h_ => ?_⟩
   have z_ := same_new (o := HO.lst [V.int 1]) h_
   have dt := dt.mono z_
   have bc1 := bc1.mono z_
   have ed1 := z_ _ _ ed1
   have ed2 := z_ _ _ ed2
   have ed3 := z_ _ _ ed3
   have ed4 := z_ _ _ ed4
   have ed5 := z_ _ _ ed5
   have eg1 : upd M14 g1 (HO.lst [V.int 1]) g1 = some (HO.lst [V.int 1]) := upd_same
   clear z_
   generalize upd M14 g1 (HO.lst [V.int 1]) = M15 at dt bc1 ed1 ed2 ed3 ed4 ed5 eg1 ⊢
   clear h_
   refine ⟨sz1, fun g2 h_ => ?_⟩
   have z_ := same_new (o := HO.lst [V.ref g1]) h_
   have dt := dt.mono z_
   have bc1 := bc1.mono z_
   have ed1 := z_ _ _ ed1
   have ed2 := z_ _ _ ed2
   have ed3 := z_ _ _ ed3
   have ed4 := z_ _ _ ed4
   have ed5 := z_ _ _ ed5
   have eg1 := z_ _ _ eg1
   have eg2 : upd M15 g2 (HO.lst [V.ref g1]) g2 = some (HO.lst [V.ref g1]) := upd_same
   clear z_
   generalize upd M15 g2 (HO.lst [V.ref g1]) = M16 at dt bc1 ed1 ed2 ed3 ed4 ed5 eg1 eg2 ⊢
   clear h_
   refine ⟨sz1, fun g3 h_ => ?_⟩
   have z_ := same_new (o := HO.lst [V.int 16]) h_
   have dt := dt.mono z_
   have bc1 := bc1.mono z_
   have ed1 := z_ _ _ ed1
   have ed2 := z_ _ _ ed2
   have ed3 := z_ _ _ ed3
   have ed4 := z_ _ _ ed4
   have ed5 := z_ _ _ ed5
   have eg1 := z_ _ _ eg1
   have eg2 := z_ _ _ eg2
   have eg3 : upd M16 g3 (HO.lst [V.int 16]) g3 = some (HO.lst [V.int 16]) := upd_same
   clear z_
   generalize upd M16 g3 (HO.lst [V.int 16]) = M17 at dt bc1 ed1 ed2 ed3 ed4 ed5 eg1 eg2 eg3 ⊢
   clear h_
   refine ⟨sz1, fun g4 h_ => ?_⟩
   have z_ := same_new (o := HO.lst [V.ref g3]) h_
   have dt := dt.mono z_
   have bc1 := bc1.mono z_
   have ed1 := z_ _ _ ed1
   have ed2 := z_ _ _ ed2
   have ed3 := z_ _ _ ed3
   have ed4 := z_ _ _ ed4
   have ed5 := z_ _ _ ed5
   have eg1 := z_ _ _ eg1
   have eg2 := z_ _ _ eg2
   have eg3 := z_ _ _ eg3
   have eg4 : upd M17 g4 (HO.lst [V.ref g3]) g4 = some (HO.lst [V.ref g3]) := upd_same
   clear z_
   generalize upd M17 g4 (HO.lst [V.ref g3]) = M18 at dt bc1 ed1 ed2 ed3 ed4 ed5 eg1 eg2 eg3 eg4 ⊢
   clear h_
   refine ⟨sz2, fun g5 h_ => ?_⟩
   have z_ := same_new (o := HO.lst [V.ref g2, .ref g4]) h_
   have dt := dt.mono z_
   have bc1 := bc1.mono z_
   have ed1 := z_ _ _ ed1
   have ed2 := z_ _ _ ed2
   have ed3 := z_ _ _ ed3
   have ed4 := z_ _ _ ed4
   have ed5 := z_ _ _ ed5
   have eg1 := z_ _ _ eg1
   have eg2 := z_ _ _ eg2
   have eg3 := z_ _ _ eg3
   have eg4 := z_ _ _ eg4
   have eg5 : upd M18 g5 (HO.lst [V.ref g2, .ref g4]) g5 = some (HO.lst [V.ref g2, .ref g4]) := upd_same
   clear z_
   generalize upd M18 g5 (HO.lst [V.ref g2, .ref g4]) = M19 at dt bc1 ed1 ed2 ed3 ed4 ed5 eg1 eg2 eg3 eg4 eg5 ⊢
   clear h_
   refine ⟨sz2, fun c2 h_ => ?_⟩
   have z_ := same_new (o := HO.lst [V.ref d5, .ref g5]) h_
   have dt := dt.mono z_
   have bc1 := bc1.mono z_
   have ed1 := z_ _ _ ed1
   have ed2 := z_ _ _ ed2
   have ed3 := z_ _ _ ed3
   have ed4 := z_ _ _ ed4
   have ed5 := z_ _ _ ed5
   have eg1 := z_ _ _ eg1
   have eg2 := z_ _ _ eg2
   have eg3 := z_ _ _ eg3
   have eg4 := z_ _ _ eg4
   have eg5 := z_ _ _ eg5
   have ec2 : upd M19 c2 (HO.lst [V.ref d5, .ref g5]) c2 = some (HO.lst [V.ref d5, .ref g5]) := upd_same
   clear z_
   generalize upd M19 c2 (HO.lst [V.ref d5, .ref g5]) = M20 at dt bc1 ed1 ed2 ed3 ed4 ed5 eg1 eg2 eg3 eg4 eg5 ec2 ⊢
   clear h_
   have bc2 := odd_tiles2 (K := K) ed1 ed2 ed3 ed4 ed5 eg1 eg2 eg3 eg4 eg5 ec2
   clear ed1 ed2 ed3 ed4 ed5 eg1 eg2 eg3 eg4 eg5 ec2
   refine ⟨sz2, fun tp h_ => ?_⟩
   have z_ := same_new (o := HO.tup [V.ref c1, .ref c2]) h_
   have dt := dt.mono z_
   have bc1 := bc1.mono z_
   have bc2 := bc2.mono z_
   have etp : upd M20 tp (HO.tup [V.ref c1, .ref c2]) tp = some (.tup [V.ref c1, .ref c2]) := upd_same
   clear z_
   generalize upd M20 tp (HO.tup [V.ref c1, .ref c2]) = H3 at dt bc1 bc2 etp ⊢
   clear h_
   refine ⟨tp, rfl, ⟨_, SqT.of etp⟩, ?_⟩
   refine for_tup (xs := [V.ref c1, .ref c2]) (fun i σ H4 => Ok ms H3 H4 ∧ ∃ v10 : Option V, σ = [some (.ref a), some (.ref A1), w2, w3, w4, w5, w6, w7, w8, w9, v10, w11, w12, none, none]) ⟨Ok.refl dt.tab, _, rfl⟩ (fun i σ H4 _ q => SqT.of ((dt.tab.nt q.1.but).tup etp)) ?_ ?_
   ·rintro i x σ H4 hx ⟨ok4, v10, rfl⟩
    have bx : BadV K H3 x := mem2 (p := fun x => BadV K H3 x) bc1 bc2 x (List.mem_of_getElem? hx)
    try dsimp only [tNext, tSeq, tIfS, tTest, tRet, tOp, tAsg, tCallR0, tCons, tLamC, gName, List.set_cons_zero, List.set_cons_succ]
    refine tLamW_of (ts := ms.map (·.1)) hpm ok4.tab.hts (ok4.tab _ hm) fun f3 c3 H5 bt ot tb hf hcd base' ok cap => ?_
    have ok5 := ok4.lam nd hm bt ot tb
    have b5 := nt_bad (dt.tab.nt ok5.but) bx
    refine ⟨f3, _, _, rfl, hf, lamXG rfl (gF base' ok) clOf_hasL (cells_of cap (FreeHas.of fhG) rfl fun i x y e1 e2 => ?_), fun E' kP kS => ⟨hf, hcd, x, rfl, .inl ⟨b5.th, b5.no, fun H6 s6 => kP H6 fun nn tt H7 s7 hn ht en et => ?_⟩⟩⟩
    ·match i, e1, e2 with
     | 0, e1, e2 => cases e1; cases e2; exact ⟨by decide +kernel, rfl, 10, rfl, rfl⟩
     | i + 1, e1, e2 => cases e1
    refine ⟨sz2, fun m hm' => ⟨sz3, fun u' hu' => ?_⟩⟩
    have y2 := same_new (o := HO.tup [V.str "refused", .ref m, .bl true]) hu'
    have y1 := (same_new (o := HO.lst [V.bl true, .bl false]) hm').trans y2
    have tf : Told H7 tt nn true false := ⟨et, en⟩
    exact ⟨1, tt, u', true, by decide, rfl, rfl, EqL.told (tf.mono y1) ⟨upd_same, y2 _ _ upd_same⟩, _, rfl, ok5.same ((s6.trans s7).trans y1), _, rfl⟩
   ·rintro σ H4 ⟨ok4, v10, rfl⟩
    exact k17 _ _ _ _ _ _ _ _ _ _ _ A1 A2 hd h0 h1 ps qs ps' qs' R S wd u H4 (dt.ok ok4)
  obtain ⟨t15, r15, k15⟩ : ∃ tr, PSs ((cxOf CX0 P w K mg base nmlaw "law" (defScope s_law) f cdv A outer s H E).nox) ((defBody s_law).drop 15) tr ∧
    ∀ (w2 w3 w4 w5 w6 w7 w8 w9 w10 : Option V) (A1 A2 hd h0 h1 : Addr) (ps qs ps' qs' : List Addr) (R S : List (List Int)) (wd u : Nat) (nm fo : V) (H2 : Hp), Dt K ms a ns A1 A2 hd h0 h1 ps qs ps' qs' R S wd u H2 → (nm = .non ∨ ∃ n tt nn b0 b1, nm = .ref n ∧ H2 n = some (.lst [.bl b0, .bl b1]) ∧ fo = .ref tt ∧ Told H2 tt nn b0 b1) → tr { nx := fun _ H' => Q .non H', rt := Q } [some (.ref a), some (.ref A1), w2, w3, w4, w5, w6, w7, w8, w9, w10, some nm, some fo, none, none] H2 := by
   refine ⟨_, (pss_cons (ps_if (PW.pt (pw_and (pt_cmp (pc_notN (pv 11))) (pw_and1 (pt_cmpR (neDK K rfl hu) (pv 12) (pe_tup (pa_cons pe_str (pa_cons (pv 11) (pa_cons pe_bl pa_nil)))) (nomark _))))) (pss_one (ps_ret pe_bl)) pss_nil)
    (@r16)), ?_⟩
   intro w2 w3 w4 w5 w6 w7 w8 w9 w10 A1 A2 hd h0 h1 ps qs ps' qs' R S wd u nm fo H2 dt nf
   rcases nf with rfl | ⟨n, tt, nn, b0, b1, rfl, en, rfl, td⟩
   ·exact ⟨_, rfl, _, rfl, k16 _ _ _ _ _ _ _ _ _ _ _ A1 A2 hd h0 h1 ps qs ps' qs' R S wd u H2 dt⟩
   refine ⟨_, rfl, _, rfl, ?_⟩
   refine ⟨_, rfl, _, rfl, sz3, fun u' hu' => ?_⟩
   have y2 := same_new (o := HO.tup [V.str "refused", .ref n, .bl true]) hu'
   exact ⟨1, tt, u', true, by decide, rfl, rfl, EqL.told (td.mono y2) ⟨upd_same, y2 _ _ en⟩, _, rfl, k16 _ _ _ _ _ _ _ _ _ _ _ A1 A2 hd h0 h1 ps qs ps' qs' R S wd u _ (dt.mono y2)⟩
  obtain ⟨t14, r14, k14⟩ : ∃ tr, PSs ((cxOf CX0 P w K mg base nmlaw "law" (defScope s_law) f cdv A outer s H E).nox) ((defBody s_law).drop 14) tr ∧
    ∀ (w2 w3 w4 w5 w6 w7 w8 w9 : Option V) (A1 A2 hd h0 h1 : Addr) (ps qs ps' qs' : List Addr) (R S : List (List Int)) (wd u : Nat) (v nm : V) (H2 : Hp), Dt K ms a ns A1 A2 hd h0 h1 ps qs ps' qs' R S wd u H2 → BadT K H2 v nm → tr { nx := fun _ H' => Q .non H', rt := Q } [some (.ref a), some (.ref A1), w2, w3, w4, w5, w6, w7, w8, w9, some v, some nm, none, none, none] H2 := by
   refine ⟨_, (pss_cons (ps_set (i := 12) sc_law.nd rfl (by first | exact Or.inl rfl | exact Or.inr rfl) (pe_callR0 gB hB (hr.mono (by decide)) rfl (pa_cons (pe_lamC hcdv hC hB (FreeHas.of fhE)) pa_nil)))
    (@r15)), ?_⟩
   intro w2 w3 w4 w5 w6 w7 w8 w9 A1 A2 hd h0 h1 ps qs ps' qs' R S wd u v nm H2 dt bd
   try dsimp only [tNext, tSeq, tIfS, tTest, tRet, tOp, tAsg, tCallR0, tCons, tLamC, gName, List.set_cons_zero, List.set_cons_succ]
   refine tLamW_of (ts := ms.map (·.1)) hpm dt.tab.hts (dt.tab _ hm) fun f3 c3 H5 bt ot tb hf hcd base' ok cap => ?_
   have ok5 := (Ok.refl dt.tab).lam nd hm bt ot tb
   have d5 := dt.ok ok5
   have b5 := nt_badT (dt.tab.nt ok5.but) bd
   refine ⟨f3, _, _, rfl, hf, lamXE rfl (gF base' ok) clOf_hasL (cells_of cap (FreeHas.of fhE) rfl fun i x y e1 e2 => ?_), fun E' kP kS => ⟨hf, hcd, v, rfl, ?_⟩⟩
   ·match i, e1, e2 with
    | 0, e1, e2 => cases e1; cases e2; exact ⟨by decide +kernel, rfl, 10, rfl, rfl⟩
    | i + 1, e1, e2 => cases e1
   rcases b5 with ⟨n, rfl, en, th, no⟩ | ⟨n, p', xs, rfl, en, rfl, ep, th, yes, nl⟩ | ⟨p', ls, GG, n, c, d, rfl, rfl, tv, gt⟩
   ·refine .inl ⟨th, no, fun H6 s6 => kP H6 fun nn tt H7 s7 hn ht en2 et => ?_⟩
    have s67 := s6.trans s7
    exact k15 _ _ _ _ _ _ _ _ _ A1 A2 hd h0 h1 ps qs ps' qs' R S wd u _ _ H7 (d5.mono s67) (.inr ⟨n, tt, nn, _, _, rfl, s67 _ _ en, rfl, et, en2⟩)
   ·refine .inr (.inl ⟨p', xs, rfl, ep, th, yes, nl, fun H6 s6 => kS H6 fun nn tt H7 s7 hn ht en2 et => ?_⟩)
    have s67 := s6.trans s7
    exact k15 _ _ _ _ _ _ _ _ _ A1 A2 hd h0 h1 ps qs ps' qs' R S wd u _ _ H7 (d5.mono s67) (.inr ⟨n, tt, nn, _, _, rfl, s67 _ _ en, rfl, et, en2⟩)
   ·exact .inr (.inr ⟨p', ls, GG, n, c, d, rfl, tv, gt, fun FF fq H6 s6 hF frF pF => k15 _ _ _ _ _ _ _ _ _ A1 A2 hd h0 h1 ps qs ps' qs' R S wd u _ _ H6 (d5.mono s6) (.inl rfl)⟩)
  obtain ⟨t13, r13, k13⟩ : ∃ tr, PSs ((cxOf CX0 P w K mg base nmlaw "law" (defScope s_law) f cdv A outer s H E).nox) ((defBody s_law).drop 13) tr ∧
    ∀ (w2 w3 w4 w5 w6 w7 w8 w9 : Option V) (A1 A2 hd h0 h1 : Addr) (ps qs ps' qs' : List Addr) (R S : List (List Int)) (wd u : Nat) (H2 : Hp), Dt K ms a ns A1 A2 hd h0 h1 ps qs ps' qs' R S wd u H2 → tr { nx := fun _ H' => Q .non H', rt := Q } [some (.ref a), some (.ref A1), w2, w3, w4, w5, w6, w7, w8, w9, none, none, none, none, none] H2 := by
   refine ⟨_, (pss_cons (ps_asg (pe_callD g__law_bad_tiles (hr.mono (by decide)) rfl (pa_cons (pv 1) (pa_cons (pe_callD g__law_cell_at (hr.mono (by decide)) rfl (pa_cons (pv 0) (pa_cons pe_int pa_nil))) pa_nil))) (pg_tup rfl (pgs_cons (pg_name (i := 10) sc_law.nd rfl (by first | exact Or.inl rfl | exact Or.inr rfl)) (pgs_cons (pg_name (i := 11) sc_law.nd rfl (by first | exact Or.inl rfl | exact Or.inr rfl)) pgs_nil))))
    (@r14)), ?_⟩
   intro w2 w3 w4 w5 w6 w7 w8 w9 A1 A2 hd h0 h1 ps qs ps' qs' R S wd u H2 dt
   refine ⟨_, rfl, _, rfl, a, ns, 10, rfl, dt.sq, A1, ps, R, wd, _, rfl, dt.pa, dt.g1, fun t v nm H3 s3 ht et bd => ?_⟩
   exact ⟨t, _, rfl, SqT.of et, rfl, _, _, rfl, _, _, rfl, rfl, k14 _ _ _ _ _ _ _ _ A1 A2 hd h0 h1 ps qs ps' qs' R S wd u v nm H3 (dt.mono s3) bd⟩
  obtain ⟨t12, r12, k12⟩ : ∃ tr, PSs ((cxOf CX0 P w K mg base nmlaw "law" (defScope s_law) f cdv A outer s H E).nox) ((defBody s_law).drop 12) tr ∧
    ∀ (w4 w5 w6 w7 : Option V) (A1 A2 hd h0 h1 : Addr) (ps qs ps' qs' : List Addr) (R S : List (List Int)) (wd u : Nat) (v8 v9 : V) (H2 : Hp), Dt K ms a ns A1 A2 hd h0 h1 ps qs ps' qs' R S wd u H2 → Kd K H2 v8 → Kd K H2 v9 → small v8 → small v9 → tr { nx := fun _ H' => Q .non H', rt := Q } [some (.ref a), some (.ref A1), some (.ref A2), some (.ref hd), w4, w5, w6, w7, some v8, some v9, none, none, none, none, none] H2 := by
   refine ⟨_, (pss_cons (ps_if (PW.pt (pw_or (pt_not (pt_val (pe_callD g__law_tiles_right (hr.mono (by decide)) rfl (pa_cons (pv 1) (pa_cons (pe_ix (ixK K rfl) (pv 3) pe_int (fun _ _ => rfl)) (pa_cons (pv 8) (pa_cons (pv 9) pa_nil))))))) (pw_or1 (pt_cmpR (neDK K rfl hu) (pv 3) (pe_lst (pa_cons (pv 1) (pa_cons (pv 2) pa_nil))) (nomark _))))) (pss_one (ps_ret pe_bl)) pss_nil)
    (@r13)), ?_⟩
   intro w4 w5 w6 w7 A1 A2 hd h0 h1 ps qs ps' qs' R S wd u v8 v9 H2 dt k8' k9' m8 m9
   refine ⟨_, rfl, _, rfl, hd, _, _, .ref h0, rfl, rfl, SqL.of dt.eh, atI_nat (j := 0) rfl, _, rfl, _, rfl, A1, h0, ps, ps', R, wd, v8, v9, rfl, dt.pa, dt.ph, dt.g1, k8', k9', m8, m9, dt.tab, fun H4 ok4 => ⟨_, rfl, ?_⟩⟩
   have dt := dt.ok ok4
   refine ⟨_, rfl, _, rfl, _, rfl, sz2, fun L hL => ?_⟩
   have y := same_new (o := HO.lst [V.ref A1, .ref A2]) hL
   have dt := dt.mono y
   exact ⟨2, hd, L, true, by decide, rfl, rfl, EqL.two dt.eh upd_same (EqL.pic dt.ph dt.pa) (EqL.pic dt.pk dt.pb), _, rfl, k13 _ _ _ _ _ _ _ _ A1 A2 hd h0 h1 ps qs ps' qs' R S wd u _ dt⟩
  obtain ⟨t11, r11, k11⟩ : ∃ tr, PSs ((cxOf CX0 P w K mg base nmlaw "law" (defScope s_law) f cdv A outer s H E).nox) ((defBody s_law).drop 11) tr ∧
    ∀ (w4 : Option V) (A1 A2 hd h0 h1 : Addr) (ps qs ps' qs' : List Addr) (R S : List (List Int)) (wd u : Nat) (v5 v8 : V) (D : Addr) (mo : Int) (H2 : Hp), Dt K ms a ns A1 A2 hd h0 h1 ps qs ps' qs' R S wd u H2 → Kd K H2 v5 → small v5 → Kd K H2 v8 → small v8 → GoV H2 D wd R.length → tr { nx := fun _ H' => Q .non H', rt := Q } [some (.ref a), some (.ref A1), some (.ref A2), some (.ref hd), w4, some v5, some (.ref D), some (.int mo), some v8, none, none, none, none, none, none] H2 := by
   refine ⟨_, (pss_cons (ps_set (i := 9) sc_law.nd rfl (by first | exact Or.inl rfl | exact Or.inr rfl) (pe_ifExp (pt_cmpR op_eq (pe_op op_mod (pe_op op_fdiv (pv 7) pe_int) pe_int) pe_int (nomark _)) (pe_ix (ixK K rfl) (pe_ix (ixK K rfl) (pv 6) pe_int (fun _ _ => rfl)) (pe_op op_mod (pe_op op_fdiv (pv 7) pe_int) (pe_callB (lenK K rfl) rfl T.len PySem.boot_len (pa_cons (pe_ix (ixK K rfl) (pv 6) pe_int (fun _ _ => rfl)) pa_nil))) (fun _ _ => rfl)) (pv 5)))
    (@r12)), ?_⟩
   intro w4 A1 A2 hd h0 h1 ps qs ps' qs' R S wd u v5 v8 D mo H2 dt kd5 sm5 kd8 sm8 gg
   refine ⟨_, rfl, _, _, rfl, rfl, ⟨by decide, by decide⟩, _, _, rfl, rfl, (by show (0 : Int) < 2; decide), rfl, _, rfl, iteB (fun h => ?_) (fun h => ?_)⟩
   ·obtain ⟨x_, y_, eD, ex_, ey_⟩ := gg.top
    obtain ⟨q, r, eq0, eq1, er⟩ : ∃ (q : Addr) (r : List V), [V.ref x_, .ref y_][1]? = some (.ref q) ∧ H2 q = some (.lst r) ∧ r = divG (.int ((R.length : Nat) : Int)) := ⟨_, _, rfl, ey_, rfl⟩
    refine ⟨_, rfl, D, _, _, .ref q, rfl, rfl, SqL.of eD, atI_nat (j := 1) eq0, _, rfl, _, _, rfl, rfl, ⟨by decide, by decide⟩, _, rfl, D, _, _, .ref q, rfl, rfl, SqL.of eD, atI_nat (j := 1) eq0, q, _, rfl, .inl (SqL.of eq1), _, _, rfl, rfl, ?_⟩
    have hp : (0 : Int) < (r.length : Int) := by rw [er]; have := div_pos (R.length : Int); omega
    obtain ⟨v, hv, hvm⟩ : ∃ v, atI r (mo / 2 % (r.length : Int)) = some v ∧ v ∈ r := atI_mem (Int.emod_nonneg _ (by omega)) (Int.emod_lt_of_pos _ hp)
    rw [er] at hvm
    obtain ⟨sz, rfl, s1, s24⟩ := div_mem hvm
    refine ⟨hp, q, _, _, _, rfl, rfl, SqL.of eq1, hv, ?_⟩
    exact k12 _ _ _ _ A1 A2 hd h0 h1 ps qs ps' qs' R S wd u v8 (.int sz) H2 dt kd8 (.int _) sm8 (fun i e => by injection e with e; omega)
   ·exact ⟨_, rfl, k12 _ _ _ _ A1 A2 hd h0 h1 ps qs ps' qs' R S wd u v8 v5 H2 dt kd8 kd5 sm8 sm5⟩
  obtain ⟨t10, r10, k10⟩ : ∃ tr, PSs ((cxOf CX0 P w K mg base nmlaw "law" (defScope s_law) f cdv A outer s H E).nox) ((defBody s_law).drop 10) tr ∧
    ∀ (A1 A2 hd h0 h1 : Addr) (ps qs ps' qs' : List Addr) (R S : List (List Int)) (wd u : Nat) (v4 v5 : V) (D : Addr) (mo : Int) (H2 : Hp), Dt K ms a ns A1 A2 hd h0 h1 ps qs ps' qs' R S wd u H2 → Kd K H2 v4 → small v4 → Kd K H2 v5 → small v5 → GoV H2 D wd R.length → tr { nx := fun _ H' => Q .non H', rt := Q } [some (.ref a), some (.ref A1), some (.ref A2), some (.ref hd), some v4, some v5, some (.ref D), some (.int mo), none, none, none, none, none, none, none] H2 := by
   refine ⟨_, (pss_cons (ps_set (i := 8) sc_law.nd rfl (by first | exact Or.inl rfl | exact Or.inr rfl) (pe_ifExp (pt_cmpR op_eq (pe_op op_mod (pv 7) pe_int) pe_int (nomark _)) (pe_ix (ixK K rfl) (pe_ix (ixK K rfl) (pv 6) pe_int (fun _ _ => rfl)) (pe_op op_mod (pe_op op_fdiv (pv 7) pe_int) (pe_callB (lenK K rfl) rfl T.len PySem.boot_len (pa_cons (pe_ix (ixK K rfl) (pv 6) pe_int (fun _ _ => rfl)) pa_nil))) (fun _ _ => rfl)) (pv 4)))
    (@r11)), ?_⟩
   intro A1 A2 hd h0 h1 ps qs ps' qs' R S wd u v4 v5 D mo H2 dt kd4 sm4 kd5 sm5 gg
   refine ⟨_, rfl, _, _, rfl, rfl, (by show (0 : Int) < 2; decide), rfl, _, rfl, iteB (fun h => ?_) (fun h => ?_)⟩
   ·obtain ⟨x_, y_, eD, ex_, ey_⟩ := gg.top
    obtain ⟨q, r, eq0, eq1, er⟩ : ∃ (q : Addr) (r : List V), [V.ref x_, .ref y_][0]? = some (.ref q) ∧ H2 q = some (.lst r) ∧ r = divG (.int ((wd : Nat) : Int)) := ⟨_, _, rfl, ex_, rfl⟩
    refine ⟨_, rfl, D, _, _, .ref q, rfl, rfl, SqL.of eD, atI_nat (j := 0) eq0, _, rfl, _, _, rfl, rfl, ⟨by decide, by decide⟩, _, rfl, D, _, _, .ref q, rfl, rfl, SqL.of eD, atI_nat (j := 0) eq0, q, _, rfl, .inl (SqL.of eq1), _, _, rfl, rfl, ?_⟩
    have hp : (0 : Int) < (r.length : Int) := by rw [er]; have := div_pos (wd : Int); omega
    obtain ⟨v, hv, hvm⟩ : ∃ v, atI r (mo / 2 % (r.length : Int)) = some v ∧ v ∈ r := atI_mem (Int.emod_nonneg _ (by omega)) (Int.emod_lt_of_pos _ hp)
    rw [er] at hvm
    obtain ⟨sz, rfl, s1, s24⟩ := div_mem hvm
    refine ⟨hp, q, _, _, _, rfl, rfl, SqL.of eq1, hv, ?_⟩
    exact k11 _ A1 A2 hd h0 h1 ps qs ps' qs' R S wd u v5 (.int sz) D mo H2 dt kd5 sm5 (.int _) (fun i e => by injection e with e; omega) gg
   ·exact ⟨_, rfl, k11 _ A1 A2 hd h0 h1 ps qs ps' qs' R S wd u v5 v4 D mo H2 dt kd5 sm5 kd4 sm4 gg⟩
  obtain ⟨t8, r8, k8⟩ : ∃ tr, PSs ((cxOf CX0 P w K mg base nmlaw "law" (defScope s_law) f cdv A outer s H E).nox) ((defBody s_law).drop 8) tr ∧
    ∀ (A1 A2 hd h0 h1 : Addr) (ps qs ps' qs' : List Addr) (R S : List (List Int)) (wd u : Nat) (v4 v5 : V) (H2 : Hp), Dt K ms a ns A1 A2 hd h0 h1 ps qs ps' qs' R S wd u H2 → Kd K H2 v4 → small v4 → Kd K H2 v5 → small v5 → tr { nx := fun _ H' => Q .non H', rt := Q } [some (.ref a), some (.ref A1), some (.ref A2), some (.ref hd), some v4, some v5, none, none, none, none, none, none, none, none, none] H2 := by
   refine ⟨_, (pss_cons (ps_setC (ix := 6) (N := ["_law_side"]) (src := [none]) sc_law.nd rfl rfl rfl ⟨rfl, rfl, rfl, rfl, rfl, by decide +kernel⟩ (piTK K rfl (pe_tup (pa_cons (pe_callB (lenK K rfl) rfl T.len PySem.boot_len (pa_cons (pe_ix (ixK K rfl) (pv 1) pe_int (fun _ _ => rfl)) pa_nil)) (pa_cons (pe_callB (lenK K rfl) rfl T.len PySem.boot_len (pa_cons (pv 1) pa_nil)) pa_nil)))) (fun s H C fp => pg_name (i := 0) (show (["_law_side"] : List Str).Nodup by decide +kernel) rfl (by first | exact Or.inl rfl | exact Or.inr rfl)) (fun s H C fp => pts_nil) (fun s H C fp => (pe_comp (N := ["_law_size", "_law_side"]) (src := [none, some 0]) rfl ⟨rfl, rfl, rfl, rfl, rfl, by decide +kernel⟩ (pi_range2 rfl T.range (pa_cons pe_int (pa_cons pe_int pa_nil))) (fun s H C fp => pg_name (i := 0) (show (["_law_size", "_law_side"] : List Str).Nodup by decide +kernel) rfl (by first | exact Or.inl rfl | exact Or.inr rfl)) (fun s H C fp => (pts_one (pt_cmpR op_eq (pe_op op_mod (pv 1) (pv 0)) pe_int (nomark _)))) (fun s H C fp => (pv 0)))))
    (pss_cons (ps_set (i := 7) sc_law.nd rfl (by first | exact Or.inl rfl | exact Or.inr rfl) (pe_callD g__law_cell_at (hr.mono (by decide)) rfl (pa_cons (pv 0) (pa_cons pe_int pa_nil))))
    (@r10))), ?_⟩
   intro A1 A2 hd h0 h1 ps qs ps' qs' R S wd u v4 v5 H2 dt kd4 sm4 kd5 sm5
   obtain ⟨q0, n0', e00, e01, e02⟩ := dt.g1.first dt.pa
   refine ⟨_, rfl, A1, _, _, .ref q0, rfl, rfl, SqL.of dt.pa.top, atI_nat (j := 0) e00, q0, _, rfl, .inl (SqL.of e01), _, rfl, A1, _, rfl, .inl (SqL.of dt.pa.top), sz2, fun tp htp => ⟨tp, rfl, ⟨_, SqT.of upd_same⟩, fun D hD => ?_⟩⟩
   have el : (n0'.map V.int).length = wd := by rw [List.length_map]; exact e02
   rw [el, lenF dt.pa] at hD ⊢
   have zt := same_new (o := HO.tup [V.int (wd : Int), .int (R.length : Int)]) htp
   refine comp_rows (k := 0) divG (src_tup (SqT.of upd_same)) sz2 hD (fun x hx H' Q' sm kk => ?_) fun es H6 s6 fr6 pD => ?_
   ·obtain ⟨n, rfl⟩ : ∃ n : Int, x = .int n := by
     simp only [List.mem_cons, List.not_mem_nil, or_false] at hx
     rcases hx with rfl | rfl
     ·exact ⟨_, rfl⟩
     ·exact ⟨_, rfl⟩
    refine ⟨1, 25, rfl, ⟨by decide, by decide, by decide, by decide⟩, fun D2 hD2 => ?_⟩
    refine comp_fm (k := 0) (fun x => x) (dvP n) (src_range (lo := 1) (n := 24)) (by simp; decide) hD2 (fun y hy H'' Qb sm2 kb => ?_) (fun y hy _ H'' Q'' sm2 k2 => ⟨_, rfl, k2 H'' (Same.refl _)⟩) fun H7 s7 e7 => kk D2 H7 s7 hD2 e7
    obtain ⟨i, hi, rfl⟩ := List.mem_map.mp hy
    exact ⟨_, rfl, _, rfl, _, _, rfl, rfl, (by show (0 : Int) < 1 + (i : Int); omega), rfl, _, rfl, kb H'' (Same.refl _)⟩
   ·have dt := dt.mono (zt.trans s6)
    have gg : GoV H6 D wd R.length := by
     obtain ⟨top, row, _, _⟩ := pD
     cases row with
     | cons e1 row =>
      cases row with
      | cons e2 row =>
       cases row
       exact ⟨_, _, top, e1, e2⟩
    refine ⟨_, rfl, a, ns, 9, rfl, dt.sq, ?_⟩
    exact k10 A1 A2 hd h0 h1 ps qs ps' qs' R S wd u v4 v5 D _ H6 dt ((kd4.mono zt).mono s6) sm4 ((kd5.mono zt).mono s6) sm5 gg
  obtain ⟨t5, r5, k5⟩ : ∃ tr, PSs ((cxOf CX0 P w K mg base nmlaw "law" (defScope s_law) f cdv A outer s H E).nox) ((defBody s_law).drop 5) tr ∧
    ∀ (A1 A2 hd h0 h1 : Addr) (ps qs ps' qs' : List Addr) (R S : List (List Int)) (wd u : Nat) (H2 : Hp), Dt K ms a ns A1 A2 hd h0 h1 ps qs ps' qs' R S wd u H2 → tr { nx := fun _ H' => Q .non H', rt := Q } [some (.ref a), some (.ref A1), some (.ref A2), some (.ref hd), none, none, none, none, none, none, none, none, none, none, none] H2 := by
   refine ⟨_, (pss_cons (ps_set (i := 4) sc_law.nd rfl (by first | exact Or.inl rfl | exact Or.inr rfl) (pe_callD g__law_step (hr.mono (by decide)) rfl (pa_cons (pe_callD g__law_cell_at (hr.mono (by decide)) rfl (pa_cons (pv 0) (pa_cons pe_int pa_nil))) pa_nil)))
    (pss_cons (ps_set (i := 5) sc_law.nd rfl (by first | exact Or.inl rfl | exact Or.inr rfl) (pe_callD g__law_step (hr.mono (by decide)) rfl (pa_cons (pe_callD g__law_cell_at (hr.mono (by decide)) rfl (pa_cons (pv 0) (pa_cons pe_int pa_nil))) pa_nil)))
    (pss_cons (ps_if (pt_not (pt_val (pe_callD g__law_tiled_right (hr.mono (by decide)) rfl (pa_cons (pv 1) (pa_cons (pe_ix (ixK K rfl) (pv 3) pe_int (fun _ _ => rfl)) (pa_cons (pv 4) (pa_cons (pv 5) pa_nil))))))) (pss_one (ps_ret pe_bl)) pss_nil)
    (@r8)))), ?_⟩
   intro A1 A2 hd h0 h1 ps qs ps' qs' R S wd u H2 dt
   refine ⟨_, rfl, a, ns, 7, rfl, dt.sq, _, rfl, fun u1 H3 s3 ku1 sm1 => ?_⟩
   refine ⟨_, rfl, a, ns, 8, rfl, (dt.mono s3).sq, _, rfl, fun u2 H4 s4 ku2 sm2 => ?_⟩
   have dt := dt.mono (s3.trans s4)
   refine ⟨_, rfl, _, rfl, hd, _, _, .ref h0, rfl, rfl, SqL.of dt.eh, atI_nat (j := 0) rfl, _, rfl, _, rfl, A1, h0, ps, ps', R, wd, u1, u2, rfl, dt.pa, dt.ph, dt.g1, ku1.mono s4, ku2, sm1, sm2, dt.tab, fun H5 ok5 => ⟨_, rfl, ?_⟩⟩
   have m5 := dt.tab.nt ok5.but
   exact k8 A1 A2 hd h0 h1 ps qs ps' qs' R S wd u u1 u2 H5 (dt.ok ok5) (m5.kd (ku1.mono s4)) sm1 (m5.kd ku2) sm2
  obtain ⟨t3, r3, k3⟩ : ∃ tr, PSs ((cxOf CX0 P w K mg base nmlaw "law" (defScope s_law) f cdv A outer s H E).nox) ((defBody s_law).drop 3) tr ∧
    ∀ (A1 A2 hd h0 h1 : Addr) (ps qs ps' qs' : List Addr) (R S : List (List Int)) (wd u : Nat) (H2 : Hp), Dt K ms a ns A1 A2 hd h0 h1 ps qs ps' qs' R S wd u H2 → (∀ z ∈ qs', z ∉ ps') → (∀ z ∈ ps', z ∉ qs') → tr { nx := fun _ H' => Q .non H', rt := Q } [some (.ref a), some (.ref A1), some (.ref A2), some (.ref hd), none, none, none, none, none, none, none, none, none, none, none] H2 := by
   refine ⟨_, (pss_cons (ps_if (PW.pt (pw_or (pt_not (pt_val (pe_callD g__law_joined_right (hr.mono (by decide)) rfl (pa_cons (pe_ix (ixK K rfl) (pv 3) pe_int (fun _ _ => rfl)) (pa_cons (pe_ix (ixK K rfl) (pv 3) pe_int (fun _ _ => rfl)) pa_nil))))) (pw_or1 (pt_not (pt_val (pe_callD g__law_joined_right (hr.mono (by decide)) rfl (pa_cons (pe_ix (ixK K rfl) (pv 3) pe_int (fun _ _ => rfl)) (pa_cons (pe_ix (ixK K rfl) (pv 3) pe_int (fun _ _ => rfl)) pa_nil)))))))) (pss_one (ps_ret pe_bl)) pss_nil)
    (pss_cons (ps_if (pt_cmpR (neDK K rfl hu) (pv 3) (pe_lst (pa_cons (pv 1) (pa_cons (pv 2) pa_nil))) (nomark _)) (pss_one (ps_ret pe_bl)) pss_nil)
    (@r5))), ?_⟩
   intro A1 A2 hd h0 h1 ps qs ps' qs' R S wd u H2 dt dj1 dj2
   refine ⟨_, rfl, hd, _, _, .ref h0, rfl, rfl, SqL.of dt.eh, atI_nat (j := 0) rfl, _, rfl, hd, _, _, .ref h1, rfl, rfl, SqL.of dt.eh, atI_nat (j := 1) rfl, h0, h1, ps', qs', R, S, wd, u, rfl, dt.ph, dt.g1, dt.pk, dt.g2, dj1, dt.tab, fun H4 ok4 => ⟨_, rfl, ?_⟩⟩
   have dt := dt.ok ok4
   refine ⟨_, rfl, hd, _, _, .ref h1, rfl, rfl, SqL.of dt.eh, atI_nat (j := 1) rfl, _, rfl, hd, _, _, .ref h0, rfl, rfl, SqL.of dt.eh, atI_nat (j := 0) rfl, h1, h0, qs', ps', S, R, u, wd, rfl, dt.pk, dt.g2, dt.ph, dt.g1, dj2, dt.tab, fun H5 ok5 => ⟨_, rfl, ?_⟩⟩
   have dt := dt.ok ok5
   refine ⟨_, rfl, _, rfl, _, rfl, sz2, fun L hL => ?_⟩
   have y := same_new (o := HO.lst [V.ref A1, .ref A2]) hL
   have dt := dt.mono y
   exact ⟨2, hd, L, true, by decide, rfl, rfl, EqL.two dt.eh upd_same (EqL.pic dt.ph dt.pa) (EqL.pic dt.pk dt.pb), _, rfl, k5 A1 A2 hd h0 h1 ps qs ps' qs' R S wd u _ dt⟩
  refine ⟨_, (pss_cons (ps_set (i := 1) sc_law.nd rfl (by first | exact Or.inl rfl | exact Or.inr rfl) (pe_callD g__law_picture (hr.mono (by decide)) rfl (pa_cons (pv 0) (pa_cons pe_int (pa_cons pe_int pa_nil)))))
    (pss_cons (ps_set (i := 2) sc_law.nd rfl (by first | exact Or.inl rfl | exact Or.inr rfl) (pe_callD g__law_other (hr.mono (by decide)) rfl (pa_cons (pv 0) (pa_cons (pv 1) pa_nil))))
    (pss_cons (ps_set (i := 3) sc_law.nd rfl (by first | exact Or.inl rfl | exact Or.inr rfl) (pe_lst (pa_cons (pe_callD g__law_copied (hr.mono (by decide)) rfl (pa_cons (pv 1) pa_nil)) (pa_cons (pe_callD g__law_copied (hr.mono (by decide)) rfl (pa_cons (pv 2) pa_nil)) pa_nil))))
    (@r3)))), ?_⟩
  have tab0 : AllG ms H := fun m hm => TabG.start (hp _ hm)
  refine ⟨_, rfl, a, ns, 0, rfl, hS, fun A1 ps R wd H1 s1 hA1 fr1 pa gd => ?_⟩
  refine ⟨_, rfl, _, rfl, a, ns, A1, ps, R, wd, rfl, s1.seq hS, pa, gd, fun A2 qs S u H2 s2 hA2 fr2 pb gd2 => ?_⟩
  refine ⟨_, rfl, A1, ps, ir R, rfl, (pa.mono s2).top, (pa.mono s2).row, (by rw [ir_len]; exact Nat.le_trans gd.le (by decide)), fun h0 ps' H3 s3 hh0 fr3 ph => ?_⟩
  have pb3 := pb.mono s3
  refine ⟨_, rfl, A2, qs, ir S, rfl, pb3.top, pb3.row, (by rw [ir_len]; exact Nat.le_trans gd2.le (by decide)), fun h1 qs' H4 s4 hh1 fr4 pk => ?_⟩
  refine ⟨sz2, fun hd hhd => ?_⟩
  have y := same_new (o := HO.lst [V.ref h0, .ref h1]) hhd
  have s14 := ((s1.trans s2).trans s3).trans (s4.trans y)
  have dj : ∀ z ∈ qs', z ∉ ps' := fun z hz hz' => by
   obtain ⟨r, _, e⟩ := ph.mem hz'
   have := fr4 z hz
   rw [this] at e; cases e
  exact k3 A1 A2 hd h0 h1 ps qs ps' qs' R S wd u _ ⟨tab0.mono s14, s14.seq hS, pa.mono (s2.trans (s3.trans (s4.trans y))), pb3.mono (s4.trans y), upd_same, ph.mono (s4.trans y), pk.mono y, gd, gd2⟩ dj (fun z hz hz' => dj z hz' hz)
end
end K13
set_option Elab.async false
set_option linter.all false
set_option maxRecDepth 100000
set_option maxHeartbeats 8000000
namespace K13
open PySem L2
theorem nd4 {pJ pT pS pL : Addr} {a b c d : Str} (h : [pJ, pT, pS, pL].Nodup) : ∀ x ∈ ([(pJ, a), (pT, b), (pS, c), (pL, d)] : Tbs), ∀ y ∈ ([(pJ, a), (pT, b), (pS, c), (pL, d)] : Tbs), x.1 = y.1 → x = y := by
 simp only [List.nodup_cons, List.mem_cons, List.not_mem_nil, or_false, not_or] at h
 obtain ⟨⟨h1, h2, h3⟩, ⟨h4, h5⟩, h6, _⟩ := h
 intro x hx y hy e
 simp only [List.mem_cons, List.not_mem_nil, or_false] at hx hy
 rcases hx with rfl | rfl | rfl | rfl <;> rcases hy with rfl | rfl | rfl | rfl <;> first | rfl | exact absurd e h1 | exact absurd e h2 | exact absurd e h3 | exact absurd e h4 | exact absurd e h5 | exact absurd e h6 | exact absurd e.symm h1 | exact absurd e.symm h2 | exact absurd e.symm h3 | exact absurd e.symm h4 | exact absurd e.symm h5 | exact absurd e.symm h6
theorem all_mk {l : W.OpenLaw} {w : World} {K : W.Frag} {h : Heap} {mg : Str → Option Value} {fa : Addr} (X : K.In h) (G : h.Ns mainGlobals mg) (hfa : mg "law" = some (.ref fa)) {cJ pJ cT pT cS pS cL pL : Addr}
  {f1 f2 f3 f4 f5 f6 f7 f8 f9 f10 f11 f12 f13 f14 f15 f16 f17 f18 f19 f20 f21 f22 f23 f24 f25 f26 f27 f28 f29 f30 f31 f32 f33 f34 f35 f36 f37 f38 f39 cFE cBP cBS : Addr} {tS tC : Tok} {od1 an1 od2 an2 od3 an3 od4 an4 od5 an5 od6 an6 od7 an7 od8 an8 od9 an9 od10 an10 od11 an11 od12 an12 od13 an13 od14 an14 od15 an15 od16 an16 od17 an17 od18 an18 od19 an19 od20 an20 od21 an21 od22 an22 od23 an23 od24 an24 od25 an25 od26 an26 od27 an27 od28 an28 od29 an29 od30 an30 od31 an31 od32 an32 od33 an33 od34 an34 od35 an35 od36 an36 od37 an37 od38 an38 od39 an39 : Option Addr} {sl1 sl2 sl3 sl4 sl5 sl6 sl7 sl8 sl9 sl10 sl11 sl12 sl13 sl14 sl15 sl16 sl17 sl18 sl19 sl20 sl21 sl22 sl23 sl24 sl25 sl26 sl27 sl28 sl29 sl30 sl31 sl32 sl33 sl34 sl35 sl36 sl37 sl38 sl39 : Array (Option Value)} {oc1 kV1 dc1 pm1 cd1 ct1 oc2 kV2 dc2 pm2 cd2 ct2 oc3 kV3 dc3 pm3 cd3 ct3 oc4 kV4 dc4 pm4 cd4 ct4 oc5 kV5 dc5 pm5 cd5 ct5 oc6 kV6 dc6 pm6 cd6 ct6 oc7 kV7 dc7 pm7 cd7 ct7 oc8 kV8 dc8 pm8 cd8 ct8 oc9 kV9 dc9 pm9 cd9 ct9 oc10 kV10 dc10 pm10 cd10 ct10 oc11 kV11 dc11 pm11 cd11 ct11 oc12 kV12 dc12 pm12 cd12 ct12 oc13 kV13 dc13 pm13 cd13 ct13 oc14 kV14 dc14 pm14 cd14 ct14 oc15 kV15 dc15 pm15 cd15 ct15 oc16 kV16 dc16 pm16 cd16 ct16 oc17 kV17 dc17 pm17 cd17 ct17 oc18 kV18 dc18 pm18 cd18 ct18 oc19 kV19 dc19 pm19 cd19 ct19 oc20 kV20 dc20 pm20 cd20 ct20 oc21 kV21 dc21 pm21 cd21 ct21 oc22 kV22 dc22 pm22 cd22 ct22 oc23 kV23 dc23 pm23 cd23 ct23 oc24 kV24 dc24 pm24 cd24 ct24 oc25 kV25 dc25 pm25 cd25 ct25 oc26 kV26 dc26 pm26 cd26 ct26 oc27 kV27 dc27 pm27 cd27 ct27 oc28 kV28 dc28 pm28 cd28 ct28 oc29 kV29 dc29 pm29 cd29 ct29 oc30 kV30 dc30 pm30 cd30 ct30 oc31 kV31 dc31 pm31 cd31 ct31 oc32 kV32 dc32 pm32 cd32 ct32 oc33 kV33 dc33 pm33 cd33 ct33 oc34 kV34 dc34 pm34 cd34 ct34 oc35 kV35 dc35 pm35 cd35 ct35 oc36 kV36 dc36 pm36 cd36 ct36 oc37 kV37 dc37 pm37 cd37 ct37 oc38 kV38 dc38 pm38 cd38 ct38 oc39 kV39 dc39 pm39 cd39 ct39 : Value}
  (a1 : W.nsIn K mainGlobals "is_whole_from" = some (some (.ref f1))) (l1 : K.lookup f1 = some ⟨oc1, od1, .func (W.fnOf "is_whole_from" "is_whole_from" (defArgs s_is_whole_from) (defBody s_is_whole_from) (defScope s_is_whole_from) .none kV1 dc1 pm1 an1 cd1 ct1), sl1⟩) (c1 : W.codeIn K cd1 "is_whole_from" = true) (k1 : W.keepIn K (.ref f1) = true)
  (a2 : W.nsIn K mainGlobals "is_whole_within" = some (some (.ref f2))) (l2 : K.lookup f2 = some ⟨oc2, od2, .func (W.fnOf "is_whole_within" "is_whole_within" (defArgs s_is_whole_within) (defBody s_is_whole_within) (defScope s_is_whole_within) .none kV2 dc2 pm2 an2 cd2 ct2), sl2⟩) (c2 : W.codeIn K cd2 "is_whole_within" = true) (k2 : W.keepIn K (.ref f2) = true)
  (a3 : W.nsIn K mainGlobals "is_cell" = some (some (.ref f3))) (l3 : K.lookup f3 = some ⟨oc3, od3, .func (W.fnOf "is_cell" "is_cell" (defArgs s_is_cell) (defBody s_is_cell) (defScope s_is_cell) .none kV3 dc3 pm3 an3 cd3 ct3), sl3⟩) (c3 : W.codeIn K cd3 "is_cell" = true) (k3 : W.keepIn K (.ref f3) = true)
  (a4 : W.nsIn K mainGlobals "is_side" = some (some (.ref f4))) (l4 : K.lookup f4 = some ⟨oc4, od4, .func (W.fnOf "is_side" "is_side" (defArgs s_is_side) (defBody s_is_side) (defScope s_is_side) .none kV4 dc4 pm4 an4 cd4 ct4), sl4⟩) (c4 : W.codeIn K cd4 "is_side" = true) (k4 : W.keepIn K (.ref f4) = true)
  (a5 : W.nsIn K mainGlobals "is_list_of" = some (some (.ref f5))) (l5 : K.lookup f5 = some ⟨oc5, od5, .func (W.fnOf "is_list_of" "is_list_of" (defArgs s_is_list_of) (defBody s_is_list_of) (defScope s_is_list_of) .none kV5 dc5 pm5 an5 cd5 ct5), sl5⟩) (c5 : W.codeIn K cd5 "is_list_of" = true) (k5 : W.keepIn K (.ref f5) = true)
  (a6 : W.nsIn K mainGlobals "are_rows_of" = some (some (.ref f6))) (l6 : K.lookup f6 = some ⟨oc6, od6, .func (W.fnOf "are_rows_of" "are_rows_of" (defArgs s_are_rows_of) (defBody s_are_rows_of) (defScope s_are_rows_of) .none kV6 dc6 pm6 an6 cd6 ct6), sl6⟩) (c6 : W.codeIn K cd6 "are_rows_of" = true) (k6 : W.keepIn K (.ref f6) = true)
  (a7 : W.nsIn K mainGlobals "is_picture" = some (some (.ref f7))) (l7 : K.lookup f7 = some ⟨oc7, od7, .func (W.fnOf "is_picture" "is_picture" (defArgs s_is_picture) (defBody s_is_picture) (defScope s_is_picture) .none kV7 dc7 pm7 an7 cd7 ct7), sl7⟩) (c7 : W.codeIn K cd7 "is_picture" = true) (k7 : W.keepIn K (.ref f7) = true)
  (a8 : W.nsIn K mainGlobals "need_picture" = some (some (.ref f8))) (l8 : K.lookup f8 = some ⟨oc8, od8, .func (W.fnOf "need_picture" "need_picture" (defArgs s_need_picture) (defBody s_need_picture) (defScope s_need_picture) .none kV8 dc8 pm8 an8 cd8 ct8), sl8⟩) (c8 : W.codeIn K cd8 "need_picture" = true) (k8 : W.keepIn K (.ref f8) = true)
  (a9 : W.nsIn K mainGlobals "need_sides" = some (some (.ref f9))) (l9 : K.lookup f9 = some ⟨oc9, od9, .func (W.fnOf "need_sides" "need_sides" (defArgs s_need_sides) (defBody s_need_sides) (defScope s_need_sides) .none kV9 dc9 pm9 an9 cd9 ct9), sl9⟩) (c9 : W.codeIn K cd9 "need_sides" = true) (k9 : W.keepIn K (.ref f9) = true)
  (a10 : W.nsIn K mainGlobals "need_like_sizes" = some (some (.ref f10))) (l10 : K.lookup f10 = some ⟨oc10, od10, .func (W.fnOf "need_like_sizes" "need_like_sizes" (defArgs s_need_like_sizes) (defBody s_need_like_sizes) (defScope s_need_like_sizes) .none kV10 dc10 pm10 an10 cd10 ct10), sl10⟩) (c10 : W.codeIn K cd10 "need_like_sizes" = true) (k10 : W.keepIn K (.ref f10) = true)
  (a11 : W.nsIn K mainGlobals "size_of" = some (some (.ref f11))) (l11 : K.lookup f11 = some ⟨oc11, od11, .func (W.fnOf "size_of" "size_of" (defArgs s_size_of) (defBody s_size_of) (defScope s_size_of) .none kV11 dc11 pm11 an11 cd11 ct11), sl11⟩) (c11 : W.codeIn K cd11 "size_of" = true) (k11 : W.keepIn K (.ref f11) = true)
  (a12 : W.nsIn K mainGlobals "copied_rows" = some (some (.ref f12))) (l12 : K.lookup f12 = some ⟨oc12, od12, .func (W.fnOf "copied_rows" "copied_rows" (defArgs s_copied_rows) (defBody s_copied_rows) (defScope s_copied_rows) .none kV12 dc12 pm12 an12 cd12 ct12), sl12⟩) (c12 : W.codeIn K cd12 "copied_rows" = true) (k12 : W.keepIn K (.ref f12) = true)
  (a13 : W.nsIn K mainGlobals "rows_cut_out" = some (some (.ref f13))) (l13 : K.lookup f13 = some ⟨oc13, od13, .func (W.fnOf "rows_cut_out" "rows_cut_out" (defArgs s_rows_cut_out) (defBody s_rows_cut_out) (defScope s_rows_cut_out) .none kV13 dc13 pm13 an13 cd13 ct13), sl13⟩) (c13 : W.codeIn K cd13 "rows_cut_out" = true) (k13 : W.keepIn K (.ref f13) = true)
  (a14 : W.nsIn K mainGlobals "need_steps" = some (some (.ref f14))) (l14 : K.lookup f14 = some ⟨oc14, od14, .func (W.fnOf "need_steps" "need_steps" (defArgs s_need_steps) (defBody s_need_steps) (defScope s_need_steps) .none kV14 dc14 pm14 an14 cd14 ct14), sl14⟩) (c14 : W.codeIn K cd14 "need_steps" = true) (k14 : W.keepIn K (.ref f14) = true)
  (a15 : W.nsIn K mainGlobals "set_beside" = some (some (.ref f15))) (l15 : K.lookup f15 = some ⟨oc15, od15, .func (W.fnOf "set_beside" "set_beside" (defArgs s_set_beside) (defBody s_set_beside) (defScope s_set_beside) .none kV15 dc15 pm15 an15 cd15 ct15), sl15⟩) (c15 : W.codeIn K cd15 "set_beside" = true) (k15 : W.keepIn K (.ref f15) = true)
  (a16 : W.nsIn K mainGlobals "set_above" = some (some (.ref f16))) (l16 : K.lookup f16 = some ⟨oc16, od16, .func (W.fnOf "set_above" "set_above" (defArgs s_set_above) (defBody s_set_above) (defScope s_set_above) .none kV16 dc16 pm16 an16 cd16 ct16), sl16⟩) (c16 : W.codeIn K cd16 "set_above" = true) (k16 : W.keepIn K (.ref f16) = true)
  (a17 : W.nsIn K mainGlobals "tiled" = some (some (.ref f17))) (l17 : K.lookup f17 = some ⟨oc17, od17, .func (W.fnOf "tiled" "tiled" (defArgs s_tiled) (defBody s_tiled) (defScope s_tiled) .none kV17 dc17 pm17 an17 cd17 ct17), sl17⟩) (c17 : W.codeIn K cd17 "tiled" = true) (k17 : W.keepIn K (.ref f17) = true)
  (a18 : W.nsIn K mainGlobals "tiles_of" = some (some (.ref f18))) (l18 : K.lookup f18 = some ⟨oc18, od18, .func (W.fnOf "tiles_of" "tiles_of" (defArgs s_tiles_of) (defBody s_tiles_of) (defScope s_tiles_of) .none kV18 dc18 pm18 an18 cd18 ct18), sl18⟩) (c18 : W.codeIn K cd18 "tiles_of" = true) (k18 : W.keepIn K (.ref f18) = true)
  (a19 : W.nsIn K mainGlobals "is_row_of_tiles" = some (some (.ref f19))) (l19 : K.lookup f19 = some ⟨oc19, od19, .func (W.fnOf "is_row_of_tiles" "is_row_of_tiles" (defArgs s_is_row_of_tiles) (defBody s_is_row_of_tiles) (defScope s_is_row_of_tiles) .none kV19 dc19 pm19 an19 cd19 ct19), sl19⟩) (c19 : W.codeIn K cd19 "is_row_of_tiles" = true) (k19 : W.keepIn K (.ref f19) = true)
  (a20 : W.nsIn K mainGlobals "need_tiles" = some (some (.ref f20))) (l20 : K.lookup f20 = some ⟨oc20, od20, .func (W.fnOf "need_tiles" "need_tiles" (defArgs s_need_tiles) (defBody s_need_tiles) (defScope s_need_tiles) .none kV20 dc20 pm20 an20 cd20 ct20), sl20⟩) (c20 : W.codeIn K cd20 "need_tiles" = true) (k20 : W.keepIn K (.ref f20) = true)
  (a21 : W.nsIn K mainGlobals "need_like_tiles" = some (some (.ref f21))) (l21 : K.lookup f21 = some ⟨oc21, od21, .func (W.fnOf "need_like_tiles" "need_like_tiles" (defArgs s_need_like_tiles) (defBody s_need_like_tiles) (defScope s_need_like_tiles) .none kV21 dc21 pm21 an21 cd21 ct21), sl21⟩) (c21 : W.codeIn K cd21 "need_like_tiles" = true) (k21 : W.keepIn K (.ref f21) = true)
  (a22 : W.nsIn K mainGlobals "row_through_tiles" = some (some (.ref f22))) (l22 : K.lookup f22 = some ⟨oc22, od22, .func (W.fnOf "row_through_tiles" "row_through_tiles" (defArgs s_row_through_tiles) (defBody s_row_through_tiles) (defScope s_row_through_tiles) .none kV22 dc22 pm22 an22 cd22 ct22), sl22⟩) (c22 : W.codeIn K cd22 "row_through_tiles" = true) (k22 : W.keepIn K (.ref f22) = true)
  (a23 : W.nsIn K mainGlobals "from_tiles" = some (some (.ref f23))) (l23 : K.lookup f23 = some ⟨oc23, od23, .func (W.fnOf "from_tiles" "from_tiles" (defArgs s_from_tiles) (defBody s_from_tiles) (defScope s_from_tiles) .none kV23 dc23 pm23 an23 cd23 ct23), sl23⟩) (c23 : W.codeIn K cd23 "from_tiles" = true) (k23 : W.keepIn K (.ref f23) = true)
  (a24 : W.nsIn K mainGlobals "_law_refused" = some (some (.ref f24))) (l24 : K.lookup f24 = some ⟨oc24, od24, .func (W.fnOf "_law_refused" "_law_refused" (defArgs s_law_refused) (defBody s_law_refused) (defScope s_law_refused) .none kV24 dc24 pm24 an24 cd24 ct24), sl24⟩) (c24 : W.codeIn K cd24 "_law_refused" = true) (k24 : W.keepIn K (.ref f24) = true)
  (a25 : W.nsIn K mainGlobals "_law_cell_at" = some (some (.ref f25))) (l25 : K.lookup f25 = some ⟨oc25, od25, .func (W.fnOf "_law_cell_at" "_law_cell_at" (defArgs s_law_cell_at) (defBody s_law_cell_at) (defScope s_law_cell_at) .none kV25 dc25 pm25 an25 cd25 ct25), sl25⟩) (c25 : W.codeIn K cd25 "_law_cell_at" = true) (k25 : W.keepIn K (.ref f25) = true)
  (a26 : W.nsIn K mainGlobals "_law_mixed" = some (some (.ref f26))) (l26 : K.lookup f26 = some ⟨oc26, od26, .func (W.fnOf "_law_mixed" "_law_mixed" (defArgs s_law_mixed) (defBody s_law_mixed) (defScope s_law_mixed) .none kV26 dc26 pm26 an26 cd26 ct26), sl26⟩) (c26 : W.codeIn K cd26 "_law_mixed" = true) (k26 : W.keepIn K (.ref f26) = true)
  (a27 : W.nsIn K mainGlobals "_law_picture" = some (some (.ref f27))) (l27 : K.lookup f27 = some ⟨oc27, od27, .func (W.fnOf "_law_picture" "_law_picture" (defArgs s_law_picture) (defBody s_law_picture) (defScope s_law_picture) .none kV27 dc27 pm27 an27 cd27 ct27), sl27⟩) (c27 : W.codeIn K cd27 "_law_picture" = true) (k27 : W.keepIn K (.ref f27) = true)
  (a28 : W.nsIn K mainGlobals "_law_copied" = some (some (.ref f28))) (l28 : K.lookup f28 = some ⟨oc28, od28, .func (W.fnOf "_law_copied" "_law_copied" (defArgs s_law_copied) (defBody s_law_copied) (defScope s_law_copied) .none kV28 dc28 pm28 an28 cd28 ct28), sl28⟩) (c28 : W.codeIn K cd28 "_law_copied" = true) (k28 : W.keepIn K (.ref f28) = true)
  (a29 : W.nsIn K mainGlobals "_law_marked" = some (some (.ref f29))) (l29 : K.lookup f29 = some ⟨oc29, od29, .func (W.fnOf "_law_marked" "_law_marked" (defArgs s_law_marked) (defBody s_law_marked) (defScope s_law_marked) .none kV29 dc29 pm29 an29 cd29 ct29), sl29⟩) (c29 : W.codeIn K cd29 "_law_marked" = true) (k29 : W.keepIn K (.ref f29) = true)
  (a30 : W.nsIn K mainGlobals "_law_is_like" = some (some (.ref f30))) (l30 : K.lookup f30 = some ⟨oc30, od30, .func (W.fnOf "_law_is_like" "_law_is_like" (defArgs s_law_is_like) (defBody s_law_is_like) (defScope s_law_is_like) .none kV30 dc30 pm30 an30 cd30 ct30), sl30⟩) (c30 : W.codeIn K cd30 "_law_is_like" = true) (k30 : W.keepIn K (.ref f30) = true)
  (a31 : W.nsIn K mainGlobals "_law_is_number" = some (some (.ref f31))) (l31 : K.lookup f31 = some ⟨oc31, od31, .func (W.fnOf "_law_is_number" "_law_is_number" (defArgs s_law_is_number) (defBody s_law_is_number) (defScope s_law_is_number) .none kV31 dc31 pm31 an31 cd31 ct31), sl31⟩) (c31 : W.codeIn K cd31 "_law_is_number" = true) (k31 : W.keepIn K (.ref f31) = true)
  (a32 : W.nsIn K mainGlobals "_law_other" = some (some (.ref f32))) (l32 : K.lookup f32 = some ⟨oc32, od32, .func (W.fnOf "_law_other" "_law_other" (defArgs s_law_other) (defBody s_law_other) (defScope s_law_other) .none kV32 dc32 pm32 an32 cd32 ct32), sl32⟩) (c32 : W.codeIn K cd32 "_law_other" = true) (k32 : W.keepIn K (.ref f32) = true)
  (a33 : W.nsIn K mainGlobals "_law_step" = some (some (.ref f33))) (l33 : K.lookup f33 = some ⟨oc33, od33, .func (W.fnOf "_law_step" "_law_step" (defArgs s_law_step) (defBody s_law_step) (defScope s_law_step) .none kV33 dc33 pm33 an33 cd33 ct33), sl33⟩) (c33 : W.codeIn K cd33 "_law_step" = true) (k33 : W.keepIn K (.ref f33) = true)
  (a34 : W.nsIn K mainGlobals "_law_tiles" = some (some (.ref f34))) (l34 : K.lookup f34 = some ⟨oc34, od34, .func (W.fnOf "_law_tiles" "_law_tiles" (defArgs s_law_tiles) (defBody s_law_tiles) (defScope s_law_tiles) .none kV34 dc34 pm34 an34 cd34 ct34), sl34⟩) (c34 : W.codeIn K cd34 "_law_tiles" = true) (k34 : W.keepIn K (.ref f34) = true)
  (a35 : W.nsIn K mainGlobals "_law_joined_right" = some (some (.ref f35))) (l35 : K.lookup f35 = some ⟨oc35, od35, .func (W.fnOf "_law_joined_right" "_law_joined_right" (defArgs s_law_joined_right) (defBody s_law_joined_right) (defScope s_law_joined_right) .none kV35 dc35 pm35 an35 cd35 ct35), sl35⟩) (c35 : W.codeIn K cd35 "_law_joined_right" = true) (k35 : W.keepIn K (.ref f35) = true)
  (a36 : W.nsIn K mainGlobals "_law_tiled_right" = some (some (.ref f36))) (l36 : K.lookup f36 = some ⟨oc36, od36, .func (W.fnOf "_law_tiled_right" "_law_tiled_right" (defArgs s_law_tiled_right) (defBody s_law_tiled_right) (defScope s_law_tiled_right) .none kV36 dc36 pm36 an36 cd36 ct36), sl36⟩) (c36 : W.codeIn K cd36 "_law_tiled_right" = true) (k36 : W.keepIn K (.ref f36) = true)
  (a37 : W.nsIn K mainGlobals "_law_tiles_right" = some (some (.ref f37))) (l37 : K.lookup f37 = some ⟨oc37, od37, .func (W.fnOf "_law_tiles_right" "_law_tiles_right" (defArgs s_law_tiles_right) (defBody s_law_tiles_right) (defScope s_law_tiles_right) .none kV37 dc37 pm37 an37 cd37 ct37), sl37⟩) (c37 : W.codeIn K cd37 "_law_tiles_right" = true) (k37 : W.keepIn K (.ref f37) = true)
  (a38 : W.nsIn K mainGlobals "_law_bad_tiles" = some (some (.ref f38))) (l38 : K.lookup f38 = some ⟨oc38, od38, .func (W.fnOf "_law_bad_tiles" "_law_bad_tiles" (defArgs s_law_bad_tiles) (defBody s_law_bad_tiles) (defScope s_law_bad_tiles) .none kV38 dc38 pm38 an38 cd38 ct38), sl38⟩) (c38 : W.codeIn K cd38 "_law_bad_tiles" = true) (k38 : W.keepIn K (.ref f38) = true)
  (a39 : W.nsIn K mainGlobals "law" = some (some (.ref f39))) (l39 : K.lookup f39 = some ⟨oc39, od39, .func (W.fnOf "law" "law" (defArgs s_law) (defBody s_law) (defScope s_law) .none kV39 dc39 pm39 an39 cd39 ct39), sl39⟩) (c39 : W.codeIn K cd39 "law" = true) (k39 : W.keepIn K (.ref f39) = true)
  (z1 : W.nsIn K mainGlobals "len" = some none)
  (z2 : W.nsIn K mainGlobals "range" = some none)
  (z3 : W.nsIn K mainGlobals "isinstance" = some none)
  (z4 : W.nsIn K mainGlobals "int" = some none)
  (z5 : W.nsIn K mainGlobals "bool" = some none)
  (z6 : W.nsIn K mainGlobals "list" = some none)
  (z7 : W.nsIn K mainGlobals "all" = some none)
  (z8 : W.nsIn K mainGlobals "zip" = some none)
  (z9 : W.nsIn K mainGlobals "enumerate" = some none)
  (z10 : W.nsIn K mainGlobals "max" = some none)
  (z11 : W.nsIn K mainGlobals "tuple" = some none)
  (z12 : W.nsIn K mainGlobals "ValueError" = some none)
  (y1 : W.nsIn K mainGlobals "MOST_SIDE" = some (some (.int 24 tS)))
  (y2 : W.nsIn K mainGlobals "MOST_CELL" = some (some (.int 15 tC)))
  (x1 : W.nsIn K mainGlobals "FolioError" = some (some (.ref cFE)))
  (x2 : W.nsIn K mainGlobals "BadPicture" = some (some (.ref cBP)))
  (x3 : W.nsIn K mainGlobals "BadSize" = some (some (.ref cBS)))
  (q1 : W.excIn K cBP mroVE "ValueError.__new__" = true)
  (q2 : W.excIn K cBS mroVE "ValueError.__new__" = true)
  (q3 : W.findIn K (.ref cBP) "__getattribute__" = some (some (.builtin "BaseException.__getattribute__")))
  (q4 : W.findIn K (.ref cBP) "__getattr__" = some none)
  (q5 : W.findIn K (.ref cBP) "__class__" = some (some (.builtin "object.__class__")))
  (q6 : W.mroIn K cBP (.type "BaseException") = some true)
  (q7 : W.mroIn K cBP (.type "object") = some true)
  (q8 : W.isClsIn K cBP = true)
  (q9 : W.findIn K (.ref cBS) "__getattribute__" = some (some (.builtin "BaseException.__getattribute__")))
  (q10 : W.findIn K (.ref cBS) "__getattr__" = some none)
  (q11 : W.findIn K (.ref cBS) "__class__" = some (some (.builtin "object.__class__")))
  (q12 : W.mroIn K cBS (.type "BaseException") = some true)
  (q13 : W.mroIn K cBS (.type "object") = some true)
  (q14 : W.isClsIn K cBS = true)
  (q15 : W.subIn K (.ref cFE) (.type "BaseException") = some true)
  (q16 : W.isClsIn K cFE = true)
  (q17 : W.typeIn K (.ref cFE) = some (.type "type"))
  (q18 : W.subIn K (.ref cBP) (.ref cFE) = some true)
  (q19 : W.subIn K (.ref cBS) (.ref cFE) = some true)
  (q20 : W.kitOne K (.ref cBP) (.ref cBP) = some true)
  (q21 : W.kitOne K (.ref cBP) (.ref cBS) = some false)
  (q22 : W.kitOne K (.ref cBP) (.type "ValueError") = some true)
  (q23 : W.kitOne K (.ref cBS) (.ref cBP) = some false)
  (q24 : W.kitOne K (.ref cBS) (.ref cBS) = some true)
  (q25 : W.kitOne K (.ref cBS) (.type "ValueError") = some true)
  (uJ : cd35 = .ref cJ) (vJ : W.codeHdIn K cJ pJ = true) (uT : cd36 = .ref cT) (vT : W.codeHdIn K cT pT = true) (uS : cd37 = .ref cS) (vS : W.codeHdIn K cS pS = true) (uL : cd39 = .ref cL) (vL : W.codeHdIn K cL pL = true) (nP : [pJ, pT, pS, pL].Nodup)
  : ∃ fd : FuncData, (∀ (s : Shared) (v : Value), BindsTo s fd ⟨[v], []⟩ [("_law_script", v)]) ∧ ∀ base : Heap, K.In base → base.Ns mainGlobals mg → BMain mg base → FnOk l.prog w K mg base CX0 14 fa fd ["_law_script"] (spLaw [(pJ, qJ), (pT, qT), (pS, qS), (pL, qL)] K) := by
 have e := hfa.symm.trans (W.mg_of X G a39)
 cases e
 have T : Txt K mg cFE cBP cBS tS tC := ⟨W.mg_none_of X G z1, W.mg_none_of X G z2, W.mg_none_of X G z3, W.mg_none_of X G z4, W.mg_none_of X G z5, W.mg_none_of X G z6, W.mg_none_of X G z7, W.mg_none_of X G z8, W.mg_none_of X G z9, W.mg_none_of X G z10, W.mg_none_of X G z11, W.mg_none_of X G z12, W.mg_of X G y1, W.mg_of X G y2, W.mg_of X G x1, W.mg_of X G x2, W.mg_of X G x3, q1, q2, ⟨q3, q4, q5, q6, q7, q8⟩, ⟨q9, q10, q11, q12, q13, q14⟩, exm_mk q15 q16 q17 q18, exm_mk q15 q16 q17 q19, q20, q21, q22, q23, q24, q25⟩
 have nd : ∀ a ∈ ([(pJ, qJ), (pT, qT), (pS, qS), (pL, qL)] : Tbs), ∀ b ∈ ([(pJ, qJ), (pT, qT), (pS, qS), (pL, qL)] : Tbs), a.1 = b.1 → a = b := nd4 nP
 have hJ : (pJ, qJ) ∈ ([(pJ, qJ), (pT, qT), (pS, qS), (pL, qL)] : Tbs) := .head _
 have hT : (pT, qT) ∈ ([(pJ, qJ), (pT, qT), (pS, qS), (pL, qL)] : Tbs) := .tail _ (.head _)
 have hS : (pS, qS) ∈ ([(pJ, qJ), (pT, qT), (pS, qS), (pL, qL)] : Tbs) := .tail _ (.tail _ (.head _))
 have hL : (pL, qL) ∈ ([(pJ, qJ), (pT, qT), (pS, qS), (pL, qL)] : Tbs) := .tail _ (.tail _ (.tail _ (.head _)))
 have F1 := funD_mk (st := s_is_whole_from) l1 c1 k1
 have F2 := funD_mk (st := s_is_whole_within) l2 c2 k2
 have F3 := funD_mk (st := s_is_cell) l3 c3 k3
 have F4 := funD_mk (st := s_is_side) l4 c4 k4
 have F5 := funD_mk (st := s_is_list_of) l5 c5 k5
 have F6 := funD_mk (st := s_are_rows_of) l6 c6 k6
 have F7 := funD_mk (st := s_is_picture) l7 c7 k7
 have F8 := funD_mk (st := s_need_picture) l8 c8 k8
 have F9 := funD_mk (st := s_need_sides) l9 c9 k9
 have F10 := funD_mk (st := s_need_like_sizes) l10 c10 k10
 have F11 := funD_mk (st := s_size_of) l11 c11 k11
 have F12 := funD_mk (st := s_copied_rows) l12 c12 k12
 have F13 := funD_mk (st := s_rows_cut_out) l13 c13 k13
 have F14 := funD_mk (st := s_need_steps) l14 c14 k14
 have F15 := funD_mk (st := s_set_beside) l15 c15 k15
 have F16 := funD_mk (st := s_set_above) l16 c16 k16
 have F17 := funD_mk (st := s_tiled) l17 c17 k17
 have F18 := funD_mk (st := s_tiles_of) l18 c18 k18
 have F19 := funD_mk (st := s_is_row_of_tiles) l19 c19 k19
 have F20 := funD_mk (st := s_need_tiles) l20 c20 k20
 have F21 := funD_mk (st := s_need_like_tiles) l21 c21 k21
 have F22 := funD_mk (st := s_row_through_tiles) l22 c22 k22
 have F23 := funD_mk (st := s_from_tiles) l23 c23 k23
 have F24 := funD_mk (st := s_law_refused) l24 c24 k24
 have F25 := funD_mk (st := s_law_cell_at) l25 c25 k25
 have F26 := funD_mk (st := s_law_mixed) l26 c26 k26
 have F27 := funD_mk (st := s_law_picture) l27 c27 k27
 have F28 := funD_mk (st := s_law_copied) l28 c28 k28
 have F29 := funD_mk (st := s_law_marked) l29 c29 k29
 have F30 := funD_mk (st := s_law_is_like) l30 c30 k30
 have F31 := funD_mk (st := s_law_is_number) l31 c31 k31
 have F32 := funD_mk (st := s_law_other) l32 c32 k32
 have F33 := funD_mk (st := s_law_step) l33 c33 k33
 have F34 := funD_mk (st := s_law_tiles) l34 c34 k34
 have F35 := funD_mk (st := s_law_joined_right) l35 c35 k35
 have F36 := funD_mk (st := s_law_tiled_right) l36 c36 k36
 have F37 := funD_mk (st := s_law_tiles_right) l37 c37 k37
 have F38 := funD_mk (st := s_law_bad_tiles) l38 c38 k38
 have F39 := funD_mk (st := s_law) l39 c39 k39
 have gX : ∀ base : Heap, BaseOk K mg base → DefX l.prog w K mg base 9 "set_beside" ["one", "other"] [] (spTwo noBeside besideF K cBP cBS) ∧ DefX l.prog w K mg base 9 "set_above" ["one", "other"] [] (spTwo noAbove (fun R S => R ++ S) K cBP cBS) ∧ DefX l.prog w K mg base 9 "tiled" ["picture", "across", "down"] [] (spTiled K cBP cBS) ∧ DefX l.prog w K mg base 9 "tiles_of" ["picture", "wide", "high"] [] (spTiles K cBP cBS) ∧ DefX l.prog w K mg base 10 "from_tiles" ["tiles"] [] (spFrom K cBP cBS) := fun base ok => by
  have g1 := F1.def (P := l.prog) (w := w) (mg := mg) (base := base) (ok_is_whole_from F1 T) (W.mg_of X G a1) (fun _ _ _ _ _ _ us hl => (by obtain ⟨u0, u1, rfl⟩ := len2 hl; rfl))
  have g2 := F2.def (P := l.prog) (w := w) (mg := mg) (base := base) (ok_is_whole_within F2 g1) (W.mg_of X G a2) (fun _ _ _ _ _ _ us hl => (by obtain ⟨u0, u1, u2, rfl⟩ := len3 hl; rfl))
  have g3A := F3.defA (P := l.prog) (w := w) (mg := mg) (base := base) (ok_is_cell F3 T g2) (fun _ _ _ _ _ _ us hl => (by obtain ⟨u0, rfl⟩ := len1 hl; rfl))
  have g3 := F3.def (P := l.prog) (w := w) (mg := mg) (base := base) (ok_is_cell F3 T g2) (W.mg_of X G a3) (fun _ _ _ _ _ _ us hl => (by obtain ⟨u0, rfl⟩ := len1 hl; rfl))
  have g4 := F4.def (P := l.prog) (w := w) (mg := mg) (base := base) (ok_is_side F4 T g2) (W.mg_of X G a4) (fun _ _ _ _ _ _ us hl => (by obtain ⟨u0, rfl⟩ := len1 hl; rfl))
  have g5 := F5.def (P := l.prog) (w := w) (mg := mg) (base := base) (ok_is_list_of F5 T g3A) (W.mg_of X G a5) (fun _ _ _ _ _ _ us hl => (by obtain ⟨u0, u1, rfl⟩ := len2 hl; rfl))
  have g6 := F6.def (P := l.prog) (w := w) (mg := mg) (base := base) (ok_are_rows_of F6 T g5 g4) (W.mg_of X G a6) (fun _ _ _ _ _ _ us hl => (by obtain ⟨u0, u1, rfl⟩ := len2 hl; rfl))
  have g7 := F7.def (P := l.prog) (w := w) (mg := mg) (base := base) (ok_is_picture F7 (W.mg_of X G a3) g6) (W.mg_of X G a7) (fun _ _ _ _ _ _ us hl => (by obtain ⟨u0, rfl⟩ := len1 hl; rfl))
  have g8 := F8.defX (P := l.prog) (w := w) (mg := mg) (base := base) (ok_need_picture F8 T g7) (W.mg_of X G a8) (fun _ _ _ _ _ _ us hl => (by obtain ⟨u0, rfl⟩ := len1 hl; rfl))
  have g9 := F9.defX (P := l.prog) (w := w) (mg := mg) (base := base) (ok_need_sides F9 T g4) (W.mg_of X G a9) (fun _ _ _ _ _ _ us hl => (by obtain ⟨u0, u1, rfl⟩ := len2 hl; rfl))
  have g10 := F10.defX (P := l.prog) (w := w) (mg := mg) (base := base) (ok_need_like_sizes F10 T) (W.mg_of X G a10) (fun _ _ _ _ _ _ us hl => (by obtain ⟨u0, u1, rfl⟩ := len2 hl; rfl))
  have g11 := F11.defX (P := l.prog) (w := w) (mg := mg) (base := base) (ok_size_of F11 T g8) (W.mg_of X G a11) (fun _ _ _ _ _ _ us hl => (by obtain ⟨u0, rfl⟩ := len1 hl; rfl))
  have g12 := F12.def (P := l.prog) (w := w) (mg := mg) (base := base) (ok_copied_rows F12 T) (W.mg_of X G a12) (fun _ _ _ _ _ _ us hl => (by obtain ⟨u0, rfl⟩ := len1 hl; rfl))
  have g13 := F13.def (P := l.prog) (w := w) (mg := mg) (base := base) (ok_rows_cut_out F13 T) (W.mg_of X G a13) (fun _ _ _ _ _ _ us hl => (by obtain ⟨u0, u1, u2, u3, u4, rfl⟩ := len5 hl; rfl))
  have g14 := F14.defX (P := l.prog) (w := w) (mg := mg) (base := base) (ok_need_steps F14 T g1) (W.mg_of X G a14) (fun _ _ _ _ _ _ us hl => (by obtain ⟨u0, u1, rfl⟩ := len2 hl; rfl))
  have g15 := F15.defX (P := l.prog) (w := w) (mg := mg) (base := base) (ok_set_beside F15 T g11 g9) (W.mg_of X G a15) (fun _ _ _ _ _ _ us hl => (by obtain ⟨u0, u1, rfl⟩ := len2 hl; rfl))
  have g16 := F16.defX (P := l.prog) (w := w) (mg := mg) (base := base) (ok_set_above F16 T g11 g9 g12) (W.mg_of X G a16) (fun _ _ _ _ _ _ us hl => (by obtain ⟨u0, u1, rfl⟩ := len2 hl; rfl))
  have g17 := F17.defX (P := l.prog) (w := w) (mg := mg) (base := base) (ok_tiled F17 T g11 g14 g9) (W.mg_of X G a17) (fun _ _ _ _ _ _ us hl => (by obtain ⟨u0, u1, u2, rfl⟩ := len3 hl; rfl))
  have g18 := F18.defX (P := l.prog) (w := w) (mg := mg) (base := base) (ok_tiles_of F18 T g11 g14 g13) (W.mg_of X G a18) (fun _ _ _ _ _ _ us hl => (by obtain ⟨u0, u1, u2, rfl⟩ := len3 hl; rfl))
  have g19 := F19.def (P := l.prog) (w := w) (mg := mg) (base := base) (ok_is_row_of_tiles F19 T g7) (W.mg_of X G a19) (fun _ _ _ _ _ _ us hl => (by obtain ⟨u0, rfl⟩ := len1 hl; rfl))
  have g20 := F20.defX (P := l.prog) (w := w) (mg := mg) (base := base) (ok_need_tiles F20 T g19) (W.mg_of X G a20) (fun _ _ _ _ _ _ us hl => (by obtain ⟨u0, rfl⟩ := len1 hl; rfl))
  have g21 := F21.defX (P := l.prog) (w := w) (mg := mg) (base := base) (ok_need_like_tiles F21 T g11 g10 g9) (W.mg_of X G a21) (fun _ _ _ _ _ _ us hl => (by obtain ⟨u0, rfl⟩ := len1 hl; rfl))
  have g22 := F22.def (P := l.prog) (w := w) (mg := mg) (base := base) (ok_row_through_tiles F22 T) (W.mg_of X G a22) (fun _ _ _ _ _ _ us hl => (by obtain ⟨u0, u1, rfl⟩ := len2 hl; rfl))
  have g23 := F23.defX (P := l.prog) (w := w) (mg := mg) (base := base) (ok_from_tiles F23 T g20 g21 g22) (W.mg_of X G a23) (fun _ _ _ _ _ _ us hl => (by obtain ⟨u0, rfl⟩ := len1 hl; rfl))
  exact ⟨g15, g16, g17, g18, g23⟩
 have gSB := fun base ok => (gX base ok).1
 have gSA := fun base ok => (gX base ok).2.1
 have gTI := fun base ok => (gX base ok).2.2.1
 have gTO := fun base ok => (gX base ok).2.2.2.1
 have gF := fun base ok => (gX base ok).2.2.2.2
 have gB : ∀ base : Heap, BaseOk K mg base → Def l.prog w K mg base 12 "_law_refused" ["_law_deed"] [] (spRef l.prog w K mg cBP cBS base) := fun base ok => by
  have g24 := F24.def (P := l.prog) (w := w) (mg := mg) (base := base) (ok_law_refused F24 T) (W.mg_of X G a24) (fun _ _ _ _ _ _ us hl => (by obtain ⟨u0, rfl⟩ := len1 hl; rfl))
  exact g24
 refine ⟨W.fnOf "law" "law" (defArgs s_law) (defBody s_law) (defScope s_law) .none kV39 dc39 pm39 an39 cd39 ct39, fun s v => .of_eq rfl, fun base kb nb hB => ?_⟩
 have g1 := F1.def (P := l.prog) (w := w) (mg := mg) (base := base) (ok_is_whole_from F1 T) (W.mg_of X G a1) (fun _ _ _ _ _ _ us hl => (by obtain ⟨u0, u1, rfl⟩ := len2 hl; rfl))
 have g2 := F2.def (P := l.prog) (w := w) (mg := mg) (base := base) (ok_is_whole_within F2 g1) (W.mg_of X G a2) (fun _ _ _ _ _ _ us hl => (by obtain ⟨u0, u1, u2, rfl⟩ := len3 hl; rfl))
 have g3A := F3.defA (P := l.prog) (w := w) (mg := mg) (base := base) (ok_is_cell F3 T g2) (fun _ _ _ _ _ _ us hl => (by obtain ⟨u0, rfl⟩ := len1 hl; rfl))
 have g3 := F3.def (P := l.prog) (w := w) (mg := mg) (base := base) (ok_is_cell F3 T g2) (W.mg_of X G a3) (fun _ _ _ _ _ _ us hl => (by obtain ⟨u0, rfl⟩ := len1 hl; rfl))
 have g4 := F4.def (P := l.prog) (w := w) (mg := mg) (base := base) (ok_is_side F4 T g2) (W.mg_of X G a4) (fun _ _ _ _ _ _ us hl => (by obtain ⟨u0, rfl⟩ := len1 hl; rfl))
 have g5 := F5.def (P := l.prog) (w := w) (mg := mg) (base := base) (ok_is_list_of F5 T g3A) (W.mg_of X G a5) (fun _ _ _ _ _ _ us hl => (by obtain ⟨u0, u1, rfl⟩ := len2 hl; rfl))
 have g6 := F6.def (P := l.prog) (w := w) (mg := mg) (base := base) (ok_are_rows_of F6 T g5 g4) (W.mg_of X G a6) (fun _ _ _ _ _ _ us hl => (by obtain ⟨u0, u1, rfl⟩ := len2 hl; rfl))
 have g7 := F7.def (P := l.prog) (w := w) (mg := mg) (base := base) (ok_is_picture F7 (W.mg_of X G a3) g6) (W.mg_of X G a7) (fun _ _ _ _ _ _ us hl => (by obtain ⟨u0, rfl⟩ := len1 hl; rfl))
 have g8 := F8.defX (P := l.prog) (w := w) (mg := mg) (base := base) (ok_need_picture F8 T g7) (W.mg_of X G a8) (fun _ _ _ _ _ _ us hl => (by obtain ⟨u0, rfl⟩ := len1 hl; rfl))
 have g9 := F9.defX (P := l.prog) (w := w) (mg := mg) (base := base) (ok_need_sides F9 T g4) (W.mg_of X G a9) (fun _ _ _ _ _ _ us hl => (by obtain ⟨u0, u1, rfl⟩ := len2 hl; rfl))
 have g10 := F10.defX (P := l.prog) (w := w) (mg := mg) (base := base) (ok_need_like_sizes F10 T) (W.mg_of X G a10) (fun _ _ _ _ _ _ us hl => (by obtain ⟨u0, u1, rfl⟩ := len2 hl; rfl))
 have g11 := F11.defX (P := l.prog) (w := w) (mg := mg) (base := base) (ok_size_of F11 T g8) (W.mg_of X G a11) (fun _ _ _ _ _ _ us hl => (by obtain ⟨u0, rfl⟩ := len1 hl; rfl))
 have g12 := F12.def (P := l.prog) (w := w) (mg := mg) (base := base) (ok_copied_rows F12 T) (W.mg_of X G a12) (fun _ _ _ _ _ _ us hl => (by obtain ⟨u0, rfl⟩ := len1 hl; rfl))
 have g13 := F13.def (P := l.prog) (w := w) (mg := mg) (base := base) (ok_rows_cut_out F13 T) (W.mg_of X G a13) (fun _ _ _ _ _ _ us hl => (by obtain ⟨u0, u1, u2, u3, u4, rfl⟩ := len5 hl; rfl))
 have g14 := F14.defX (P := l.prog) (w := w) (mg := mg) (base := base) (ok_need_steps F14 T g1) (W.mg_of X G a14) (fun _ _ _ _ _ _ us hl => (by obtain ⟨u0, u1, rfl⟩ := len2 hl; rfl))
 have g15 := F15.defX (P := l.prog) (w := w) (mg := mg) (base := base) (ok_set_beside F15 T g11 g9) (W.mg_of X G a15) (fun _ _ _ _ _ _ us hl => (by obtain ⟨u0, u1, rfl⟩ := len2 hl; rfl))
 have g16 := F16.defX (P := l.prog) (w := w) (mg := mg) (base := base) (ok_set_above F16 T g11 g9 g12) (W.mg_of X G a16) (fun _ _ _ _ _ _ us hl => (by obtain ⟨u0, u1, rfl⟩ := len2 hl; rfl))
 have g17 := F17.defX (P := l.prog) (w := w) (mg := mg) (base := base) (ok_tiled F17 T g11 g14 g9) (W.mg_of X G a17) (fun _ _ _ _ _ _ us hl => (by obtain ⟨u0, u1, u2, rfl⟩ := len3 hl; rfl))
 have g18 := F18.defX (P := l.prog) (w := w) (mg := mg) (base := base) (ok_tiles_of F18 T g11 g14 g13) (W.mg_of X G a18) (fun _ _ _ _ _ _ us hl => (by obtain ⟨u0, u1, u2, rfl⟩ := len3 hl; rfl))
 have g19 := F19.def (P := l.prog) (w := w) (mg := mg) (base := base) (ok_is_row_of_tiles F19 T g7) (W.mg_of X G a19) (fun _ _ _ _ _ _ us hl => (by obtain ⟨u0, rfl⟩ := len1 hl; rfl))
 have g20 := F20.defX (P := l.prog) (w := w) (mg := mg) (base := base) (ok_need_tiles F20 T g19) (W.mg_of X G a20) (fun _ _ _ _ _ _ us hl => (by obtain ⟨u0, rfl⟩ := len1 hl; rfl))
 have g21 := F21.defX (P := l.prog) (w := w) (mg := mg) (base := base) (ok_need_like_tiles F21 T g11 g10 g9) (W.mg_of X G a21) (fun _ _ _ _ _ _ us hl => (by obtain ⟨u0, rfl⟩ := len1 hl; rfl))
 have g22 := F22.def (P := l.prog) (w := w) (mg := mg) (base := base) (ok_row_through_tiles F22 T) (W.mg_of X G a22) (fun _ _ _ _ _ _ us hl => (by obtain ⟨u0, u1, rfl⟩ := len2 hl; rfl))
 have g23 := F23.defX (P := l.prog) (w := w) (mg := mg) (base := base) (ok_from_tiles F23 T g20 g21 g22) (W.mg_of X G a23) (fun _ _ _ _ _ _ us hl => (by obtain ⟨u0, rfl⟩ := len1 hl; rfl))
 have g24 := F24.def (P := l.prog) (w := w) (mg := mg) (base := base) (ok_law_refused F24 T) (W.mg_of X G a24) (fun _ _ _ _ _ _ us hl => (by obtain ⟨u0, rfl⟩ := len1 hl; rfl))
 have g25 := F25.def (P := l.prog) (w := w) (mg := mg) (base := base) (ok_law_cell_at F25 T) (W.mg_of X G a25) (fun _ _ _ _ _ _ us hl => (by obtain ⟨u0, u1, rfl⟩ := len2 hl; rfl))
 have g26 := F26.def (P := l.prog) (w := w) (mg := mg) (base := base) (ok_law_mixed F26 ) (W.mg_of X G a26) (fun _ _ _ _ _ _ us hl => (by obtain ⟨u0, u1, rfl⟩ := len2 hl; rfl))
 have g27 := F27.def (P := l.prog) (w := w) (mg := mg) (base := base) (ok_law_picture F27 T g25 g26) (W.mg_of X G a27) (fun _ _ _ _ _ _ us hl => (by obtain ⟨u0, u1, u2, rfl⟩ := len3 hl; rfl))
 have g28 := F28.def (P := l.prog) (w := w) (mg := mg) (base := base) (ok_law_copied F28 T) (W.mg_of X G a28) (fun _ _ _ _ _ _ us hl => (by obtain ⟨u0, rfl⟩ := len1 hl; rfl))
 have g29 := F29.def (P := l.prog) (w := w) (mg := mg) (base := base) (ok_law_marked F29 T) (W.mg_of X G a29) (fun _ _ _ _ _ _ us hl => (by obtain ⟨u0, rfl⟩ := len1 hl; rfl))
 have g30 := F30.def (P := l.prog) (w := w) (mg := mg) (base := base) (ok_law_is_like F30 T) (W.mg_of X G a30) (fun _ _ _ _ _ _ us hl => (by obtain ⟨u0, u1, rfl⟩ := len2 hl; rfl))
 have g31 := F31.def (P := l.prog) (w := w) (mg := mg) (base := base) (ok_law_is_number F31 T) (W.mg_of X G a31) (fun _ _ _ _ _ _ us hl => (by obtain ⟨u0, rfl⟩ := len1 hl; rfl))
 have g32 := F32.def (P := l.prog) (w := w) (mg := mg) (base := base) (ok_law_other F32 T g27 g25) (W.mg_of X G a32) (fun _ _ _ _ _ _ us hl => (by obtain ⟨u0, u1, rfl⟩ := len2 hl; rfl))
 have g33 := F33.def (P := l.prog) (w := w) (mg := mg) (base := base) (ok_law_step F33 ) (W.mg_of X G a33) (fun _ _ _ _ _ _ us hl => (by obtain ⟨u0, rfl⟩ := len1 hl; rfl))
 have g34 := F34.def (P := l.prog) (w := w) (mg := mg) (base := base) (ok_law_tiles F34 T) (W.mg_of X G a34) (fun _ _ _ _ _ _ us hl => (by obtain ⟨u0, u1, u2, rfl⟩ := len3 hl; rfl))
 have g35 := F35.def (P := l.prog) (w := w) (mg := mg) (base := base) (ok_law_joined_right F35 uJ (W.codeHd_of_K kb vJ) hB nd hJ T gB gSB gSA g30 g29) (W.mg_of X G a35) (fun _ _ _ _ _ _ us hl => (by obtain ⟨u0, u1, rfl⟩ := len2 hl; rfl))
 have g36 := F36.def (P := l.prog) (w := w) (mg := mg) (base := base) (ok_law_tiled_right F36 uT (W.codeHd_of_K kb vT) hB nd hT T gB gTI g30 g29 g31) (W.mg_of X G a36) (fun _ _ _ _ _ _ us hl => (by obtain ⟨u0, u1, u2, u3, rfl⟩ := len4 hl; rfl))
 have g37 := F37.def (P := l.prog) (w := w) (mg := mg) (base := base) (ok_law_tiles_right F37 uS (W.codeHd_of_K kb vS) hB nd hS T gB gTO g30 g29 g31 g34 g23) (W.mg_of X G a37) (fun _ _ _ _ _ _ us hl => (by obtain ⟨u0, u1, u2, u3, rfl⟩ := len4 hl; rfl))
 have g38 := F38.def (P := l.prog) (w := w) (mg := mg) (base := base) (ok_law_bad_tiles F38 T g34) (W.mg_of X G a38) (fun _ _ _ _ _ _ us hl => (by obtain ⟨u0, u1, rfl⟩ := len2 hl; rfl))
 exact ok_law F39 uL (W.codeHd_of_K kb vL) hB nd hL T gB gSB gSA gTI gTO gF g25 g27 g28 g32 g33 g35 g36 g37 g38
theorem walk {l : W.OpenLaw} {q : Program} {loose : List Str} {XP : (Str → Option Value) → Heap → Prop} {YP : World → Heap → Prop} {d : DefRec} {K : Params → W.Frag} {pJ pT pS pL : Addr} (hn : l.most = some 63) (hdf : d.params.defaults = [])
  (hY : ∀ (w : World) (h : Heap), YP w h → (K w.params).In h) (hT : ∀ (w : World) (h : Heap), YP w h → ∀ p ∈ [pJ, pT, pS, pL], h.get? p = some (W.tabObj #[]))
  (hC : ∀ (w : World), ∀ p ∈ [pJ, pT, pS, pL], ∃ c, W.codeHdIn (K w.params) c p = true) (hNT : ∀ w : World, W.noTabs (K w.params) = true)
  (F : ∀ (w : World) (mg : Str → Option Value) (fa : Addr) (h : Heap), (K w.params).In h → h.Ns mainGlobals mg → mg d.name = some (.ref fa) →
   ∃ fd : FuncData, (∀ (s : Shared) (u : Value), BindsTo s fd ⟨[u], []⟩ [("_law_script", u)]) ∧ ∀ base : Heap, (K w.params).In base → base.Ns mainGlobals mg → BMain mg base → FnOk l.prog w (K w.params) mg base CX0 14 fa fd ["_law_script"] (spLaw [(pJ, qJ), (pT, qT), (pS, qS), (pL, qL)] (K w.params))) :
  W.WalkO q loose XP YP l.row.toRowW d [] (fun f vs => PySem.call f vs) :=
 L2.walk_ofT (n := 63) (k := 14) (x := "_law_script") (CX := CX0) (ts := [pJ, pT, pS, pL]) (sp := spLaw [(pJ, qJ), (pT, qT), (pS, qS), (pL, qL)]) hn (by decide) hdf ⟨rfl, by decide, by decide⟩ hY hT hC hNT F (fun _ H a ns _ hb hO hS => ⟨a, ns, rfl, hS, fun m hm => hO m.1 (List.mem_map_of_mem (f := fun x : Addr × Str => x.1) hm), fun _ => rfl⟩) fun _ _ _ _ z => z
end K13
open PySem PySem.W PyProof.Rows
set_option Elab.async false
noncomputable def PySem.W.Fast.tw10150452364527315103 : PySem.Program := PySem.Challenge.pw_cellfolio_k13_joined_and_parted
theorem PySem.W.Fast.te10150452364527315103 : PySem.Challenge.pw_cellfolio_k13_joined_and_parted = PySem.W.Fast.tw10150452364527315103 := rfl
def PySem.W.Fast.tw5033195320562769378 : Nat := 0
def PySem.W.Fast.tw1580271971570463941 : Nat := 0
def PySem.W.Fast.tw10754866131119595815 : Nat := 0
def PySem.W.Fast.tw16129897822039328074 : Nat := 0
def PySem.W.Fast.tw6302000910058650189 : Nat := 0
def PySem.W.Fast.tw11644942954625719021 : Nat := 0
def PySem.W.Fast.tw14946952845202537102 : Nat := 0
def PySem.W.Fast.tw12768549100247932559 : Nat := 0
def PySem.W.Fast.tw13335087000916262032 : Nat := 0
def PySem.W.Fast.tw10890914621857985553 : Nat := 0
def PySem.W.Fast.tw3477876439955270460 : Nat := 0
set_option maxRecDepth 100000 in
set_option maxHeartbeats 0 in
theorem PySem.Challenge.cw_cellfolio_k13_joined_and_parted_holds : PySem.Challenge.rw_cellfolio_k13_joined_and_parted.Holds := by
  w_on; o_law; k_head; (case hw => w_witness2)
  k_fill
  refine K13.walk (l := PySem.Challenge.rw_cellfolio_k13_joined_and_parted) (pJ := 249) (pT := 261) (pS := 271) (pL := 283) rfl rfl (fun w h Y => PySem.W.km_in_of Y) (fun w h Y p hp => PySem.W.km_tabs_of Y p (by simp only [List.mem_cons, List.not_mem_nil, or_false] at hp ⊢; rcases hp with h | h | h | h <;> simp [h])) (fun w p hp => by
    simp only [List.mem_cons, List.not_mem_nil, or_false] at hp
    rcases hp with rfl | rfl | rfl | rfl
    · first | exact ⟨251, by kernel_rfl⟩ | exact ⟨253, by kernel_rfl⟩
    · first | exact ⟨263, by kernel_rfl⟩ | exact ⟨265, by kernel_rfl⟩
    · first | exact ⟨273, by kernel_rfl⟩ | exact ⟨275, by kernel_rfl⟩
    · first | exact ⟨285, by kernel_rfl⟩ | exact ⟨287, by kernel_rfl⟩) (fun w => by kernel_rfl) ?F
  case F =>
    intro w mg fa h KX G hmg
    refine' K13.all_mk (pJ := 249) (pT := 261) (pS := 271) (pL := 283) KX G hmg ?a1 ?l1 ?c1 ?k1 ?a2 ?l2 ?c2 ?k2 ?a3 ?l3 ?c3 ?k3 ?a4 ?l4 ?c4 ?k4 ?a5 ?l5 ?c5 ?k5 ?a6 ?l6 ?c6 ?k6 ?a7 ?l7 ?c7 ?k7 ?a8 ?l8 ?c8 ?k8 ?a9 ?l9 ?c9 ?k9 ?a10 ?l10 ?c10 ?k10 ?a11 ?l11 ?c11 ?k11 ?a12 ?l12 ?c12 ?k12 ?a13 ?l13 ?c13 ?k13 ?a14 ?l14 ?c14 ?k14 ?a15 ?l15 ?c15 ?k15 ?a16 ?l16 ?c16 ?k16 ?a17 ?l17 ?c17 ?k17 ?a18 ?l18 ?c18 ?k18 ?a19 ?l19 ?c19 ?k19 ?a20 ?l20 ?c20 ?k20 ?a21 ?l21 ?c21 ?k21 ?a22 ?l22 ?c22 ?k22 ?a23 ?l23 ?c23 ?k23 ?a24 ?l24 ?c24 ?k24 ?a25 ?l25 ?c25 ?k25 ?a26 ?l26 ?c26 ?k26 ?a27 ?l27 ?c27 ?k27 ?a28 ?l28 ?c28 ?k28 ?a29 ?l29 ?c29 ?k29 ?a30 ?l30 ?c30 ?k30 ?a31 ?l31 ?c31 ?k31 ?a32 ?l32 ?c32 ?k32 ?a33 ?l33 ?c33 ?k33 ?a34 ?l34 ?c34 ?k34 ?a35 ?l35 ?c35 ?k35 ?a36 ?l36 ?c36 ?k36 ?a37 ?l37 ?c37 ?k37 ?a38 ?l38 ?c38 ?k38 ?a39 ?l39 ?c39 ?k39 ?z1 ?z2 ?z3 ?z4 ?z5 ?z6 ?z7 ?z8 ?z9 ?z10 ?z11 ?z12 ?y1 ?y2 ?x1 ?x2 ?x3 ?q1 ?q2 ?q3 ?q4 ?q5 ?q6 ?q7 ?q8 ?q9 ?q10 ?q11 ?q12 ?q13 ?q14 ?q15 ?q16 ?q17 ?q18 ?q19 ?q20 ?q21 ?q22 ?q23 ?q24 ?q25 ?uJ ?vJ ?uT ?vT ?uS ?vS ?uL ?vL ?nP
    (case a1 => k_is)
    (case l1 => k_is)
    (case c1 => k_is)
    (case k1 => k_is)
    (case a2 => k_is)
    (case l2 => k_is)
    (case c2 => k_is)
    (case k2 => k_is)
    (case a3 => k_is)
    (case l3 => k_is)
    (case c3 => k_is)
    (case k3 => k_is)
    (case a4 => k_is)
    (case l4 => k_is)
    (case c4 => k_is)
    (case k4 => k_is)
    (case a5 => k_is)
    (case l5 => k_is)
    (case c5 => k_is)
    (case k5 => k_is)
    (case a6 => k_is)
    (case l6 => k_is)
    (case c6 => k_is)
    (case k6 => k_is)
    (case a7 => k_is)
    (case l7 => k_is)
    (case c7 => k_is)
    (case k7 => k_is)
    (case a8 => k_is)
    (case l8 => k_is)
    (case c8 => k_is)
    (case k8 => k_is)
    (case a9 => k_is)
    (case l9 => k_is)
    (case c9 => k_is)
    (case k9 => k_is)
    (case a10 => k_is)
    (case l10 => k_is)
    (case c10 => k_is)
    (case k10 => k_is)
    (case a11 => k_is)
    (case l11 => k_is)
    (case c11 => k_is)
    (case k11 => k_is)
    (case a12 => k_is)
    (case l12 => k_is)
    (case c12 => k_is)
    (case k12 => k_is)
    (case a13 => k_is)
    (case l13 => k_is)
    (case c13 => k_is)
    (case k13 => k_is)
    (case a14 => k_is)
    (case l14 => k_is)
    (case c14 => k_is)
    (case k14 => k_is)
    (case a15 => k_is)
    (case l15 => k_is)
    (case c15 => k_is)
    (case k15 => k_is)
    (case a16 => k_is)
    (case l16 => k_is)
    (case c16 => k_is)
    (case k16 => k_is)
    (case a17 => k_is)
    (case l17 => k_is)
    (case c17 => k_is)
    (case k17 => k_is)
    (case a18 => k_is)
    (case l18 => k_is)
    (case c18 => k_is)
    (case k18 => k_is)
    (case a19 => k_is)
    (case l19 => k_is)
    (case c19 => k_is)
    (case k19 => k_is)
    (case a20 => k_is)
    (case l20 => k_is)
    (case c20 => k_is)
    (case k20 => k_is)
    (case a21 => k_is)
    (case l21 => k_is)
    (case c21 => k_is)
    (case k21 => k_is)
    (case a22 => k_is)
    (case l22 => k_is)
    (case c22 => k_is)
    (case k22 => k_is)
    (case a23 => k_is)
    (case l23 => k_is)
    (case c23 => k_is)
    (case k23 => k_is)
    (case a24 => k_is)
    (case l24 => k_is)
    (case c24 => k_is)
    (case k24 => k_is)
    (case a25 => k_is)
    (case l25 => k_is)
    (case c25 => k_is)
    (case k25 => k_is)
    (case a26 => k_is)
    (case l26 => k_is)
    (case c26 => k_is)
    (case k26 => k_is)
    (case a27 => k_is)
    (case l27 => k_is)
    (case c27 => k_is)
    (case k27 => k_is)
    (case a28 => k_is)
    (case l28 => k_is)
    (case c28 => k_is)
    (case k28 => k_is)
    (case a29 => k_is)
    (case l29 => k_is)
    (case c29 => k_is)
    (case k29 => k_is)
    (case a30 => k_is)
    (case l30 => k_is)
    (case c30 => k_is)
    (case k30 => k_is)
    (case a31 => k_is)
    (case l31 => k_is)
    (case c31 => k_is)
    (case k31 => k_is)
    (case a32 => k_is)
    (case l32 => k_is)
    (case c32 => k_is)
    (case k32 => k_is)
    (case a33 => k_is)
    (case l33 => k_is)
    (case c33 => k_is)
    (case k33 => k_is)
    (case a34 => k_is)
    (case l34 => k_is)
    (case c34 => k_is)
    (case k34 => k_is)
    (case a35 => k_is)
    (case l35 => k_is)
    (case c35 => k_is)
    (case k35 => k_is)
    (case a36 => k_is)
    (case l36 => k_is)
    (case c36 => k_is)
    (case k36 => k_is)
    (case a37 => k_is)
    (case l37 => k_is)
    (case c37 => k_is)
    (case k37 => k_is)
    (case a38 => k_is)
    (case l38 => k_is)
    (case c38 => k_is)
    (case k38 => k_is)
    (case a39 => k_is)
    (case l39 => k_is)
    (case c39 => k_is)
    (case k39 => k_is)
    (case z1 => k_is)
    (case z2 => k_is)
    (case z3 => k_is)
    (case z4 => k_is)
    (case z5 => k_is)
    (case z6 => k_is)
    (case z7 => k_is)
    (case z8 => k_is)
    (case z9 => k_is)
    (case z10 => k_is)
    (case z11 => k_is)
    (case z12 => k_is)
    (case y1 => k_is)
    (case y2 => k_is)
    (case x1 => k_is)
    (case x2 => k_is)
    (case x3 => k_is)
    (case q1 => k_exc)
    (case q2 => k_exc)
    (case q3 => k_is)
    (case q4 => k_is)
    (case q5 => k_is)
    (case q6 => k_is)
    (case q7 => k_is)
    (case q8 => k_is)
    (case q9 => k_is)
    (case q10 => k_is)
    (case q11 => k_is)
    (case q12 => k_is)
    (case q13 => k_is)
    (case q14 => k_is)
    (case q15 => k_is)
    (case q16 => k_is)
    (case q17 => k_is)
    (case q18 => k_is)
    (case q19 => k_is)
    (case q20 => kit_is)
    (case q21 => kit_is)
    (case q22 => kit_is)
    (case q23 => kit_is)
    (case q24 => kit_is)
    (case q25 => kit_is)
    (case uJ => first | exact rfl | k_is)
    (case vJ => kernel_rfl)
    (case uT => first | exact rfl | k_is)
    (case vT => kernel_rfl)
    (case uS => first | exact rfl | k_is)
    (case vS => kernel_rfl)
    (case uL => first | exact rfl | k_is)
    (case vL => kernel_rfl)
    (case nP => decide)
#print axioms PySem.Challenge.cw_cellfolio_k13_joined_and_parted_holds
