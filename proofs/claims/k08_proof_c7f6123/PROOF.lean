import PyProof.Rows.All
import Wide.All
import OpenK.AllK
import Wide.FinOn
import Lean
import PyProof.EqAt
import PyProof.EqKinds
import PyProof.NeKinds
import PyProof.ZipIter
import PyProof.Rows.ZipGen
import PyProof.ExcArgs
import PyProof.CompUse
import PyProof.TupleCall
import PyProof.CompFree
import PyProof.Cells
import OpenK.KEqL
import KE.KEqDict
import PyProof.EnumIter
import PyProof.EnumFor
import PyProof.EnumMake
import PyProof.EnumStmt
import PyProof.Rows.EnumRows
import KE.KRevIter
import PyProof.StrWalks
import PyProof.StrCalls2
import PyProof.Rows.StrJoin2
import PyProof.StrLawsTight
import PyProof.StrLawsIn
import PyProof.SliceStr2
import PyProof.StrBlockI
import PyProof.StrLawsOcc
import PyProof.ConsumeS
import PyProof.MinMaxWalk
import PyProof.StrOps2
import PyProof.WalkInts
import KE.KRevSl
import KE.KLam
import KE.KNestM
import OpenK.KRaise
import PyProof.Draws
import KE.KBits
import KE.KDflt
import PyProof.StrCalls3
import KE.KIntText
import KE.RegKIsAll
import PySem.Challenge.RW_cellfolio_k08_whole_masks_and_pictures
set_option Elab.async false
set_option linter.all false
set_option maxRecDepth 100000
namespace L2
open PySem PySem.Spec PyProof.Rows
noncomputable abbrev Key := Sum Int Str
noncomputable def keyIs : Key → Value → Bool
 | .inl k, v => Value.isInt k v
 | .inr x, v => Value.isStrOf x v
noncomputable def keyH (w : World) : Key → Int
 | .inl k => hashInt k
 | .inr x => hashStr w x
theorem keyIs_shape : ∀ {k : Key} {v : Value}, keyIs k v = true → (∃ i t, k = Sum.inl i ∧ v = Value.int i t) ∨ (∃ x t, k = Sum.inr x ∧ v = Value.str x t)
 | .inl i, v, h => by
  obtain ⟨t, e⟩ := Value.isInt_shape (k := i) (v := v) h
  exact .inl ⟨i, t, rfl, e⟩
 | .inr x, v, h => by
  obtain ⟨t, e⟩ := Value.isStrOf_shape (x := x) (v := v) h
  exact .inr ⟨x, t, rfl, e⟩
theorem key_ll (a b : Int) : decide ((Sum.inl a : Key) = Sum.inl b) = (a == b) := by
 by_cases e : a = b
 ·subst e; simp
 ·have h : ¬ (Sum.inl a : Key) = Sum.inl b := fun q => e (Sum.inl.inj q)
  rw [decide_eq_false h]
  exact (beq_eq_false_iff_ne.mpr e).symm
theorem key_rr (a b : Str) : decide ((Sum.inr a : Key) = Sum.inr b) = decide (a = b) := by
 by_cases e : a = b
 ·subst e; simp
 ·have h : ¬ (Sum.inr a : Key) = Sum.inr b := fun q => e (Sum.inr.inj q)
  rw [decide_eq_false h, decide_eq_false e]
theorem key_lr (a : Int) (b : Str) : decide ((Sum.inl a : Key) = Sum.inr b) = false := decide_eq_false (fun q => nomatch q)
theorem key_rl (a : Str) (b : Int) : decide ((Sum.inr a : Key) = Sum.inl b) = false := decide_eq_false (fun q => nomatch q)
noncomputable def mixKind (prog : Program) (w : World) : PySem.KeyKind prog w Key where
 is := keyIs
 hash := keyH w
 inj := fun v a b ha hb => by
  rcases keyIs_shape ha with ⟨i, t, rfl, rfl⟩ | ⟨x, t, rfl, rfl⟩
  ·rcases keyIs_shape hb with ⟨j, u, rfl, e⟩ | ⟨y, u, rfl, e⟩
   ·injection e with e1 _; rw [e1]
   ·exact nomatch e
  ·rcases keyIs_shape hb with ⟨j, u, rfl, e⟩ | ⟨y, u, rfl, e⟩
   ·exact nomatch e
   ·injection e with e1 _; rw [e1]
 byValue := fun k v h => by
  rcases keyIs_shape h with ⟨i, t, rfl, rfl⟩ | ⟨x, t, rfl, rfl⟩ <;> rfl
 pyHash := fun hv h => by
  rcases keyIs_shape hv with ⟨i, t, rfl, rfl⟩ | ⟨x, t, rfl, rfl⟩
  ·exact wpAny_pyHash_int h
  ·exact wpAny_pyHash_str h
 eqBool := fun hu hv h => by
  rcases keyIs_shape hu with ⟨i, t, rfl, rfl⟩ | ⟨x, t, rfl, rfl⟩
  ·rcases keyIs_shape hv with ⟨j, u, rfl, rfl⟩ | ⟨y, u, rfl, rfl⟩
   ·rw [key_ll] at h; exact wpAny_eqBool_int h
   ·rw [key_lr] at h; exact SeqAt.EqAt.int_str i t y u _ _ _ _ h
  ·rcases keyIs_shape hv with ⟨j, u, rfl, rfl⟩ | ⟨y, u, rfl, rfl⟩
   ·rw [key_rl] at h; exact SeqAt.EqAt.str_int x t j u _ _ _ _ h
   ·rw [key_rr] at h; exact wpAny_eqBool_str h
 «strs» := fun k x t v h => by
  rcases keyIs_shape h with ⟨i, u, rfl, e⟩ | ⟨y, u, rfl, e⟩
  ·exact nomatch e
  ·injection e with e1 _
   subst e1
   cases v <;> rfl
inductive V where
 | non | bl (b : Bool) | int (i : Int) | str (x : Str) | byt (b : Array UInt8) | flt (b : UInt64) | ref (a : Addr) | ty (n : String)
 deriving DecidableEq
noncomputable def RelV : V → Value → Prop
 | .non, u => u = Value.none
 | .bl b, u => u = Value.bool b
 | .int i, u => ∃ t, u = Value.int i t
 | .str x, u => ∃ t, u = Value.str x t
 | .byt b, u => ∃ t, u = Value.bytes b t
 | .flt b, u => ∃ t, u = Value.float b t
 | .ref a, u => u = Value.ref a
 | .ty n, u => u = Value.type n
noncomputable abbrev Vals : List V → List Value → Prop := Paired RelV
theorem Vals.length {xs : List V} {us : List Value} (r : Vals xs us) : xs.length = us.length := Paired.length r
theorem Vals.get : ∀ {xs : List V} {us : List Value} {i : Nat} {x : V}, Vals xs us → xs[i]? = some x → ∃ u, us[i]? = some u ∧ RelV x u
 | _, _, _, _, .nil, e => by simp at e
 | _, _, 0, _, .cons r _, e => by simp at e; subst e; exact ⟨_, rfl, r⟩
 | _, _, i + 1, x, .cons _ t, e => by
  obtain ⟨u, h1, h2⟩ := Vals.get (i := i) (x := x) t (by simpa using e)
  exact ⟨u, by simpa using h1, h2⟩
theorem Vals.set {x : V} {u : Value} (r : RelV x u) : ∀ {xs : List V} {us : List Value} (i : Nat), Vals xs us → Vals (xs.set i x) (us.set i u)
 | _, _, _, .nil => .nil
 | _, _, 0, .cons _ t => .cons r t
 | _, _, i + 1, .cons q t => .cons q (Vals.set r i t)
theorem Vals.append : ∀ {xs ys : List V} {us ws : List Value}, Vals xs us → Vals ys ws → Vals (xs ++ ys) (us ++ ws)
 | _, _, _, _, .nil, s => s
 | _, _, _, _, .cons r t, s => .cons r (Vals.append t s)
theorem Vals.take : ∀ {xs : List V} {us : List Value} (n : Nat), Vals xs us → Vals (xs.take n) (us.take n)
 | _, _, 0, _ => .nil
 | _, _, _ + 1, .nil => .nil
 | _, _, n + 1, .cons r t => .cons r (Vals.take n t)
theorem Vals.drop : ∀ {xs : List V} {us : List Value} (n : Nat), Vals xs us → Vals (xs.drop n) (us.drop n)
 | _, _, 0, r => r
 | _, _, _ + 1, .nil => .nil
 | _, _, n + 1, .cons _ t => Vals.drop n t
noncomputable def RelO : Option V → Option Value → Prop
 | some v, some u => RelV v u
 | none, none => True
 | _, _ => False
noncomputable def KV {κ : Type} : List (κ × V) → List (κ × Value) → Prop := Paired fun (p : κ × V) (q : κ × Value) => p.1 = q.1 ∧ RelV p.2 q.2
noncomputable def kV : Key → V
 | .inl i => .int i
 | .inr x => .str x
inductive HO where
 | lst (xs : List V)
 | tup (xs : List V)
 | dK (kvs : List (Key × V)) | dT (kvs : List (List Key × V))
 | set (S : Int → Bool) (n : Nat)
 | ins (C dx : Addr) (fs : List (Str × V))
 | own (x : Addr)
 | xd (fs : List (Str × V))
 | met (f x : Addr)
 | rng (lo hi : Int)
 | frz (o : Obj) (u : HO)
 | tbl (ps : Array Value)
 | ext (φ : Heap → Prop)
noncomputable abbrev Hp := Addr → Option HO
noncomputable def upd (H : Hp) (a : Addr) (o : HO) : Hp := fun b => if b = a then some o else H b
theorem upd_same {H : Hp} {a : Addr} {o : HO} : upd H a o a = some o := by unfold upd; rw [if_pos rfl]
theorem upd_ne {H : Hp} {a b : Addr} {o : HO} (h : b ≠ a) : upd H a o b = H b := by unfold upd; rw [if_neg h]
theorem ne_of_none {H : Hp} {a b : Addr} {o : HO} (h : H a = some o) (h' : H b = none) : a ≠ b := by
 intro e; subst e; rw [h] at h'; cases h'
section
variable (P : Program) (w : World)
noncomputable def ObjOk (H : Hp) (h : Heap) (a : Addr) : HO → Prop
 | .lst xs => xs.length ≤ sizeLine ∧ ∃ (its : List Value) (n : Nat), Vals xs its ∧ h.get? a = some { cls := .type "list", data := .seq its.toArray n }
 | .tup xs => xs.length ≤ sizeLine ∧ ∃ its : List Value, Vals xs its ∧ IsTup h a its.toArray
 | .dK kvs => kvs.length ≤ sizeLine ∧ (a == sysModules) = false ∧ ∃ vs, KV kvs vs ∧ h.DictOf (mixKind P w) a vs
 | .dT kvs => kvs.length ≤ sizeLine ∧ (a == sysModules) = false ∧ ∃ xs : List (List Key × Addr × Value),
   Paired (fun (p : List Key × V) (q : List Key × Addr × Value) => p.1 = q.1 ∧ H q.2.1 = some (.tup (p.1.map kV)) ∧ RelV p.2 q.2.2) kvs xs ∧
   ∃ o es ep, h.get? a = some o ∧ o.ExactDict ∧ o.data = .dict es ep ∧ es.toList = xs.map (entryOfKey (tupleKind (mixKind P w))) ∧ (xs.map (·.1)).Nodup
 | .set S n => h.SetOf (intKind P w) a S n
 | .ins C dx fs => H dx = some (.own a) ∧ fs.length ≤ 1000 ∧ dx ≠ a ∧ h.get? a = some (PySem.W.instObj C dx) ∧
   ∃ mA, h.Ns1 dx mA ∧ (∀ f, RelO (fs.lookup f) (mA f)) ∧ PySem.Within mA (fs.map (·.1))
 | .own _ => ∃ o, h.get? a = some o
 | .xd fs => ∃ mA, h.Ns1 a mA ∧ ∀ f, RelO (fs.lookup f) (mA f)
 | .rng lo hi => ∃ t u v, h.get? a = some { cls := .type "range", data := .fields #[.int lo t, .int hi u, .int 1 v] }
 | .frz o u => h.get? a = some o ∧ ObjOk H h a u
 | .tbl ps => h.get? a = some { cls := .none, data := .fields ps }
 | .met f x => h.get? a = some (PySem.W.methodObj (.ref f) (.ref x))
 | .ext φ => φ h ∧ (∃ o, h.get? a = some o) ∧ ∀ h1 h2 : Heap, φ h1 → (∀ o, h1.get? a = some o → h2.get? a = some o) → φ h2
noncomputable def HOk (H : Hp) (h : Heap) : Prop := ∀ a o, H a = some o → ObjOk P w H h a o
end
section
variable {P : Program} {w : World} {H H' : Hp} {h h' : Heap} {a : Addr} {o : HO}
theorem ObjOk.lt (x : ObjOk P w H h a o) : a < h.objs.size := by
 cases o with
 | lst xs => obtain ⟨_, _, _, _, e⟩ := x; exact Heap.lt_size e
 | tup xs => obtain ⟨_, _, _, p⟩ := x; exact p.lt
 | dK kvs => obtain ⟨_, _, _, _, o, _, _, e, _⟩ := x; exact Heap.lt_size e
 | dT kvs => obtain ⟨_, _, _, _, o, _, _, e, _⟩ := x; exact Heap.lt_size e
 | set S n => obtain ⟨o, _, _, _, e, _⟩ := x; exact Heap.lt_size e
 | ins C dx fs => obtain ⟨_, _, _, e, _⟩ := x; exact Heap.lt_size e
 | own y => obtain ⟨_, e⟩ := x; exact Heap.lt_size e
 | xd fs => obtain ⟨_, ⟨_, _, _, e, _⟩, _⟩ := x; exact Heap.lt_size e
 | rng lo hi => obtain ⟨_, _, _, e⟩ := x; exact Heap.lt_size e
 | frz ob u => obtain ⟨e, _⟩ := x; exact Heap.lt_size e
 | tbl ps => exact Heap.lt_size (show h.get? a = some _ from x)
 | met f y => exact Heap.lt_size (show h.get? a = some _ from x)
 | ext φ => obtain ⟨_, ⟨_, e⟩, _⟩ := x; exact Heap.lt_size e
theorem Paired.mapP {α β : Type} {F G : α → β → Prop} : ∀ {l₁ : List α} {l₂ : List β}, Paired F l₁ l₂ → (∀ a b, F a b → G a b) → Paired G l₁ l₂
 | _, _, .nil, _ => .nil
 | _, _, .cons r t, f => .cons (f _ _ r) (Paired.mapP t f)
theorem ObjOk.stay (x : ObjOk P w H h a o) (k : ∀ b u, (b = a ∨ H b = some (.own a)) → h.get? b = some u → h'.get? b = some u)
  (ho : ∀ b, H b = some (.own a) → H' b = some (.own a)) (ht : ∀ b xs, H b = some (.tup xs) → H' b = some (.tup xs)) : ObjOk P w H' h' a o := by
 induction o with
 | lst xs => obtain ⟨z, its, n, r, e⟩ := x; exact ⟨z, its, n, r, k _ _ (.inl rfl) e⟩
 | tup xs => obtain ⟨z, its, r, ob, e, c⟩ := x; exact ⟨z, its, r, ob, k _ _ (.inl rfl) e, c⟩
 | dK kvs => obtain ⟨z, y, vs, r, ob, es, ep, e, c⟩ := x; exact ⟨z, y, vs, r, ob, es, ep, k _ _ (.inl rfl) e, c⟩
 | dT kvs =>
  obtain ⟨z, y, xs, r, ob, es, ep, e, c⟩ := x
  exact ⟨z, y, xs, Paired.mapP r fun p q z => ⟨z.1, ht _ _ z.2.1, z.2.2⟩, ob, es, ep, k _ _ (.inl rfl) e, c⟩
 | set S n => obtain ⟨ob, es, ep, t, e, c⟩ := x; exact ⟨ob, es, ep, t, k _ _ (.inl rfl) e, c⟩
 | ins C dx fs =>
  obtain ⟨d, z, ne, e, mA, ⟨od, es, ep, e2, c⟩, r⟩ := x
  exact ⟨ho _ d, z, ne, k _ _ (.inl rfl) e, mA, ⟨od, es, ep, k _ _ (.inr d) e2, c⟩, r⟩
 | own y => obtain ⟨ob, e⟩ := x; exact ⟨ob, k _ _ (.inl rfl) e⟩
 | xd fs => obtain ⟨mA, ⟨od, es, ep, e, c⟩, r⟩ := x; exact ⟨mA, ⟨od, es, ep, k _ _ (.inl rfl) e, c⟩, r⟩
 | rng lo hi => obtain ⟨t, u, v, e⟩ := x; exact ⟨t, u, v, k _ _ (.inl rfl) e⟩
 | frz ob u ih => obtain ⟨e, q⟩ := x; exact ⟨k _ _ (.inl rfl) e, ih q⟩
 | tbl ps =>
  have e : h.get? a = some { cls := .none, data := .fields ps } := x
  show h'.get? a = some { cls := .none, data := .fields ps }
  exact k a _ (.inl rfl) e
 | met f y =>
  have e : h.get? a = some (PySem.W.methodObj (.ref f) (.ref y)) := x
  show h'.get? a = some (PySem.W.methodObj (.ref f) (.ref y))
  exact k a _ (.inl rfl) e
 | ext φ => obtain ⟨p, ⟨o, e⟩, st⟩ := x; exact ⟨st _ _ p fun o q => k _ _ (.inl rfl) q, ⟨o, k _ _ (.inl rfl) e⟩, st⟩
theorem HOk.lt (x : HOk P w H h) (e : H a = some o) : a < h.objs.size := (x a o e).lt
theorem HOk.fresh (x : HOk P w H h) (e : h.objs.size ≤ a) : H a = none := by
 cases q : H a with
 | none => rfl
 | some u => exact absurd (Nat.lt_of_lt_of_le (x.lt q) e) (Nat.lt_irrefl _)
theorem HOk.kept (x : HOk P w H h) (k : ∀ b u, h.get? b = some u → h'.get? b = some u) : HOk P w H h' := fun a o e =>
 (x a o e).stay (fun b u _ q => k b u q) (fun _ q => q) fun _ _ q => q
theorem HOk.laid (x : HOk P w H h) (k : ∀ b u, h.get? b = some u → h'.get? b = some u) (hp : h.objs.size ≤ a) (new : ObjOk P w (upd H a o) h' a o) : HOk P w (upd H a o) h' := fun b u e => by
 have hn := x.fresh hp
 by_cases hb : b = a
 ·subst hb; rw [upd_same] at e; cases e; exact new
 ·rw [upd_ne hb] at e
  exact (x b u e).stay (fun c v _ q => k c v q) (fun c q => by rw [upd_ne (ne_of_none q hn)]; exact q) fun c xs q => by rw [upd_ne (ne_of_none q hn)]; exact q
end
noncomputable def Rd (H : Hp) (a : Addr) (u : HO) : Prop := H a = some u ∨ ∃ o, H a = some (.frz o u)
theorem Rd.ok {P : Program} {w : World} {H : Hp} {h : Heap} {a : Addr} {u : HO} (r : Rd H a u) (x : HOk P w H h) : ObjOk P w H h a u := by
 rcases r with r | ⟨o, r⟩
 ·exact x a u r
 ·obtain ⟨_, q⟩ := x a _ r
  exact q
noncomputable def Mut : Option HO → Prop
 | some (.lst _) => True
 | some (.dK _) => True
 | some (.dT _) => True
 | some (.set _ _) => True
 | some (.ins _ _ _) => True
 | some (.ext _) => True
 | _ => False
section
variable {P : Program} {w : World} {H : Hp} {h h' : Heap} {x e : Addr} {o' : HO}
theorem HOk.write (ok : HOk P w H h) (mu : Mut (H x)) (he : e = x ∨ H e = some (.own x)) (k : ∀ b u, b ≠ e → h.get? b = some u → h'.get? b = some u) (heo : ∃ u, h'.get? e = some u)
  (new : ObjOk P w (upd H x o') h' x o') : HOk P w (upd H x o') h' := fun b u q => by
 have nown : ∀ c y, H c = some (.own y) → c ≠ x := fun c y r z => by subst z; rw [r] at mu; exact mu
 have ntup : ∀ c xs, H c = some (.tup xs) → c ≠ x := fun c xs r z => by subst z; rw [r] at mu; exact mu
 by_cases hb : b = x
 ·subst hb; rw [upd_same] at q; cases q; exact new
 ·rw [upd_ne hb] at q
  by_cases hbe : b = e
  ·have q' : H b = some (.own x) := by
    rcases he with z | z
    ·exact absurd (hbe.trans z) hb
    ·rw [hbe]; exact z
   rw [q] at q'; cases q'
   obtain ⟨v, hv⟩ := heo
   exact ⟨v, by rw [hbe]; exact hv⟩
  ·refine (ok b u q).stay (fun c v hc r => k c v ?_ r) (fun c r => by rw [upd_ne (nown c b r)]; exact r) fun c xs r => by rw [upd_ne (ntup c xs r)]; exact r
   rcases hc with rfl | hc
   ·exact hbe
   ·rintro rfl
    rcases he with z | z
    ·exact nown c b hc z
    ·rw [hc] at z; cases z; exact hb rfl
end
structure Un (fs ex : List Addr) (H H' : Hp) (h h' : Heap) : Prop where
 keep : ∀ b o, h.get? b = some o → H b = none → b ∉ fs → b ∉ ex → h'.get? b = some o
 slot : ∀ b o, h.get? b = some o → H b = none → b ∈ fs → b ∉ ex → ∃ sl, h'.get? b = some { o with slots := sl }
 free : ∀ b o, h.get? b = some o → H b = none → b ∉ ex → H' b = none
 there : ∀ b o, h.get? b = some o → b ∉ ex → ∃ o', h'.get? b = some o'
 tups : ∀ b xs, H b = some (.tup xs) → H' b = some (.tup xs)
 frzs : ∀ b o u, H b = some (.frz o u) → H' b = some (.frz o u)
 tbls : ∀ b ps, H b = some (.tbl ps) → ∃ more, H' b = some (.tbl (ps ++ more))
section
variable {fs fs' ex ex' : List Addr} {H H1 H2 : Hp} {h h1 h2 h' : Heap} {a x e : Addr} {o : HO}
theorem Un.any (u : Un fs ex H H1 h h1) {b : Addr} {ob : Obj} (q : h.get? b = some ob) (n : H b = none) (hx : b ∉ ex) : ∃ sl, h1.get? b = some { ob with slots := sl } := by
 by_cases hb : b ∈ fs
 ·exact u.slot b ob q n hb hx
 ·exact ⟨ob.slots, u.keep b ob q n hb hx⟩
theorem Un.kept (k : ∀ b u, h.get? b = some u → h'.get? b = some u) : Un fs ex H H h h' :=
 ⟨fun b ob q _ _ _ => k b ob q, fun b ob q _ _ _ => ⟨ob.slots, k b ob q⟩, fun _ _ _ n _ => n, fun b ob q _ => ⟨ob, k b ob q⟩, fun _ _ q => q, fun _ _ _ q => q, fun _ ps q => ⟨#[], by rw [q]; simp⟩⟩
theorem Un.refl : Un fs ex H H h h := Un.kept fun _ _ q => q
theorem Un.laid (k : ∀ b u, h.get? b = some u → h'.get? b = some u) (hp : h.objs.size ≤ a) (hn : H a = none) : Un fs ex H (upd H a o) h h' where
 keep := fun b u q _ _ _ => k b u q
 slot := fun b u q _ _ _ => ⟨u.slots, k b u q⟩
 free := fun b u q n _ => by rw [upd_ne (Nat.ne_of_lt (Nat.lt_of_lt_of_le (Heap.lt_size q) hp))]; exact n
 there := fun b u q _ => ⟨u, k b u q⟩
 tups := fun b xs q => by rw [upd_ne (ne_of_none q hn)]; exact q
 frzs := fun b u xs q => by rw [upd_ne (ne_of_none q hn)]; exact q
 tbls := fun b ps q => ⟨#[], by rw [upd_ne (ne_of_none q hn), q]; simp⟩
theorem Un.write (mu : Mut (H x)) (he : e = x ∨ H e = some (.own x)) (k : ∀ b u, b ≠ e → h.get? b = some u → h'.get? b = some u) (heo : ∃ u, h'.get? e = some u) : Un fs ex H (upd H x o) h h' := by
 have hx : ∀ b, H b = none → b ≠ x := fun b n z => by subst z; rw [n] at mu; exact mu
 have hb : ∀ b, H b = none → b ≠ e := fun b n z => by
  subst z
  rcases he with r | r
  ·exact hx b n r
  ·rw [n] at r; cases r
 have hm : ∀ b u, H b = some u → ¬ Mut (some u) → b ≠ x := fun b u q nm z => by subst z; rw [q] at mu; exact nm mu
 refine ⟨fun b u q n _ _ => k b u (hb b n) q, fun b u q n _ _ => ⟨u.slots, k b u (hb b n) q⟩, fun b u q n _ => by rw [upd_ne (hx b n)]; exact n, fun b u q _ => ?_,
  fun b xs q => by rw [upd_ne (hm b _ q fun z => z)]; exact q, fun b u xs q => by rw [upd_ne (hm b _ q fun z => z)]; exact q, fun b ps q => ⟨#[], by rw [upd_ne (hm b _ q fun z => z), q]; simp⟩⟩
 by_cases hbe : b = e
 ·subst hbe; exact heo
 ·exact ⟨u, k b u hbe q⟩
end
noncomputable def trk (h : Heap) (H : Hp) : List Addr := (List.range h.objs.size).filter fun a => (H a).isSome
noncomputable def hidT (h : Heap) (H : Hp) : Heap := PySem.W.hideAll h (trk h H)
theorem hidT_size (h : Heap) (H : Hp) : (hidT h H).objs.size = h.objs.size := PySem.W.hideAll_size _ _
theorem hidT_get {h : Heap} {H : Hp} {b : Addr} {o : Obj} (e : h.get? b = some o) (n : H b = none) : (hidT h H).get? b = some o :=
 PySem.W.hideAll_get _ e fun hm => by
  have q : (H b).isSome = true := (List.mem_filter.mp hm).2
  rw [n] at q; simp at q
theorem of_hidT {h : Heap} {H : Hp} {b : Addr} {o : Obj} (e : (hidT h H).get? b = some o) : h.get? b = some o ∧ H b = none := by
 have e' : h.get? b = some o := PySem.W.of_hideAll (trk h H) e
 refine ⟨e', ?_⟩
 cases q : H b with
 | none => rfl
 | some x =>
  have hm : b ∈ trk h H := List.mem_filter.mpr ⟨List.mem_range.mpr (Heap.lt_size e'), by simp [q]⟩
  have z : (hidT h H).get? b = none := PySem.W.hideAll_none (trk h H) hm
  rw [z] at e; cases e
structure Mod (K : PySem.W.Frag) (mg : Str → Option Value) (base : Heap) : Prop where
 kin : K.In base
 glob : base.Ns mainGlobals mg
 blt : ∃ mb, base.Ns builtinsNs mb ∧ ∀ x : Str, x ≠ "__name__" → mb x = bootBuiltins x
 nolimit : base.NoLimit
structure Cx where
 prog : Program
 w : World
 K : PySem.W.Frag
 mg : Str → Option Value
 base : Heap
 A : Around
 N : List Str
 s₀ : Shared
 H₀ : Hp
 env : Env
 outer : List Env
 stack : List Env
 ex : List Addr
 fn : Str → Bool
 calm : Bool
 pn : List (Addr × Obj)
 xe : Value → Shared → Prop
noncomputable def frs (l : List Env) : List Addr := l.filterMap (·.frame)
noncomputable abbrev Cx.fs (X : Cx) : List Addr := frs X.outer
noncomputable def Vis (sc : Scope) (x : Str) : Prop := sc.names.lookup x = some .local ∨ sc.names.lookup x = some .cell ∨ sc.names.lookup x = some .free
noncomputable def Loc (sc : Scope) (x : Str) : Prop := sc.names.lookup x = some .local ∨ sc.names.lookup x = some .cell
noncomputable def Look (env : Env) (h : Heap) (m : Str → Option Value) (x : Str) (u : Value) : Prop :=
 (env.kindOf x = some .local ∧ m x = some u) ∨ ((env.kindOf x = some .cell ∨ env.kindOf x = some .free) ∧ ∃ c, env.cells.lookup x = some c ∧ h.IsCell c (some u))
structure Cx.Ok (X : Cx) : Prop where
 mod : Mod X.K X.mg X.base
 kind : X.env.scope.kind = .function
 glob : X.env.globals = mainGlobals
 blt : X.env.builtins = builtinsNs
 above : X.s₀.heap.objs.size ≤ X.env.locals
 inj : ∀ x y c, X.env.cells.lookup x = some c → X.env.cells.lookup y = some c → x = y
 has : ∀ x, (X.env.kindOf x = some .cell ∨ X.env.kindOf x = some .free) → ∃ c, X.env.cells.lookup x = some c
 cab : ∀ x c, X.fn x = true → X.env.cells.lookup x = some c → X.s₀.heap.objs.size ≤ c
 hd : X.calm = true → X.A.handled = none
 frames : X.A.frames = some X.stack
 stk : X.stack = X.outer ∨ (X.stack = X.env :: X.outer ∧ X.env.frame = some X.env.locals)
 exf : ∀ b ∈ X.ex, b ≠ X.env.locals ∧ ∀ x c, X.env.cells.lookup x = some c → c ≠ b
 bs : ∀ b o, X.base.get? b = some o → X.s₀.heap.get? b = some o ∧ X.H₀ b = none
 bsz : X.base.objs.size ≤ X.s₀.heap.objs.size
 noex : ∀ b o, X.base.get? b = some o → b ∉ X.ex
 exfs : ∀ b ∈ X.ex, b ∉ X.fs
 funs : X.s₀.heap.FunFrames X.base X.outer
 frf : ∀ b ∈ X.fs, X.H₀ b = none
structure Inv (X : Cx) (pins : List (Addr × Obj)) (σ : List (Option V)) (H : Hp) (s : Shared) : Prop where
 ok : X.Ok
 os : s.os = X.s₀.os
 bare : AllBare s.gens
 base : Un X.fs X.ex X.H₀ H X.s₀.heap s.heap
 loc : ∃ m, s.heap.Ns X.env.locals m ∧ ∀ (i : Nat) (x : Str) (v : V), X.N[i]? = some x → σ[i]? = some (some v) → Vis X.env.scope x → ∃ u, RelV v u ∧ Look X.env s.heap m x u
 cell : ∀ x c, X.env.cells.lookup x = some c → ∃ v, s.heap.IsCell c v
 free : H X.env.locals = none
 freeC : ∀ x c, X.env.cells.lookup x = some c → H c = none
 pin : ∀ p ∈ X.pn ++ pins, s.heap.get? p.1 = some p.2 ∧ H p.1 = none ∧ p.1 ≠ X.env.locals ∧ p.1 ∉ X.fs ∧ ∀ v, p.2.data ≠ .cell v
 hok : HOk X.prog X.w H s.heap
 len : σ.length = X.N.length
section
variable {X : Cx} {pins : List (Addr × Obj)} {σ : List (Option V)} {H H' : Hp} {s : Shared} {h' : Heap}
theorem Cx.Ok.nofr (ok : X.Ok) {b : Addr} {o : Obj} (e : X.base.get? b = some o) : b ∉ X.fs := fun hb => by
 have := (ok.funs.mem hb).1
 rw [e] at this; cases this
theorem Inv.bs (I : Inv X pins σ H s) : ∀ b o, X.base.get? b = some o → s.heap.get? b = some o ∧ H b = none := fun b o e =>
 ⟨I.base.keep b o (I.ok.bs b o e).1 (I.ok.bs b o e).2 (I.ok.nofr e) (I.ok.noex b o e), I.base.free b o (I.ok.bs b o e).1 (I.ok.bs b o e).2 (I.ok.noex b o e)⟩
theorem Inv.bk (I : Inv X pins σ H s) : ∀ b o, X.base.get? b = some o → s.heap.get? b = some o := fun b o e => (I.bs b o e).1
theorem Inv.mod (I : Inv X pins σ H s) : Mod X.K X.mg X.base := I.ok.mod
theorem Inv.kIn (I : Inv X pins σ H s) : X.K.In s.heap := I.ok.mod.kin.keeps I.bk
theorem Inv.lt (I : Inv X pins σ H s) : X.env.locals < s.heap.objs.size := let ⟨_, hn, _⟩ := I.loc; hn.lt
theorem Inv.sz (I : Inv X pins σ H s) : X.s₀.heap.objs.size ≤ s.heap.objs.size := Nat.le_trans I.ok.above (Nat.le_of_lt I.lt)
theorem Inv.nofs (I : Inv X pins σ H s) {a : Addr} (h : s.heap.objs.size ≤ a) : a ∉ X.fs := fun hb => by
 obtain ⟨_, o, ho, _⟩ := I.ok.funs.mem hb
 exact absurd (Nat.lt_of_lt_of_le (Heap.lt_size ho) (Nat.le_trans I.sz h)) (Nat.lt_irrefl _)
theorem Inv.cne (I : Inv X pins σ H s) : ∀ x c, X.env.cells.lookup x = some c → c ≠ X.env.locals := fun x c e z => by
 obtain ⟨v, o, ho, hd⟩ := I.cell x c e
 obtain ⟨m, ⟨o', es, ep, ho', hd', _⟩, _⟩ := I.loc
 rw [z, ho'] at ho; cases ho; rw [hd'] at hd; cases hd
theorem Inv.funs (I : Inv X pins σ H s) : s.heap.FunFrames X.base X.outer := by
 have all : ∀ (l : List Env), (∀ b ∈ frs l, b ∈ X.fs) → X.s₀.heap.FunFrames X.base l → s.heap.FunFrames X.base l := by
  intro l
  induction l with
  | nil => intro _ _; trivial
  | cons env r ih =>
   intro hs hl
   obtain ⟨hk, ⟨L, o, hf, hn, ho, hd⟩, hr⟩ := hl
   have hL : L ∈ X.fs := hs L (by unfold frs; rw [List.filterMap_cons, hf]; exact List.mem_cons_self)
   obtain ⟨sl, e⟩ := I.base.slot L o ho (I.ok.frf L hL) hL fun z => I.ok.exfs L z hL
   exact ⟨hk, ⟨L, _, hf, hn, e, hd⟩, ih (fun b hb => hs b (by unfold frs; rw [List.filterMap_cons, hf]; exact List.mem_cons_of_mem _ hb)) hr⟩
 exact all X.outer (fun _ hb => hb) I.ok.funs
theorem Inv.stack (I : Inv X pins σ H s) : s.heap.FunFrames X.base X.stack := by
 rcases I.ok.stk with e | ⟨e, hf⟩
 ·rw [e]; exact I.funs
 ·rw [e]
  obtain ⟨m, hn, _⟩ := I.loc
  refine .cons (by rw [I.ok.kind]; decide) hf hn ?_ I.funs
  exact Heap.get?_none_of_le (Nat.le_trans I.ok.bsz I.ok.above)
theorem Inv.stkSub (I : Inv X pins σ H s) : ∀ b ∈ frs X.stack, b ∈ X.env.locals :: X.fs := fun b hb => by
 rcases I.ok.stk with e | ⟨e, hf⟩
 ·rw [e] at hb; exact List.mem_cons_of_mem _ hb
 ·rw [e] at hb
  unfold frs at hb
  rw [List.filterMap_cons, hf] at hb
  exact hb
theorem Inv.stkFree (I : Inv X pins σ H s) : ∀ b ∈ frs X.stack, H b = none := fun b hb => by
 rcases List.mem_cons.mp (I.stkSub b hb) with e | hb
 ·rw [e]; exact I.free
 ·obtain ⟨_, o, ho, _⟩ := I.ok.funs.mem hb
  exact I.base.free b o ho (I.ok.frf b hb) fun z => I.ok.exfs b z hb
theorem Inv.step {g' : Array GenState} {t' : Nat} {d' : Drawn} {ch : List Addr} (I : Inv X pins σ H s)
  (hch : ∀ b ∈ ch, (b ∈ X.ex ∨ X.s₀.heap.objs.size ≤ b) ∧ b ≠ X.env.locals ∧ (∀ x c, X.env.cells.lookup x = some c → c ≠ b) ∧ ∀ p ∈ X.pn ++ pins, p.1 ≠ b)
  (keep : ∀ b o, b ≠ X.env.locals → b ∉ X.fs → b ∉ ch → s.heap.get? b = some o → H b = none → h'.get? b = some o)
  (slot : ∀ b o, b ≠ X.env.locals → b ∈ X.fs → b ∉ ch → s.heap.get? b = some o → H b = none → ∃ sl, h'.get? b = some { o with slots := sl }) (free : ∀ b o, b ∉ ch → s.heap.get? b = some o → H b = none → H' b = none)
  (there : ∀ b o, b ∉ ch → s.heap.get? b = some o → ∃ o', h'.get? b = some o')
  (tups : ∀ b xs, H b = some (.tup xs) → H' b = some (.tup xs)) (frzs : ∀ b o u, H b = some (.frz o u) → H' b = some (.frz o u)) (tbls : ∀ b ps, H b = some (.tbl ps) → ∃ more, H' b = some (.tbl (ps ++ more)))
  (ns : ∀ m, s.heap.Ns X.env.locals m → h'.Ns X.env.locals m) (hok : HOk X.prog X.w H' h') (hg : AllBare g') :
  Inv X pins σ H' { s with heap := h', gens := g', drawn := d', toks := t' } := by
 have neL : ∀ b o, X.s₀.heap.get? b = some o → b ≠ X.env.locals := fun b o e => Nat.ne_of_lt (Nat.lt_of_lt_of_le (Heap.lt_size e) I.ok.above)
 have neC : ∀ b o, X.s₀.heap.get? b = some o → b ∉ X.ex → b ∉ ch := fun b o e hx hb => by
  rcases (hch b hb).1 with z | z
  ·exact hx z
  ·exact absurd (Nat.lt_of_lt_of_le (Heap.lt_size e) z) (Nat.lt_irrefl _)
 have cellK : ∀ x c, X.env.cells.lookup x = some c → ∀ v, s.heap.IsCell c v → h'.IsCell c v := fun x c e v ⟨o, ho, hd⟩ => by
  have nch : c ∉ ch := fun z => (hch c z).2.2.1 x c e rfl
  by_cases hc : c ∈ X.fs
  ·obtain ⟨sl, q⟩ := slot c o (I.cne x c e) hc nch ho (I.freeC x c e)
   exact ⟨_, q, hd⟩
  ·exact ⟨o, keep c o (I.cne x c e) hc nch ho (I.freeC x c e), hd⟩
 refine ⟨I.ok, I.os, hg, ⟨fun b o e n hb hx => ?_, fun b o e n hb hx => ?_, fun b o e n hx => ?_, fun b o e hx => ?_, fun b xs e => tups b xs (I.base.tups b xs e), fun b o xs e => frzs b o xs (I.base.frzs b o xs e), fun b ps e => ?_⟩, ?_, fun x c e => ?_, ?_, fun x c e => ?_, fun p hp => ?_, hok, I.len⟩
 ·exact keep b o (neL b o e) hb (neC b o e hx) (I.base.keep b o e n hb hx) (I.base.free b o e n hx)
 ·obtain ⟨sl, e1⟩ := I.base.slot b o e n hb hx
  obtain ⟨sl', e2⟩ := slot b _ (neL b o e) hb (neC b o e hx) e1 (I.base.free b o e n hx)
  exact ⟨sl', e2⟩
 ·obtain ⟨o', e1⟩ := I.base.there b o e hx
  exact free b o' (neC b o e hx) e1 (I.base.free b o e n hx)
 ·obtain ⟨o', e1⟩ := I.base.there b o e hx
  exact there b o' (neC b o e hx) e1
 ·obtain ⟨m1, e1⟩ := I.base.tbls b ps e
  obtain ⟨m2, e2⟩ := tbls b _ e1
  exact ⟨m1 ++ m2, by rw [e2, Array.append_assoc]⟩
 ·obtain ⟨m, hn, hl⟩ := I.loc
  refine ⟨m, ns m hn, fun i x v e1 e2 e3 => ?_⟩
  obtain ⟨u, r, l⟩ := hl i x v e1 e2 e3
  refine ⟨u, r, ?_⟩
  rcases l with l | ⟨k, c, e, z⟩
  ·exact .inl l
  ·exact .inr ⟨k, c, e, cellK x c e _ z⟩
 ·obtain ⟨v, z⟩ := I.cell x c e
  exact ⟨v, cellK x c e v z⟩
 ·obtain ⟨m, ⟨o, _, _, ho, _⟩, _⟩ := I.loc
  exact free _ o (fun z => (hch _ z).2.1 rfl) ho I.free
 ·obtain ⟨v, o, ho, hd⟩ := I.cell x c e
  exact free c o (fun z => (hch c z).2.2.1 x c e rfl) ho (I.freeC x c e)
 ·obtain ⟨e, n, ne, nf, d⟩ := I.pin p hp
  have nch : p.1 ∉ ch := fun z => (hch p.1 z).2.2.2 p hp rfl
  exact ⟨keep p.1 p.2 ne nf nch e n, free p.1 p.2 nch e n, ne, nf, d⟩
theorem Inv.un {t' : Nat} (I : Inv X pins σ H s) (u : Un X.fs [] H H' s.heap h') (hok : HOk X.prog X.w H' h') : Inv X pins σ H' { s with heap := h', toks := t' } := by
 obtain ⟨m, ⟨o, es, ep, ho, r⟩, _⟩ := id I.loc
 obtain ⟨sl, hL⟩ := u.any ho I.free (by simp)
 exact I.step (g' := s.gens) (d' := s.drawn) (ch := []) (fun _ z => nomatch z) (fun b o _ hb _ e n => u.keep b o e n hb (by simp)) (fun b o _ hb _ e n => u.slot b o e n hb (by simp)) (fun b o _ e n => u.free b o e n (by simp)) (fun b o _ e => u.there b o e (by simp)) u.tups u.frzs u.tbls (fun m' hm => by
  obtain ⟨o', es', ep', ho', r'⟩ := hm
  rw [ho] at ho'; cases ho'
  exact ⟨_, es', ep', hL, r'⟩) hok I.bare
theorem Inv.call {g' : Array GenState} {t' : Nat} {d' : Drawn} {ch : List Addr} (I : Inv X pins σ H s) (u : Un (frs X.stack) ch H H' s.heap h') (hok : HOk X.prog X.w H' h') (hg : AllBare g')
  (hch : ∀ b ∈ ch, (b ∈ X.ex ∨ X.s₀.heap.objs.size ≤ b) ∧ b ≠ X.env.locals ∧ (∀ x c, X.env.cells.lookup x = some c → c ≠ b) ∧ ∀ p ∈ X.pn ++ pins, p.1 ≠ b) :
  Inv X pins σ H' { s with heap := h', gens := g', drawn := d', toks := t' } := by
 obtain ⟨m, ⟨o, es, ep, ho, r⟩, _⟩ := id I.loc
 obtain ⟨sl, hL⟩ := u.any ho I.free fun z => (hch _ z).2.1 rfl
 exact I.step (ch := ch) hch (fun b o hL hb hc e n => u.keep b o e n (fun z => (List.mem_cons.mp (I.stkSub b z)).elim hL hb) hc) (fun b o _ _ hc e n => u.any e n hc) (fun b o hc e n => u.free b o e n hc) (fun b o hc e => u.there b o e hc) u.tups u.frzs u.tbls (fun m' hm => by
  obtain ⟨o', es', ep', ho', r'⟩ := hm
  rw [ho] at ho'; cases ho'
  exact ⟨_, es', ep', hL, r'⟩) hok hg
theorem Inv.turned {t' : Nat} {it : Addr} (I : Inv X pins σ H s) (k : ∀ b o, b ≠ it → s.heap.get? b = some o → h'.get? b = some o) (hn : H it = none) (hL : it ≠ X.env.locals)
  (h1 : it ∈ X.ex ∨ X.s₀.heap.objs.size ≤ it) (h2 : ∀ x c, X.env.cells.lookup x = some c → c ≠ it) (h3 : ∀ p ∈ X.pn ++ pins, p.1 ≠ it) : Inv X pins σ H { s with heap := h', toks := t' } := by
 have nit : ∀ b u, H b = some u → b ≠ it := fun b u e z => by rw [z, hn] at e; cases e
 refine I.step (g' := s.gens) (d' := s.drawn) (ch := [it]) (fun b hb => ?_) (fun b o _ _ hc e _ => k b o (fun z => hc (by simp [z])) e) (fun b o _ _ hc e _ => ⟨o.slots, k b o (fun z => hc (by simp [z])) e⟩) (fun _ _ _ _ n => n)
  (fun b o hc e => ⟨o, k b o (fun z => hc (by simp [z])) e⟩) (fun _ _ e => e) (fun _ _ _ e => e) (fun b ps e => ⟨#[], by rw [e]; simp⟩) (fun m hm => ?_) (fun b u e => ?_) I.bare
 ·have e : b = it := by simpa using hb
  subst e
  exact ⟨h1, hL, h2, h3⟩
 ·obtain ⟨o, es, ep, ho, r⟩ := hm
  exact ⟨o, es, ep, k _ o (Ne.symm hL) ho, r⟩
 ·refine (I.hok b u e).stay (fun c v hc q => k c v ?_ q) (fun _ q => q) fun _ _ q => q
  rcases hc with z | z
  ·rw [z]; exact nit b u e
  ·exact nit c _ z
theorem Inv.tok (I : Inv X pins σ H s) (t : Nat) : Inv X pins σ H { s with toks := t } := I.un (h' := s.heap) (t' := t) Un.refl I.hok
theorem Inv.kept {t' : Nat} (I : Inv X pins σ H s) (k : ∀ b u, s.heap.get? b = some u → h'.get? b = some u) : Inv X pins σ H { s with heap := h', toks := t' } := I.un (Un.kept k) (I.hok.kept k)
theorem Inv.laid {a : Addr} {o : HO} {t' : Nat} (I : Inv X pins σ H s) (k : ∀ b u, s.heap.get? b = some u → h'.get? b = some u) (hp : s.heap.objs.size ≤ a) (new : ObjOk X.prog X.w (upd H a o) h' a o) :
  Inv X pins σ (upd H a o) { s with heap := h', toks := t' } := I.un (Un.laid k hp (I.hok.fresh hp)) (I.hok.laid k hp new)
theorem Inv.write {x e : Addr} {o : HO} {t' : Nat} (I : Inv X pins σ H s) (mu : Mut (H x)) (he : e = x ∨ H e = some (.own x)) (k : ∀ b u, b ≠ e → s.heap.get? b = some u → h'.get? b = some u) (heo : ∃ u, h'.get? e = some u)
  (new : ObjOk X.prog X.w (upd H x o) h' x o) : Inv X pins σ (upd H x o) { s with heap := h', toks := t' } := I.un (Un.write mu he k heo) (I.hok.write mu he k heo new)
theorem Inv.pins_of {pins' : List (Addr × Obj)} (I : Inv X pins σ H s) (h : ∀ p ∈ pins', s.heap.get? p.1 = some p.2 ∧ H p.1 = none ∧ p.1 ≠ X.env.locals ∧ p.1 ∉ X.fs ∧ ∀ v, p.2.data ≠ .cell v) : Inv X pins' σ H s :=
 ⟨I.ok, I.os, I.bare, I.base, I.loc, I.cell, I.free, I.freeC, fun p hp => (List.mem_append.mp hp).elim (fun z => I.pin p (List.mem_append_left _ z)) (h p), I.hok, I.len⟩
theorem nodup_ix {N : List Str} (hN : N.Nodup) {i j : Nat} {x : Str} (a : N[i]? = some x) (b : N[j]? = some x) : i = j := by
 obtain ⟨h1, e1⟩ := List.getElem?_eq_some_iff.mp a
 obtain ⟨h2, e2⟩ := List.getElem?_eq_some_iff.mp b
 exact (List.getElem_inj hN).mp (e1.trans e2.symm)
theorem store_ok2 {M : Model} {A : Around} {E : Value → Shared → Prop} {i : Nat} {x : Str} {v : V} {u : Value} {Q : Unit → Shared → Prop} (I : Inv X pins σ H s) (hN : X.N.Nodup) (hi : X.N[i]? = some x) (hx : Loc X.env.scope x) (r : RelV v u)
    (h : ∀ s', Inv X pins (σ.set i (some v)) H s' → (∃ a, Heap.SameBut a s.heap s'.heap ∧ (a = X.env.locals ∨ X.env.cells.lookup x = some a)) → Q () s') (hf : X.fn x = true ∨ X.env.scope.names.lookup x = some .local := by first | exact .inl rfl | exact .inr rfl | assumption) : wpAny M A (storeName X.env x u) Q E s := by
  obtain ⟨m, hn, hl⟩ := id I.loc
  have hcls : (X.env.scope.kind == .class || (X.env.scope.kind == .module && X.env.locals != X.env.globals)) = false := by rw [I.ok.kind]; rfl
  have hiσ : i < σ.length := by rw [I.len]; exact (List.getElem?_eq_some_iff.mp hi).1
  have cne := I.cne
  have tracked : ∀ {a : Addr} {h' : Heap}, (∃ o, s.heap.get? a = some o ∧ H a = none) → Heap.SameBut a s.heap h' → HOk X.prog X.w H h' := fun {a h'} ha hs b ob e => by
    obtain ⟨_, _, hfree⟩ := ha
    refine (I.hok b ob e).stay (fun c w' hc q => (hs.2 c ?_).trans q) (fun _ q => q) fun _ _ q => q
    rintro rfl
    rcases hc with rfl | hc
    · rw [hfree] at e; cases e
    · rw [hfree] at hc; cases hc
  rcases hx with hk | hk
  · refine wpAny_storeName_local hk hn (fun h' hn' hs => ?_) hcls
    obtain ⟨oL, _, _, hoL, _⟩ := id hn
    refine h _ ⟨I.ok, I.os, I.bare, ⟨fun b o e n hb hx => ?_, fun b o e n hb hx => ?_, I.base.free, fun b o e hx => ?_, I.base.tups, I.base.frzs, I.base.tbls⟩, ⟨_, hn', fun j y v' e1 e2 e3 => ?_⟩, fun y c e => ?_, I.free, I.freeC, fun p hp => ?_, tracked ⟨oL, hoL, I.free⟩ hs, by simpa using I.len⟩ ⟨_, hs, .inl rfl⟩
    · exact (hs.2 b (Nat.ne_of_lt (Nat.lt_of_lt_of_le (Heap.lt_size e) I.ok.above))).trans (I.base.keep b o e n hb hx)
    · obtain ⟨sl, e1⟩ := I.base.slot b o e n hb hx
      exact ⟨sl, (hs.2 b (Nat.ne_of_lt (Nat.lt_of_lt_of_le (Heap.lt_size e) I.ok.above))).trans e1⟩
    · obtain ⟨o', e1⟩ := I.base.there b o e hx
      exact ⟨o', (hs.2 b (Nat.ne_of_lt (Nat.lt_of_lt_of_le (Heap.lt_size e) I.ok.above))).trans e1⟩
    · by_cases hj : j = i
      · subst hj
        rw [hi] at e1; cases e1
        rw [List.getElem?_set_self hiσ] at e2
        cases e2
        exact ⟨u, r, .inl ⟨hk, by simp⟩⟩
      · rw [List.getElem?_set_ne (Ne.symm hj)] at e2
        obtain ⟨u', r', q⟩ := hl j y v' e1 e2 e3
        refine ⟨u', r', ?_⟩
        rcases q with ⟨k, e⟩ | ⟨k, c, e, z⟩
        · refine .inl ⟨k, ?_⟩
          have : y ≠ x := fun e => hj (nodup_ix hN e1 (e ▸ hi))
          simp [this, e]
        · exact .inr ⟨k, c, e, z.sameBut hs (cne y c e)⟩
    · obtain ⟨w', z⟩ := I.cell y c e
      exact ⟨w', z.sameBut hs (cne y c e)⟩
    · obtain ⟨e, n, ne, nf, d⟩ := I.pin p hp
      exact ⟨(hs.2 p.1 ne).trans e, n, ne, nf, d⟩
  · have hfn : X.fn x = true := by
      rcases hf with z | z
      · exact z
      · rw [z] at hk; cases hk
    obtain ⟨c, hc⟩ := I.ok.has x (.inl hk)
    obtain ⟨w', z⟩ := I.cell x c hc
    refine wpAny_storeName_cell I.ok.kind hk hc z (fun h' hc' hs => ?_)
    obtain ⟨oc, hoc, hocd⟩ := id z
    refine h { s with heap := h' } ⟨I.ok, I.os, I.bare, ⟨fun b o e n hb hx => ?_, fun b o e n hb hx => ?_, I.base.free, fun b o e hx => ?_, I.base.tups, I.base.frzs, I.base.tbls⟩, ⟨m, hn.sameBut hs (Ne.symm (cne x c hc)), fun j y v' e1 e2 e3 => ?_⟩, fun y c' e => ?_, I.free, I.freeC, fun p hp => ?_, tracked ⟨oc, hoc, I.freeC x c hc⟩ hs, by simpa using I.len⟩ ⟨c, hs, .inr hc⟩
    · exact (hs.2 b (Nat.ne_of_lt (Nat.lt_of_lt_of_le (Heap.lt_size e) (I.ok.cab x c hfn hc)))).trans (I.base.keep b o e n hb hx)
    · obtain ⟨sl, e1⟩ := I.base.slot b o e n hb hx
      exact ⟨sl, (hs.2 b (Nat.ne_of_lt (Nat.lt_of_lt_of_le (Heap.lt_size e) (I.ok.cab x c hfn hc)))).trans e1⟩
    · obtain ⟨o', e1⟩ := I.base.there b o e hx
      exact ⟨o', (hs.2 b (Nat.ne_of_lt (Nat.lt_of_lt_of_le (Heap.lt_size e) (I.ok.cab x c hfn hc)))).trans e1⟩
    · by_cases hj : j = i
      · subst hj
        rw [hi] at e1; cases e1
        rw [List.getElem?_set_self hiσ] at e2
        cases e2
        exact ⟨u, r, .inr ⟨.inl hk, c, hc, hc'⟩⟩
      · rw [List.getElem?_set_ne (Ne.symm hj)] at e2
        obtain ⟨u', r', q⟩ := hl j y v' e1 e2 e3
        refine ⟨u', r', ?_⟩
        rcases q with q | ⟨k, c', e, z'⟩
        · exact .inl q
        · refine .inr ⟨k, c', e, z'.sameBut hs ?_⟩
          rintro rfl
          exact hj (nodup_ix hN e1 (I.ok.inj _ _ _ e hc ▸ hi))
    · by_cases hcc : c' = c
      · subst hcc; exact ⟨_, hc'⟩
      · obtain ⟨w2, z2⟩ := I.cell y c' e
        exact ⟨w2, z2.sameBut hs hcc⟩
    · obtain ⟨e, n, ne, nf, d⟩ := I.pin p hp
      refine ⟨(hs.2 p.1 ?_).trans e, n, ne, nf, d⟩
      intro q
      rw [q, hoc] at e
      have q' : oc = p.2 := Option.some.inj e
      exact d w' (by rw [← q']; exact hocd)
theorem store_ok {M : Model} {A : Around} {E : Value → Shared → Prop} {i : Nat} {x : Str} {v : V} {u : Value} {Q : Unit → Shared → Prop} (I : Inv X pins σ H s) (hN : X.N.Nodup) (hi : X.N[i]? = some x) (hx : Loc X.env.scope x) (r : RelV v u)
  (h : ∀ s', Inv X pins (σ.set i (some v)) H s' → Q () s') (hf : X.fn x = true ∨ X.env.scope.names.lookup x = some .local := by first | exact .inl rfl | exact .inr rfl | assumption) : wpAny M A (storeName X.env x u) Q E s :=
 store_ok2 I hN hi hx r (fun s' I' _ => h s' I') hf
theorem Inv.call' {s' : Shared} {ch : List Addr} (I : Inv X pins σ H s) (ho : s'.os = s.os) (u : Un (frs X.stack) ch H H' s.heap s'.heap) (hok : HOk X.prog X.w H' s'.heap) (hg : AllBare s'.gens)
  (hch : ∀ b ∈ ch, (b ∈ X.ex ∨ X.s₀.heap.objs.size ≤ b) ∧ b ≠ X.env.locals ∧ (∀ x c, X.env.cells.lookup x = some c → c ≠ b) ∧ ∀ p ∈ X.pn ++ pins, p.1 ≠ b) : Inv X pins σ H' s' := by
 obtain ⟨h', g', d', t', o'⟩ := s'
 have e : o' = s.os := ho
 subst e
 exact I.call (g' := g') (t' := t') (d' := d') u hok hg hch
end
noncomputable abbrev XK := Value → Option Addr → Hp → Prop
noncomputable abbrev St := List (Option V)
noncomputable abbrev VK := V → Hp → Prop
noncomputable abbrev TE := St → Hp → VK → Prop
noncomputable abbrev TT := St → Hp → (Bool → Hp → Prop) → Prop
noncomputable abbrev TA := St → Hp → (List V → Hp → Prop) → Prop
structure Ends where
 nx : St → Hp → Prop
 rt : VK
 bk : St → Hp → Prop := fun _ _ => False
 ct : St → Hp → Prop := fun _ _ => False
noncomputable abbrev TS := Ends → St → Hp → Prop
noncomputable def EP (X : Cx) (pins : List (Addr × Obj)) (σ : St) (Q : VK) (u : Value) (s' : Shared) : Prop := ∃ v H', Inv X pins σ H' s' ∧ RelV v u ∧ Q v H'
noncomputable def TP (X : Cx) (pins : List (Addr × Obj)) (σ : St) (Q : Bool → Hp → Prop) (b : Bool) (s' : Shared) : Prop := ∃ H', Inv X pins σ H' s' ∧ Q b H'
noncomputable def AP (X : Cx) (pins : List (Addr × Obj)) (σ : St) (Q : List V → Hp → Prop) (us : List Value) (s' : Shared) : Prop := ∃ vs H', Inv X pins σ H' s' ∧ Vals vs us ∧ Q vs H'
noncomputable def SP (X : Cx) (pins : List (Addr × Obj)) (D : Ends) (f : Flow) (s' : Shared) : Prop :=
 match f with
 | .next => ∃ σ' H', Inv X pins σ' H' s' ∧ D.nx σ' H'
 | .brk => ∃ σ' H', Inv X pins σ' H' s' ∧ D.bk σ' H'
 | .cont => ∃ σ' H', Inv X pins σ' H' s' ∧ D.ct σ' H'
 | .ret u => ∃ v σ' H', Inv X pins σ' H' s' ∧ RelV v u ∧ D.rt v H'
noncomputable def PE (X : Cx) (e : Expr) (t : TE) : Prop :=
 ∀ (pins : List (Addr × Obj)) (s : Shared) (σ : St) (H : Hp) (Q : VK), Inv X pins σ H s → t σ H Q → wpAny (model X.prog X.w) X.A (eval e X.env) (EP X pins σ Q) X.xe s
noncomputable def PT (X : Cx) (e : Expr) (t : TT) : Prop :=
 ∀ (pins : List (Addr × Obj)) (s : Shared) (σ : St) (H : Hp) (Q : Bool → Hp → Prop), Inv X pins σ H s → t σ H Q → wpAny (model X.prog X.w) X.A (isTrue e X.env (eval e X.env)) (TP X pins σ Q) X.xe s
noncomputable def PW (X : Cx) (e : Expr) (t : TT) : Prop :=
 ∀ (whole : Sem Value) (pins : List (Addr × Obj)) (s : Shared) (σ : St) (H : Hp) (Q : Bool → Hp → Prop), Inv X pins σ H s → t σ H Q → wpAny (model X.prog X.w) X.A (isTrue e X.env whole) (TP X pins σ Q) X.xe s
theorem PW.pt {X : Cx} {e : Expr} {t : TT} (h : PW X e t) : PT X e t := h _
noncomputable def PA (X : Cx) (es : List Expr) (t : TA) : Prop :=
 ∀ (pos : Pos) (pins : List (Addr × Obj)) (s : Shared) (σ : St) (H : Hp) (Q : List V → Hp → Prop), Inv X pins σ H s → t σ H Q → wpAny (model X.prog X.w) X.A (spliced (backTo pos (starEach es X.env))) (AP X pins σ Q) X.xe s
noncomputable def PS (X : Cx) (st : Stmt) (t : TS) : Prop :=
 ∀ (pins : List (Addr × Obj)) (s : Shared) (σ : St) (H : Hp) (D : Ends), Inv X pins σ H s → t D σ H → wpAny (model X.prog X.w) X.A (exec st X.env) (SP X pins D) X.xe s
noncomputable def PSs (X : Cx) (st : List Stmt) (t : TS) : Prop :=
 ∀ (pins : List (Addr × Obj)) (s : Shared) (σ : St) (H : Hp) (D : Ends), Inv X pins σ H s → t D σ H → wpAny (model X.prog X.w) X.A (execs st X.env) (SP X pins D) X.xe s
theorem thn {α : Type} {t : Sem α} {Q Q' : α → Shared → Prop} {M : Model} {A : Around} {E : Value → Shared → Prop} {s : Shared} (h : wpAny M A t Q E s) (hQ : ∀ a s, Q a s → Q' a s) : wpAny M A t Q' E s := wpAny_mono h hQ fun _ _ x => x
section
variable {X : Cx}
noncomputable def tVar (i : Nat) : TE := fun σ H Q => ∃ v, σ[i]? = some (some v) ∧ Q v H
noncomputable def tC (v : V) : TE := fun _ H Q => Q v H
theorem pe_var {i : Nat} {x : Str} {pos : Pos} (hN : X.N[i]? = some x) (hv : Vis X.env.scope x) (hd : (x == ("__debug__" : Str)) = false := by decide) (hcd : (x == ("__classdict__" : Str)) = false := by decide) : PE X (.Name x pos) (tVar i) := by
 intro pins s σ H Q I h
 obtain ⟨v, e, h⟩ := h
 obtain ⟨m, hn, hl⟩ := I.loc
 obtain ⟨u, r, l⟩ := hl i x v hN e hv
 have fin : EP X pins σ Q u s := ⟨v, H, I, r, h⟩
 rcases l with ⟨hk, hm⟩ | ⟨hk, c, hc, hcell⟩
 ·exact wpAny_Name (wpAny_loadName_local I.ok.kind hk hn hm fin) hd
 ·rcases hk with hk | hk
  ·exact wpAny_Name (wpAny_loadName_cell I.ok.kind hk hc hcell fin) hd
  ·exact wpAny_Name (wpAny_loadName_free I.ok.kind hk hc hcell fin hcd) hd
theorem pe_int {i j pos} : PE X (.Constant (.int i) j pos) (tC (.int i)) := fun _ _ _ H _ I h => wpAny_Constant_int ⟨.int i, H, I.tok _, ⟨_, rfl⟩, h⟩
theorem pe_bl {b j pos} : PE X (.Constant (.bool b) j pos) (tC (.bl b)) := fun _ _ _ H _ I h => Constant_bool ⟨.bl b, H, I, rfl, h⟩
theorem pe_non {j pos} : PE X (.Constant .none j pos) (tC .non) := fun _ _ _ H _ I h => Constant_none ⟨.non, H, I, rfl, h⟩
theorem pe_str {x j pos} : PE X (.Constant (.str x) j pos) (tC (.str x)) := fun _ _ _ H _ I h => Calls.Constant_str ⟨.str x, H, I.tok _, ⟨_, rfl⟩, h⟩
noncomputable def Gl (X : Cx) (x : Str) : Prop := X.env.kindOf x = some .globalImplicit
theorem ld_glob {E : Value → Shared → Prop} {pins : List (Addr × Obj)} {s : Shared} {σ : St} {H : Hp} {x : Str} {u : Value} {pos : Pos} {Q : Value → Shared → Prop} (I : Inv X pins σ H s) (hg : Gl X x) (hm : X.mg x = some u) (h : Q u s)
  (hd : (x == ("__debug__" : Str)) = false := by decide) : wpAny (model X.prog X.w) X.A (eval (.Name x pos) X.env) Q E s :=
 Calls.Name_function_global I.ok.kind hg (Calls.loadGlobal_global (by rw [I.ok.glob]; exact I.mod.glob.keeps I.bk) hm h) hd
theorem ld_blt {E : Value → Shared → Prop} {pins : List (Addr × Obj)} {s : Shared} {σ : St} {H : Hp} {x : Str} {u : Value} {pos : Pos} {Q : Value → Shared → Prop} (I : Inv X pins σ H s) (hg : Gl X x) (hm : X.mg x = none) (hv : bootBuiltins x = some u) (h : Q u s)
  (hn : x ≠ "__name__" := by decide) (hd : (x == ("__debug__" : Str)) = false := by decide) : wpAny (model X.prog X.w) X.A (eval (.Name x pos) X.env) Q E s := by
 obtain ⟨mb, h1, h2⟩ := I.mod.blt
 exact Calls.Name_function_global I.ok.kind hg (Calls.loadGlobal_builtin (by rw [I.ok.glob]; exact I.mod.glob.keeps I.bk) hm (by rw [I.ok.blt]; exact h1.keeps I.bk) ((h2 x hn).trans hv) h) hd
theorem pe_glob {x : Str} {v : V} {u : Value} {pos : Pos} (hg : Gl X x) (hm : X.mg x = some u) (r : RelV v u) (hd : (x == ("__debug__" : Str)) = false := by decide) : PE X (.Name x pos) (tC v) :=
 fun _ _ _ H _ I h => ld_glob I hg hm ⟨v, H, I, r, h⟩ hd
theorem pe_bltn {x : Str} {v : V} {u : Value} {pos : Pos} (hg : Gl X x) (hm : X.mg x = none) (hv : bootBuiltins x = some u) (r : RelV v u) (hn : x ≠ "__name__" := by decide) (hd : (x == ("__debug__" : Str)) = false := by decide) : PE X (.Name x pos) (tC v) :=
 fun _ _ _ H _ I h => ld_blt I hg hm hv ⟨v, H, I, r, h⟩ hn hd
variable {a b : Expr} {ta tb : TE} {pos : Pos}
noncomputable def PC (X : Cx) (op : CmpOp) (a b : Expr) (t : TE) : Prop :=
 ∀ (pins : List (Addr × Obj)) (s : Shared) (σ : St) (H : Hp) (Q : VK), Inv X pins σ H s → t σ H Q →
  wpAny (model X.prog X.w) X.A (eval a X.env) (fun v s₁ => wpAny (model X.prog X.w) X.A (eval b X.env) (fun u s₂ => wpAny (model X.prog X.w) X.A (compareOp op v u) (EP X pins σ Q) X.xe s₂) X.xe s₁) X.xe s
noncomputable def tB (t : TE) : TT := fun σ H Q => t σ H fun x H1 => ∃ c, x = .bl c ∧ Q c H1
theorem pt_val {e : Expr} {t : TE} (h : PE X e t) (he : ∀ whole, isTrue e X.env whole = (do let v ← whole; standAt e.pos; holding [v] (truthy v)) := by intro _; rfl) : PT X e (tB t) := by
 intro pins s σ H Q I hw
 refine isTrue_plain (thn (h pins s σ H _ I hw) fun v s1 ⟨x, H1, I1, r1, q1⟩ => ?_) (he _)
 obtain ⟨d, rfl, q⟩ := q1
 cases r1
 exact wpAny_truthy_bool ⟨H1, I1, q⟩
variable {tA tB' : TT} {rest : List Expr}
noncomputable def tAnd (t u : TT) : TT := fun σ H Q => t σ H fun c H1 => if c = true then u σ H1 Q else Q false H1
noncomputable def tOr (t u : TT) : TT := fun σ H Q => t σ H fun c H1 => if c = true then Q true H1 else u σ H1 Q
noncomputable def tNot (t : TT) : TT := fun σ H Q => t σ H fun c H1 => Q (!c) H1
theorem pw_and1 (ha : PT X a tA) : PW X (.BoolOp .And [a] pos) tA := by
 intro wh pins s σ H Q I h
 refine isTrue_and (thn (ha pins s σ H Q I h) fun c s1 e => ?_)
 cases c with
 | true => exact isTrue_and_nil e
 | false => exact e
theorem pw_or1 (ha : PT X a tA) : PW X (.BoolOp .Or [a] pos) tA := by
 intro wh pins s σ H Q I h
 refine isTrue_or (thn (ha pins s σ H Q I h) fun c s1 e => ?_)
 cases c with
 | false => exact isTrue_or_nil e
 | true => exact e
theorem pw_and (ha : PT X a tA) (hb : PW X (.BoolOp .And (b :: rest) pos) tB') : PW X (.BoolOp .And (a :: b :: rest) pos) (tAnd tA tB') := by
 intro wh pins s σ H Q I h
 refine isTrue_and (thn (ha pins s σ H _ I h) fun c s1 ⟨H1, I1, q1⟩ => ?_)
 cases c with
 | true => exact hb wh pins s1 σ H1 Q I1 q1
 | false => exact ⟨H1, I1, q1⟩
theorem pw_or (ha : PT X a tA) (hb : PW X (.BoolOp .Or (b :: rest) pos) tB') : PW X (.BoolOp .Or (a :: b :: rest) pos) (tOr tA tB') := by
 intro wh pins s σ H Q I h
 refine isTrue_or (thn (ha pins s σ H _ I h) fun c s1 ⟨H1, I1, q1⟩ => ?_)
 cases c with
 | true => exact ⟨H1, I1, q1⟩
 | false => exact hb wh pins s1 σ H1 Q I1 q1
theorem pt_not (ha : PT X a tA) : PT X (.UnaryOp .Not a pos) (tNot tA) := by
 intro pins s σ H Q I h
 exact isTrue_not (ha pins s σ H (fun c H1 => Q (!c) H1) I h)
noncomputable def tAndV (ta tb : TE) : TE := fun σ H Q => ta σ H fun x H1 => ∃ c, x = .bl c ∧ if c = true then tb σ H1 Q else Q (.bl false) H1
noncomputable def tNotV (ta : TE) : TE := fun σ H Q => ta σ H fun x H1 => ∃ c, x = .bl c ∧ Q (.bl (!c)) H1
theorem pe_one {op} {t : TE} (h : PE X a t) : PE X (.BoolOp op [a] pos) t := fun pins s σ H Q I hw => BoolOp_one (h pins s σ H Q I hw)
theorem pe_and (ha : PE X a ta) (hb : PE X (.BoolOp .And (b :: rest) pos) tb) : PE X (.BoolOp .And (a :: b :: rest) pos) (tAndV ta tb) := by
 intro pins s σ H Q I h
 refine BoolOp_and (thn (ha pins s σ H _ I h) fun v s1 ⟨x, H1, I1, r1, q1⟩ => ?_)
 obtain ⟨c, rfl, q1⟩ := q1
 cases r1
 refine wpAny_truthy_bool ?_
 cases c with
 | true => exact hb pins s1 σ H1 Q I1 q1
 | false => exact ⟨.bl false, H1, I1, rfl, q1⟩
theorem pe_not (ha : PE X a ta) : PE X (.UnaryOp .Not a pos) (tNotV ta) := by
 intro pins s σ H Q I h
 refine UnaryOp_ (thn (ha pins s σ H _ I h) fun v s1 ⟨x, H1, I1, r1, q1⟩ => ?_)
 obtain ⟨c, rfl, q1⟩ := q1
 cases r1
 exact not_of (wpAny_truthy_bool ⟨.bl (!c), H1, I1, rfl, q1⟩)
noncomputable def tIf (t : TT) (ta tb : TE) : TE := fun σ H Q => t σ H fun c H1 => if c = true then ta σ H1 Q else tb σ H1 Q
theorem pe_ifExp {c : Expr} (hc : PT X c tA) (ha : PE X a ta) (hb : PE X b tb) : PE X (.IfExp c a b pos) (tIf tA ta tb) := by
 intro pins s σ H Q I h
 refine wpAny_IfExp (thn (hc pins s σ H _ I h) fun d s1 ⟨H1, I1, q1⟩ => ?_)
 cases d with
 | true => exact ha pins s1 σ H1 Q I1 q1
 | false => exact hb pins s1 σ H1 Q I1 q1
end
noncomputable def SqL (K : PySem.W.Frag) (H : Hp) (a : Addr) (xs : List V) : Prop :=
 Rd H a (.lst xs) ∨
  ∃ (o : Obj) (its : Array Value) (n : Nat), K.lookup a = some o ∧ o.cls = .type "list" ∧ o.dict = none ∧ o.data = .seq its n ∧ its.size ≤ sizeLine ∧ Vals xs its.toList
noncomputable def SqT (K : PySem.W.Frag) (H : Hp) (a : Addr) (xs : List V) : Prop :=
 Rd H a (.tup xs) ∨
  ∃ (o : Obj) (its : Array Value) (n : Nat), K.lookup a = some o ∧ o.cls = .type "tuple" ∧ o.data = .seq its n ∧ its.size ≤ sizeLine ∧ Vals xs its.toList
noncomputable def absV : Value → Option V
 | .none => some .non
 | .bool b => some (.bl b)
 | .int i _ => some (.int i)
 | .str x _ => some (.str x)
 | .bytes b _ => some (.byt b)
 | .float b _ => some (.flt b)
 | .ref a => some (.ref a)
 | .type n => some (.ty n)
 | _ => none
theorem RelV.abs {x : V} {u : Value} (r : RelV x u) : absV u = some x := by
 cases x with
 | non => cases r; rfl
 | bl _ => cases r; rfl
 | int _ => obtain ⟨t, rfl⟩ := r; rfl
 | str _ => obtain ⟨t, rfl⟩ := r; rfl
 | byt _ => obtain ⟨t, rfl⟩ := r; rfl
 | flt _ => obtain ⟨t, rfl⟩ := r; rfl
 | ref _ => cases r; rfl
 | ty _ => cases r; rfl
theorem RelV.inj {x y : V} {u : Value} (r : RelV x u) (q : RelV y u) : x = y := Option.some.inj (r.abs.symm.trans q.abs)
theorem Vals.inj : ∀ {xs ys : List V} {us : List Value}, Vals xs us → Vals ys us → xs = ys
 | _, _, _, .nil, .nil => rfl
 | _, _, _, .cons r t, .cons r' t' => by rw [r.inj r', Vals.inj t t']
section
variable {X : Cx} {pins : List (Addr × Obj)} {σ : St} {H : Hp} {s : Shared} {a : Addr} {xs ys : List V}
theorem SqL.of {K : PySem.W.Frag} (h : H a = some (.lst xs)) : SqL K H a xs := .inl (.inl h)
theorem SqT.of {K : PySem.W.Frag} (h : H a = some (.tup xs)) : SqT K H a xs := .inl (.inl h)
theorem Inv.list (I : Inv X pins σ H s) (h : SqL X.K H a xs) : ∃ its : List Value, Vals xs its ∧ PlainL s.heap a its.toArray ∧ xs.length ≤ sizeLine := by
 rcases h with h | ⟨o, its, n, hk, hc, hd, hs, hz, r⟩
 ·obtain ⟨z, its, n, r, e⟩ := h.ok I.hok
  exact ⟨its, r, ⟨_, n, e, rfl, rfl, rfl⟩, z⟩
 ·refine ⟨its.toList, r, ⟨o, n, I.kIn a o hk, hc, hd, by simpa using hs⟩, ?_⟩
  have e := r.length
  simp only [Array.length_toList] at e
  omega
theorem Inv.tuple (I : Inv X pins σ H s) (h : SqT X.K H a xs) : ∃ its : List Value, Vals xs its ∧ IsTup s.heap a its.toArray ∧ xs.length ≤ sizeLine := by
 rcases h with h | ⟨o, its, n, hk, hc, hs, hz, r⟩
 ·obtain ⟨z, its, r, p⟩ := h.ok I.hok
  exact ⟨its, r, p, z⟩
 ·refine ⟨its.toList, r, ⟨o, I.kIn a o hk, hc, n, by simpa using hs⟩, ?_⟩
  have e := r.length
  simp only [Array.length_toList] at e
  omega
theorem Inv.list_inj (I : Inv X pins σ H s) (h : SqL X.K H a xs) (h' : SqL X.K H a ys) : xs = ys := by
 obtain ⟨its, r, ⟨o, n, e, _, _, d⟩, _⟩ := I.list h
 obtain ⟨its', r', ⟨o', n', e', _, _, d'⟩, _⟩ := I.list h'
 rw [e] at e'; cases e'
 rw [d] at d'
 injection d' with d1 _
 have : its = its' := by simpa using congrArg Array.toList d1
 subst this
 exact r.inj r'
theorem Inv.tuple_inj (I : Inv X pins σ H s) (h : SqT X.K H a xs) (h' : SqT X.K H a ys) : xs = ys := by
 obtain ⟨its, r, ⟨o, e, _, n, d⟩, _⟩ := I.tuple h
 obtain ⟨its', r', ⟨o', e', _, n', d'⟩, _⟩ := I.tuple h'
 rw [e] at e'; cases e'
 rw [d] at d'
 injection d' with d1 _
 have : its = its' := by simpa using congrArg Array.toList d1
 subst this
 exact r.inj r'
end
noncomputable abbrev Cx.wish (X : Cx) (E : Value → Shared → Prop) : Cx := { X with xe := E }
noncomputable abbrev Cx.nox (X : Cx) : Cx := X.wish fun _ _ => False
theorem Cx.Ok.wish {X : Cx} (ok : X.Ok) (E : Value → Shared → Prop) : (X.wish E).Ok :=
 ⟨ok.mod, ok.kind, ok.glob, ok.blt, ok.above, ok.inj, ok.has, ok.cab, ok.hd, ok.frames, ok.stk, ok.exf, ok.bs, ok.bsz, ok.noex, ok.exfs, ok.funs, ok.frf⟩
theorem Cx.Ok.unwish {X : Cx} {E : Value → Shared → Prop} (ok : (X.wish E).Ok) : X.Ok :=
 ⟨ok.mod, ok.kind, ok.glob, ok.blt, ok.above, ok.inj, ok.has, ok.cab, ok.hd, ok.frames, ok.stk, ok.exf, ok.bs, ok.bsz, ok.noex, ok.exfs, ok.funs, ok.frf⟩
section
variable {X : Cx} {pins : List (Addr × Obj)} {σ : St} {H : Hp} {s : Shared} {E : Value → Shared → Prop}
theorem Inv.wish (I : Inv X pins σ H s) (E : Value → Shared → Prop) : Inv (X.wish E) pins σ H s := ⟨I.ok.wish E, I.os, I.bare, I.base, I.loc, I.cell, I.free, I.freeC, I.pin, I.hok, I.len⟩
theorem Inv.unwish (I : Inv (X.wish E) pins σ H s) : Inv X pins σ H s := ⟨I.ok.unwish, I.os, I.bare, I.base, I.loc, I.cell, I.free, I.freeC, I.pin, I.hok, I.len⟩
theorem SP.unwish {D : Ends} {f : Flow} {s' : Shared} (h : SP (X.wish E) pins D f s') : SP X pins D f s' := by
 cases f with
 | next => obtain ⟨σ', H', I, q⟩ := h; exact ⟨σ', H', I.unwish, q⟩
 | brk => obtain ⟨σ', H', I, q⟩ := h; exact ⟨σ', H', I.unwish, q⟩
 | cont => obtain ⟨σ', H', I, q⟩ := h; exact ⟨σ', H', I.unwish, q⟩
 | ret u => obtain ⟨v, σ', H', I, r, q⟩ := h; exact ⟨v, σ', H', I.unwish, r, q⟩
theorem PE.nox {e : Expr} {t : TE} (h : PE X.nox e t) : PE X e t := fun pins s σ H Q I hw =>
 wpAny_mono (h pins s σ H Q (I.wish _) hw) (fun _ _ ⟨v, H', I', r, q⟩ => ⟨v, H', I'.unwish, r, q⟩) fun _ _ z => False.elim z
theorem PSs.nox {st : List Stmt} {t : TS} (h : PSs X.nox st t) : PSs X st t := fun pins s σ H D I hw =>
 wpAny_mono (h pins s σ H D (I.wish _) hw) (fun _ _ q => q.unwish) fun _ _ z => False.elim z
end
section
variable {X : Cx} {st : Stmt} {rest : List Stmt} {t u : TS} {e : Expr} {te : TE} {pos : Pos}
noncomputable def tNext : TS := fun D σ H => D.nx σ H
noncomputable def tSeq (t u : TS) : TS := fun D σ H => t { D with nx := u D } σ H
theorem pss_nil : PSs X [] tNext := fun _ _ σ H _ I h => wpAny_execs_nil ⟨σ, H, I, h⟩
theorem pss_cons (h1 : PS X st t) (h2 : PSs X rest u) : PSs X (st :: rest) (tSeq t u) := by
 intro pins s σ H D I h
 refine wpAny_execs_cons (thn (h1 pins s σ H { D with nx := u D } I h) fun f s1 q => ?_)
 cases f with
 | next =>
  obtain ⟨σ', H', I', q⟩ := q
  exact h2 pins s1 σ' H' D I' q
 | ret v => exact q
 | brk => exact q
 | cont => exact q
theorem pss_one (h1 : PS X st t) : PSs X [st] t := by
 intro pins s σ H D I h
 refine wpAny_execs_cons (thn (h1 pins s σ H D I h) fun f s1 q => ?_)
 cases f with
 | next => exact wpAny_execs_nil q
 | ret v => exact q
 | brk => exact q
 | cont => exact q
theorem Inv.quiet {pins : List (Addr × Obj)} {σ : St} {H : Hp} {s : Shared} (I : Inv X pins σ H s) : interactive X.env = false := by simp [interactive, I.ok.kind]
noncomputable def tDrop (te : TE) : TS := fun D σ H => te σ H fun _ H1 => D.nx σ H1
theorem ps_expr (he : PE X e te) (hs : swapsWith e none pos.line X.env = pure false := by rfl) : PS X (.Expr e pos) (tDrop te) := by
 intro pins s σ H D I h
 exact wpAny_Expr_any (thn (he pins s σ H _ I h) fun v s1 ⟨x, H1, I1, r1, q1⟩ => ⟨σ, H1, I1, q1⟩) I.quiet hs
noncomputable def tRet (te : TE) : TS := fun D σ H => te σ H D.rt
theorem ps_ret (he : PE X e te) : PS X (.Return (some e) pos) (tRet te) := by
 intro pins s σ H D I h
 exact wpAny_Return_some (thn (he pins s σ H _ I h) fun v s1 ⟨x, H1, I1, r1, q1⟩ => ⟨x, σ, H1, I1, r1, q1⟩)
noncomputable def tIfS (c : TT) (t u : TS) : TS := fun D σ H => c σ H fun b H1 => if b = true then t D σ H1 else u D σ H1
theorem ps_if {c : Expr} {a b : List Stmt} {tc : TT} (hc : PT X c tc) (ha : PSs X a t) (hb : PSs X b u) : PS X (.If c a b pos) (tIfS tc t u) := by
 intro pins s σ H D I h
 refine wpAny_If (thn (hc pins s σ H _ I h) fun d s1 ⟨H1, I1, q1⟩ => ?_)
 cases d with
 | true => exact ha pins s1 σ H1 D I1 q1
 | false => exact hb pins s1 σ H1 D I1 q1
end
noncomputable abbrev TG := V → St → Hp → (St → Hp → Prop) → Prop
noncomputable abbrev TGs := List V → St → Hp → (St → Hp → Prop) → Prop
noncomputable def PG (X : Cx) (target : Expr) (t : TG) : Prop :=
 ∀ (pins : List (Addr × Obj)) (s : Shared) (σ : St) (H : Hp) (v : V) (u : Value) (Q : St → Hp → Prop), Inv X pins σ H s → RelV v u → t v σ H Q →
  wpAny (model X.prog X.w) X.A (assign target X.env u) (fun _ s' => ∃ σ' H', Inv X pins σ' H' s' ∧ Q σ' H') X.xe s
noncomputable def PGs (X : Cx) (ts : List Expr) (t : TGs) : Prop :=
 ∀ (pins : List (Addr × Obj)) (s : Shared) (σ : St) (H : Hp) (vs : List V) (us : List Value) (Q : St → Hp → Prop), Inv X pins σ H s → Vals vs us → t vs σ H Q →
  wpAny (model X.prog X.w) X.A (assignInOrder ((assignEach ts X.env).map (·.2)) us) (fun _ s' => ∃ σ' H', Inv X pins σ' H' s' ∧ Q σ' H') X.xe s
noncomputable abbrev TSet := V → V → V → Hp → (Hp → Prop) → Prop
noncomputable def PSet (X : Cx) (t : TSet) : Prop :=
 ∀ (pins : List (Addr × Obj)) (s : Shared) (σ : St) (H : Hp) (o i v : V) (ov iv u : Value) (Q : Hp → Prop), Inv X pins σ H s → RelV o ov → RelV i iv → RelV v u → t o i v H Q →
  wpAny (model X.prog X.w) X.A (setItem ov iv u) (fun _ s' => ∃ H', Inv X pins σ H' s' ∧ Q H') X.xe s
section
variable {X : Cx} {pos : Pos}
noncomputable def gName (i : Nat) : TG := fun v σ H Q => Q (σ.set i (some v)) H
theorem pg_name {i : Nat} {x : Str} (hN : X.N.Nodup) (hi : X.N[i]? = some x) (hx : Loc X.env.scope x) (hf : X.fn x = true ∨ X.env.scope.names.lookup x = some .local := by first | exact .inl rfl | exact .inr rfl | assumption) : PG X (.Name x pos) (gName i) := by
 intro pins s σ H v u Q I r h
 exact wpAny_assign_Name (store_ok I hN hi hx r (fun s' I' => ⟨_, H, I', h⟩) hf)
noncomputable def gNil : TGs := fun vs σ H Q => vs = [] ∧ Q σ H
noncomputable def gCons (t : TG) (u : TGs) : TGs := fun vs σ H Q => ∃ v r, vs = v :: r ∧ t v σ H fun σ' H' => u r σ' H' Q
theorem pgs_nil : PGs X [] gNil := by
 intro pins s σ H vs us Q I r h
 obtain ⟨e, h⟩ := h
 subst e
 cases r
 exact assignInOrder_nil ⟨σ, H, I, h⟩
theorem pgs_cons {e : Expr} {es : List Expr} {t : TG} {u : TGs} (h1 : PG X e t) (h2 : PGs X es u)
  (hs : (assignEach (e :: es) X.env).map (·.2) = assign e X.env :: (assignEach es X.env).map (·.2) := by rfl) : PGs X (e :: es) (gCons t u) := by
 intro pins s σ H vs us Q I r h
 obtain ⟨v, vr, e1, h⟩ := h
 subst e1
 cases r with
 | cons r rr =>
  rw [hs]
  refine assignInOrder_cons (thn (h1 pins s σ H _ _ _ I r h) fun _ s1 ⟨σ1, H1, I1, q1⟩ => ?_)
  exact h2 pins s1 σ1 H1 _ _ Q I1 rr q1
noncomputable def gTup (K : PySem.W.Frag) (n : Nat) (t : TGs) : TG := fun v σ H Q => ∃ a xs, v = .ref a ∧ SqT K H a xs ∧ xs.length = n ∧ t xs σ H Q
theorem pg_tup {es : List Expr} {k : Nat} {t : TGs} {n : Nat} (hc : X.calm = true) (h : PGs X es t)
  (hn : (assignEach es X.env).length = n := by rfl) (hst : (assignEach es X.env).findIdx? (·.1) = none := by rfl) : PG X (.Tuple es k pos) (gTup X.K n t) := by
 intro pins s σ H v u Q I r hw
 obtain ⟨a, xs, e1, hq, hl, hw⟩ := hw
 subst e1
 cases r
 obtain ⟨its, rv, ht, hz⟩ := I.tuple hq
 refine assign_Tuple_tuple (I.ok.hd hc) ht (by simp [hn, ← hl, rv.length]) hst fun h' hx => ?_
 have I1 : Inv X pins σ H { s with heap := h' } := I.kept (t' := s.toks) fun b o e => hx b o (Nat.ne_of_lt (Heap.lt_size e)) e
 exact h pins _ σ H xs _ Q I1 (by simpa using rv) hw
noncomputable def gSub (to ti : TE) (t : TSet) : TG := fun v σ H Q => to σ H fun o H1 => ti σ H1 fun i H2 => t o i v H2 fun H3 => Q σ H3
theorem pg_sub {o i : Expr} {to ti : TE} {t : TSet} (ho : PE X o to) (hi : PE X i ti) (hs : PSet X t)
  (ha : ∀ v, assign (.Subscript o i pos) X.env v = (do
   let ov ← holding [v] (eval o X.env)
   let iv ← holding [v, ov] (eval i X.env)
   standAt pos
   holding [v, ov, iv] (setItem ov iv v)
   release [v, ov, iv] []) := by intro _; rfl) : PG X (.Subscript o i pos) (gSub to ti t) := by
 intro pins s σ H v u Q I r h
 rw [ha]
 refine wpAny_bind (wpAny_holding (thn (ho pins s σ H _ I h) fun ov s1 ⟨x, H1, I1, r1, q1⟩ => ?_))
 refine wpAny_bind (wpAny_holding (thn (hi pins s1 σ H1 _ I1 q1) fun iv s2 ⟨y, H2, I2, r2, q2⟩ => ?_))
 refine wpAny_bind (wpAny_standAt (wpAny_bind (wpAny_holding (thn (hs pins s2 σ H2 x y v ov iv u _ I2 r1 r2 r q2) fun _ s3 ⟨H3, I3, q3⟩ => ?_))))
 exact wpAny_release ⟨σ, H3, I3, q3⟩
noncomputable def tAsg (te : TE) (g : TG) : TS := fun D σ H => te σ H fun x H1 => g x σ H1 D.nx
theorem ps_asg {tg e : Expr} {te : TE} {g : TG} (he : PE X e te) (hg : PG X tg g) (hs : swapsWithSole [tg] e pos.line X.env = pure false := by rfl) (hw : swappedStores [tg] e X.env = pure none := by rfl)
  (h1 : (assignEach [tg] X.env).map (·.2) = [assign tg X.env] := by rfl) : PS X (.Assign [tg] e pos) (tAsg te g) := by
 intro pins s σ H D I h
 refine wpAny_Assign_stores (thn (he pins s σ H _ I h) fun v s1 ⟨x, H1, I1, r1, q1⟩ => ?_) hs hw
 rw [h1]
 exact thn (hg pins s1 σ H1 x v _ I1 r1 q1) fun _ s2 q => q
theorem ps_set {i : Nat} {x : Str} {e : Expr} {te : TE} {pos' : Pos} (hN : X.N.Nodup) (hi : X.N[i]? = some x) (hx : Loc X.env.scope x) (he : PE X e te) (hs : swapsWith e (some (.Name x pos')) pos.line X.env = pure false := by rfl) (hf : X.fn x = true ∨ X.env.scope.names.lookup x = some .local := by first | exact .inl rfl | exact .inr rfl | assumption) :
  PS X (.Assign [.Name x pos'] e pos) (tAsg te (gName i)) := by
 intro pins s σ H D I h
 refine wpAny_Assign_Name (thn (he pins s σ H _ I h) fun v s1 ⟨y, H1, I1, r1, q1⟩ => ?_) hs
 exact store_ok I1 hN hi hx r1 (fun s2 I2 => ⟨_, H1, I2, q1⟩) hf
noncomputable def tPar (i j : Nat) (ta : TA) : TS := fun D σ H => ta σ H fun vs H1 => ∃ v w, vs = [v, w] ∧ D.nx ((σ.set i (some v)).set j (some w)) H1
theorem ps_par {i j : Nat} {x y : Str} {a b : Expr} {ta : TA} {px py pt : Pos} {kt k2 pt2} (hc : X.calm = true) (hN : X.N.Nodup) (hi : X.N[i]? = some x) (hj : X.N[j]? = some y) (hij : i ≠ j)
  (hx : X.env.scope.names.lookup x = some .local) (hy : X.env.scope.names.lookup y = some .local) (ha : PA X [a, b] ta)
  (hw : swappedStores [.Tuple [.Name x px, .Name y py] kt pt] (.Tuple [a, b] k2 pt2) X.env = pure (some [x, y]))
  (hs : swapsWithSole [.Tuple [.Name x px, .Name y py] kt pt] (.Tuple [a, b] k2 pt2) pos.line X.env = pure false := by rfl) :
  PS X (.Assign [.Tuple [.Name x px, .Name y py] kt pt] (.Tuple [a, b] k2 pt2) pos) (tPar i j ta) := by
 intro pins s σ H D I h
 rw [exec_Assign_arm]
 refine wpAny_bind (wpAny_standAt ?_)
 rw [hs]
 refine wpAny_bind (wpAny_pure ?_)
 rw [if_neg (by decide)]
 refine wpAny_bind (Tuple_ (thn (ha _ pins s σ H _ I h) fun us s1 ⟨vs, H1, I1, r1, q1⟩ => ?_))
 obtain ⟨v, w, e1, q1⟩ := q1
 subst e1
 obtain ⟨u1, u2, rfl, rv, rw'⟩ : ∃ u1 u2, us = [u1, u2] ∧ RelV v u1 ∧ RelV w u2 := by
  cases r1 with
  | cons p q =>
   cases q with
   | cons p' q' =>
    cases q'
    exact ⟨_, _, rfl, p, p'⟩
 refine wpAny_newObj_type ?_ (by show 2 ≤ sizeLine; decide)
 have I2 : Inv X pins σ H1 { s1 with heap := s1.heap.push { cls := .type "tuple", data := .seq [u1, u2].toArray } } := I1.kept (t' := s1.toks) fun b o e => Heap.get?_push_of_some _ e
 rw [hw]
 refine wpAny_bind (wpAny_pure ?_)
 show wpAny (model X.prog X.w) X.A (do rule "assign.swapped-stores"; let items ← unpackItems (.ref s1.heap.objs.size) 2 none; assignInOrder [fun v => bindName X.env y v, fun v => bindName X.env x v] items.reverse; pure Flow.next) _ _ _
 refine wpAny_bind (wpAny_rule (wpAny_bind (unpackItems_tuple (items := #[u1, u2]) (I.ok.hd hc) (IsTup.new s1.heap _) fun h' hx' => ?_)))
 have I3 := I2.kept (h' := h') (t' := s1.toks) fun b o e => hx' b o (Nat.ne_of_lt (Heap.lt_size e)) e
 show wpAny _ _ (assignInOrder [fun v => bindName X.env y v, fun v => bindName X.env x v] [u2, u1] >>= fun _ => pure Flow.next) _ _ _
 refine wpAny_bind (assignInOrder_cons (wpAny_bindName (store_ok I3 hN hj (.inl hy) rw' (fun s2 I4 => ?_) (.inr hy))))
 refine assignInOrder_cons (wpAny_bindName (store_ok I4 hN hi (.inl hx) rv (fun s3 I5 => assignInOrder_nil (wpAny_pure ?_)) (.inr hx)))
 rw [List.set_comm _ _ (Ne.symm hij)] at I5
 exact ⟨_, H1, I5, q1⟩
end
structure It where
 go : Nat → Hp → Prop
 yld : Nat → Hp → V → Hp → Prop
 stop : Nat → Hp → Prop
noncomputable def FpOk (X : Cx) (pins : List (Addr × Obj)) (H : Hp) (b : Addr) : Prop :=
 H b = none ∧ b ≠ X.env.locals ∧ b ∉ X.fs ∧ (b ∈ X.ex ∨ X.s₀.heap.objs.size ≤ b) ∧ (∀ x c, X.env.cells.lookup x = some c → c ≠ b) ∧ ∀ p ∈ X.pn ++ pins, p.1 ≠ b
theorem Inv.fpOk {X : Cx} {pins : List (Addr × Obj)} {σ : St} {H H' : Hp} {s : Shared} {b : Addr} (I : Inv X pins σ H s) (hb : s.heap.objs.size ≤ b) (hn : H' b = none) : FpOk X pins H' b := by
 refine ⟨hn, Nat.ne_of_gt (Nat.lt_of_lt_of_le I.lt hb), I.nofs hb, .inr (Nat.le_trans I.sz hb), fun x c e z => ?_, fun p hp z => ?_⟩
 ·obtain ⟨v, q⟩ := I.cell x c e
  exact absurd (Nat.lt_of_lt_of_le q.lt (by rw [z]; exact hb)) (Nat.lt_irrefl _)
 ·exact absurd (Nat.lt_of_lt_of_le (Heap.lt_size (I.pin p hp).1) (by rw [z]; exact hb)) (Nat.lt_irrefl _)
structure Turn (P : Program) (w : World) (K : PySem.W.Frag) (tg : Expr) (J : It) (fp : List Addr) (it : Addr) (tn : Nat → Heap → Prop) : Prop where
 mem : it ∈ fp
 obj : ∀ i h, tn i h → ∀ b ∈ fp, ∃ o, h.get? b = some o ∧ ∀ v, o.data ≠ .cell v
 keep : ∀ i h h', tn i h → (∀ b ∈ fp, ∀ o, h.get? b = some o → h'.get? b = some o) → tn i h'
 item : ∀ (X : Cx), X.prog = P → X.w = w → X.K = K → X.calm = true → ∀ (i : Nat) (pins : List (Addr × Obj)) (s : Shared) (σ : St) (H : Hp) (E : Value → Shared → Prop), Inv X pins σ H s → (∀ b ∈ fp, FpOk X pins H b) → tn i s.heap → J.go i H →
  wpAny (model P w) X.A (pyNext (.ref it)) (fun r s1 => ∃ u, r = some u ∧
   wpAny (model P w) X.A (letOwnedTupleGo tg (.ref it) u) (fun _ s2 => ∃ x H', Inv X pins σ H' s2 ∧ RelV x u ∧ J.yld i H x H' ∧ tn (i + 1) s2.heap ∧ ∀ b ∈ fp, H' b = none) E s1) E s
 done : ∀ (X : Cx), X.prog = P → X.w = w → X.K = K → X.calm = true → ∀ (i : Nat) (pins : List (Addr × Obj)) (s : Shared) (σ : St) (H : Hp) (E : Value → Shared → Prop), Inv X pins σ H s → (∀ b ∈ fp, FpOk X pins H b) → tn i s.heap → J.stop i H →
  wpAny (model P w) X.A (pyNext (.ref it)) (fun r s1 => r = none ∧ Inv X pins σ H s1) E s
 self : ∀ (A : Around) (i : Nat) (s : Shared) (Q : Value → Shared → Prop) (E : Value → Shared → Prop), tn i s.heap → Q (.ref it) s → wpAny (model P w) A (pyIter (.ref it)) Q E s
noncomputable abbrev TI := St → Hp → (It → Hp → Prop) → Prop
noncomputable def PIE (X : Cx) (pins : List (Addr × Obj)) (σ : St) (tg : Expr) (R : It → Hp → Prop) (itv : Value) (s2 : Shared) : Prop :=
 ∃ (it : Addr) (fp : List Addr) (tn : Nat → Heap → Prop) (J : It) (H' : Hp), itv = .ref it ∧ Inv X pins σ H' s2 ∧ Turn X.prog X.w X.K tg J fp it tn ∧ tn 0 s2.heap ∧ (∀ b ∈ fp, FpOk X pins H' b) ∧ R J H'
noncomputable def PI (X : Cx) (tg iter : Expr) (wi : TI) : Prop :=
 ∀ (pins : List (Addr × Obj)) (s : Shared) (σ : St) (H : Hp) (R : It → Hp → Prop), Inv X pins σ H s → wi σ H R →
  wpAny (model X.prog X.w) X.A (eval iter X.env) (fun v s1 => wpAny (model X.prog X.w) X.A (pyIter v) (PIE X pins σ tg R) X.xe s1) X.xe s
theorem go_of {M : Model} {A : Around} {E : Value → Shared → Prop} {s : Shared} {tg : Expr} {it : Addr} {u : Value} {o : Obj} {n : String} {vs : Array Value} {Q : Unit → Shared → Prop} (ho : s.heap.get? it = some o) (hc : o.cls = .type n) (hd : o.data = .fields vs)
    (hn : ["enumerate", "zip", "dict_itemiterator", "dict_reverseitemiterator", "odict_iterator", "itertools.zip_longest", "itertools.pairwise"].contains n = false) (hQ : Q () s) : wpAny M A (letOwnedTupleGo tg (.ref it) u) Q E s := by
  unfold letOwnedTupleGo
  cases tg <;> first
    | exact wpAny_pure hQ
    | (cases u <;> first
        | exact wpAny_pure hQ
        | (refine wpAny_bind (wpAny_load ho ?_)
           rw [hc, hd]
           show wpAny M A (if (["enumerate", "zip", "dict_itemiterator", "dict_reverseitemiterator", "odict_iterator", "itertools.zip_longest", "itertools.pairwise"].contains n && vs[0]? == some (rawInt _)) = true then _ else _) Q E s
           rw [if_neg (by intro h; rw [hn, Bool.false_and] at h; cases h)]
           exact wpAny_pure hQ))
noncomputable def Itl (K : PySem.W.Frag) (a : Addr) : It :=
 ⟨fun i H => ∃ xs x, SqL K H a xs ∧ xs[i]? = some x, fun i H x H' => H' = H ∧ ∀ xs, SqL K H a xs → xs[i]? = some x, fun i H => ∃ xs, SqL K H a xs ∧ xs.length ≤ i⟩
noncomputable def Itt (K : PySem.W.Frag) (a : Addr) : It :=
 ⟨fun i H => ∃ xs x, SqT K H a xs ∧ xs[i]? = some x, fun i H x H' => H' = H ∧ ∀ xs, SqT K H a xs → xs[i]? = some x, fun i H => ∃ xs, SqT K H a xs ∧ xs.length ≤ i⟩
noncomputable def Itr (lo : Int) (n : Nat) : It := ⟨fun i _ => i < n, fun i H x H' => H' = H ∧ x = .int (lo + i), fun i _ => n ≤ i⟩
theorem turn_list {P : Program} {w : World} {K : PySem.W.Frag} {tg : Expr} (a it : Addr) : Turn P w K tg (Itl K a) [it] it (fun i h => h.IsListIter it a i) where
 mem := by simp
 obj := fun i h st b hb => by
  have e : b = it := by simpa using hb
  subst e
  obtain ⟨o, e, c, d⟩ := st
  exact ⟨o, e, fun v z => by rw [d] at z; cases z⟩
 keep := fun i h h' st k => st.at fun o e => k it (by simp) o e
 item := by
  intro X hP hw hK hc i pins s σ H E I hf st hg
  subst hP hw hK
  obtain ⟨xs, x, hq, hx⟩ := hg
  obtain ⟨its, rv, p, hz⟩ := I.list hq
  obtain ⟨u, hu, ru⟩ := rv.get hx
  obtain ⟨f0, f1, f2, f3, f4, f5⟩ := hf it (by simp)
  refine wpAny_pyNext_list_item st p.isList (x := u) (by simpa using hu) fun h' st' sb => ?_
  have I1 : Inv X pins σ H { s with heap := h' } := I.turned (t' := s.toks) (fun b o hb e => (sb.2 b hb).trans e) f0 f1 f3 f4 f5
  obtain ⟨o, e, c, d⟩ := id st'
  exact ⟨u, rfl, go_of (s := { s with heap := h' }) e c d (by decide) ⟨x, H, I1, ru, ⟨rfl, fun ys hy => by rw [I.list_inj hy hq]; exact hx⟩, st', fun b hb => (hf b hb).1⟩⟩
 done := by
  intro X hP hw hK hc i pins s σ H E I hf st hg
  subst hP hw hK
  obtain ⟨xs, hq, hx⟩ := hg
  obtain ⟨its, rv, p, hz⟩ := I.list hq
  obtain ⟨f0, f1, f2, f3, f4, f5⟩ := hf it (by simp)
  have hl := rv.length
  exact wpAny_pyNext_list_end (I.ok.hd hc) st p.isList (by simp; omega) fun h' eb => ⟨rfl, I.turned (t' := s.toks) (fun b o hb e => eb b o hb e) f0 f1 f3 f4 f5⟩
 self := fun _ _ _ _ _ st h => wpAny_pyIter_listiter st h
theorem turn_tuple {P : Program} {w : World} {K : PySem.W.Frag} {tg : Expr} (a it : Addr) : Turn P w K tg (Itt K a) [it] it (fun i h => h.IsTupleIter it a i) where
 mem := by simp
 obj := fun i h st b hb => by
  have e : b = it := by simpa using hb
  subst e
  obtain ⟨o, e, c, d⟩ := st
  exact ⟨o, e, fun v z => by rw [d] at z; cases z⟩
 keep := fun i h h' st k => st.at fun o e => k it (by simp) o e
 item := by
  intro X hP hw hK hc i pins s σ H E I hf st hg
  subst hP hw hK
  obtain ⟨xs, x, hq, hx⟩ := hg
  obtain ⟨its, rv, p, hz⟩ := I.tuple hq
  obtain ⟨u, hu, ru⟩ := rv.get hx
  obtain ⟨f0, f1, f2, f3, f4, f5⟩ := hf it (by simp)
  refine wpAny_pyNext_tuple_item st (show s.heap.IsTuple a its.toArray from p) (x := u) (by simpa using hu) fun h' st' sb => ?_
  have I1 : Inv X pins σ H { s with heap := h' } := I.turned (t' := s.toks) (fun b o hb e => (sb.2 b hb).trans e) f0 f1 f3 f4 f5
  obtain ⟨o, e, c, d⟩ := id st'
  exact ⟨u, rfl, go_of (s := { s with heap := h' }) e c d (by decide) ⟨x, H, I1, ru, ⟨rfl, fun ys hy => by rw [I.tuple_inj hy hq]; exact hx⟩, st', fun b hb => (hf b hb).1⟩⟩
 done := by
  intro X hP hw hK hc i pins s σ H E I hf st hg
  subst hP hw hK
  obtain ⟨xs, hq, hx⟩ := hg
  obtain ⟨its, rv, p, hz⟩ := I.tuple hq
  obtain ⟨f0, f1, f2, f3, f4, f5⟩ := hf it (by simp)
  have hl := rv.length
  exact wpAny_pyNext_tuple_end (I.ok.hd hc) st (show s.heap.IsTuple a its.toArray from p) (by simp; omega) fun h' eb => ⟨rfl, I.turned (t' := s.toks) (fun b o hb e => eb b o hb e) f0 f1 f3 f4 f5⟩
 self := fun _ _ _ _ _ st h => wpAny_pyIter_tupleiter st h
theorem turn_range {P : Program} {w : World} {K : PySem.W.Frag} {tg : Expr} (it : Addr) (lo : Int) (n : Nat) : Turn P w K tg (Itr lo n) [it] it (fun i h => IsRangeIter h it (lo + (i : Nat) * 1) ((n : Int) - (i : Nat)) 1) where
 mem := by simp
 obj := fun i h st b hb => by
  have e : b = it := by simpa using hb
  subst e
  exact ⟨_, st, fun v z => by
   have z' : Data.fields _ = Data.cell v := z
   cases z'⟩
 keep := fun i h h' st k => k it (by simp) _ st
 item := by
  intro X hP hw hK hc i pins s σ H E I hf st hg
  subst hP hw hK
  obtain ⟨f0, f1, f2, f3, f4, f5⟩ := hf it (by simp)
  have W := Walks.range (prog := X.prog) (w := X.w) (I.ok.hd hc) it lo 1 n
  refine W.item i s _ _ hg st fun v h' tk hv st' kk => ?_
  obtain ⟨t, rfl⟩ := hv
  have I1 : Inv X pins σ H { s with heap := h', toks := tk } := I.turned (fun b o hb e => kk b o (by simpa using hb) e) f0 f1 f3 f4 f5
  refine ⟨_, rfl, go_of (s := { s with heap := h', toks := tk }) (n := "range_iterator") st' rfl rfl (by decide) ⟨.int (lo + i), H, I1, ⟨t, ?_⟩, ⟨rfl, rfl⟩, st', fun b hb => (hf b hb).1⟩⟩
  rw [Int.mul_one]
 done := by
  intro X hP hw hK hc i pins s σ H E I hf st hg
  subst hP hw hK
  obtain ⟨f0, f1, f2, f3, f4, f5⟩ := hf it (by simp)
  exact wpAny_pyNext_range_end (I.ok.hd hc) st (by have : n ≤ i := hg; omega) fun h' eb => ⟨rfl, I.turned (t' := s.toks) (fun b o hb e => eb b o hb e) f0 f1 f3 f4 f5⟩
 self := fun _ _ _ _ _ st h => wpAny_pyIter_rangeiter st h
section
variable {X : Cx} {tg : Expr}
noncomputable def iList (K : PySem.W.Frag) (tl : TE) : TI := fun σ H R => tl σ H fun x H1 => ∃ a, x = .ref a ∧ (∃ xs, SqL K H1 a xs) ∧ R (Itl K a) H1
noncomputable def iTup (K : PySem.W.Frag) (tl : TE) : TI := fun σ H R => tl σ H fun x H1 => ∃ a, x = .ref a ∧ (∃ xs, SqT K H1 a xs) ∧ R (Itt K a) H1
theorem pi_list {l : Expr} {tl : TE} (hl : PE X l tl) : PI X tg l (iList X.K tl) := by
 intro pins s σ H R I h
 refine thn (hl pins s σ H _ I h) fun v s1 ⟨x, H1, I1, r1, q1⟩ => ?_
 obtain ⟨a, e, ⟨xs, hq⟩, q⟩ := q1
 subst e
 cases r1
 obtain ⟨its, rv, p, hz⟩ := I1.list hq
 refine wpAny_pyIter_list p.isList ?_
 refine ⟨s1.heap.objs.size, [s1.heap.objs.size], _, _, H1, rfl, I1.kept (t' := s1.toks) fun b o e => Heap.get?_push_of_some _ e, turn_list a _, ⟨_, Heap.get?_push_size _ rfl, rfl, rfl⟩, fun b hb => ?_, q⟩
 have e : b = s1.heap.objs.size := by simpa using hb
 subst e
 exact I1.fpOk (Nat.le_refl _) (I1.hok.fresh (Nat.le_refl _))
theorem pi_tup {l : Expr} {tl : TE} (hl : PE X l tl) : PI X tg l (iTup X.K tl) := by
 intro pins s σ H R I h
 refine thn (hl pins s σ H _ I h) fun v s1 ⟨x, H1, I1, r1, q1⟩ => ?_
 obtain ⟨a, e, ⟨xs, hq⟩, q⟩ := q1
 subst e
 cases r1
 obtain ⟨its, rv, p, hz⟩ := I1.tuple hq
 refine wpAny_pyIter_tuple (show s1.heap.IsTuple a its.toArray from p) ?_
 refine ⟨s1.heap.objs.size, [s1.heap.objs.size], _, _, H1, rfl, I1.kept (t' := s1.toks) fun b o e => Heap.get?_push_of_some _ e, turn_tuple a _, ⟨_, Heap.get?_push_size _ rfl, rfl, rfl⟩, fun b hb => ?_, q⟩
 have e : b = s1.heap.objs.size := by simpa using hb
 subst e
 exact I1.fpOk (Nat.le_refl _) (I1.hok.fresh (Nat.le_refl _))
theorem range_it {pins : List (Addr × Obj)} {σ : St} {H : Hp} {s : Shared} {R : It → Hp → Prop} {E : Value → Shared → Prop} {lo hi : Int} {t u v : Tok} {tk : Nat} (I : Inv X pins σ H s) (h1 : -(2 ^ 62) ≤ lo) (h2 : lo < 2 ^ 62) (h3 : -(2 ^ 62) ≤ hi) (h4 : hi < 2 ^ 62)
  (q : R (Itr lo (hi - lo).toNat) H) : wpAny (model X.prog X.w) X.A (pyIter (.ref s.heap.objs.size)) (PIE X pins σ tg R) E { s with heap := s.heap.push { cls := .type "range", data := .fields #[.int lo t, .int hi u, .int 1 v] }, toks := tk } := by
 refine wpAny_pyIter_range (IsRange.new ..) (small_one h1 h2 h3 h4) ?_
 have I1 : Inv X pins σ H { s with heap := s.heap.push { cls := .type "range", data := .fields #[.int lo t, .int hi u, .int 1 v] }, toks := tk } := I.kept fun b o e => Heap.get?_push_of_some _ e
 refine ⟨(s.heap.push { cls := .type "range", data := .fields #[.int lo t, .int hi u, .int 1 v] }).objs.size, [(s.heap.push { cls := .type "range", data := .fields #[.int lo t, .int hi u, .int 1 v] }).objs.size], _, _, H, rfl,
  I1.kept (t' := tk) fun b o e => Heap.get?_push_of_some _ e, turn_range _ lo (hi - lo).toNat, ?_, fun b hb => ?_, q⟩
 ·have e1 : lo + ((0 : Nat) : Int) * 1 = lo := by simp
  have e2 : (((hi - lo).toNat : Nat) : Int) - ((0 : Nat) : Int) = Builtin.Range.rangeSize lo hi 1 := by rw [rangeSize_one]; split <;> omega
  show IsRangeIter _ _ (lo + ((0 : Nat) : Int) * 1) ((((hi - lo).toNat : Nat) : Int) - ((0 : Nat) : Int)) 1
  rw [e1, e2]
  exact Heap.get?_push_size _ rfl
 ·have e : b = (s.heap.push { cls := .type "range", data := .fields #[.int lo t, .int hi u, .int 1 v] }).objs.size := by simpa using hb
  subst e
  exact I1.fpOk (Nat.le_refl _) (I1.hok.fresh (Nat.le_refl _))
noncomputable def iRng1 (ta : TA) : TI := fun σ H R => ta σ H fun vs H1 => ∃ j : Int, vs = [.int j] ∧ -(2 ^ 62) ≤ j ∧ j < 2 ^ 62 ∧ R (Itr 0 j.toNat) H1
theorem pi_range1 {a : Expr} {ta : TA} {p pos : Pos} (hg : Gl X "range") (hm : X.mg "range" = none) (ha : PA X [a] ta) (hs : starEach [a] X.env = [(false, eval a X.env)] := by rfl) : PI X tg (.Call (.Name "range" p) [a] [] pos) (iRng1 ta) := by
 intro pins s σ H R I h
 refine Call_ (ld_blt I hg hm boot_range (PyProof.Rows.callWith_type1 (thn (ha pos pins s σ H _ I h) fun us s1 ⟨vs, H1, I1, r1, q1⟩ => ?_) hs rfl))
 obtain ⟨j, e, q1, q2, q⟩ := q1
 subst e
 cases r1 with
 | cons r rr =>
  cases rr
  obtain ⟨t, rfl⟩ := r
  exact call_range_1 (range_it I1 (by omega) (by omega) q1 q2 (by simpa using q))
noncomputable def tFor (wi : TI) (g : TG) (tb : TS) : TS := fun D σ H => wi σ H fun J H1 => ∃ W : Nat → Nat → St → Hp → Prop, (∃ m, W 0 m σ H1) ∧ ∀ i m σ H, W i m σ H →
 (J.stop i H ∧ D.nx σ H) ∨ (J.go i H ∧ ∃ N : St → Hp → Prop, (∀ σ' H', N σ' H' → ∃ m', m' < m ∧ W (i + 1) m' σ' H') ∧ ∀ x H', J.yld i H x H' → g x σ H' fun σ2 H2 => tb { D with nx := N, ct := N, bk := D.nx } σ2 H2)
noncomputable def pinsAt (fp : List Addr) (h : Heap) : List (Addr × Obj) := fp.filterMap fun b => (h.get? b).map fun o => (b, o)
theorem mem_pinsAt {fp : List Addr} {h : Heap} {b : Addr} {o : Obj} (hb : b ∈ fp) (e : h.get? b = some o) : (b, o) ∈ pinsAt fp h := List.mem_filterMap.mpr ⟨b, hb, by rw [e]; rfl⟩
theorem of_pinsAt {fp : List Addr} {h : Heap} {p : Addr × Obj} (hp : p ∈ pinsAt fp h) : p.1 ∈ fp ∧ h.get? p.1 = some p.2 := by
 obtain ⟨b, hb, e⟩ := List.mem_filterMap.mp hp
 cases q : h.get? b with
 | none => rw [q] at e; cases e
 | some o =>
  rw [q] at e
  have e' : (b, o) = p := Option.some.inj e
  subst e'
  exact ⟨hb, q⟩
theorem Inv.pinned {pins : List (Addr × Obj)} {σ : St} {H : Hp} {s : Shared} {fp : List Addr} (I : Inv X pins σ H s) (hf : ∀ b ∈ fp, FpOk X pins H b) (ho : ∀ b ∈ fp, ∃ o, s.heap.get? b = some o ∧ ∀ v, o.data ≠ .cell v) : Inv X (pins ++ pinsAt fp s.heap) σ H s :=
 I.pins_of fun p hp => (List.mem_append.mp hp).elim (fun z => I.pin p (List.mem_append_right _ z)) fun z => by
  obtain ⟨hb, e⟩ := of_pinsAt z
  obtain ⟨f0, f1, f2, _⟩ := hf p.1 hb
  obtain ⟨o, e', d⟩ := ho p.1 hb
  rw [e] at e'; cases e'
  exact ⟨e, f0, f1, f2, d⟩
theorem Inv.unpinned {pins pl : List (Addr × Obj)} {σ : St} {H : Hp} {s : Shared} (I : Inv X (pins ++ pl) σ H s) : Inv X pins σ H s := I.pins_of fun p hp => I.pin p (List.mem_append_right _ (List.mem_append_left _ hp))
theorem ps_for {iter : Expr} {body : List Stmt} {wi : TI} {g : TG} {tb : TS} {pos : Pos} (hp : PassesOwn (model X.prog X.w) X.A X.env X.xe) (hc : X.calm = true) (hi : PI X tg iter wi) (hg : PG X tg g) (hb : PSs X body tb)
  (hs : ∀ x, foldedSetIterable iter X.env x = pure x := by intro _; rfl) : PS X (.For tg iter body [] pos) (tFor wi g tb) := by
 intro pins s σ H D I h
 refine wpAny_For (thn (hi pins s σ H _ I h) fun v s1 h1 => thn h1 fun itv s2 h2 => ?_) hs
 obtain ⟨it, fp, tn, J, H2, e, I2, T, st2, f2, W, ⟨m0, w0⟩, turn⟩ := h2
 subst e
 have stat : ∀ {H' : Hp}, (∀ b ∈ fp, H' b = none) → ∀ b ∈ fp, FpOk X pins H' b := fun hn b hb => ⟨hn b hb, (f2 b hb).2⟩
 refine codeAny_forLoop_any (fun n s' => ∃ i σ' H', Inv X pins σ' H' s' ∧ tn i s'.heap ∧ (∀ b ∈ fp, H' b = none) ∧ W i n σ' H') ?_ m0 ⟨0, σ, H2, I2, st2, fun b hb => (f2 b hb).1, w0⟩
 rintro n s3 ⟨i, σ3, H3, I3, st3, fr3, w3⟩
 rcases turn i n σ3 H3 w3 with ⟨stop, qn⟩ | ⟨go, N, hN, step⟩
 ·refine wpAny_passesOwn hp (thn (T.done X rfl rfl rfl hc i pins s3 σ3 H3 X.xe I3 (stat fr3) st3 stop) fun r s4 ⟨hr, I4⟩ => ?_)
  subst hr
  exact wpAny_execs_nil ⟨σ3, H3, I4, qn⟩
 ·refine wpAny_passesOwn hp (thn (T.item X rfl rfl rfl hc i pins s3 σ3 H3 X.xe I3 (stat fr3) st3 go) fun r s4 ⟨u, hr, h4⟩ => ?_)
  subst hr
  refine wpAny_passesOwn hp (thn h4 fun _ s5 ⟨x, H5, I5, r5, y5, st5, fr5⟩ => ?_)
  have I5' := I5.pinned (stat fr5) (T.obj _ _ st5)
  refine wpAny_passesOwn hp (thn (hg _ s5 σ3 H5 x u _ I5' r5 (step x H5 y5)) fun _ s6 ⟨σ6, H6, I6, q6⟩ => ?_)
  refine wpAny_passesOwn hp (thn (hb _ s6 σ6 H6 _ I6 q6) fun f s7 q7 => ?_)
  have again : ∀ {σ7 : St} {H7 : Hp}, Inv X (pins ++ pinsAt fp s5.heap) σ7 H7 s7 → N σ7 H7 → ∃ m, m < n ∧ ∃ i σ' H', Inv X pins σ' H' s7 ∧ tn i s7.heap ∧ (∀ b ∈ fp, H' b = none) ∧ W i m σ' H' := fun {σ7 H7} I7 n7 => by
   obtain ⟨m', hm, w7⟩ := hN σ7 H7 n7
   refine ⟨m', hm, i + 1, σ7, H7, I7.unpinned, T.keep _ _ _ st5 fun b hb o e => (I7.pin (b, o) (List.mem_append_right _ (List.mem_append_right _ (mem_pinsAt hb e)))).1, fun b hb => ?_, w7⟩
   obtain ⟨o, e, d⟩ := T.obj _ _ st5 b hb
   exact (I7.pin (b, o) (List.mem_append_right _ (List.mem_append_right _ (mem_pinsAt hb e)))).2.1
  cases f with
  | next => obtain ⟨σ7, H7, I7, n7⟩ := q7; exact again I7 n7
  | cont => obtain ⟨σ7, H7, I7, n7⟩ := q7; exact again I7 n7
  | brk => obtain ⟨σ7, H7, I7, q7⟩ := q7; exact ⟨σ7, H7, I7.unpinned, q7⟩
  | ret v => obtain ⟨x7, σ7, H7, I7, r7, q7⟩ := q7; exact ⟨x7, σ7, H7, I7.unpinned, r7, q7⟩
end
theorem for_list {K : PySem.W.Frag} {a : Addr} {xs : List V} {g : TG} {tb : TS} {D : Ends} {σ : St} {H : Hp} (Pv : Nat → St → Hp → Prop) (h0 : Pv 0 σ H) (hl : ∀ i σ H, i ≤ xs.length → Pv i σ H → SqL K H a xs)
  (hs : ∀ i x σ H, xs[i]? = some x → Pv i σ H → g x σ H fun σ2 H2 => tb { D with nx := Pv (i + 1), ct := Pv (i + 1), bk := D.nx } σ2 H2) (hd : ∀ σ H, Pv xs.length σ H → D.nx σ H) :
  ∃ W : Nat → Nat → St → Hp → Prop, (∃ m, W 0 m σ H) ∧ ∀ i m σ H, W i m σ H →
   ((Itl K a).stop i H ∧ D.nx σ H) ∨ ((Itl K a).go i H ∧ ∃ N : St → Hp → Prop, (∀ σ' H', N σ' H' → ∃ m', m' < m ∧ W (i + 1) m' σ' H') ∧ ∀ x H', (Itl K a).yld i H x H' → g x σ H' fun σ2 H2 => tb { D with nx := N, ct := N, bk := D.nx } σ2 H2) := by
 refine ⟨fun i m σ H => m = xs.length - i ∧ i ≤ xs.length ∧ Pv i σ H, ⟨xs.length, by simp, Nat.zero_le _, h0⟩, ?_⟩
 rintro i m σ H ⟨rfl, hi, p⟩
 have q := hl i σ H hi p
 by_cases hlt : i < xs.length
 ·refine .inr ⟨⟨xs, xs[i], q, by simp [hlt]⟩, Pv (i + 1), fun σ' H' p' => ⟨xs.length - (i + 1), by omega, rfl, hlt, p'⟩, fun x H' y => ?_⟩
  obtain ⟨e, y⟩ := y
  subst e
  exact hs i x σ _ (y xs q) p
 ·have e : i = xs.length := by omega
  subst e
  exact .inl ⟨⟨xs, q, Nat.le_refl _⟩, hd σ H p⟩
theorem for_range {lo : Int} {n : Nat} {g : TG} {tb : TS} {D : Ends} {σ : St} {H : Hp} (Pv : Nat → St → Hp → Prop) (h0 : Pv 0 σ H)
  (hs : ∀ i σ H, i < n → Pv i σ H → g (.int (lo + i)) σ H fun σ2 H2 => tb { D with nx := Pv (i + 1), ct := Pv (i + 1), bk := D.nx } σ2 H2) (hd : ∀ σ H, Pv n σ H → D.nx σ H) :
  ∃ W : Nat → Nat → St → Hp → Prop, (∃ m, W 0 m σ H) ∧ ∀ i m σ H, W i m σ H →
   ((Itr lo n).stop i H ∧ D.nx σ H) ∨ ((Itr lo n).go i H ∧ ∃ N : St → Hp → Prop, (∀ σ' H', N σ' H' → ∃ m', m' < m ∧ W (i + 1) m' σ' H') ∧ ∀ x H', (Itr lo n).yld i H x H' → g x σ H' fun σ2 H2 => tb { D with nx := N, ct := N, bk := D.nx } σ2 H2) := by
 refine ⟨fun i m σ H => m = n - i ∧ i ≤ n ∧ Pv i σ H, ⟨n, by simp, Nat.zero_le _, h0⟩, ?_⟩
 rintro i m σ H ⟨rfl, hi, p⟩
 by_cases hlt : i < n
 ·refine .inr ⟨hlt, Pv (i + 1), fun σ' H' p' => ⟨n - (i + 1), by omega, rfl, hlt, p'⟩, fun x H' y => ?_⟩
  obtain ⟨e, y⟩ := y
  subst e y
  exact hs i σ _ hlt p
 ·have e : i = n := by omega
  subst e
  exact .inl ⟨Nat.le_refl _, hd σ H p⟩
noncomputable abbrev R2 := V → V → Hp → VK → Prop
noncomputable def OpR (X : Cx) (f : Value → Value → Sem Value) (r : R2) : Prop :=
 ∀ (pins : List (Addr × Obj)) (s : Shared) (σ : St) (H : Hp) (x y : V) (v u : Value) (Q : VK), Inv X pins σ H s → RelV x v → RelV y u → r x y H Q →
  wpAny (model X.prog X.w) X.A (f v u) (EP X pins σ Q) X.xe s
noncomputable def UnR (X : Cx) (f : Value → Sem Value) (r : V → Hp → VK → Prop) : Prop :=
 ∀ (pins : List (Addr × Obj)) (s : Shared) (σ : St) (H : Hp) (x : V) (v : Value) (Q : VK), Inv X pins σ H s → RelV x v → r x H Q →
  wpAny (model X.prog X.w) X.A (f v) (EP X pins σ Q) X.xe s
noncomputable def CallR (X : Cx) (f : Value) (r : List V → Hp → VK → Prop) : Prop :=
 ∀ (pins : List (Addr × Obj)) (s : Shared) (σ : St) (H : Hp) (xs : List V) (us : List Value) (Q : VK), Inv X pins σ H s → Vals xs us → r xs H Q →
  wpAny (model X.prog X.w) X.A (call f us) (EP X pins σ Q) X.xe s
noncomputable def tOp (r : R2) (ta tb : TE) : TE := fun σ H Q => ta σ H fun x H1 => tb σ H1 fun y H2 => r x y H2 Q
noncomputable def tUn (r : V → Hp → VK → Prop) (ta : TE) : TE := fun σ H Q => ta σ H fun x H1 => r x H1 Q
noncomputable def rI (C : Int → Int → Prop) (g : Int → Int → V) : R2 := fun x y H Q => ∃ i j, x = .int i ∧ y = .int j ∧ C i j ∧ Q (g i j) H
noncomputable def rI0 (g : Int → Int → V) : R2 := fun x y H Q => ∃ i j, x = .int i ∧ y = .int j ∧ Q (g i j) H
noncomputable def rU (g : Int → V) : V → Hp → VK → Prop := fun x H Q => ∃ i, x = .int i ∧ Q (g i) H
section
variable {X : Cx} {a b c : Expr} {ta tb tc : TE} {pos : Pos}
theorem binT (ha : PE X a ta) (hb : PE X b tb) {pins : List (Addr × Obj)} {s : Shared} {σ : St} {H : Hp} {R : V → V → Hp → Prop} (I : Inv X pins σ H s)
  (h : ta σ H fun x H1 => tb σ H1 fun y H2 => R x y H2) {Q : Value → Shared → Prop} {f : Value → Value → Sem Value}
  (hf : ∀ v u s2 x y H2, Inv X pins σ H2 s2 → RelV x v → RelV y u → R x y H2 → wpAny (model X.prog X.w) X.A (f v u) Q X.xe s2) :
  wpAny (model X.prog X.w) X.A (eval a X.env) (fun v s₁ => wpAny (model X.prog X.w) X.A (eval b X.env) (fun u s₂ => wpAny (model X.prog X.w) X.A (f v u) Q X.xe s₂) X.xe s₁) X.xe s := by
 refine thn (ha pins s σ H _ I h) fun v s1 ⟨x, H1, I1, r1, q1⟩ => ?_
 refine thn (hb pins s1 σ H1 _ I1 q1) fun u s2 ⟨y, H2, I2, r2, q2⟩ => ?_
 exact hf v u s2 x y H2 I2 r1 r2 q2
theorem pe_op {op : Operator} {r : R2} (ho : OpR X (binaryOp op) r) (ha : PE X a ta) (hb : PE X b tb) : PE X (.BinOp a op b pos) (tOp r ta tb) := by
 intro pins s σ H Q I h
 exact wpAny_BinOp (binT ha hb I h fun v u s2 x y H2 I2 rx ry q => ho pins s2 σ H2 x y v u Q I2 rx ry q)
theorem pe_un {op : UnaryOp} {r : V → Hp → VK → Prop} (ho : UnR X (unaryOp op) r) (ha : PE X a ta) : PE X (.UnaryOp op a pos) (tUn r ta) := by
 intro pins s σ H Q I h
 exact UnaryOp_ (thn (ha pins s σ H _ I h) fun v s1 ⟨x, H1, I1, r1, q1⟩ => ho pins s1 σ H1 x v Q I1 r1 q1)
theorem opI {f : Value → Value → Sem Value} {C : Int → Int → Prop} {g : Int → Int → Int}
  (rule : ∀ (i j : Int) (t u : Tok) (s : Shared) (Q : Value → Shared → Prop) (E : Value → Shared → Prop), C i j → Q (.int (g i j) s.toks) { s with toks := s.toks + 1 } → wpAny (model X.prog X.w) X.A (f (.int i t) (.int j u)) Q E s) :
  OpR X f (rI C fun i j => .int (g i j)) := by
 intro pins s σ H x y v u Q I rx ry h
 obtain ⟨i, j, rfl, rfl, hc, q⟩ := h
 obtain ⟨t, rfl⟩ := rx
 obtain ⟨t', rfl⟩ := ry
 exact rule i j t t' s _ _ hc ⟨.int (g i j), H, I.tok _, ⟨_, rfl⟩, q⟩
theorem opI0 {f : Value → Value → Sem Value} {g : Int → Int → Int}
  (rule : ∀ (i j : Int) (t u : Tok) (s : Shared) (Q : Value → Shared → Prop) (E : Value → Shared → Prop), Q (.int (g i j) s.toks) { s with toks := s.toks + 1 } → wpAny (model X.prog X.w) X.A (f (.int i t) (.int j u)) Q E s) :
  OpR X f (rI0 fun i j => .int (g i j)) := by
 intro pins s σ H x y v u Q I rx ry h
 obtain ⟨i, j, rfl, rfl, q⟩ := h
 obtain ⟨t, rfl⟩ := rx
 obtain ⟨t', rfl⟩ := ry
 exact rule i j t t' s _ _ ⟨.int (g i j), H, I.tok _, ⟨_, rfl⟩, q⟩
theorem opB0 {f : Value → Value → Sem Value} {g : Int → Int → Bool}
  (rule : ∀ (i j : Int) (t u : Tok) (s : Shared) (Q : Value → Shared → Prop) (E : Value → Shared → Prop), Q (.bool (g i j)) s → wpAny (model X.prog X.w) X.A (f (.int i t) (.int j u)) Q E s) :
  OpR X f (rI0 fun i j => .bl (g i j)) := by
 intro pins s σ H x y v u Q I rx ry h
 obtain ⟨i, j, rfl, rfl, q⟩ := h
 obtain ⟨t, rfl⟩ := rx
 obtain ⟨t', rfl⟩ := ry
 exact rule i j t t' s _ _ ⟨.bl (g i j), H, I, rfl, q⟩
noncomputable def CDiv (i j : Int) : Prop := 0 < j ∧ j < 1073741824
noncomputable def CPow (i j : Int) : Prop := 0 ≤ j ∧ j ≤ 1000000 ∧ i.natAbs < 2 ^ 64
noncomputable def CMul (i j : Int) : Prop := (-(2 ^ 64) < i ∧ i < 2 ^ 64) ∨ (-(2 ^ 64) < j ∧ j < 2 ^ 64)
theorem CMul.ok {i j : Int} (h : CMul i j) : IntMulOk i j := by
 rcases h with ⟨h1, h2⟩ | ⟨h1, h2⟩
 ·exact .of_left (intBits_le_64 h1 h2)
 ·exact .of_right (intBits_le_64 h1 h2)
theorem two_pow_nn (k : Nat) : (0 : Int) ≤ 2 ^ k := by
 rw [two_pow_cast]
 exact Int.natCast_nonneg _
theorem op_add : OpR X (binaryOp .Add) (rI0 fun i j => .int (i + j)) := opI0 fun _ _ _ _ _ _ _ q => add_int q
theorem op_sub : OpR X (binaryOp .Sub) (rI0 fun i j => .int (i - j)) := opI0 fun _ _ _ _ _ _ _ q => sub_int q
theorem op_mul : OpR X (binaryOp .Mult) (rI CMul fun i j => .int (i * j)) := opI fun _ _ _ _ _ _ _ hc q => mul_int q hc.ok
theorem op_fdiv : OpR X (binaryOp .FloorDiv) (rI CDiv fun i j => .int (i / j)) := opI fun i j _ _ _ _ _ hc q => by
 have h1 : (0 : Int) < j := hc.1
 have h2 : j < 1073741824 := hc.2
 exact floordiv_int (by omega) (by rw [Int.fdiv_eq_ediv_of_nonneg i (by omega)]; exact q) (.inl (PyProof.noPylong_small (by omega)))
theorem op_mod : OpR X (binaryOp .Mod) (rI (fun _ j => 0 < j) fun i j => .int (i % j)) := opI fun i j _ _ _ _ _ hc q => by
 have h1 : (0 : Int) < j := hc
 exact mod_int' (by omega) (by rw [Int.fmod_eq_emod_of_nonneg i (by omega)]; exact q)
theorem op_pow : OpR X (binaryOp .Pow) (rI CPow fun i j => .int (i ^ j.toNat)) := opI fun _ _ _ _ _ _ _ hc q => pow_int_small hc.1 hc.2.1 hc.2.2 q
theorem op_shl : OpR X (binaryOp .LShift) (rI CPow fun i j => .int (i * 2 ^ j.toNat)) := opI fun _ _ _ _ _ _ _ hc q => lshift_int_small hc.1 hc.2.1 hc.2.2 q
theorem op_shr : OpR X (binaryOp .RShift) (rI (fun _ j => 0 ≤ j) fun i j => .int (i / 2 ^ j.toNat)) := opI fun i j _ _ _ _ _ hc q =>
 rshift_int hc (by rw [Int.fdiv_eq_ediv_of_nonneg i (two_pow_nn _)]; exact q)
theorem op_and : OpR X (binaryOp .BitAnd) (rI0 fun i j => .int (Builtin.bitAnd i j)) := opI0 fun _ _ _ _ _ _ _ q => and_int q
theorem op_or : OpR X (binaryOp .BitOr) (rI0 fun i j => .int (Builtin.bitOr i j)) := opI0 fun _ _ _ _ _ _ _ q => or_int q
theorem op_xor : OpR X (binaryOp .BitXor) (rI0 fun i j => .int (Builtin.bitXor i j)) := opI0 fun _ _ _ _ _ _ _ q => xor_int q
theorem unI {f : Value → Sem Value} {g : Int → Int}
  (rule : ∀ (i : Int) (t : Tok) (s : Shared) (Q : Value → Shared → Prop) (E : Value → Shared → Prop), Q (.int (g i) s.toks) { s with toks := s.toks + 1 } → wpAny (model X.prog X.w) X.A (f (.int i t)) Q E s) :
  UnR X f (rU fun i => .int (g i)) := by
 intro pins s σ H x v Q I rx h
 obtain ⟨i, rfl, q⟩ := h
 obtain ⟨t, rfl⟩ := rx
 exact rule i t s _ _ ⟨.int (g i), H, I.tok _, ⟨_, rfl⟩, q⟩
theorem un_neg : UnR X (unaryOp .USub) (rU fun i => .int (-i)) := unI fun _ _ _ _ _ q => neg_int q
end
noncomputable def scal : V → V → Bool
 | .non, .non => true | .non, .int _ => true | .int _, .non => true | .non, .bl _ => true | .bl _, .non => true | .non, .str _ => true | .str _, .non => true
 | .int _, .int _ => true | .bl _, .bl _ => true | .str _, .str _ => true | .byt _, .byt _ => true
 | .int _, .str _ => true | .str _, .int _ => true | .bl _, .str _ => true | .str _, .bl _ => true
 | _, _ => false
noncomputable def rEq : R2 := fun x y H Q => scal x y = true ∧ Q (.bl (decide (x = y))) H
noncomputable def rNe : R2 := fun x y H Q => scal x y = true ∧ Q (.bl (!decide (x = y))) H
theorem dec_int {i j : Int} : decide (V.int i = V.int j) = (i == j) := by
 rw [Bool.eq_iff_iff]
 simp
theorem dec_bl {i j : Bool} : decide (V.bl i = V.bl j) = (i == j) := by
 rw [Bool.eq_iff_iff]
 simp
theorem dec_str {i j : Str} : decide (V.str i = V.str j) = (i == j) := by
 rw [Bool.eq_iff_iff]
 simp
theorem dec_byt {i j : Array UInt8} : decide (V.byt i = V.byt j) = (i.toList == j.toList) := by
 rw [Bool.eq_iff_iff]
 cases i
 cases j
 simp
section
variable {X : Cx} {a b c : Expr} {ta tb tc : TE} {pos : Pos}
theorem fin_bl {pins : List (Addr × Obj)} {σ : St} {H : Hp} {s : Shared} {Q : VK} {k k' : Bool} (I : Inv X pins σ H s) (q : Q (.bl k) H) (e : k = k') : EP X pins σ Q (.bool k') s := by
 subst e
 exact ⟨.bl k, H, I, rfl, q⟩
theorem op_eq : OpR X (compareOp .Eq) rEq := by
 intro pins s σ H x y v u Q I rx ry h
 obtain ⟨hs, q⟩ := h
 cases x with
 | non =>
  cases rx
  cases y with
  | non => cases ry; exact PySem.EqNone.eq_none_none (fin_bl I q (by simp))
  | bl j => cases ry; exact PySem.EqNone.eq_none_bool (fin_bl I q (by simp))
  | int j => obtain ⟨t', rfl⟩ := ry; exact PySem.EqNone.eq_none_int (fin_bl I q (by simp))
  | str j => obtain ⟨t', rfl⟩ := ry; exact PySem.EqNone.eq_none_str (fin_bl I q (by simp))
  | _ => exact absurd (show false = true from hs) Bool.false_ne_true
 | bl i =>
  cases rx
  cases y with
  | non => cases ry; exact PySem.EqNone.eq_bool_none (fin_bl I q (by simp))
  | bl j => cases ry; exact eq_bool (fin_bl I q dec_bl)
  | str j => obtain ⟨t', rfl⟩ := ry; exact PySem.EqMixed.eq_bool_str (fin_bl I q (by simp))
  | _ => exact absurd (show false = true from hs) Bool.false_ne_true
 | int i =>
  obtain ⟨t, rfl⟩ := rx
  cases y with
  | non => cases ry; exact PySem.EqNone.eq_int_none (fin_bl I q (by simp))
  | int j => obtain ⟨t', rfl⟩ := ry; exact eq_int (fin_bl I q dec_int)
  | str j => obtain ⟨t', rfl⟩ := ry; exact PySem.EqMixed.eq_int_str (fin_bl I q (by simp))
  | _ => exact absurd (show false = true from hs) Bool.false_ne_true
 | str i =>
  obtain ⟨t, rfl⟩ := rx
  cases y with
  | non => cases ry; exact PySem.EqNone.eq_str_none (fin_bl I q (by simp))
  | bl j => cases ry; exact PySem.EqMixed.eq_str_bool (fin_bl I q (by simp))
  | int j => obtain ⟨t', rfl⟩ := ry; exact PySem.EqMixed.eq_str_int (fin_bl I q (by simp))
  | str j => obtain ⟨t', rfl⟩ := ry; exact eq_str (fin_bl I q dec_str)
  | _ => exact absurd (show false = true from hs) Bool.false_ne_true
 | byt i =>
  obtain ⟨t, rfl⟩ := rx
  cases y with
  | byt j => obtain ⟨t', rfl⟩ := ry; exact PySem.W.eq_bytes (fin_bl I q dec_byt)
  | _ => exact absurd (show false = true from hs) Bool.false_ne_true
 | _ => cases y <;> exact absurd (show false = true from hs) Bool.false_ne_true
theorem op_ne : OpR X (compareOp .NotEq) rNe := by
 intro pins s σ H x y v u Q I rx ry h
 obtain ⟨hs, q⟩ := h
 cases x with
 | non =>
  cases rx
  cases y with
  | non => cases ry; exact PySem.EqNone.ne_none_none (fin_bl I q (by simp))
  | bl j => cases ry; exact PySem.EqNone.ne_none_bool (fin_bl I q (by simp))
  | int j => obtain ⟨t', rfl⟩ := ry; exact PySem.EqNone.ne_none_int (fin_bl I q (by simp))
  | str j => obtain ⟨t', rfl⟩ := ry; exact PySem.EqNone.ne_none_str (fin_bl I q (by simp))
  | _ => exact absurd (show false = true from hs) Bool.false_ne_true
 | bl i =>
  cases rx
  cases y with
  | non => cases ry; exact PySem.EqNone.ne_bool_none (fin_bl I q (by simp))
  | bl j => cases ry; exact ne_bool (fin_bl I q (congrArg not dec_bl))
  | str j => obtain ⟨t', rfl⟩ := ry; exact PySem.EqMixed.ne_bool_str (fin_bl I q (by simp))
  | _ => exact absurd (show false = true from hs) Bool.false_ne_true
 | int i =>
  obtain ⟨t, rfl⟩ := rx
  cases y with
  | non => cases ry; exact PySem.EqNone.ne_int_none (fin_bl I q (by simp))
  | int j => obtain ⟨t', rfl⟩ := ry; exact ne_int (fin_bl I q (congrArg not dec_int))
  | str j => obtain ⟨t', rfl⟩ := ry; exact PySem.EqMixed.ne_int_str (fin_bl I q (by simp))
  | _ => exact absurd (show false = true from hs) Bool.false_ne_true
 | str i =>
  obtain ⟨t, rfl⟩ := rx
  cases y with
  | non => cases ry; exact PySem.EqNone.ne_str_none (fin_bl I q (by simp))
  | bl j => cases ry; exact PySem.EqMixed.ne_str_bool (fin_bl I q (by simp))
  | int j => obtain ⟨t', rfl⟩ := ry; exact PySem.EqMixed.ne_str_int (fin_bl I q (by simp))
  | str j => obtain ⟨t', rfl⟩ := ry; exact ne_str (fin_bl I q (congrArg not dec_str))
  | _ => exact absurd (show false = true from hs) Bool.false_ne_true
 | byt i =>
  obtain ⟨t, rfl⟩ := rx
  cases y with
  | byt j => obtain ⟨t', rfl⟩ := ry; exact PySem.W.ne_bytes (fin_bl I q (congrArg not dec_byt))
  | _ => exact absurd (show false = true from hs) Bool.false_ne_true
 | _ => cases y <;> exact absurd (show false = true from hs) Bool.false_ne_true
theorem op_lt : OpR X (compareOp .Lt) (rI0 fun i j => .bl (decide (i < j))) := opB0 fun _ _ _ _ _ _ _ q => lt_int q
theorem op_le : OpR X (compareOp .LtE) (rI0 fun i j => .bl (decide (i ≤ j))) := opB0 fun _ _ _ _ _ _ _ q => le_int q
theorem op_gt : OpR X (compareOp .Gt) (rI0 fun i j => .bl (decide (j < i))) := opB0 fun _ _ _ _ _ _ _ q => gt_int q
theorem nomark (b : Expr) {op : CmpOp} (h : op ≠ .In := by decide) (h2 : op ≠ .NotIn := by decide) : behindInMarks op b = false := by
 have e1 : (op == CmpOp.In) = false := by cases op <;> first | rfl | exact absurd rfl h
 have e2 : (op == CmpOp.NotIn) = false := by cases op <;> first | rfl | exact absurd rfl h2
 cases b <;> simp [behindInMarks, e1, e2]
theorem pe_cmpR {op : CmpOp} {r : R2} (ho : OpR X (compareOp op) r) (ha : PE X a ta) (hb : PE X b tb) (hm : behindInMarks op b = false) : PE X (.Compare a [op] [b] pos) (tOp r ta tb) := by
 intro pins s σ H Q I h
 exact wpAny_Compare1 (binT ha hb I h fun v u s2 x y H2 I2 rx ry q => ho pins s2 σ H2 x y v u Q I2 rx ry q) hm
noncomputable def tTest (t : TE) : TT := fun σ H Q => t σ H fun x H' => ∃ k, x = .bl k ∧ Q k H'
theorem pt_cmpR {op : CmpOp} {r : R2} (ho : OpR X (compareOp op) r) (ha : PE X a ta) (hb : PE X b tb) (hm : behindInMarks op b = false) : PT X (.Compare a [op] [b] pos) (tTest (tOp r ta tb)) := by
 intro pins s σ H Q I h
 refine wpAny_isTrue_Compare1 (thn (ha pins s σ H _ I h) fun v s1 ⟨x, H1, I1, r1, q1⟩ => thn (hb pins s1 σ H1 _ I1 q1) fun u s2 ⟨y, H2, I2, r2, q2⟩ =>
  thn (ho pins s2 σ H2 x y v u _ I2 r1 r2 q2) fun c s3 ⟨z, H3, I3, r3, k, e, q3⟩ => ?_) hm
 subst e
 cases r3
 exact wpAny_truthy_bool ⟨H3, I3, q3⟩
theorem line63 : (sizeLine : Nat) < 2 ^ 63 := by rw [sizeLine_eq]; decide
theorem op_add_str : OpR X (binaryOp .Add) (fun x y H Q => ∃ i j, x = .str i ∧ y = .str j ∧ i.length + j.length ≤ sizeLine ∧ Q (.str (i ++ j)) H) := by
 intro pins s σ H x y v u Q I rx ry h
 obtain ⟨i, j, rfl, rfl, hz, q⟩ := h
 obtain ⟨t, rfl⟩ := rx
 obtain ⟨t', rfl⟩ := ry
 exact add_str (fun t' tk => ⟨.str (i ++ j), H, I.tok _, ⟨_, rfl⟩, q⟩) hz
theorem vals1 {x : V} {us : List Value} (r : Vals [x] us) : ∃ u, us = [u] ∧ RelV x u := by
 cases r with
 | cons r1 r2 => cases r2; exact ⟨_, rfl, r1⟩
theorem vals2 {x y : V} {us : List Value} (r : Vals [x, y] us) : ∃ u w', us = [u, w'] ∧ RelV x u ∧ RelV y w' := by
 cases r with
 | cons r1 r2 =>
  cases r2 with
  | cons r3 r4 => cases r4; exact ⟨_, _, rfl, r1, r3⟩
theorem call_min2 (hc : X.calm = true) : CallR X (.builtin "min") (fun xs H Q => ∃ i j, xs = [.int i, .int j] ∧ Q (.int (if j < i then j else i)) H) := by
 intro pins s σ H xs us Q I r h
 obtain ⟨i, j, rfl, q⟩ := h
 obtain ⟨u, w', rfl, ⟨t, rfl⟩, ⟨t', rfl⟩⟩ := vals2 r
 refine min_two_ints (I.ok.hd hc) fun h' tk k => ⟨_, H, I.kept k, ?_, q⟩
 by_cases hj : j < i
 ·rw [if_pos hj, if_pos hj]; exact ⟨_, rfl⟩
 ·rw [if_neg hj, if_neg hj]; exact ⟨_, rfl⟩
theorem call_int1 : CallR X (.type "int") (fun xs H Q => (∃ i, xs = [.int i] ∧ Q (.int i) H) ∨ ∃ k, xs = [.bl k] ∧ Q (.int (if k then 1 else 0)) H) := by
 intro pins s σ H xs us Q I r h
 rcases h with ⟨i, rfl, q⟩ | ⟨k, rfl, q⟩
 ·obtain ⟨u, rfl, t, rfl⟩ := vals1 r
  exact call_int_int ⟨.int i, H, I, ⟨_, rfl⟩, q⟩
 ·obtain ⟨u, rfl, r1⟩ := vals1 r
  cases r1
  exact call_int_bool ⟨.int (if k then 1 else 0), H, I.tok _, ⟨_, rfl⟩, q⟩
theorem call_str_int : CallR X (.type "str") (fun xs H Q => ∃ i, xs = [.int i] ∧ i.natAbs.log2 < 1920 ∧ Q (.str (toString i)) H) := by
 intro pins s σ H xs us Q I r h
 obtain ⟨i, rfl, hz, q⟩ := h
 obtain ⟨u, rfl, t, rfl⟩ := vals1 r
 exact PySem.P.str_of_int hz ⟨.str _, H, I.tok _, ⟨_, rfl⟩, q⟩
end
structure ObjM (h : Heap) (x dx C : Addr) (mA : Str → Option Value) : Prop where
 obj : h.get? x = some (PySem.W.instObj C dx)
 ns : h.Ns1 dx mA
 ne : dx ≠ x
theorem lookIn_ns {h : Heap} {dx : Addr} {mA : Str → Option Value} (n : h.Ns1 dx mA) : ∃ od, h.get? dx = some od ∧ ∀ name, PySem.W.lookIn name od = some (mA name) := by
 obtain ⟨o, es, ep, ho, hd, hk, _, hm⟩ := n
 refine ⟨o, ho, fun name => ?_⟩
 have e := hm name
 unfold nsFind findBy at e
 rw [← Array.find?_toList] at e
 unfold PySem.W.lookIn
 rw [hd]
 dsimp only
 split
 ·rename_i y q
  rw [q] at e
  exact congrArg some e
 ·rename_i q
  rw [q] at e
  have a : es.toList.any (·.refKey) = false := by
   rw [List.any_eq_false]
   intro y hy
   obtain ⟨z, t, hkey⟩ := hk y (Array.mem_toList_iff.mp hy)
   simp [DictEntry.refKey, hkey]
  have a' : ¬ es.toList.any (·.refKey) = true := by rw [a]; exact Bool.false_ne_true
  rw [if_neg a']
  exact congrArg some e
theorem ObjM.look {h : Heap} {x dx C : Addr} {mA : Str → Option Value} (I : ObjM h x dx C mA) : ∃ od, PySem.W.InstAt h x (PySem.W.instObj C dx) C (some od) ∧ ∀ name, PySem.W.lookIn name od = some (mA name) :=
 let ⟨od, ho, hl⟩ := lookIn_ns I.ns
 ⟨od, ⟨I.obj, rfl, rfl, ho⟩, hl⟩
noncomputable def putF (f : Str) (v : V) : List (Str × V) → List (Str × V)
  | [] => [(f, v)]
  | (g, x) :: r => if g = f then (g, v) :: r else (g, x) :: putF f v r
section
variable {P : Program} {w : World} {H H' : Hp} {h h' : Heap} {a C dx : Addr} {fs fs' : List (Str × V)}
theorem ins_get (hok : HOk P w H h) (e : H a = some (.ins C dx fs)) : ∃ mA, ObjM h a dx C mA ∧ (∀ f, RelO (fs.lookup f) (mA f)) ∧ PySem.Within mA (fs.map (·.1)) ∧ fs.length ≤ 1000 ∧ H dx = some (.own a) := by
 obtain ⟨d, z, ne, ob, mA, n, r, q⟩ := (show ObjOk P w H h a (.ins C dx fs) from hok a _ e)
 exact ⟨mA, ⟨ob, n, ne⟩, r, q, z, d⟩
end
structure Cls (K : PySem.W.Frag) (C : Addr) : Prop where
 pg : PySem.W.plainGet K C Str.empty = true
 hd : PySem.W.hasDictIn K C = true
 po : PySem.W.plainOver K C = true
 sa : PySem.W.findIn K (.ref C) "__setattr__" = some (some (.builtin "object.__setattr__"))
theorem Cls.get {K : PySem.W.Frag} {C : Addr} (c : Cls K C) (f : Str) : PySem.W.plainGet K C f = true := c.pg
section
variable {X : Cx} {pins : List (Addr × Obj)} {σ : St} {H : Hp} {s : Shared} {A : Around} {E : Value → Shared → Prop} {Q : Value → Shared → Prop} {c : Value} {b : Bool}
inductive TyOf (K : PySem.W.Frag) (H : Hp) : V → Value → Prop where
 | non : TyOf K H .non (.type "NoneType")
 | bl (x : Bool) : TyOf K H (.bl x) (.type "bool")
 | int (i : Int) : TyOf K H (.int i) (.type "int")
 | str (x : Str) : TyOf K H (.str x) (.type "str")
 | flt (x : UInt64) : TyOf K H (.flt x) (.type "float")
 | lst {a : Addr} {xs : List V} (e : H a = some (.lst xs)) : TyOf K H (.ref a) (.type "list")
 | frz {a : Addr} {o : Obj} {xs : List V} (e : H a = some (.frz o (.lst xs))) : TyOf K H (.ref a) (.type "list")
 | tup {a : Addr} {xs : List V} (e : H a = some (.tup xs)) : TyOf K H (.ref a) (.type "tuple")
 | dK {a : Addr} {kvs : List (Key × V)} (e : H a = some (.dK kvs)) : TyOf K H (.ref a) (.type "dict")
 | dT {a : Addr} {kvs : List (List Key × V)} (e : H a = some (.dT kvs)) : TyOf K H (.ref a) (.type "dict")
 | ins {a C dx : Addr} {fs : List (Str × V)} (e : H a = some (.ins C dx fs)) (cl : Cls K C) (ha : PySem.W.findIn K (.ref C) "__class__" = some (some (.builtin "object.__class__")))
   (hn : PySem.W.specialIn K (.builtin "object.__class__") "__get__" = some (some (.builtin "getset_descriptor.__get__"))) (htk : PySem.W.takesIn K (.builtin "object.__class__") = some true)
   (hm : PySem.W.mroIn K C (.type "object") = some true) : TyOf K H (.ref a) (.ref C)
theorem isinst_ok {x : V} {u t : Value} (I : Inv X pins σ H s) (rx : RelV x u) (ty : TyOf X.K H x t) (e : PySem.W.kitOne X.K t c = some b) (h : ∀ tk, Q (.bool b) { s with toks := tk }) :
  wpAny (model X.prog X.w) A (call (.builtin "isinstance") [u, c]) Q E s := by
 cases ty with
 | non => cases (show u = Value.none from rx); exact PySem.W.kia_one PySem.W.kitx_none I.kIn True.intro e (fun z => nomatch z) h
 | bl y => cases (show u = Value.bool y from rx); exact PySem.W.kia_one PySem.W.kitx_bool I.kIn True.intro e (fun z => nomatch z) h
 | int i => obtain ⟨t, q⟩ := (show ∃ t, u = Value.int i t from rx); cases q; exact PySem.W.kia_one PySem.W.kitx_int I.kIn True.intro e (fun z => nomatch z) h
 | str y => obtain ⟨t, q⟩ := (show ∃ t, u = Value.str y t from rx); cases q; exact PySem.W.kia_one PySem.W.kitx_str I.kIn True.intro e (fun z => nomatch z) h
 | flt y => obtain ⟨t, q⟩ := (show ∃ t, u = Value.float y t from rx); cases q; exact PySem.W.kia_one PySem.W.kitx_float I.kIn True.intro e (fun z => nomatch z) h
 | @lst a xs ea =>
  cases (show u = Value.ref a from rx)
  obtain ⟨_, _, n, _, h1⟩ := (show ObjOk X.prog X.w H s.heap a (.lst xs) from I.hok a _ ea)
  exact PySem.W.kia_one PySem.W.kitx_list I.kIn ⟨_, h1, rfl⟩ e (fun z => nomatch z) h
 | @frz a ob xs ea =>
  cases (show u = Value.ref a from rx)
  obtain ⟨_, _, _, n, _, h1⟩ := (show ObjOk X.prog X.w H s.heap a (.frz ob (.lst xs)) from I.hok a _ ea)
  exact PySem.W.kia_one PySem.W.kitx_list I.kIn ⟨_, h1, rfl⟩ e (fun z => nomatch z) h
 | @tup a xs ea =>
  cases (show u = Value.ref a from rx)
  obtain ⟨_, _, _, p⟩ := (show ObjOk X.prog X.w H s.heap a (.tup xs) from I.hok a _ ea)
  obtain ⟨o, h1, h2, _⟩ := p
  exact PySem.W.kia_one PySem.W.kitx_tuple I.kIn ⟨o, h1, h2⟩ e (fun z => nomatch z) h
 | @dK a kvs ea =>
  cases (show u = Value.ref a from rx)
  obtain ⟨_, _, vs, _, p⟩ := (show ObjOk X.prog X.w H s.heap a (.dK kvs) from I.hok a _ ea)
  obtain ⟨o, es, ep, h1, h2, _⟩ := p
  exact PySem.W.kia_one PySem.W.kitx_dict I.kIn ⟨o, h1, h2.1⟩ e (fun z => nomatch z) h
 | @dT a kvs ea =>
  cases (show u = Value.ref a from rx)
  obtain ⟨_, _, xs, _, o, es, ep, h1, h2, _⟩ := (show ObjOk X.prog X.w H s.heap a (.dT kvs) from I.hok a _ ea)
  exact PySem.W.kia_one PySem.W.kitx_dict I.kIn ⟨o, h1, h2.1⟩ e (fun z => nomatch z) h
 | @ins a C dx fs ea cl ha hn htk hm =>
  cases (show u = Value.ref a from rx)
  obtain ⟨mA, O, _⟩ := ins_get I.hok ea
  obtain ⟨od, J, _⟩ := O.look
  exact PySem.W.kia_one (PySem.W.kitx_own (cl.get _) cl.hd ha hn htk hm) I.kIn J e (fun z => nomatch z) h
end
structure Room (k : Nat) (A : Around) : Prop where
 hd : A.handled = none
 dp : A.depth + 3 * k + 5 < recursionLimit
 un : A.units + 16 * k + 200 < cLine
 gd : A.guards = some []
theorem Room.mono {j k : Nat} {A : Around} (r : Room k A) (h : j ≤ k) : Room j A := ⟨r.hd, by have := r.dp; omega, by have := r.un; omega, r.gd⟩
theorem Room.deeper {k : Nat} {A : Around} (r : Room (k + 1) A) (env : Env) : Room k (A.deeper env) :=
 ⟨r.hd, by have := r.dp; show A.depth + 1 + 3 * k + 5 < _; omega, by have := r.un; show A.units + 3 + 16 * k + 200 < _; omega, r.gd⟩
theorem Room.depth {k : Nat} {A : Around} (r : Room k A) : A.depth < recursionLimit := by have := r.dp; omega
theorem Room.units {k : Nat} {A : Around} (r : Room k A) : A.units + 64 < cLine := by have := r.un; omega
noncomputable def tNil : TA := fun _ H Q => Q [] H
noncomputable def tCons (ta : TE) (tr : TA) : TA := fun σ H Q => ta σ H fun x H1 => tr σ H1 fun xs H2 => Q (x :: xs) H2
section
variable {X : Cx} {e : Expr} {es : List Expr} {te : TE} {t : TA} {pos : Pos}
theorem pa_nil : PA X [] tNil := fun _ _ _ _ H Q I h => Calls.spliced_nil ⟨[], H, I, .nil, h⟩
theorem pa_cons (ha : PE X e te) (hr : PA X es t) (hs : starEach (e :: es) X.env = (false, eval e X.env) :: starEach es X.env := by rfl) : PA X (e :: es) (tCons te t) := by
 intro pos pins s σ H Q I h
 rw [hs]
 show wpAny _ _ (spliced ((false, eval e X.env) :: backTo pos (starEach es X.env))) _ _ s
 refine Calls.spliced_cons (thn (ha pins s σ H _ I h) fun u s1 ⟨x, H1, I1, r1, q1⟩ => ?_)
 exact thn (hr pos pins s1 σ H1 _ I1 q1) fun us s2 ⟨xs, H2, I2, r2, q2⟩ => ⟨x :: xs, H2, I2, .cons r1 r2, q2⟩
noncomputable def tTup (t : TA) : TE := fun σ H Q => t σ H fun xs H1 => xs.length ≤ sizeLine ∧ ∀ p, H1 p = none → Q (.ref p) (upd H1 p (.tup xs))
noncomputable def tLst (t : TA) : TE := fun σ H Q => t σ H fun xs H1 => xs.length ≤ sizeLine ∧ ∀ p, H1 p = none → Q (.ref p) (upd H1 p (.lst xs))
theorem pe_tup {x1} (h : PA X es t) : PE X (.Tuple es x1 pos) (tTup t) := by
 intro pins s σ H Q I hq
 refine wpAny_Tuple_spliced (thn (h pos pins s σ H _ I hq) fun us s1 ⟨xs, H1, I1, r, z, q⟩ => ⟨by rw [← r.length]; exact z, ?_⟩)
 have hf : H1 s1.heap.objs.size = none := I1.hok.fresh (Nat.le_refl _)
 refine ⟨.ref s1.heap.objs.size, upd H1 s1.heap.objs.size (.tup xs), I1.laid (t' := s1.toks) (fun b u e => Heap.get?_push_of_some _ e) (Nat.le_refl _) ?_, rfl, q _ hf⟩
 exact ⟨z, us, r, ⟨_, Heap.get?_push_size _ rfl, rfl, _, rfl⟩⟩
theorem pe_lst (h : PA X es t) : PE X (.List es pos) (tLst t) := by
 intro pins s σ H Q I hq
 refine wpAny_List_spliced (thn (h pos pins s σ H _ I hq) fun us s1 ⟨xs, H1, I1, r, z, q⟩ => ⟨by rw [← r.length]; exact z, ?_⟩)
 have hf : H1 s1.heap.objs.size = none := I1.hok.fresh (Nat.le_refl _)
 refine ⟨.ref s1.heap.objs.size, upd H1 s1.heap.objs.size (.lst xs), I1.laid (t' := s1.toks) (fun b u e => Heap.get?_push_of_some _ e) (Nat.le_refl _) ?_, rfl, q _ hf⟩
 exact ⟨z, us, 0, r, Heap.get?_push_size _ rfl⟩
end
noncomputable abbrev Sp := List V → Hp → VK → XK → Prop
noncomputable abbrev CXT := List Env → Hp → Shared → XK → Value → Shared → Prop
structure Env0 (P : Program) (w : World) (K : PySem.W.Frag) (mg : Str → Option Value) (base : Heap) (A : Around) (outer : List Env) (s : Shared) (H : Hp) : Prop where
 frames : A.frames = some outer
 mod : Mod K mg base
 bs : ∀ b o, base.get? b = some o → s.heap.get? b = some o ∧ H b = none
 bsz : base.objs.size ≤ s.heap.objs.size
 funs : s.heap.FunFrames base outer
 frf : ∀ b ∈ frs outer, H b = none
 hok : HOk P w H s.heap
 bare : AllBare s.gens
noncomputable def CE (outer : List Env) (P : Program) (w : World) (H : Hp) (s : Shared) (Q : VK) (u : Value) (s' : Shared) : Prop :=
 ∃ v H', s'.os = s.os ∧ AllBare s'.gens ∧ Un (frs outer) [] H H' s.heap s'.heap ∧ HOk P w H' s'.heap ∧ RelV v u ∧ Q v H'
noncomputable def CR (CX : CXT) (outer : List Env) (P : Program) (w : World) (H : Hp) (s : Shared) (Q : VK) (E : XK) (r : Result) (s' : Shared) : Prop :=
 match r with
 | .ok (.ret u) => CE outer P w H s Q u s'
 | .ok _ => False
 | .error e => CX outer H s E e s'
structure FnOk (P : Program) (w : World) (K : PySem.W.Frag) (mg : Str → Option Value) (base : Heap) (CX : CXT) (k : Nat) (f : Addr) (fd : FuncData) (ps : List Str) (sp : Sp) : Prop where
 len : ∀ vs H Q E, sp vs H Q E → vs.length = ps.length
 run : ∀ (A : Around) (outer : List Env) (s : Shared) (H : Hp) (args : Args) (us : List Value) (vs : List V) (Q : VK) (E : XK), Room k A → Env0 P w K mg base A outer s H → BindsTo s fd args (ps.zip us) → Vals vs us → sp vs H Q E →
  codeAny (model P w) A (.call (.ref f) args) (CR CX outer P w H s Q E) s
section
variable {X : Cx} {pins : List (Addr × Obj)} {σ : St} {H : Hp} {s s' : Shared}
theorem Inv.env0 (I : Inv X pins σ H s) : Env0 X.prog X.w X.K X.mg X.base X.A X.stack s H :=
 ⟨I.ok.frames, I.ok.mod, I.bs, Nat.le_trans I.ok.bsz I.sz, I.stack, I.stkFree, I.hok, I.bare⟩
theorem Inv.after {Q : VK} {u : Value} (I : Inv X pins σ H s) (h : CE X.stack X.prog X.w H s Q u s') : EP X pins σ Q u s' := by
 obtain ⟨v, H', os, bare, un, hok, r, q⟩ := h
 obtain ⟨hh, g, d, t, os'⟩ := s'
 obtain rfl : os' = s.os := os
 exact ⟨v, H', I.call (h' := hh) (g' := g) (d' := d) (t' := t) (ch := []) un hok bare (fun b z => absurd z (by simp)), r, q⟩
end
noncomputable def tCall (sp : Sp) (dvs : List V) (E : XK) (t : TA) : TE := fun σ H Q => t σ H fun vs H1 => sp (vs ++ dvs) H1 Q E
noncomputable def Binds (K : PySem.W.Frag) (fd : FuncData) (ps : List Str) (ds : List Value) : Prop :=
 ∀ (s : Shared) (us : List Value), K.In s.heap → (us ++ ds).length = ps.length → BindsTo s fd ⟨us, []⟩ (ps.zip (us ++ ds))
theorem Binds.all {K : PySem.W.Frag} {fd : FuncData} {ps : List Str} (h : ∀ us : List Value, us.length = ps.length → bindArgs fd ⟨us, []⟩ = pure (ps.zip us)) : Binds K fd ps [] := fun s us _ hl => by
 rw [List.append_nil] at hl ⊢
 exact .of_eq (h us hl)
noncomputable def Passes (CX : CXT) (X : Cx) (E : XK) : Prop := ∀ (pins : List (Addr × Obj)) (σ : St) (H : Hp) (s : Shared) (e : Value) (s' : Shared), Inv X pins σ H s → CX X.stack H s E e s' → X.xe e s'
section
variable {X : Cx} {CX : CXT} {k : Nat} {f C : Addr} {fd : FuncData} {ps : List Str} {sp : Sp} {dvs : List V} {ds : List Value} {E : XK} {x m : Str} {p pos apos : Pos} {e o : Expr} {es : List Expr} {ta : TE} {t : TA}
theorem run_fn {pins : List (Addr × Obj)} {σ : St} {H : Hp} {s : Shared} {Q : VK} {us : List Value} {vs : List V} (F : FnOk X.prog X.w X.K X.mg X.base CX k f fd ps sp) (hr : Room k X.A) (hb : Binds X.K fd ps ds) (hd : Vals dvs ds) (hx : Passes CX X E)
  (I : Inv X pins σ H s) (r : Vals vs us) (h : sp (vs ++ dvs) H Q E) : wpAny (model X.prog X.w) X.A (call (.ref f) us) (EP X pins σ Q) X.xe s := by
 have r2 : Vals (vs ++ dvs) (us ++ ds) := r.append hd
 have hl : (us ++ ds).length = ps.length := by rw [← r2.length]; exact F.len _ _ _ _ h
 refine wpAny_call (codeAny_mono (F.run X.A X.stack s H ⟨us, []⟩ (us ++ ds) (vs ++ dvs) Q E hr I.env0 (hb s us I.kIn hl) r2 h) fun r s' hq => ?_)
 cases r with
 | error e => exact hx pins σ H s e s' I hq
 | ok fl =>
  cases fl with
  | ret u => exact I.after hq
  | next => exact False.elim hq
  | brk => exact False.elim hq
  | cont => exact False.elim hq
theorem pe_call (F : FnOk X.prog X.w X.K X.mg X.base CX k f fd ps sp) (hr : Room k X.A) (hg : Gl X x) (hm : X.mg x = some (.ref f)) (hk : PySem.W.keepIn X.K (.ref f) = true) (hb : Binds X.K fd ps ds) (hd : Vals dvs ds) (hx : Passes CX X E)
  (ha : PA X (e :: es) t) (hdb : (x == ("__debug__" : Str)) = false := by decide) (he : starEach (e :: es) X.env = (false, eval e X.env) :: starEach es X.env := by rfl) (hpl : (backTo pos (starEach es X.env)).any (·.1) = false := by rfl) :
  PE X (.Call (.Name x p) (e :: es) [] pos) (tCall sp dvs E t) := by
 intro pins s σ H Q I h
 refine wpAny_Call_Name_kw (ld_glob I hg hm ?_ hdb)
 refine PySem.W.callWith_K (h₀ := X.base) I.ok.mod.kin hk (thn (ha pos pins s σ H _ I h) fun us s1 ⟨vs, H1, I1, r, q⟩ => ⟨I1.kIn, ?_⟩) he hpl
 exact run_fn F hr hb hd hx I1 r q
end
section
variable {X : Cx} {CX : CXT} {k : Nat} {f C : Addr} {fd : FuncData} {ps ks : List Str} {sp : Sp} {E : XK} {x m : Str} {p pos apos kpos : Pos} {e o : Expr} {es : List Expr} {kws : List Keyword} {te ta : TE} {t tk : TA} {nm : Option Str}
variable {g : List Value → List Value → List Value} {gV : List V → List V → List V}
end
structure FnScope (N P : List Str) (sc : Scope) : Prop where
 kind : sc.kind = .function
 co : sc.isCoroutine = false
 gen : sc.isGenerator = false
 nd : N.Nodup
 pre : N.take P.length = P
 par : ∀ x ∈ P, sc.names.lookup x = some .local ∨ sc.names.lookup x = some .cell
 nofree : ∀ y ∈ sc.names, y.2 ≠ .free
theorem bindL_out {kindOf : Str → Option NameKind} {x : Str} : ∀ {binds : List (Str × Value)} {m : Str → Option Value}, (∀ v, (x, v) ∉ binds) → bindL kindOf binds m x = m x
  | [], _, _ => rfl
  | (n, v) :: r, m, h => by
    unfold bindL
    rw [bindL_out fun w hw => h w (List.mem_cons_of_mem _ hw)]
    split
    · have : x ≠ n := by rintro rfl; exact h v List.mem_cons_self
      simp [this]
    · rfl
theorem bindC_out {kindOf : Str → Option NameKind} {x : Str} : ∀ {binds : List (Str × Value)} {m : Str → Option Value}, (∀ v, (x, v) ∉ binds) → bindC kindOf binds m x = m x
  | [], _, _ => rfl
  | (n, v) :: r, m, h => by
    unfold bindC
    rw [bindC_out fun w hw => h w (List.mem_cons_of_mem _ hw)]
    split
    · rfl
    · have : x ≠ n := by rintro rfl; exact h v List.mem_cons_self
      simp [this]
theorem bindL_get {kindOf : Str → Option NameKind} {x : Str} {v : Value} : ∀ {P : List Str} {vs : List Value} {i : Nat} {m : Str → Option Value}, P.Nodup → P[i]? = some x → vs[i]? = some v → kindOf x = some .local →
  bindL kindOf (P.zip vs) m x = some v
 | [], _, _, _, _, h, _, _ => by simp at h
 | _ :: _, [], _, _, _, _, h, _ => by simp at h
 | p :: P, w :: vs, 0, m, nd, h1, h2, hk => by
  simp at h1 h2; subst h1; subst h2
  show bindL kindOf ((p, w) :: P.zip vs) m p = _
  unfold bindL
  rw [bindL_out fun v hv => (List.nodup_cons.mp nd).1 (List.of_mem_zip hv).1, if_pos hk]
  simp
 | p :: P, w :: vs, i + 1, m, nd, h1, h2, hk => by
  show bindL kindOf ((p, w) :: P.zip vs) m x = _
  unfold bindL
  exact bindL_get (i := i) (List.nodup_cons.mp nd).2 (by simpa using h1) (by simpa using h2) hk
theorem bindC_get {kindOf : Str → Option NameKind} {x : Str} {v : Value} : ∀ {P : List Str} {vs : List Value} {i : Nat} {m : Str → Option Value}, P.Nodup → P[i]? = some x → vs[i]? = some v → kindOf x ≠ some .local →
  bindC kindOf (P.zip vs) m x = some v
 | [], _, _, _, _, h, _, _ => by simp at h
 | _ :: _, [], _, _, _, _, h, _ => by simp at h
 | p :: P, w :: vs, 0, m, nd, h1, h2, hk => by
  simp at h1 h2; subst h1; subst h2
  show bindC kindOf ((p, w) :: P.zip vs) m p = _
  unfold bindC
  rw [bindC_out fun v hv => (List.nodup_cons.mp nd).1 (List.of_mem_zip hv).1, if_neg hk]
  simp
 | p :: P, w :: vs, i + 1, m, nd, h1, h2, hk => by
  show bindC kindOf ((p, w) :: P.zip vs) m x = _
  unfold bindC
  exact bindC_get (i := i) (List.nodup_cons.mp nd).2 (by simpa using h1) (by simpa using h2) hk
noncomputable def start (N : List Str) (vs : List V) : St := vs.map some ++ List.replicate (N.length - vs.length) none
noncomputable def cxOf (CX : CXT) (P : Program) (w : World) (K : PySem.W.Frag) (mg : Str → Option Value) (base : Heap) (N : List Str) (qual : Str) (scope : Scope) (f : Addr) (cd : Value) (A : Around) (outer : List Env) (s : Shared) (H : Hp) (E : XK) : Cx where
 prog := P
 w := w
 K := K
 mg := mg
 base := base
 A := A.deeper (envOfC qual scope s.heap.objs.size f cd)
 N := N
 s₀ := s
 H₀ := H
 env := envOfC qual scope s.heap.objs.size f cd
 outer := outer
 stack := envOfC qual scope s.heap.objs.size f cd :: outer
 ex := []
 calm := true
 fn := fun _ => true
 pn := []
 xe := fun e s' => wpAny (model P w) (A.deeper (envOfC qual scope s.heap.objs.size f cd)) (leaving (envOfC qual scope s.heap.objs.size f cd) e) (fun _ s'' => CX outer H s E e s'') (fun e' s'' => CX outer H s E e' s'') s'
theorem cell_has {sc : Scope} {n : Nat} {x : Str} (h : sc.names.lookup x = some .cell) : ∃ c, (cellsFrom n sc.names []).lookup x = some c := by
 have q := PySem.W.cellsFrom_some sc.names n [] (.inl h)
 exact Option.isSome_iff_exists.mp q
theorem inv_start {CX : CXT} {P : Program} {w : World} {K : PySem.W.Frag} {mg : Str → Option Value} {base : Heap} {N ps : List Str} {qual : Str} {scope : Scope} {f : Addr} {cd : Value} {A : Around} {outer : List Env} {s s1 : Shared} {H : Hp} {E : XK} {us : List Value} {vs : List V}
  (S : FnScope N ps scope) (hd : A.handled = none) (e0 : Env0 P w K mg base A outer s H) (hl : vs.length = ps.length) (r : Vals vs us)
  (x : InCallC s s.heap.objs.size (bindL (envOfC qual scope s.heap.objs.size f cd).kindOf (ps.zip us) fun _ => none) (cellsFrom (s.heap.objs.size + 1) scope.names []) (bindC (envOfC qual scope s.heap.objs.size f cd).kindOf (ps.zip us) fun _ => none) s1) :
  Inv (cxOf CX P w K mg base N qual scope f cd A outer s H E) [] (start N vs) H s1 := by
 have hpl : ps.length ≤ N.length := by have := congrArg List.length S.pre; rw [List.length_take] at this; omega
 obtain ⟨h1, tk, rfl, hk⟩ := x.done
 have noA : ∀ b : Addr, b ∉ (cxOf CX P w K mg base N qual scope f cd A outer s H E).ex := fun b z => absurd (show b ∈ ([] : List Addr) from z) (by simp)
 refine ⟨⟨e0.mod, S.kind, rfl, rfl, Nat.le_refl _, fun y z c h1 h2 => ?_, fun y hy => ?_, fun y c _ h => ?_, fun _ => hd, Around.frames_deeper e0.frames, .inr ⟨rfl, rfl⟩, fun b z => absurd z (noA b), e0.bs, e0.bsz, fun b _ _ => noA b, fun b z => absurd z (noA b), e0.funs, e0.frf⟩,
  rfl, e0.bare, Un.kept hk, ⟨_, x.toInCall.ns, fun i y v h1 h2 h3 => ?_⟩, fun y c h => ⟨_, x.cell y c h⟩, e0.hok.fresh (Nat.le_refl _), fun y c h => ?_, fun p hp => absurd (show p ∈ ([] : List (Addr × Obj)) from hp) (by simp), e0.hok.kept hk, ?_⟩
 ·exact name_of_addr x.apart (PySem.mem_of_lookup h1) (PySem.mem_of_lookup h2)
 ·have hy : scope.names.lookup y = some .cell ∨ scope.names.lookup y = some .free := hy
  rcases hy with hy | hy
  ·exact cell_has hy
  ·exact absurd rfl (S.nofree _ (PySem.mem_of_lookup hy))
 ·exact Nat.le_of_lt (x.above y c (PySem.mem_of_lookup h))
 ·have hi : i < vs.length := by
   unfold start at h2
   by_cases hi : i < vs.length
   ·exact hi
   ·rw [List.getElem?_append_right (by simpa using hi)] at h2
    rw [List.getElem?_replicate] at h2
    split at h2 <;> cases h2
  have ha : vs[i]? = some v := by
   unfold start at h2
   rw [List.getElem?_append_left (by simpa using hi), List.getElem?_map] at h2
   cases e : vs[i]? with
   | none => rw [e] at h2; cases h2
   | some a => rw [e] at h2; cases h2; rfl
  obtain ⟨u, hu, rv⟩ := r.get ha
  have hp : ps[i]? = some y := by
   rw [← S.pre, List.getElem?_take_of_lt (by omega)]; exact h1
  have ndP : ps.Nodup := by rw [← S.pre]; exact S.nd.sublist (List.take_sublist _ _)
  refine ⟨u, rv, ?_⟩
  rcases S.par y (List.mem_of_getElem? hp) with k | k
  ·exact .inl ⟨k, bindL_get ndP hp hu k⟩
  ·obtain ⟨c, e⟩ := cell_has (n := s.heap.objs.size + 1) k
   refine .inr ⟨.inl k, c, e, ?_⟩
   have q := x.cell y c e
   rw [bindC_get ndP hp hu (by show scope.names.lookup y ≠ _; rw [k]; decide)] at q
   exact q
 ·exact e0.hok.fresh (Nat.le_of_lt (x.above y c (PySem.mem_of_lookup h)))
 ·unfold start
  show _ = N.length
  rw [List.length_append, List.length_map, List.length_replicate]
  omega
theorem fn_of {CX : CXT} {P : Program} {w : World} {K : PySem.W.Frag} {mg : Str → Option Value} {base : Heap} {k : Nat} {f : Addr} {name qual : Str} {params : Arguments} {body : List Stmt} {scope : Scope} {dV kV doc pm cdv ct oc : Value} {an od : Option Addr}
  {osl : Array (Option Value)} {N ps : List Str} {sp : Sp} (lk : K.lookup f = some ⟨oc, od, .func (PySem.W.fnOf name qual params body scope dV kV doc pm an cdv ct), osl⟩) (hcd : PySem.W.codeIn K cdv qual = true) (S : FnScope N ps scope)
  (len : ∀ vs H Q E, sp vs H Q E → vs.length = ps.length)
  (hbody : ∀ (A : Around) (outer : List Env) (s : Shared) (H : Hp) (vs : List V) (Q : VK) (E : XK), Room k (A.deeper (envOfC qual scope s.heap.objs.size f cdv)) → sp vs H Q E →
   ∃ t, PSs (cxOf CX P w K mg base N qual scope f cdv A outer s H E) body t ∧ t { nx := fun _ H' => Q .non H', rt := Q } (start N vs) H) :
  FnOk P w K mg base CX (k + 1) f (PySem.W.fnOf name qual params body scope dV kV doc pm an cdv ct) ps sp := by
 refine ⟨len, fun A outer s H args us vs Q E hr e0 hb r hsp => ?_⟩
 have hl := len _ _ _ _ hsp
 have KX : K.In s.heap := e0.mod.kin.keeps fun b o e => (e0.bs b o e).1
 have lim : s.heap.NoLimit := e0.mod.nolimit.keeps fun b o e => (e0.bs b o e).1
 have hkind : ∀ y ∈ ps.zip us, scope.names.lookup y.1 = some .local ∨ (scope.names.lookup y.1 = some .cell ∧ ((cellsFrom (s.heap.objs.size + 1) scope.names []).lookup y.1).isSome = true) := fun ⟨n, v⟩ hy => by
  rcases S.par n (List.of_mem_zip hy).1 with q | q
  ·exact .inl q
  ·exact .inr ⟨q, PySem.W.cellsFrom_some _ _ _ (.inl q)⟩
 refine codeAny_call_function hr.depth (KX _ _ lk) rfl S.co S.gen rfl (PySem.W.codeRec_of KX hcd) (hb _ _ _ _ ?_)
 refine wpAny_newFunctionEnv_cells S.kind hkind fun env he s1 x => ?_
 subst he
 refine ⟨lim.keeps x.toInCall.keep, codeAny_func ?_⟩
 obtain ⟨t, ht, hq⟩ := hbody A outer s H vs Q E (hr.deeper _) hsp
 have I : Inv (cxOf CX P w K mg base N qual scope f cdv A outer s H E) [] (start N vs) H s1 := inv_start S hr.hd e0 hl r x
 refine wpAny_mono (ht [] s1 (start N vs) H _ I hq) (fun fl s' hs => ?_) fun e s' hs => hs
 have fin : ∀ {σ' : St} {H' : Hp} {v : V} {u : Value}, Inv (cxOf CX P w K mg base N qual scope f cdv A outer s H E) [] σ' H' s' → RelV v u → Q v H' → CE outer P w H s Q u s' :=
  fun {σ' H' v u} J rv q => ⟨v, H', J.os, J.bare, J.base, J.hok, rv, q⟩
 cases fl with
 | ret u =>
  obtain ⟨v, σ', H', J, rv, q⟩ := hs
  exact fin J rv q
 | next =>
  obtain ⟨σ', H', J, q⟩ := hs
  exact fin (v := V.non) (u := Value.none) J rfl q
 | brk =>
  obtain ⟨_, _, _, q⟩ := hs
  exact False.elim q
 | cont =>
  obtain ⟨_, _, _, q⟩ := hs
  exact False.elim q
section
variable {X : Cx} {x : Str} {p pos : Pos} {e : Expr} {es : List Expr} {t : TA} {id T : String} {r : List V → Hp → VK → Prop}
noncomputable def tCB (r : List V → Hp → VK → Prop) (t : TA) : TE := fun σ H Q => t σ H fun vs H1 => r vs H1 Q
theorem pe_callB (hc : CallR X (.builtin id) r) (hg : Gl X x) (hm : X.mg x = none) (hv : bootBuiltins x = some (.builtin id)) (ha : PA X (e :: es) t) (hn : x ≠ "__name__" := by decide) (hdb : (x == ("__debug__" : Str)) = false := by decide)
  (he : starEach (e :: es) X.env = (false, eval e X.env) :: starEach es X.env := by rfl) (hpl : (backTo pos (starEach es X.env)).any (·.1) = false := by rfl) : PE X (.Call (.Name x p) (e :: es) [] pos) (tCB r t) := by
 intro pins s σ H Q I h
 refine wpAny_Call_Name_kw (ld_blt I hg hm hv ?_ hn hdb)
 exact PyProof.Rows.callWith_builtin1 (thn (ha pos pins s σ H _ I h) fun us s1 ⟨vs, H1, I1, r1, q1⟩ => hc pins s1 σ H1 vs us Q I1 r1 q1) he hpl
theorem pe_callTy (hc : CallR X (.type T) r) (hg : Gl X x) (hm : X.mg x = none) (hv : bootBuiltins x = some (.type T)) (ha : PA X (e :: es) t) (hn : x ≠ "__name__" := by decide) (hdb : (x == ("__debug__" : Str)) = false := by decide)
  (he : starEach (e :: es) X.env = (false, eval e X.env) :: starEach es X.env := by rfl) (hpl : (backTo pos (starEach es X.env)).any (·.1) = false := by rfl) : PE X (.Call (.Name x p) (e :: es) [] pos) (tCB r t) := by
 intro pins s σ H Q I h
 refine wpAny_Call_Name_kw (ld_blt I hg hm hv ?_ hn hdb)
 exact PyProof.Rows.callWith_type1 (thn (ha pos pins s σ H _ I h) fun us s1 ⟨vs, H1, I1, r1, q1⟩ => hc pins s1 σ H1 vs us Q I1 r1 q1) he hpl
end
end L2
namespace HT
open PySem PyProof.Rows
section
open PySem.SeqAt
open PySem.AutoSeq1 (wpAny_loadPart')
open PySem.MeetsSeq PySem.MeetsSeq2 PySem.MeetsSeq3
end
section
variable {prog : Program} {w : World} {A : Around} {E : Value → Shared → Prop} {s : Shared}
theorem cat_tup {t b : Addr} {vs ws : List Value} {Q : Value → Shared → Prop} (ht : IsTup s.heap t vs.toArray) (hb : IsTup s.heap b ws.toArray) (hv : vs ≠ [])
  (h1 : ws = [] → Q (.ref t) s) (h2 : ws ≠ [] → Q (.ref s.heap.objs.size) { s with heap := s.heap.push { cls := .type "tuple", data := .seq (vs ++ ws).toArray } })
  (hsz : vs.length + ws.length ≤ sizeLine) : wpAny (model prog w) A (binaryOp .Add (.ref t) (.ref b)) Q E s := by
 obtain ⟨⟨cls, dd, data, sl⟩, ho, hc, n, hd⟩ := id ht
 obtain ⟨⟨cls2, dd2, data2, sl2⟩, ho2, hc2, n2, hd2⟩ := id hb
 simp only at hc hd hc2 hd2
 subst hc hd hc2 hd2
 have e : vs.toArray ++ ws.toArray = (vs ++ ws).toArray := by simp
 by_cases hw : ws = []
 ·exact concat_meets ⟨_, ho, rfl⟩ ⟨_, ho2, rfl⟩ noFill_tuple_add seq_tuple_add PySem.F.slot_tuple_add PySem.F.entry_tuple_add (PySem.F.args_tuple_add_2 _ _)
   (tuple_addW1 t b vs.toArray ws.toArray n n2 dd dd2 sl sl2 (by simpa using hv) (by simp [hw])) ⟨ho, ho2, h1 hw⟩
 ·refine concat_meets ⟨_, ho, rfl⟩ ⟨_, ho2, rfl⟩ noFill_tuple_add seq_tuple_add PySem.F.slot_tuple_add PySem.F.entry_tuple_add (PySem.F.args_tuple_add_2 _ _)
   (tuple_addW2 t b vs.toArray ws.toArray n n2 dd dd2 sl sl2 (by simpa using hv) (by simpa using hw) (by rw [List.size_toArray, List.size_toArray]; exact hsz)) ⟨ho, ho2, ?_⟩
  rw [e]
  exact h2 hw
noncomputable def sIx (n d : Nat) : Option Int → Nat
 | none => d
 | some v => if v < 0 then (v + (n : Int)).toNat else min v.toNat n
theorem sIx_nat (n d k : Nat) : sIx n d (some (k : Int)) = min k n := by
 show (if (k : Int) < 0 then ((k : Int) + (n : Int)).toNat else min (k : Int).toNat n) = min k n
 rw [if_neg (by omega), Int.toNat_natCast]
theorem sIx_le (n d : Nat) (hd : d ≤ n) (o : Option Int) : sIx n d o ≤ n := by
 cases o with
 | none => exact hd
 | some v =>
  show (if v < 0 then (v + (n : Int)).toNat else min v.toNat n) ≤ n
  by_cases hv : v < 0
  ·rw [if_pos hv]; omega
  ·rw [if_neg hv]; exact Nat.min_le_right _ _
theorem clip_eq (v : Int) (n d : Nat) : (if v < 0 then max (v + (n : Int)) 0 else min v (n : Int)) = ((sIx n d (some v) : Nat) : Int) := by
 show (if v < 0 then max (v + (n : Int)) 0 else min v (n : Int)) = (((if v < 0 then (v + (n : Int)).toNat else min v.toNat n) : Nat) : Int)
 by_cases hv : v < 0
 ·simp only [if_pos hv]; omega
 ·simp only [if_neg hv]; omega
theorem adjust_gen (lo hi : Option Int) (n : Nat) : Builtin.Slice.sliceAdjust lo hi 1 (n : Int) = (((sIx n 0 lo : Nat) : Int), ((sIx n n hi : Nat) : Int)) := by
 have h1 : ¬ ((1 : Int) < 0) := by omega
 unfold Builtin.Slice.sliceAdjust
 simp only [h1, if_false]
 refine Prod.ext ?_ ?_
 ·cases lo with
  | none => rfl
  | some v => exact clip_eq v n 0
 ·cases hi with
  | none => rfl
  | some v => exact clip_eq v n n
theorem places_gen (i j : Nat) : Builtin.Slice.slicePlaces (i : Int) (j : Int) 1 = j - i := by
 unfold Builtin.Slice.slicePlaces
 have h1 : (1 : Int) > 0 := by omega
 simp only [h1, if_true, Int.ediv_one]
 split <;> omega
theorem slicePart_ {v : Value} {o : Option Int} {Q : Option Int → Shared → Prop} (p : IsPart v o) (h : Q o s) : wpAny (model prog w) A (Builtin.Slice.slicePartIndex v) Q E s := by
 cases p with
 | none => exact slicePart_none h
 | int i t => exact slicePart_int h
theorem sliceApplied_gen {sl : Addr} {vl vu : Value} {lo hi : Option Int} {n : Nat} {Q : Int × Int × Nat → Shared → Prop} (hs : s.heap.IsSliceOf sl vl vu .none) (pl : IsPart vl lo) (pu : IsPart vu hi)
    (h : Q (((sIx n 0 lo : Nat) : Int), 1, sIx n n hi - sIx n 0 lo) s) : wpAny (model prog w) A (Builtin.Slice.sliceApplied (.ref sl) (pure (n : Int))) Q E s := by
  obtain ⟨os, hos, hcs, hds⟩ := id hs
  unfold Builtin.Slice.sliceApplied Builtin.Slice.sliceFields
  refine wpAny_bind (wpAny_bind (wpAny_field hos hds (x := vl) rfl (wpAny_bind (wpAny_field hos hds (x := vu) rfl (wpAny_bind (wpAny_field hos hds (x := .none) rfl (wpAny_pure ?_)))))))
  refine wpAny_bind (slicePart_none ?_)
  show wpAny _ _ (if ((1 : Int) == 0) = true then _ else _) _ _ s
  rw [if_neg (by decide)]
  refine wpAny_bind (slicePart_ pl (wpAny_bind (slicePart_ pu (wpAny_bind (wpAny_pure ?_)))))
  show wpAny _ _ (match Builtin.Slice.sliceAdjust lo hi 1 (n : Int) with | (lo, hi) => pure (lo, (1 : Int), Builtin.Slice.slicePlaces lo hi 1)) _ _ s
  rw [adjust_gen lo hi n]
  show wpAny _ _ (pure (((sIx n 0 lo : Nat) : Int), (1 : Int), Builtin.Slice.slicePlaces ((sIx n 0 lo : Nat) : Int) ((sIx n n hi : Nat) : Int) 1)) _ _ s
  rw [places_gen]
  exact wpAny_pure h
theorem pick_gen (xs : Array Value) (i k : Nat) : ((List.range k).filterMap fun (m : Nat) => xs[((i : Int) + (m : Int) * 1).toNat]?).toArray = ((xs.toList.drop i).take k).toArray := by
 have e : (fun (m : Nat) => xs[((i : Int) + (m : Int) * 1).toNat]?) = fun m => xs[i + m]? := by
  funext m
  have : ((i : Int) + (m : Int) * 1).toNat = i + m := by omega
  rw [this]
 rw [e]
 have := pick_run xs i k
 rw [List.filterMap_map] at this
 have e2 : ((fun x => xs[x]?) ∘ fun x => i + x) = fun m => xs[i + m]? := rfl
 rw [e2] at this
 rw [this]
theorem getItem_tuple_cut {t sl : Addr} {items : Array Value} {vl vu : Value} {lo hi : Option Int} {Q : Value → Shared → Prop} (ht : IsTup s.heap t items) (hs : s.heap.IsSliceOf sl vl vu .none) (pl : IsPart vl lo) (pu : IsPart vu hi)
  (hw : ¬ (sIx items.size 0 lo = 0 ∧ sIx items.size items.size hi = items.size))
  (h : Q (.ref s.heap.objs.size) { s with heap := s.heap.push { cls := .type "tuple", data := .seq ((items.toList.drop (sIx items.size 0 lo)).take (sIx items.size items.size hi - sIx items.size 0 lo)).toArray } })
  (hsz : items.size ≤ sizeLine) : wpAny (model prog w) A (getItem (.ref t) (.ref sl)) Q E s := by
 have htake : sizeOk (.seq ((items.toList.drop (sIx items.size 0 lo)).take (sIx items.size items.size hi - sIx items.size 0 lo)).toArray) := by
  show ((items.toList.drop (sIx items.size 0 lo)).take (sIx items.size items.size hi - sIx items.size 0 lo)).toArray.size ≤ sizeLine
  rw [List.size_toArray, List.length_take, List.length_drop, Array.length_toList]
  omega
 have hj : sIx items.size items.size hi ≤ items.size := sIx_le _ _ (Nat.le_refl _) hi
 obtain ⟨os, hos, hcs, hds⟩ := id hs
 have hTs : s.TypeIs (.ref sl) "slice" := ⟨os, hos, hcs⟩
 unfold getItem
 try with_reducible refine wpAny_holding ?_
 first | refine wpAny_bind (wpAny_pure ?_) | skip
 refine wpAny_bind (wpAny_sequenceKey ht.typeIs (by decide) ?_)
 refine wpAny_bind (wpAny_callSpecial?_slot (name := Str.ofString "__getitem__") ht.typeIs PyProof.Rows.slot_tuple_getitem
  (wpAny_call_entry PyProof.Rows.slot_tuple_getitem ht.typeIs entry_tuple_getitem ?_ (args_tuple_getitem _ _)))
 show wpAny _ _ (Builtin.Tuple.tupleItemsOf (.ref t) >>= _) _ _ s
 refine wpAny_bind (tupleItemsOf_ ht ?_)
 refine wpAny_bind (wpAny_typeOf hTs ?_)
 rw [if_pos (by decide)]
 refine wpAny_bind (sliceApplied_gen hs pl pu ?_)
 have hno : ¬ ((((sIx items.size 0 lo : Nat) : Int) == 0 && (1 : Int) == 1 && (sIx items.size items.size hi - sIx items.size 0 lo) == items.size) = true) := by
  intro q
  rw [Bool.and_eq_true, Bool.and_eq_true] at q
  have q1 : ((sIx items.size 0 lo : Nat) : Int) = 0 := eq_of_beq q.1.1
  have q2 : sIx items.size items.size hi - sIx items.size 0 lo = items.size := eq_of_beq q.2
  exact hw ⟨by omega, by omega⟩
 show wpAny _ _ (if (((sIx items.size 0 lo : Nat) : Int) == 0 && (1 : Int) == 1 && (sIx items.size items.size hi - sIx items.size 0 lo) == items.size) = true then _ else _) _ _ s
 rw [if_neg hno, pick_gen]
 first
  | exact wpAny_bind (m := Builtin.Tuple.tupleExact _) (wpAny_newObj_type (wpAny_pure ⟨_, rfl, wpAny_pure h⟩) htake)
  | exact wpAny_bind (m := Builtin.Tuple.tupleExact _) (wpAny_newObj_type (wpAny_bind (wpAny_pure (wpAny_pure ⟨_, rfl, wpAny_pure h⟩))) htake)
  | exact wpAny_bind (wpAny_bind (m := Builtin.Tuple.tupleExact _) (wpAny_newObj_type (wpAny_pure (wpAny_pure ⟨_, rfl, wpAny_pure h⟩)) htake))
  | exact wpAny_bind (wpAny_bind (m := Builtin.Tuple.tupleExact _) (wpAny_newObj_type (wpAny_pure ⟨_, rfl, wpAny_pure h⟩) htake))
end
end HT
namespace L2
open PySem PySem.Spec PyProof.Rows
noncomputable abbrev TO := St → Hp → (Option Int → Hp → Prop) → Prop
noncomputable def PO (X : Cx) (e : Option Expr) (t : TO) : Prop :=
 ∀ (pins : List (Addr × Obj)) (s : Shared) (σ : St) (H : Hp) (Q : Option Int → Hp → Prop), Inv X pins σ H s → t σ H Q →
  wpAny (model X.prog X.w) X.A (evalPart e X.env) (fun u s' => ∃ o H', Inv X pins σ H' s' ∧ IsPart u o ∧ Q o H') X.xe s
noncomputable def tNoPart : TO := fun _ H Q => Q none H
noncomputable def tPart (t : TE) : TO := fun σ H Q => t σ H fun x H1 => ∃ i, x = .int i ∧ Q (some i) H1
section
variable {X : Cx} {e : Expr} {te : TE} {lo hi : Option Expr} {tl th : TO} {pos p2 : Pos}
theorem po_none : PO X none tNoPart := by
 intro pins s σ H Q I h
 rw [evalPart_none]
 exact wpAny_pure ⟨none, H, I, .none, h⟩
theorem po_some (h : PE X e te) : PO X (some e) (tPart te) := by
 intro pins s σ H Q I hw
 rw [evalPart_some]
 refine thn (h pins s σ H _ I hw) fun u s1 ⟨x, H1, I1, r1, q1⟩ => ?_
 obtain ⟨i, rfl, q⟩ := q1
 obtain ⟨t, rfl⟩ := r1
 exact ⟨some i, H1, I1, .int i t, q⟩
noncomputable def SlR (X : Cx) (r : V → Option Int → Option Int → Hp → VK → Prop) : Prop :=
 ∀ (pins : List (Addr × Obj)) (s : Shared) (σ : St) (H : Hp) (x : V) (v vl vu : Value) (lo hi : Option Int) (sl : Addr) (Q : VK), Inv X pins σ H s → RelV x v → s.heap.IsSliceOf sl vl vu .none → IsPart vl lo → IsPart vu hi → r x lo hi H Q →
  ∃ T id, typeLookup (.type T) "__getitem__" = pure (some (.builtin id)) ∧ s.TypeIs v T ∧ wpAny (model X.prog X.w) X.A (getItem v (.ref sl)) (EP X pins σ Q) X.xe s
noncomputable def tSl (r : V → Option Int → Option Int → Hp → VK → Prop) (te : TE) (tl th : TO) : TE := fun σ H Q => te σ H fun x H1 => tl σ H1 fun l H2 => th σ H2 fun u H3 => r x l u H3 Q
theorem pe_slice {r : V → Option Int → Option Int → Hp → VK → Prop} (hr : SlR X r) (he : PE X e te) (hl : PO X lo tl) (hu : PO X hi th) : PE X (.Subscript e (.Slice lo hi none p2) pos) (tSl r te tl th) := by
 intro pins s σ H Q I h
 refine Subscript_ (thn (he pins s σ H _ I h) fun v s1 ⟨x, H1, I1, r1, q1⟩ => ?_)
 refine wpAny_Slice (thn (hl pins s1 σ H1 _ I1 q1) fun vl s2 ⟨l, H2, I2, pl, q2⟩ => thn (hu pins s2 σ H2 _ I2 q2) fun vu s3 ⟨u, H3, I3, pu, q3⟩ => ?_)
 rw [evalPart_none]
 refine wpAny_pure ?_
 have I4 : Inv X pins σ H3 { s3 with heap := s3.heap.push { cls := .type "slice", data := .fields #[vl, vu, .none] } } := I3.kept (t' := s3.toks) fun b ob q => Heap.get?_push_of_some _ q
 obtain ⟨T, id, hT, ht, hg⟩ := hr pins { s3 with heap := s3.heap.push { cls := .type "slice", data := .fields #[vl, vu, .none] } } σ H3 x v vl vu l u s3.heap.objs.size Q I4 r1 (Heap.IsSliceOf.new ..) pl pu q3
 show wpAny (model X.prog X.w) X.A (subscriptTail e (.Slice lo hi none p2) v (.ref s3.heap.objs.size)) (EP X pins σ Q) X.xe { s3 with heap := s3.heap.push { cls := .type "slice", data := .fields #[vl, vu, .none] } }
 exact tail_any (ops := [.ref s3.heap.objs.size, v]) ht hT hg (by with_unfolding_all rfl)
noncomputable def cutV (xs : List V) (lo hi : Option Int) : List V := (xs.drop (HT.sIx xs.length 0 lo)).take (HT.sIx xs.length xs.length hi - HT.sIx xs.length 0 lo)
theorem cutV_length (xs : List V) (lo hi : Option Int) : (cutV xs lo hi).length ≤ xs.length := by
 unfold cutV
 rw [List.length_take, List.length_drop]
 omega
noncomputable def rSlT (K : PySem.W.Frag) : V → Option Int → Option Int → Hp → VK → Prop := fun x lo hi H Q => ∃ a xs, x = .ref a ∧ SqT K H a xs ∧
 ¬ (HT.sIx xs.length 0 lo = 0 ∧ HT.sIx xs.length xs.length hi = xs.length) ∧ ∀ p, H p = none → Q (.ref p) (upd H p (.tup (cutV xs lo hi)))
theorem sl_tup : SlR X (rSlT X.K) := by
 intro pins s σ H x v vl vu lo hi sl Q I rx hs pl pu h
 obtain ⟨a, xs, rfl, hx, hw, q⟩ := h
 cases rx
 obtain ⟨its, r, ht, hz⟩ := I.tuple hx
 have hlen : its.toArray.size = xs.length := by rw [List.size_toArray]; exact r.length.symm
 refine ⟨"tuple", _, PyProof.Rows.slot_tuple_getitem.lookup, ht.typeIs, ?_⟩
 refine HT.getItem_tuple_cut ht hs pl pu (by rw [hlen]; exact hw) ?_ (by rw [hlen]; exact hz)
 rw [hlen]
 refine ⟨.ref s.heap.objs.size, _, I.laid (t' := s.toks) (o := .tup (cutV xs lo hi)) (fun b ob q => Heap.get?_push_of_some _ q) (Nat.le_refl _) ?_, rfl, q _ (I.hok.fresh (Nat.le_refl _))⟩
 exact ⟨Nat.le_trans (cutV_length xs lo hi) hz, _, (r.drop (HT.sIx xs.length 0 lo)).take (HT.sIx xs.length xs.length hi - HT.sIx xs.length 0 lo), IsTup.new _ _⟩
noncomputable def rCatT (K : PySem.W.Frag) : R2 := fun x y H Q => ∃ a b xs ys, x = .ref a ∧ y = .ref b ∧ SqT K H a xs ∧ SqT K H b ys ∧ xs ≠ [] ∧ xs.length + ys.length ≤ sizeLine ∧
 (ys = [] → Q (.ref a) H) ∧ (ys ≠ [] → ∀ p, H p = none → Q (.ref p) (upd H p (.tup (xs ++ ys))))
theorem Vals.nil_iff {xs : List V} {us : List Value} (r : Vals xs us) : us = [] ↔ xs = [] := by
 cases r with
 | nil => simp
 | cons _ _ => simp
theorem op_catT : OpR X (binaryOp .Add) (rCatT X.K) := by
 intro pins s σ H x y v u Q I rx ry h
 obtain ⟨a, b, xs, ys, rfl, rfl, ha, hb, hx, hz, q1, q2⟩ := h
 cases rx
 cases ry
 obtain ⟨its, r1, p1, _⟩ := I.tuple ha
 obtain ⟨its2, r2, p2, _⟩ := I.tuple hb
 refine HT.cat_tup p1 p2 (fun z => hx (r1.nil_iff.mp z)) (fun z => ⟨.ref a, H, I, rfl, q1 (r2.nil_iff.mp z)⟩) (fun z => ?_) (by rw [← r1.length, ← r2.length]; exact hz)
 refine ⟨.ref s.heap.objs.size, _, I.laid (t' := s.toks) (o := .tup (xs ++ ys)) (fun b ob q => Heap.get?_push_of_some _ q) (Nat.le_refl _) ?_, rfl, q2 (fun w => z (r2.nil_iff.mpr w)) _ (I.hok.fresh (Nat.le_refl _))⟩
 exact ⟨by rw [List.length_append]; exact hz, _, r1.append r2, IsTup.new _ _⟩
end
noncomputable def ixN (n : Nat) (i : Int) : Option Nat := if 0 ≤ i then (if i < n then some i.toNat else none) else if -(n : Int) ≤ i then some (i + n).toNat else none
noncomputable def atI {α : Type} (xs : List α) (i : Int) : Option α := (ixN xs.length i).bind fun j => xs[j]?
theorem ixN_seq {n : Nat} {i : Int} {j : Nat} (h : ixN n i = some j) : seqIndex? i n = some j ∧ j < n ∧ -(n : Int) ≤ i ∧ i < n := by
 unfold ixN at h
 by_cases h0 : 0 ≤ i
 ·rw [if_pos h0] at h
  by_cases h1 : i < n
  ·rw [if_pos h1] at h
   have e : i.toNat = j := Option.some.inj h
   exact ⟨by rw [seqIndex_of h0 h1, e], by omega, by omega, h1⟩
  ·rw [if_neg h1] at h; cases h
 ·rw [if_neg h0] at h
  by_cases h1 : -(n : Int) ≤ i
  ·rw [if_pos h1] at h
   have e : (i + n).toNat = j := Option.some.inj h
   exact ⟨by rw [seqIndex_neg (by omega) h1, e], by omega, h1, by omega⟩
  ·rw [if_neg h1] at h; cases h
theorem atI_get {α : Type} {xs : List α} {i : Int} {v : α} (h : atI xs i = some v) : ∃ j, seqIndex? i xs.length = some j ∧ xs[j]? = some v ∧ j < xs.length ∧ -(xs.length : Int) ≤ i ∧ i < xs.length := by
 unfold atI at h
 cases e : ixN xs.length i with
 | none => rw [e] at h; cases h
 | some j =>
  rw [e] at h
  obtain ⟨h1, h2, h3, h4⟩ := ixN_seq e
  exact ⟨j, h1, h, h2, h3, h4⟩
theorem atI_nat {α : Type} {xs : List α} {j : Nat} {v : α} (h : xs[j]? = some v) : atI xs (j : Int) = some v := by
 have hj : j < xs.length := (List.getElem?_eq_some_iff.mp h).1
 have e : ixN xs.length (j : Int) = some j := by
  unfold ixN
  rw [if_pos (by omega), if_pos (by omega)]; simp
 unfold atI; rw [e]; exact h
noncomputable def PlainIx (b : Expr) : Prop := ∀ o i, subscripted b false o i = operate [o, i] (getItem o i)
noncomputable def IxR (X : Cx) (r : R2) : Prop :=
 ∀ (value slice : Expr) (pins : List (Addr × Obj)) (s : Shared) (σ : St) (H : Hp) (x y : V) (v u : Value) (Q : VK), Inv X pins σ H s → RelV x v → RelV y u → r x y H Q →
  subscripted slice false v u = operate [v, u] (getItem v u) → wpAny (model X.prog X.w) X.A (subscriptTail value slice v u) (EP X pins σ Q) X.xe s
noncomputable def MtR (X : Cx) (id : String) (r : V → List V → Hp → VK → Prop) : Prop :=
 ∀ (pins : List (Addr × Obj)) (s : Shared) (σ : St) (H : Hp) (x : V) (xs : List V) (v : Value) (us : List Value) (Q : VK), Inv X pins σ H s → RelV x v → Vals xs us → r x xs H Q →
  wpAny (model X.prog X.w) X.A (call (.builtin id) (v :: us)) (EP X pins σ Q) X.xe s
section
variable {X : Cx} {a b : Expr} {ta tb : TE} {pos : Pos}
theorem pe_ix {r : R2} (hr : IxR X r) (ha : PE X a ta) (hb : PE X b tb) (hs : PlainIx b) : PE X (.Subscript a b pos) (tOp r ta tb) := by
 intro pins s σ H Q I h
 exact Subscript_ (binT ha hb I h fun v u s2 x y H2 I2 rx ry q => hr a b pins s2 σ H2 x y v u Q I2 rx ry q (hs _ _))
noncomputable def rIxL (K : PySem.W.Frag) : R2 := fun x y H Q => ∃ p xs i v, x = .ref p ∧ y = .int i ∧ SqL K H p xs ∧ atI xs i = some v ∧ Q v H
noncomputable def rIxT (K : PySem.W.Frag) : R2 := fun x y H Q => ∃ p xs i v, x = .ref p ∧ y = .int i ∧ SqT K H p xs ∧ atI xs i = some v ∧ Q v H
theorem ix_list : IxR X (rIxL X.K) := by
 intro value slice pins s σ H x y v u Q I rx ry h hs
 obtain ⟨p, xs, i, z, rfl, rfl, hq, he, q⟩ := h
 cases rx
 obtain ⟨t, rfl⟩ := ry
 obtain ⟨its, r, pl, hz⟩ := I.list hq
 obtain ⟨j, h1, h2, h3, h4, h5⟩ := atI_get he
 obtain ⟨w, ew, rw'⟩ := r.get h2
 have hl := r.length
 have hn := line63
 have fin : EP X pins σ Q w s := ⟨z, H, I, rw', q⟩
 by_cases h0 : 0 ≤ i
 ·have hj : i.toNat = j := by
   rw [seqIndex_of h0 h5] at h1
   exact Option.some.inj h1
  exact item_listR pl.isList h0 (by omega) (by rw [hj]; simpa using ew) fin hs
 ·have hj : (i + (its.toArray.size : Int)).toNat = j := by
   rw [seqIndex_neg (by omega) h4] at h1
   rw [List.size_toArray, ← hl]
   exact Option.some.inj h1
  exact subscriptTail_builtinR (x := w) pl.isList.typeIs slot_list_getitem.lookup
   (wpAny_getItem_list_neg (Q := fun r s' => r = w ∧ EP X pins σ Q r s') pl.isList (by omega) (by rw [List.size_toArray] <;> omega) (by omega) (by rw [hj]; simpa using ew) ⟨rfl, fin⟩) hs
theorem ix_tup : IxR X (rIxT X.K) := by
 intro value slice pins s σ H x y v u Q I rx ry h hs
 obtain ⟨p, xs, i, z, rfl, rfl, hq, he, q⟩ := h
 cases rx
 obtain ⟨t, rfl⟩ := ry
 obtain ⟨its, r, pl, hz⟩ := I.tuple hq
 obtain ⟨j, h1, h2, h3, h4, h5⟩ := atI_get he
 obtain ⟨w, ew, rw'⟩ := r.get h2
 have hl := r.length
 have hn := line63
 have fin : EP X pins σ Q w s := ⟨z, H, I, rw', q⟩
 exact subscriptTail_builtinR (x := w) pl.typeIs slot_tuple_getitem.lookup
  (getItem_tuple (j := j) (Q := fun r s' => r = w ∧ EP X pins σ Q r s') pl (by omega) (by omega) (by rw [List.size_toArray, ← hl]; exact h1) (by simpa using ew) ⟨rfl, fin⟩) hs
theorem mapSeq_set (its : List Value) (n j : Nat) (u : Value) : Obj.mapSeq (·.setIfInBounds j u) { cls := .type "list", data := .seq its.toArray n } = { cls := .type "list", data := .seq (its.set j u).toArray n } := by
 simp [Obj.mapSeq]
theorem Inv.lst {pins : List (Addr × Obj)} {σ : St} {H : Hp} {s : Shared} {p : Addr} {xs : List V} (I : Inv X pins σ H s) (h : H p = some (.lst xs)) :
  ∃ (its : List Value) (n : Nat), Vals xs its ∧ s.heap.get? p = some { cls := .type "list", data := .seq its.toArray n } ∧ xs.length ≤ sizeLine := by
 obtain ⟨z, its, n, r, e⟩ := I.hok p _ h
 exact ⟨its, n, r, e, z⟩
theorem Inv.lstUpd {pins : List (Addr × Obj)} {σ : St} {H : Hp} {s : Shared} {p : Addr} {xs ys : List V} {its its' : List Value} {n n' : Nat} {f : Obj → Obj} (I : Inv X pins σ H s) (h : H p = some (.lst xs))
  (ho : s.heap.get? p = some { cls := .type "list", data := .seq its.toArray n }) (hf : f { cls := .type "list", data := .seq its.toArray n } = { cls := .type "list", data := .seq its'.toArray n' }) (r : Vals ys its') (hz : ys.length ≤ sizeLine) (t : Nat) :
  Inv X pins σ (upd H p (.lst ys)) { s with heap := s.heap.update p f, toks := t } := by
 have e : (s.heap.update p f).get? p = some { cls := .type "list", data := .seq its'.toArray n' } := by
  rw [Heap.get?_update_self f ho (by rw [hf] <;> rfl), hf]
 refine I.write (x := p) (e := p) (by rw [h]; trivial) (.inl rfl) (fun b u hb q => (Heap.get?_update_other _ _ (Ne.symm hb)).trans q) ⟨_, e⟩ ?_
 exact ⟨hz, its', n', r, e⟩
noncomputable def rSetL : V → V → V → Hp → (Hp → Prop) → Prop := fun o i v H Q => ∃ p xs k j, o = .ref p ∧ i = .int k ∧ H p = some (.lst xs) ∧ ixN xs.length k = some j ∧ Q (upd H p (.lst (xs.set j v)))
theorem set_list : PSet X rSetL := by
 intro pins s σ H o i v ov iv u Q I ro ri rv h
 obtain ⟨p, xs, k, j, rfl, rfl, hp, hj, q⟩ := h
 cases ro
 obtain ⟨t, rfl⟩ := ri
 obtain ⟨its, n, r, ho, hz⟩ := I.lst hp
 obtain ⟨h1, h2, h3, h4⟩ := ixN_seq hj
 have hl := r.length
 have hn := line63
 have I' : Inv X pins σ (upd H p (.lst (xs.set j v))) { s with heap := s.heap.update p (Obj.mapSeq (·.setIfInBounds j u)) } :=
  I.lstUpd hp ho (mapSeq_set its n j u) (r.set rv j) (by rw [List.length_set]; exact hz) s.toks
 by_cases h0 : 0 ≤ k
 ·have hk : k.toNat = j := by
   rw [seqIndex_of h0 h4] at h1
   exact Option.some.inj h1
  exact PySem.W.ki_setAt ho h0 (by omega) (by rw [List.size_toArray, ← hl]; exact h4) (by rw [hk]; exact ⟨_, I', q⟩)
 ·have hk : (k + (its.toArray.size : Int)).toNat = j := by
   rw [seqIndex_neg (by omega) h3] at h1
   rw [List.size_toArray, ← hl]
   exact Option.some.inj h1
  exact PySem.W.ki_setBack ho (by omega) (by rw [List.size_toArray, ← hl]; exact h3) (by omega) (by rw [hk]; exact ⟨_, I', q⟩)
theorem slice_bounds (lo hi : Option Int) (n : Nat) : (sliceBounds lo hi none n).1 = ((HT.sIx n 0 lo : Nat) : Int) ∧ (sliceBounds lo hi none n).2.1 = ((HT.sIx n n hi : Nat) : Int) ∧ (sliceBounds lo hi none n).2.2 = 1 := by
 refine ⟨?_, ?_, rfl⟩
 ·cases lo with
  | none => simp [sliceBounds, HT.sIx]
  | some i =>
   simp only [sliceBounds, HT.sIx, Option.getD_none, show (1 : Int) > 0 by decide, if_true]
   by_cases h : i < 0
   ·simp only [h, if_true] <;> omega
   ·simp only [h, if_false] <;> omega
 ·cases hi with
  | none => simp [sliceBounds, HT.sIx]
  | some i =>
   simp only [sliceBounds, HT.sIx, Option.getD_none, show (1 : Int) > 0 by decide, if_true]
   by_cases h : i < 0
   ·simp only [h, if_true] <;> omega
   ·simp only [h, if_false] <;> omega
theorem slicePick_cut (its : List Value) (lo hi : Option Int) : slicePick its.toArray lo hi none = ((its.drop (HT.sIx its.length 0 lo)).take (HT.sIx its.length its.length hi - HT.sIx its.length 0 lo)).toArray := by
 obtain ⟨h1, h2, h3⟩ := slice_bounds lo hi its.toArray.size
 unfold slicePick
 rw [h1, h2, h3]
 simp only [sliceRange_one, pick_run, List.size_toArray] <;> rfl
noncomputable def rSlL (K : PySem.W.Frag) : V → Option Int → Option Int → Hp → VK → Prop := fun x lo hi H Q => ∃ a xs, x = .ref a ∧ SqL K H a xs ∧ ∀ p, H p = none → Q (.ref p) (upd H p (.lst (cutV xs lo hi)))
theorem sl_list : SlR X (rSlL X.K) := by
 intro pins s σ H x v vl vu lo hi sl Q I rx hs pl pu h
 obtain ⟨a, xs, rfl, hx, q⟩ := h
 cases rx
 obtain ⟨its, r, ht, hz⟩ := I.list hx
 have hlen := r.length
 refine ⟨"list", _, slot_list_getitem.lookup, ht.isList.typeIs, ?_⟩
 refine wpAny_getItem_list_slice ht.isList hs pl pu .none (by simp) ?_ (by rw [List.size_toArray] <;> omega)
 rw [slicePick_cut, ← hlen]
 refine ⟨.ref s.heap.objs.size, _, I.laid (t' := s.toks) (o := .lst (cutV xs lo hi)) (fun b ob q => Heap.get?_push_of_some _ q) (Nat.le_refl _) ?_, rfl, q _ (I.hok.fresh (Nat.le_refl _))⟩
 exact ⟨Nat.le_trans (cutV_length xs lo hi) hz, _, 0, (r.drop (HT.sIx xs.length 0 lo)).take (HT.sIx xs.length xs.length hi - HT.sIx xs.length 0 lo), Heap.get?_push_size _ rfl⟩
noncomputable def flatV : V → Bool
 | .non => true
 | .bl _ => true
 | .int _ => true
 | .str _ => true
 | _ => false
noncomputable def eqV : V → V → Bool
 | .non, .non => true
 | .bl a, .bl b => a == b
 | .bl a, .int b => (if a then 1 else 0) == b
 | .int a, .bl b => a == (if b then 1 else 0)
 | .int a, .int b => a == b
 | .str a, .str b => a == b
 | _, _ => false
theorem eqAt_V {A : Around} {s : Shared} {y x : V} {u v : Value} (ry : RelV y u) (rx : RelV x v) (fy : flatV y = true) (fx : flatV x = true) : SeqAt.EqAt A s u v (eqV y x) := by
 cases y with
 | non =>
  cases ry
  cases x with
  | non => cases rx; exact SeqAt.EqAt.same _
  | bl b => cases rx; exact SeqAt.EqAt.none_bool b
  | int b => obtain ⟨t, rfl⟩ := rx; exact SeqAt.EqAt.none_int b t
  | str b => obtain ⟨t, rfl⟩ := rx; exact SeqAt.EqAt.none_str b t
  | _ => exact absurd (show false = true from fx) Bool.false_ne_true
 | bl a =>
  cases ry
  cases x with
  | non => cases rx; exact SeqAt.EqAt.bool_none a
  | bl b => cases rx; exact SeqAt.EqAt.bool_bool a b
  | int b => obtain ⟨t, rfl⟩ := rx; exact SeqAt.EqAt.bool_int a b t
  | str b => obtain ⟨t, rfl⟩ := rx; exact SeqAt.EqAt.bool_str a b t
  | _ => exact absurd (show false = true from fx) Bool.false_ne_true
 | int a =>
  obtain ⟨t', rfl⟩ := ry
  cases x with
  | non => cases rx; exact SeqAt.EqAt.int_none a t'
  | bl b => cases rx; exact SeqAt.EqAt.int_bool a t' b
  | int b => obtain ⟨t, rfl⟩ := rx; exact SeqAt.EqAt.int_int a t' b t
  | str b => obtain ⟨t, rfl⟩ := rx; exact SeqAt.EqAt.int_str a t' b t
  | _ => exact absurd (show false = true from fx) Bool.false_ne_true
 | str a =>
  obtain ⟨t', rfl⟩ := ry
  cases x with
  | non => cases rx; exact SeqAt.EqAt.str_none a t'
  | bl b => cases rx; exact SeqAt.EqAt.str_bool a t' b
  | int b => obtain ⟨t, rfl⟩ := rx; exact SeqAt.EqAt.str_int a t' b t
  | str b => obtain ⟨t, rfl⟩ := rx; exact SeqAt.EqAt.str_str a t' b t
  | _ => exact absurd (show false = true from fx) Bool.false_ne_true
 | _ => exact absurd (show false = true from fy) Bool.false_ne_true
noncomputable def eqU (x : V) (u : Value) : Bool := match u with
 | .none => eqV .non x
 | .bool b => eqV (.bl b) x
 | .int i _ => eqV (.int i) x
 | .str z _ => eqV (.str z) x
 | _ => false
theorem eqU_of {x y : V} {u : Value} (r : RelV y u) (f : flatV y = true) : eqU x u = eqV y x := by
 cases y with
 | non => cases r; rfl
 | bl b => cases r; rfl
 | int i => obtain ⟨t, rfl⟩ := r; rfl
 | str z => obtain ⟨t, rfl⟩ := r; rfl
 | _ => exact absurd (show false = true from f) Bool.false_ne_true
theorem any_eqU {x : V} : ∀ {xs : List V} {us : List Value}, Vals xs us → xs.all flatV = true → us.any (eqU x) = xs.any fun y => eqV y x
 | _, _, .nil, _ => rfl
 | y :: xs, u :: us, .cons r t, f => by
  rw [List.all_cons, Bool.and_eq_true] at f
  rw [List.any_cons, List.any_cons, eqU_of r f.1, any_eqU t f.2]
theorem mem_eqAt {A : Around} {s : Shared} {x : V} {v : Value} (rx : RelV x v) (fx : flatV x = true) : ∀ {xs : List V} {us : List Value}, Vals xs us → xs.all flatV = true → ∀ u ∈ us, SeqAt.EqAt A s u v (eqU x u)
 | _, _, .nil, _ => fun u hu => by cases hu
 | y :: xs, u :: us, .cons r t, f => fun u' hu => by
  rw [List.all_cons, Bool.and_eq_true] at f
  rcases List.mem_cons.mp hu with rfl | hu
  ·rw [eqU_of r f.1]; exact eqAt_V r rx f.1 fx
  ·exact mem_eqAt rx fx t f.2 u' hu
noncomputable def inV (x : V) (xs : List V) : Bool := xs.any fun y => eqV y x
noncomputable def rIn (K : PySem.W.Frag) (neg : Bool) : R2 := fun x y H Q => ∃ p xs, y = .ref p ∧ (SqL K H p xs ∨ SqT K H p xs) ∧ flatV x = true ∧ xs.all flatV = true ∧ Q (.bl (if neg then !inV x xs else inV x xs)) H
theorem op_in_seq : OpR X (compareOp .In) (rIn X.K false) := by
 intro pins s σ H x y v u Q I rx ry h
 obtain ⟨p, xs, rfl, hq, fx, fs, q⟩ := h
 cases ry
 rcases hq with hq | hq
 ·obtain ⟨its, r, pl, hz⟩ := I.list hq
  refine SeqAt.in_listAt (eqU x) pl.isList (fun w hw => mem_eqAt rx fx r fs w (by simpa using hw)) ⟨.bl _, H, I, rfl, ?_⟩
  rw [show its.toArray.any (eqU x) = its.any (eqU x) by simp, any_eqU r fs]
  exact q
 ·obtain ⟨its, r, pl, hz⟩ := I.tuple hq
  refine SeqAt.in_tupleAt (eqU x) pl (fun w hw => mem_eqAt rx fx r fs w (by simpa using hw)) ⟨.bl _, H, I, rfl, ?_⟩
  rw [show its.toArray.any (eqU x) = its.any (eqU x) by simp, any_eqU r fs]
  exact q
theorem op_notIn_seq : OpR X (compareOp .NotIn) (rIn X.K true) := by
 intro pins s σ H x y v u Q I rx ry h
 obtain ⟨p, xs, rfl, hq, fx, fs, q⟩ := h
 cases ry
 rcases hq with hq | hq
 ·obtain ⟨its, r, pl, hz⟩ := I.list hq
  refine SeqAt.notIn_listAt (eqU x) pl.isList (fun w hw => mem_eqAt rx fx r fs w (by simpa using hw)) ⟨.bl _, H, I, rfl, ?_⟩
  rw [show its.toArray.any (eqU x) = its.any (eqU x) by simp, any_eqU r fs]
  exact q
 ·obtain ⟨its, r, pl, hz⟩ := I.tuple hq
  refine SeqAt.notIn_tupleAt (eqU x) pl (fun w hw => mem_eqAt rx fx r fs w (by simpa using hw)) ⟨.bl _, H, I, rfl, ?_⟩
  rw [show its.toArray.any (eqU x) = its.any (eqU x) by simp, any_eqU r fs]
  exact q
theorem call_len_seq : CallR X (.builtin "len") (fun xs H Q => ∃ p ys, xs = [.ref p] ∧ (SqL X.K H p ys ∨ SqT X.K H p ys) ∧ Q (.int ys.length) H) := by
 intro pins s σ H xs us Q I r h
 obtain ⟨p, ys, rfl, hq, q⟩ := h
 obtain ⟨u, rfl, rx⟩ := vals1 r
 cases rx
 have hn := line63
 rcases hq with hq | hq
 ·obtain ⟨its, r', pl, hz⟩ := I.list hq
  have hlen := r'.length
  exact Calls.call_len_list pl.isList (by simp only [List.size_toArray] <;> omega) ⟨.int ys.length, H, I.tok _, ⟨s.toks + 1, by rw [List.size_toArray, hlen]⟩, q⟩
 ·obtain ⟨its, r', pl, hz⟩ := I.tuple hq
  have hlen := r'.length
  exact len_tuple pl (by simp only [List.size_toArray] <;> omega) ⟨.int ys.length, H, I.tok _, ⟨s.toks + 1, by rw [List.size_toArray, hlen]⟩, q⟩
theorem call_list_of : CallR X (.type "list") (fun xs H Q => ∃ p ys, xs = [.ref p] ∧ (SqL X.K H p ys ∨ SqT X.K H p ys) ∧ ∀ l, H l = none → Q (.ref l) (upd H l (.lst ys))) := by
 intro pins s σ H xs us Q I r h
 obtain ⟨p, ys, rfl, hq, q⟩ := h
 obtain ⟨u, rfl, rx⟩ := vals1 r
 cases rx
 have fin : ∀ (its : List Value), Vals ys its → ys.length ≤ sizeLine → ∀ (h' : Heap) (c' : Nat), (∀ b o', s.heap.get? b = some o' → h'.get? b = some o') →
   h'.get? s.heap.objs.size = some { cls := .type "list", dict := none, data := .seq its.toArray c', slots := #[] } → EP X pins σ Q (.ref s.heap.objs.size) { s with heap := h' } := fun its r' hz h' c' kp e =>
  ⟨.ref s.heap.objs.size, _, I.laid (t' := s.toks) kp (Nat.le_refl _) (show ObjOk X.prog X.w _ h' _ (.lst ys) from ⟨hz, its, c', r', e⟩), rfl, q _ (I.hok.fresh (Nat.le_refl _))⟩
 rcases hq with hq | hq
 ·obtain ⟨its, r', pl, hz⟩ := I.list hq
  have hlen := r'.length
  obtain ⟨o, ho, hc, n, hd⟩ := pl.isList
  exact call_list_seq p (.inl rfl) ho hc hd (fun h' c' kp e => fin its r' hz h' c' kp e) (by simp only [List.size_toArray] <;> omega)
 ·obtain ⟨its, r', pl, hz⟩ := I.tuple hq
  have hlen := r'.length
  obtain ⟨o, ho, hc, n, hd⟩ := pl
  exact call_list_seq p (.inr rfl) ho hc hd (fun h' c' kp e => fin its r' hz h' c' kp e) (by simp only [List.size_toArray] <;> omega)
theorem call_tuple_of : CallR X (.type "tuple") (fun xs H Q => ∃ p ys, xs = [.ref p] ∧ ((SqL X.K H p ys ∧ ∀ l, H l = none → Q (.ref l) (upd H l (.tup ys))) ∨ (SqT X.K H p ys ∧ Q (.ref p) H))) := by
 intro pins s σ H xs us Q I r h
 obtain ⟨p, ys, rfl, h⟩ := h
 obtain ⟨u, rfl, rx⟩ := vals1 r
 cases rx
 rcases h with ⟨hq, q⟩ | ⟨hq, q⟩
 ·obtain ⟨its, r', pl, hz⟩ := I.list hq
  have hlen := r'.length
  refine call_tuple_list pl.isList (fun h' kp => ?_) (by simp only [List.size_toArray] <;> omega)
  have I1 : Inv X pins σ H { s with heap := h' } := I.kept (t' := s.toks) kp
  have I2 : Inv X pins σ (upd H h'.objs.size (.tup ys)) { s with heap := h'.push { cls := .type "tuple", data := .seq its.toArray } } :=
   I1.laid (t' := s.toks) (fun b o e => Heap.get?_push_of_some _ e) (Nat.le_refl _) (show ObjOk X.prog X.w _ _ _ (.tup ys) from ⟨hz, its, r', IsTup.new _ _⟩)
  exact ⟨.ref h'.objs.size, _, I2, rfl, q _ (I1.hok.fresh (Nat.le_refl _))⟩
 ·obtain ⟨its, r', pl, hz⟩ := I.tuple hq
  exact call_tuple_same pl ⟨.ref p, H, I, rfl, q⟩
noncomputable def tyV (K : PySem.W.Frag) (T : String) (x : V) (H : Hp) : Prop := match x with
 | .str _ => T = "str"
 | .int _ => T = "int"
 | .ref p => (T = "list" ∧ ∃ xs, SqL K H p xs) ∨ (T = "tuple" ∧ ∃ o, K.lookup p = some o ∧ o.cls = .type "tuple" ∧ o.dict = none) ∨
   (T = "dict" ∧ ((∃ kvs, H p = some (.dK kvs)) ∨ ∃ kvs, H p = some (.dT kvs))) ∨ (T = "set" ∧ ∃ S n, H p = some (.set S n))
 | _ => False
theorem tyV_is {pins : List (Addr × Obj)} {σ : St} {H : Hp} {s : Shared} {T : String} {x : V} {v : Value} (I : Inv X pins σ H s) (r : RelV x v) (ty : tyV X.K T x H) :
  s.TypeIs v T ∧ ∀ a, v = .ref a → ∃ ob, s.heap.get? a = some ob ∧ ob.dict = none := by
 cases x with
 | str z =>
  obtain ⟨t, rfl⟩ := r
  cases (show T = "str" from ty)
  exact ⟨typeIs_str s z t, fun _ e => nomatch e⟩
 | int i =>
  obtain ⟨t, rfl⟩ := r
  cases (show T = "int" from ty)
  exact ⟨typeIs_int s i t, fun _ e => nomatch e⟩
 | ref p =>
  cases r
  rcases ty with ⟨rfl, xs, hq⟩ | ⟨rfl, o, hk, hc, hd⟩ | ⟨rfl, hk⟩ | ⟨rfl, S, n, hk⟩
  ·obtain ⟨its, _, pl, _⟩ := I.list hq
   refine ⟨pl.isList.typeIs, fun a e => ?_⟩
   cases e
   obtain ⟨o, n, e, c, hd, _⟩ := pl
   exact ⟨o, e, hd⟩
  ·refine ⟨⟨o, I.kIn p o hk, hc⟩, fun a e => ?_⟩
   cases e
   exact ⟨o, I.kIn _ o hk, hd⟩
  ·have z : ∃ o, s.heap.get? p = some o ∧ o.ExactDict := by
    rcases hk with ⟨kvs, hk⟩ | ⟨kvs, hk⟩
    ·obtain ⟨_, _, _, _, o, _, _, e, ex, _⟩ := I.hok p _ hk
     exact ⟨o, e, ex⟩
    ·obtain ⟨_, _, _, _, o, _, _, e, ex, _⟩ := I.hok p _ hk
     exact ⟨o, e, ex⟩
   obtain ⟨o, e, ex⟩ := z
   refine ⟨⟨o, e, ex.1⟩, fun a e2 => ?_⟩
   cases e2
   exact ⟨o, e, ex.2.1⟩
  ·obtain ⟨o, _, _, _, e, ex, _⟩ := I.hok p _ hk
   refine ⟨⟨o, e, ex.1⟩, fun a e2 => ?_⟩
   cases e2
   exact ⟨o, e, ex.2.1⟩
 | _ => exact False.elim ty
noncomputable def tBM (K : PySem.W.Frag) (T : String) (r : V → List V → Hp → VK → Prop) (to : TE) (t : TA) : TE := fun σ H Q => to σ H fun x H1 => tyV K T x H1 ∧ t σ H1 fun xs H2 => r x xs H2 Q
variable {o e : Expr} {es : List Expr} {to : TE} {t : TA} {name : Str} {apos cpos : Pos} {T id : String} {r : V → List V → Hp → VK → Prop}
theorem pe_bm (pa : PlainAttrs T) (slot : Slot T name id) (hty : typeOf (.builtin id) = pure (.type "method_descriptor")) (hm : MtR X id r) (ho : PE X o to) (ha : PA X (e :: es) t)
    (hbase : attributeBase o name X.env (eval o X.env) = eval o X.env := by rfl)
    (hfew : ((backTo cpos (starEach (e :: es) X.env)).all (fun x => !x.1) && (backToKw cpos (keywordEach [] X.env)).all (fun x => x.1.isSome)
      && decide ((e :: es).length + ([] : List Keyword).length + (if ([] : List Keyword).isEmpty then 0 else 1) < 30)) = true := by rfl)
    (hline : (apos.endLine == cpos.line) = true := by rfl) (hs : starEach (e :: es) X.env = (false, eval e X.env) :: starEach es X.env := by rfl) (hplain : (backTo cpos (starEach es X.env)).any (·.1) = false := by rfl) :
    PE X (.Call (.Attribute o name apos) (e :: es) [] cpos) (tBM X.K T r to t) := by
  intro pins s σ H Q I h
  refine wpAny_Call_method_late hbase hfew hline rfl (thn (ho pins s σ H _ I h) fun v s1 ⟨x, H1, I1, r1, ty, q1⟩ => ?_)
  obtain ⟨h1, h2⟩ := tyV_is I1 r1 ty
  refine ⟨T, id, pa, slot, hty, h1, h2, ?_⟩
  have hA := ha cpos pins s1 σ H1 _ I1 q1
  rw [hs] at hA ⊢
  refine Calls.callWith_builtin (by show (false || (backTo cpos (starEach es X.env)).any (·.1)) = false; rw [hplain] <;> rfl) (Calls.evalArgs_plain ?_)
  exact thn hA fun us s2 ⟨vs, H2, I2, r2, q2⟩ => hm pins s2 σ H2 x vs v us Q I2 r1 r2 q2
end
noncomputable def MtM (X : Cx) (id : String) (r : V → List V → Hp → VK → Prop) : Prop :=
 ∀ (pins : List (Addr × Obj)) (s : Shared) (σ : St) (H : Hp) (x : V) (xs : List V) (v : Value) (us : List Value) (Q : VK), Inv X pins σ H s → RelV x v → Vals xs us → r x xs H Q →
  wpAny (model X.prog X.w) X.A (call (.builtin id) (v :: us)) (EP X pins σ Q) X.xe s
theorem Vals.one : ∀ {x : V} {us : List Value}, Vals [x] us → ∃ u, us = [u] ∧ RelV x u
 | _, _, .cons r .nil => ⟨_, rfl, r⟩
theorem Vals.rep {xs : List V} {us : List Value} (h : Vals xs us) : ∀ k : Nat, Vals (List.replicate k xs).flatten (List.replicate k us).flatten
 | 0 => .nil
 | k + 1 => by
  rw [List.replicate_succ, List.replicate_succ, List.flatten_cons, List.flatten_cons]
  exact Vals.append h (Vals.rep h k)
theorem foldl_rep (its : List Value) : ∀ (k : Nat) (acc : List Value),
  List.foldl (fun x1 x2 => x1 ++ x2) acc.toArray (List.replicate k its.toArray) = (acc ++ (List.replicate k its).flatten).toArray
 | 0, acc => by simp
 | k + 1, acc => by
  have e : acc.toArray ++ its.toArray = (acc ++ its).toArray := by simp
  have e2 : (acc ++ its) ++ (List.replicate k its).flatten = acc ++ (List.replicate (k + 1) its).flatten := by
   rw [List.replicate_succ, List.flatten_cons, List.append_assoc]
  rw [← e2, ← foldl_rep its k (acc ++ its), ← e, List.replicate_succ, List.foldl_cons]
section
variable {X : Cx} {pins : List (Addr × Obj)} {σ : St} {H : Hp} {s : Shared} {l b : Addr} {xs ys zs : List V}
theorem Inv.lset {its its' : List Value} {n : Nat} {f : Array Value → Array Value} {t' : Nat} (I : Inv X pins σ H s) (hH : H l = some (.lst xs))
  (e : s.heap.get? l = some { cls := .type "list", data := .seq its.toArray n }) (hf : f its.toArray = its'.toArray) (hv : Vals ys its') (hz : ys.length ≤ sizeLine) :
  Inv X pins σ (upd H l (.lst ys)) { s with heap := s.heap.update l (Obj.mapSeq f), toks := t' } := by
 have q := PySem.IsL.update e f
 rw [hf] at q
 refine I.write (x := l) (e := l) (by rw [hH]; exact trivial) (.inl rfl) (fun b' u hb hu => (Heap.get?_update_other s.heap (Obj.mapSeq f) (Ne.symm hb)).trans hu) ⟨_, q⟩ ?_
 exact ⟨hz, its', _, hv, q⟩
theorem Inv.lnew {its : List Value} {t' : Nat} (I : Inv X pins σ H s) (hv : Vals ys its) (hz : ys.length ≤ sizeLine) :
  Inv X pins σ (upd H s.heap.objs.size (.lst ys)) { s with heap := s.heap.push { cls := .type "list", data := .seq its.toArray }, toks := t' } :=
 I.laid (fun _ _ q => Heap.get?_push_of_some _ q) (Nat.le_refl _) ⟨hz, its, 0, hv, Heap.get?_push_size _ rfl⟩
theorem Inv.fresh (I : Inv X pins σ H s) : H s.heap.objs.size = none := I.hok.fresh (Nat.le_refl _)
theorem Inv.lstM (I : Inv X pins σ H s) (hH : H l = some (.lst xs)) : xs.length ≤ sizeLine ∧ ∃ (its : List Value) (n : Nat), Vals xs its ∧ xs.length = its.length ∧ s.heap.get? l = some { cls := .type "list", data := .seq its.toArray n } := by
 obtain ⟨z, its, n, r, e⟩ := I.hok l _ hH
 exact ⟨z, its, n, r, r.length, e⟩
theorem notLongL {n : Nat} (h : n ≤ sizeLine) : Builtin.List.listTooLong n = false := by
 unfold Builtin.List.listTooLong
 exact decide_eq_false (by omega)
end
section
variable {X : Cx}
noncomputable def rAppend : V → List V → Hp → VK → Prop := fun x vs H Q => ∃ l xs y, x = .ref l ∧ vs = [y] ∧ H l = some (.lst xs) ∧ xs.length < sizeLine ∧ Q .non (upd H l (.lst (xs ++ [y])))
theorem mt_append : MtM X "list.append" rAppend := by
 intro pins s σ H x vs v us Q I rx rv h
 obtain ⟨l, xs, y, rfl, rfl, hH, hz, q⟩ := h
 cases rx
 obtain ⟨u, rfl, ru⟩ := rv.one
 obtain ⟨z, its, n, r, hl, e⟩ := I.lstM hH
 refine call_meets F.slot_list_append ⟨_, e, rfl⟩ F.entry_list_append (F.args_list_append_2 _ _) (PySem.list_append l its.toArray n u (by rw [List.size_toArray]; omega)) ⟨e, ?_⟩
 refine ⟨.non, _, I.lset (its' := its ++ [u]) hH e (by simp) (r.append (.cons ru .nil)) ?_, rfl, q⟩
 rw [List.length_append, List.length_singleton]
 omega
noncomputable def rCat : R2 := fun x y H Q => ∃ l b xs zs, x = .ref l ∧ y = .ref b ∧ H l = some (.lst xs) ∧ H b = some (.lst zs) ∧ xs.length + zs.length ≤ sizeLine ∧ ∀ p, H p = none → Q (.ref p) (upd H p (.lst (xs ++ zs)))
theorem op_cat : OpR X (binaryOp .Add) rCat := by
 intro pins s σ H x y v u Q I rx ry h
 obtain ⟨l, b, xs, zs, rfl, rfl, hH, hB, hz, q⟩ := h
 cases rx
 cases ry
 obtain ⟨z, its, n, r, hl, e⟩ := I.lstM hH
 obtain ⟨z2, its2, n2, r2, hl2, e2⟩ := I.lstM hB
 refine PySem.P.add_list e e2 ?_ (by rw [List.size_toArray, List.size_toArray]; omega)
 have ea : its.toArray ++ its2.toArray = (its ++ its2).toArray := by simp
 rw [ea]
 exact ⟨.ref _, _, I.lnew (t' := s.toks) (r.append r2) (by rw [List.length_append]; omega), rfl, q _ I.fresh⟩
noncomputable def rRep : R2 := fun x y H Q => ∃ l k xs, x = .ref l ∧ y = .int k ∧ H l = some (.lst xs) ∧ -(2 ^ 63) ≤ k ∧ k < 2 ^ 63 ∧ xs.length * k.toNat ≤ sizeLine ∧
 ∀ p, H p = none → Q (.ref p) (upd H p (.lst (List.replicate k.toNat xs).flatten))
theorem len_rep {α : Type} (xs : List α) (k : Nat) : (List.replicate k xs).flatten.length = k * xs.length := by
 induction k with
 | zero => simp
 | succ k ih => rw [List.replicate_succ, List.flatten_cons, List.length_append, ih, Nat.succ_mul, Nat.add_comm]
theorem op_rep : OpR X (binaryOp .Mult) rRep := by
 intro pins s σ H x y v u Q I rx ry h
 obtain ⟨l, k, xs, rfl, rfl, hH, h1, h2, hz, q⟩ := h
 cases rx
 obtain ⟨t, rfl⟩ := ry
 obtain ⟨z, its, n, r, hl, e⟩ := I.lstM hH
 have hlen : its.toArray.size * k.toNat ≤ sizeLine := by rw [List.size_toArray, ← hl]; exact hz
 have hcap : ¬ its.toArray.size * k.toNat > (2 ^ 63 - 1) / 8 := by
  have : (sizeLine : Nat) ≤ (2 ^ 63 - 1) / 8 := by decide
  omega
 have hfit : ¬ (!Builtin.List.listFitsIndex k) = true := by
  rw [fitsIndex_both h1 h2]
  exact Bool.false_ne_true
 have hlong : ¬ Builtin.List.listTooLong (its.toArray.size * k.toNat) = true := by
  rw [notLongL hlen]
  exact Bool.false_ne_true
 have hnew : List.foldl (fun x1 x2 => x1 ++ x2) #[] (List.replicate (if its.toArray.isEmpty = true then 0 else k.toNat) its.toArray) = (List.replicate k.toNat its).flatten.toArray := by
  have f0 : ∀ m : Nat, List.foldl (fun x1 x2 => x1 ++ x2) #[] (List.replicate m its.toArray) = (List.replicate m its).flatten.toArray := fun m => by
   have := foldl_rep its m []
   rw [List.nil_append] at this
   exact this
  rw [f0]
  cases its with
  | nil => simp
  | cons a r' => rw [if_neg (by simp)]
 refine wpAny_binaryOp_repeat_ref (T := "list") (U := "int") (by decide) ⟨_, e, rfl⟩ (fun s' => typeIs_int s' k t) noFill_list_mul F.fills_int_mul F.slot_int_rmul repeat_list F.slot_int_index.lookup
  (call_meets F.slot_int_rmul (typeIs_int s k t) F.entry_int_rmul (F.args_int_rmul_2 _ _) (int___rmul___int_list k t l its.toArray n)
   ⟨e, rfl, ⟨_, e, rfl⟩, call_meets F.slot_list_mul ⟨_, e, rfl⟩ F.entry_list_mul (F.args_list_mul_2 _ _) (AutoListH.list___mul___list_int_3 l its.toArray n k t hfit hcap hlong) ⟨e, ?_⟩⟩)
 rw [hnew]
 exact ⟨.ref _, _, I.lnew (t' := s.toks) (r.rep k.toNat) (by rw [len_rep, Nat.mul_comm]; exact hz), rfl, q _ I.fresh⟩
end
end L2
namespace Att
open PySem PySem.W PySem.Calls PyProof.Rows
theorem ints_of_wellAll {P : Params} {h : Heap} : ∀ (ns : List Int) (vs : List Value), WellAll P h vs (ns.map WData.int) → IntsAre vs ns := by
 intro ns
 induction ns with
 | nil =>
  intro vs w
  rw [List.map_nil] at w
  cases w
  exact .nil
 | cons n ns ih =>
  intro vs w
  rw [List.map_cons] at w
  cases w with
  | cons a b =>
   cases a
   exact .cons _ _ (ih _ b)
theorem script_of {l : OpenLaw} {n : Nat} (hn : l.most = some n) {P : Params} {h : Heap} {args : List WData} {vals : List Value}
    (hpre : l.row.toRowW.claim.pre args = true) (hwl : WellAll P h vals args) :
    ∃ a vs ns, vals = [Value.ref a] ∧ args = [WData.list (ns.map WData.int)] ∧ h.get? a = some { cls := .type "list", data := .seq vs.toArray } ∧ IntsAre vs ns ∧ ns.length ≤ n := by
  have hsh : WShape.hasAll [] args [.list .int] = true := (pre_splitW hpre).1
  have hc : l.pre.holds [] { args := args } = true := (pre_splitW hpre).2
  obtain ⟨d, r, rfl, h1, h2⟩ := hasAllW_cons hsh
  obtain rfl := hasAllW_nil h2
  obtain ⟨xs, rfl, h3⟩ := hasW_list h1
  obtain ⟨ns, rfl⟩ := items_int h3
  have hlen : ns.length ≤ n := by
    unfold OpenLaw.pre at hc
    have h4 : (WTm.not (.lt (.lit (.int (n : Int))) (.len (.arg 0)))).holds [] { args := [.list (ns.map .int)] } = true := by
      have h4 := (holds_andW hc).1
      rw [hn] at h4
      exact h4
    have h5 := condW_of h4 (w_not (w_lt w_lit (w_len_list (w_arg rfl))))
    rw [List.length_map] at h5
    refine Nat.le_of_not_lt fun q => ?_
    have q' : (n : Int) < ((ns.length : Nat) : Int) := by omega
    first
      | (rw [decide_eq_true q'] at h5; exact absurd h5 (by decide))
      | (simp at h5; omega)
  cases hwl with
  | cons w1 w2 =>
    cases w2
    cases w1 with
    | list ho hall => exact ⟨_, _, ns, rfl, rfl, ho, ints_of_wellAll ns _ hall, hlen⟩
theorem post_true (l : OpenLaw) (args : List WData) : l.row.toRowW.claim.post args (.bool true) args = true :=
 postW_of (r := l.row.toRowW) (X := (true == true))
  (show WShape.has [] (.bool true) .bool = true by first | rfl | decide | simp [WShape.has, WShape.arms, WShape.armsAll])
  (show (WTm.eq .res (.lit (.bool true))).value [] { args := args, res := some (.bool true), after := args } = some (.bool (true == true)) from w_eq_bool (w_res rfl) w_lit) rfl
end Att
namespace L2
open PySem PySem.Spec PyProof.Rows
theorem vals_ints : ∀ {vs : List Value} {ns : List Int}, IntsAre vs ns → Vals (ns.map V.int) vs
 | _, _, .nil => .nil
 | _, _, .cons n t h => .cons ⟨t, rfl⟩ (vals_ints h)
noncomputable def defArgs (s : Stmt) : Arguments := match s with
 | .FunctionDef _ a _ _ _ _ _ _ _ _ => a
 | _ => { posonlyargs := [], args := [], vararg := none, kwonlyargs := [], kw_defaults := [], kwarg := none, defaults := [] }
noncomputable def defBody (s : Stmt) : List Stmt := match s with
 | .FunctionDef _ _ b _ _ _ _ _ _ _ => b
 | _ => []
noncomputable def defScope (s : Stmt) : Scope := match s with
 | .FunctionDef _ _ _ _ _ _ sc _ _ _ => sc
 | _ => { kind := .function, names := [], isGenerator := false, isCoroutine := false }
noncomputable abbrev CX0 : CXT := fun _ _ _ _ _ _ => False
noncomputable abbrev E0 : XK := fun _ _ _ => False
theorem pass0 {X : Cx} : Passes CX0 X E0 := fun _ _ _ _ _ _ _ h => h.elim
section
variable {X : Cx}
theorem pv (i : Nat) {x : Str} {pos : Pos} (hN : X.N[i]? = some x := by rfl) (hv : Vis X.env.scope x := by first | exact Or.inl rfl | exact Or.inr (Or.inl rfl) | exact Or.inr (Or.inr rfl)) (hd : (x == ("__debug__" : Str)) = false := by decide)
  (hcd : (x == ("__classdict__" : Str)) = false := by decide) : PE X (.Name x pos) (tVar i) := pe_var hN hv hd hcd
end
theorem iteF {A B : Prop} (h : B) : if false = true then A else B := by
 rw [if_neg Bool.false_ne_true]
 exact h
theorem iteT {A B : Prop} (h : A) : if true = true then A else B := by
 rw [if_pos rfl]
 exact h
theorem ite2 {c A B : Prop} [Decidable c] (h1 : c → A) (h2 : ¬ c → B) : if c then A else B := by
 by_cases h : c
 ·rw [if_pos h]
  exact h1 h
 ·rw [if_neg h]
  exact h2 h
noncomputable def Same (H H' : Hp) : Prop := ∀ b o, H b = some o → H' b = some o
theorem Same.refl (H : Hp) : Same H H := fun _ _ h => h
theorem Same.trans {H H1 H2 : Hp} (a : Same H H1) (b : Same H1 H2) : Same H H2 := fun c o h => b c o (a c o h)
theorem Same.free {H H' : Hp} (e : Same H H') {l : Addr} (h : H' l = Option.none) : H l = Option.none := by
 cases q : H l with
 | none => rfl
 | some o =>
  rw [e l o q] at h
  cases h
theorem Same.seq {K : PySem.W.Frag} {H H' : Hp} {a : Addr} {xs : List V} (e : Same H H') (h : SqL K H a xs) : SqL K H' a xs := by
 rcases h with (h | ⟨o, h⟩) | h
 ·exact .inl (.inl (e _ _ h))
 ·exact .inl (.inr ⟨o, e _ _ h⟩)
 ·exact .inr h
end L2
namespace C5
open PySem
section
variable {M : Model} {A : Around} {E : Value → Shared → Prop} {s : Shared}
noncomputable def clGo (env : Env) : List (Str × NameKind) → List (Str × Addr) → List (Str × Addr)
  | [], cs => cs
  | (n, k) :: r, cs => clGo env r (if k == .free then (n, (env.cells.lookup n).getD 0) :: cs else cs)
theorem clGo_cons (env : Env) (n : Str) (k : NameKind) (r : List (Str × NameKind)) (cs : List (Str × Addr)) : clGo env ((n, k) :: r) cs = clGo env r (if k == .free then (n, (env.cells.lookup n).getD 0) :: cs else cs) := rfl
noncomputable def clOf (sc : Scope) (env : Env) : List (Str × Addr) := clGo env sc.names []
theorem clGo_run {env : Env} (f : Str × NameKind → List (Str × Addr) → Sem (ForInStep (List (Str × Addr))))
    (hf : ∀ n k cs, f (n, k) cs = if k == .free then (do let a ← cellOf env n; pure (.yield ((n, a) :: cs))) else pure (.yield cs)) :
    ∀ (l : List (Str × NameKind)) (cs : List (Str × Addr)), (∀ y ∈ l, y.2 = .free → ∃ c, env.cells.lookup y.1 = some c) → forIn l cs f = pure (clGo env l cs)
  | [], cs, _ => by rw [List.forIn_nil]; rfl
  | (n, k) :: r, cs, h => by
    rw [List.forIn_cons, hf]
    have hr := fun cs' => clGo_run f hf r cs' fun y hy => h y (List.mem_cons_of_mem _ hy)
    cases hk : k == NameKind.free with
    | false =>
      simp only [Bool.false_eq_true, if_false, pure_bind]
      rw [hr, clGo_cons, hk]; rfl
    | true =>
      obtain ⟨c, hc⟩ := h (n, k) List.mem_cons_self (by simpa using hk)
      have hc' : cellOf env n = pure c := by
        unfold cellOf
        rw [show env.cells.lookup n = some c from hc]
      simp only [if_true, hc', pure_bind]
      rw [hr, clGo_cons, hk, show env.cells.lookup n = some c from hc]; rfl
theorem clos_of {sc : Scope} {env : Env} (h : ∀ y ∈ sc.names, y.2 = .free → ∃ c, env.cells.lookup y.1 = some c) : closureFor sc env = pure (clOf sc env) := by
 unfold closureFor clOf
 dsimp only
 rw [clGo_run (env := env) _ (fun n k cs => by cases hk : k == NameKind.free <;> simp [hk]) sc.names [] h]
 exact pure_bind _ _
theorem clGo_mem {env : Env} : ∀ (l : List (Str × NameKind)) (cs : List (Str × Addr)) (x : Str) (c : Addr), (x, c) ∈ clGo env l cs → (x, c) ∈ cs ∨ ((x, NameKind.free) ∈ l ∧ c = (env.cells.lookup x).getD 0)
  | [], cs, x, c, h => .inl h
  | (n, k) :: r, cs, x, c, h => by
    unfold clGo at h
    rcases clGo_mem r _ x c h with h | ⟨h, e⟩
    · cases hk : k == NameKind.free with
      | false => rw [hk, if_neg Bool.false_ne_true] at h; exact .inl h
      | true =>
        rw [hk, if_pos rfl] at h
        have hk' : k = .free := by simpa using hk
        rcases List.mem_cons.mp h with e | h
        · cases e; subst hk'; exact .inr ⟨List.mem_cons_self, rfl⟩
        · exact .inl h
    · exact .inr ⟨List.mem_cons_of_mem _ h, e⟩
theorem clGo_keep {env : Env} : ∀ (l : List (Str × NameKind)) (cs : List (Str × Addr)) (p : Str × Addr), p ∈ cs → p ∈ clGo env l cs
  | [], _, _, h => h
  | (n, k) :: r, cs, p, h => by
    unfold clGo
    refine clGo_keep r _ p ?_
    split
    · exact List.mem_cons_of_mem _ h
    · exact h
theorem clGo_has {env : Env} : ∀ (l : List (Str × NameKind)) (cs : List (Str × Addr)) (x : Str), (x, NameKind.free) ∈ l → (x, (env.cells.lookup x).getD 0) ∈ clGo env l cs
  | (n, k) :: r, cs, x, h => by
    unfold clGo
    rcases List.mem_cons.mp h with e | h
    · cases e
      refine clGo_keep r _ _ ?_
      simp
    · exact clGo_has r _ x h
theorem lookup_of_mem {α : Type} : ∀ {l : List (Str × α)} {x : Str} {c : α}, (x, c) ∈ l → (∀ c', (x, c') ∈ l → c' = c) → l.lookup x = some c
  | (k, v) :: r, x, c, h, u => by
    rw [List.lookup_cons]
    cases hb : x == k with
    | true =>
      have e := beq_iff_eq.mp hb
      subst e
      rw [u v List.mem_cons_self]
    | false =>
      rcases List.mem_cons.mp h with e | h
      · cases e; simp at hb
      · exact lookup_of_mem h fun c' h' => u c' (List.mem_cons_of_mem _ h')
theorem clOf_sub {sc : Scope} {env : Env} (h : ∀ y ∈ sc.names, y.2 = .free → ∃ c, env.cells.lookup y.1 = some c) {x : Str} {c : Addr} (e : (clOf sc env).lookup x = some c) :
  env.cells.lookup x = some c ∧ (x, NameKind.free) ∈ sc.names := by
 rcases clGo_mem sc.names [] x c (mem_of_lookup e) with z | ⟨z, q⟩
 ·exact absurd z (by simp)
 ·obtain ⟨c', hc⟩ := h _ z rfl
  have hc : env.cells.lookup x = some c' := hc
  rw [hc] at q
  exact ⟨by rw [hc, q]; rfl, z⟩
theorem clOf_has {sc : Scope} {env : Env} {x : Str} (e : (x, NameKind.free) ∈ sc.names) : (clOf sc env).lookup x = some ((env.cells.lookup x).getD 0) :=
 lookup_of_mem (clGo_has sc.names [] x e) fun c' h' => by
  rcases clGo_mem sc.names [] x c' h' with z | ⟨_, q⟩
  ·exact absurd z (by simp)
  ·exact q
theorem cellsFrom_app : ∀ (names : List (Str × NameKind)) (n : Nat) (acc : List (Str × Addr)), cellsFrom n names acc = cellsFrom n names [] ++ acc
  | [], _, _ => rfl
  | (x, k) :: r, n, acc => by
    unfold cellsFrom
    split
    · rw [cellsFrom_app r (n + 1) ((x, n) :: acc), cellsFrom_app r (n + 1) [(x, n)]]; simp
    · exact cellsFrom_app r n acc
theorem cellsFrom_key : ∀ (names : List (Str × NameKind)) (n : Nat) (x : Str) (c : Addr), (x, c) ∈ cellsFrom n names [] → (x, NameKind.cell) ∈ names
  | [], _, _, _, h => by simp [cellsFrom] at h
  | (y, k) :: r, n, x, c, h => by
    unfold cellsFrom at h
    split at h
    · rename_i hk
      have hk' : k = .cell := by simpa using hk
      rw [cellsFrom_app] at h
      rcases List.mem_append.mp h with h | h
      · exact List.mem_cons_of_mem _ (cellsFrom_key r _ x c h)
      · have e : (x, c) = (y, n) := by simpa using h
        cases e; subst hk'; exact List.mem_cons_self
    · exact List.mem_cons_of_mem _ (cellsFrom_key r _ x c h)
noncomputable def bkEnv (sc : Scope) (cl : List (Str × Addr)) (C : Addr) (env : Env) : Env :=
 { scope := relabel sc env, locals := C, globals := env.globals, cells := cellsFrom (C + 1) sc.names cl, qual := env.qual, func := none, code := env.code, frame := env.frame, builtins := env.builtins }
theorem newBlock {sc : Scope} {cl : List (Str × Addr)} {env : Env} {Q : Env → Shared → Prop}
  (h : Q (newEnv sc s.heap.objs.size env.globals (cellsFrom (s.heap.objs.size + 1) sc.names cl) env.qual none .none (some env) builtinsNs) { s with heap := pushCells (s.heap.push { cls := .type "dict", data := .dict #[] }) sc.names }) :
  wpAny M A (newFunctionEnv sc env.globals cl [] env.qual none .none (some env)) Q E s := by
 simp only [newFunctionEnv, Option.isSome_some, if_true]
 refine wpAny_bind (wpAny_alloc ?_)
 refine wpAny_bind (wpAny_layCells _ (fun name kind cells => by cases hkc : kind == NameKind.cell <;> simp [hkc]) _ _ _ _ ?_)
 rw [show ({ s with heap := s.heap.push { cls := .type "dict", data := .dict #[] } } : Shared).heap.objs.size = s.heap.objs.size + 1 from Heap.size_push ..]
 rw [List.forIn_nil]
 exact wpAny_bind (wpAny_pure (wpAny_pure h))
theorem relabel_cell {sc : Scope} {env : Env} : ∀ {l : List (Str × NameKind)} {x : Str},
    (l.map fun (n, k) => if (k == NameKind.free && env.scope.kind == .function && env.kindOf n == some .cell) then (n, NameKind.cell) else (n, k)).lookup x = some .cell → l.lookup x = some .cell ∨ l.lookup x = some .free
  | [], x, h => by simp at h
  | (n, k) :: r, x, h => by
    rw [List.map_cons] at h
    rw [List.lookup_cons]
    cases hx : x == n with
    | true =>
      dsimp only at h
      split at h
      · rename_i hc
        rw [Bool.and_eq_true, Bool.and_eq_true] at hc
        have : k = .free := by simpa using hc.1.1
        rw [this]; exact .inr rfl
      · simp only [List.lookup_cons, hx] at h
        exact .inl h
    | false =>
      refine relabel_cell (sc := sc) (env := env) (l := r) ?_
      dsimp only at h
      split at h <;> simpa only [List.lookup_cons, hx] using h
theorem relabel_free {env : Env} : ∀ {l : List (Str × NameKind)} {x : Str},
    (l.map fun (n, k) => if (k == NameKind.free && env.scope.kind == .function && env.kindOf n == some .cell) then (n, NameKind.cell) else (n, k)).lookup x = some .free → l.lookup x = some .free
  | [], x, h => by simp at h
  | (n, k) :: r, x, h => by
    rw [List.map_cons] at h
    rw [List.lookup_cons]
    cases hx : x == n with
    | true =>
      dsimp only at h
      split at h
      · simp only [List.lookup_cons, hx] at h
        cases h
      · simp only [List.lookup_cons, hx] at h
        exact h
    | false =>
      refine relabel_free (env := env) (l := r) ?_
      dsimp only at h
      split at h <;> simpa only [List.lookup_cons, hx] using h
theorem relabel_of_free {env : Env} : ∀ {l : List (Str × NameKind)} {x : Str}, l.lookup x = some .free →
    (l.map fun (n, k) => if (k == NameKind.free && env.scope.kind == .function && env.kindOf n == some .cell) then (n, NameKind.cell) else (n, k)).lookup x = some .cell ∨
    (l.map fun (n, k) => if (k == NameKind.free && env.scope.kind == .function && env.kindOf n == some .cell) then (n, NameKind.cell) else (n, k)).lookup x = some .free
  | [], x, h => by simp at h
  | (n, k) :: r, x, h => by
    rw [List.map_cons]
    rw [List.lookup_cons] at h
    cases hx : x == n with
    | true =>
      rw [hx] at h
      cases h
      dsimp only
      split
      · exact .inl (by simp only [List.lookup_cons, hx])
      · exact .inr (by simp only [List.lookup_cons, hx])
    | false =>
      rw [hx] at h
      have := relabel_of_free (env := env) (l := r) h
      dsimp only
      split <;> simpa only [List.lookup_cons, hx] using this
end
section
variable {prog : Program} {w : World} {A : Around} {R : Result → Shared → Prop} {s : Shared}
theorem compLoop_go {elt target iter : Expr} {ifs : List Expr} {scope : Scope} {pos : Pos} {it acc : Value} {env : Env} (I : Nat → Shared → Prop)
  (turn : ∀ n s, I n s → wpAny (model prog w) A (pyNext it) (fun r s₁ => match r with
   | none => R (.ok .next) s₁
   | some v => wpAny (model prog w) A (letOwnedTupleGo target it v) (fun _ s₁' => wpAny (model prog w) A (assign target env v) (fun _ s₂ =>
     wpAny (model prog w) A (forIn ifs true fun c r => if r = true then do let ok ← isTrue c env (eval c env); pure (ForInStep.yield ok) else pure (ForInStep.yield r)) (fun ok s₃ =>
      if ok = true then wpAny (model prog w) A (eval elt env) (fun x s₄ =>
       wpAny (model prog w) A (call (.builtin "list.append") [acc, x]) (fun _ s₅ => ∃ m, m < n ∧ I m s₅) (fun _ _ => False) s₄) (fun _ _ => False) s₃
      else ∃ m, m < n ∧ I m s₃) (fun _ _ => False) s₂) (fun _ _ => False) s₁') (fun _ _ => False) s₁) (fun _ _ => False) s)
  (n : Nat) (h : I n s) :
  codeAny (model prog w) A (.compLoop (.ListComp elt [⟨target, iter, ifs, 0⟩] scope pos) 0 it acc env) R s := by
 refine codeAny_loop rfl I (fun n s hI => ?_) n h
 show wpAny _ A ((compTurn (.ListComp elt [⟨target, iter, ifs, 0⟩] scope pos) 0 it acc env).onRaise (fun x => do noteFrame x env; theTreesLotGoes x)) _ _ s
 refine wpAny_noted ?_
 rw [compTurn_list]
 refine wpAny_bind (wpAny_standAt (wpAny_bind (wpAny_mono (turn n s hI) (fun r s₁ h₁ => ?_) fun _ _ h' => h'.elim)))
 cases r with
 | none => exact wpAny_pure h₁
 | some v =>
  refine wpAny_bind (wpAny_mono h₁ (fun _ s₁' h₁' => ?_) fun _ _ h' => h'.elim)
  refine wpAny_bind (wpAny_mono h₁' (fun _ s₂ h₂ => wpAny_bind (wpAny_mono h₂ (fun ok s₃ h₃ => ?_) fun _ _ h' => h'.elim)) fun _ _ h' => h'.elim)
  cases ok with
  | false => exact wpAny_pure ⟨rfl, h₃⟩
  | true =>
   exact wpAny_bind (wpAny_bind (wpAny_mono h₃ (fun x s₄ h₄ => wpAny_bind (wpAny_mono h₄ (fun _ s₅ h₅ => wpAny_pure (wpAny_pure ⟨rfl, h₅⟩)) fun _ _ h' => h'.elim)) fun _ _ h' => h'.elim))
end
end C5
namespace L2
open PySem PySem.Spec PyProof.Rows C5
noncomputable def entry (src : List (Option Nat)) (σ : St) : St := src.map fun o => o.bind fun i => (σ[i]?).join
structure BkScope (so sc : Scope) (No N : List Str) (src : List (Option Nat)) : Prop where
  kind : sc.kind = .function
  free : sc.names.all (fun y => !(y.2 == .free) || (so.names.lookup y.1 == some .cell || so.names.lookup y.1 == some .free)) = true
  uniq : sc.names.all (fun y => sc.names.lookup y.1 == some y.2) = true
  len : src.length = N.length
  src : (src.zip N).all (fun p => match p.1 with | none => true | some i => No[i]? == some p.2 && sc.names.lookup p.2 == some .free) = true
  nd : N.Nodup
noncomputable def cxB (X : Cx) (sc : Scope) (N : List Str) (fp : List Addr) (C : Addr) (s : Shared) (H : Hp) : Cx :=
 { X with N := N, s₀ := s, H₀ := H, env := bkEnv sc (clOf sc X.env) C X.env, outer := X.stack, stack := X.stack, ex := fp, fn := fun x => sc.names.lookup x == some .cell, pn := [], xe := fun _ _ => False }
section
variable {X : Cx} {pins : List (Addr × Obj)} {σ : St} {H : Hp} {s : Shared} {sc : Scope} {N : List Str} {src : List (Option Nat)}
theorem BkScope.has {so : Scope} {No : List Str} (B : BkScope so sc No N src) (hso : X.env.scope = so) (ok : X.Ok) : ∀ y ∈ sc.names, y.2 = .free → ∃ c, X.env.cells.lookup y.1 = some c := by
 intro y hy hk
 have h := List.all_eq_true.mp B.free y hy
 rw [hk] at h
 simp only [beq_self_eq_true, Bool.not_true, Bool.false_or, Bool.or_eq_true, beq_iff_eq] at h
 rw [← hso] at h
 rcases h with h | h
 ·exact ok.has y.1 (.inl h)
 ·exact ok.has y.1 (.inr h)
theorem BkScope.look {so : Scope} {No : List Str} (B : BkScope so sc No N src) {x : Str} {k : NameKind} (h : (x, k) ∈ sc.names) : sc.names.lookup x = some k := by
 have := List.all_eq_true.mp B.uniq (x, k) h
 simpa using this
theorem lookup_app {α : Type} : ∀ {l r : List (Str × α)} {x : Str} {c : α}, (l ++ r).lookup x = some c → l.lookup x = some c ∨ r.lookup x = some c
  | [], _, _, _, h => .inr h
  | (k, v) :: l, r, x, c, h => by
    rw [List.cons_append, List.lookup_cons] at h
    rw [List.lookup_cons]
    cases hb : x == k with
    | true => rw [hb] at h; exact .inl h
    | false => rw [hb] at h; exact lookup_app h
theorem lookup_app_r {α : Type} : ∀ {l r : List (Str × α)} {x : Str}, (∀ c, (x, c) ∉ l) → (l ++ r).lookup x = r.lookup x
  | [], _, _, _ => rfl
  | (k, v) :: l, r, x, h => by
    rw [List.cons_append, List.lookup_cons]
    have hb : (x == k) = false := beq_eq_false_iff_ne.mpr fun e => h v (by rw [e]; exact List.mem_cons_self)
    rw [hb]
    exact lookup_app_r fun c hc => h c (List.mem_cons_of_mem _ hc)
theorem Inv.block {fp : List Addr} {h1 : Heap} {C : Nat} {t : Nat} (I : Inv X pins σ H s) (B : BkScope X.env.scope sc X.N N src) (hf : ∀ b ∈ fp, FpOk X pins H b) (hlt : ∀ b ∈ fp, b < s.heap.objs.size)
  (hC : C = s.heap.objs.size + 1) (e1 : h1 = pushCells ((s.heap.push { cls := .type "list", data := .seq #[] }).push { cls := .type "dict", data := .dict #[] }) sc.names) :
  Inv (cxB X sc N fp C s H) [] (entry src σ) (upd H s.heap.objs.size (.lst [])) { s with heap := h1, toks := t } := by
 have has := B.has rfl I.ok
 have szL : (s.heap.push { cls := .type "list", data := .seq #[] } : Heap).objs.size = C := by rw [Heap.size_push, hC]
 have szD : ((s.heap.push { cls := .type "list", data := .seq #[] }).push { cls := .type "dict", data := .dict #[] } : Heap).objs.size = C + 1 := by rw [Heap.size_push, szL]
 have own := cellsFrom_ok sc.names ((s.heap.push { cls := .type "list", data := .seq #[] }).push { cls := .type "dict", data := .dict #[] }) (C + 1) [] ⟨fun _ _ hm => (nomatch hm), List.Pairwise.nil⟩ (by rw [szD]; exact Nat.le_refl _)
 rw [szD, ← e1] at own
 have keep0 : ∀ b o, ((s.heap.push { cls := .type "list", data := .seq #[] }).push { cls := .type "dict", data := .dict #[] } : Heap).get? b = some o → h1.get? b = some o := fun b o e => by rw [e1]; exact pushCells_keeps _ _ b o e
 have keep : ∀ b o, s.heap.get? b = some o → h1.get? b = some o := fun b o e => keep0 b o (Heap.get?_push_of_some _ (Heap.get?_push_of_some _ e))
 have atD : h1.get? s.heap.objs.size = some { cls := .type "list", data := .seq #[] } := keep0 _ _ (Heap.get?_push_of_some _ (Heap.get?_push_size _ rfl))
 have nsC : h1.Ns C (fun _ => none) := by
  have q := Heap.Ns.new (s.heap.push { cls := .type "list", data := .seq #[] }) (.type "dict")
  rw [szL] at q
  exact q.keeps keep0
 have fresh : ∀ b, s.heap.objs.size ≤ b → H b = none := fun b hb => I.hok.fresh hb
 have cells : ∀ x c, (cellsFrom (C + 1) sc.names (clOf sc X.env)).lookup x = some c →
   ((x, c) ∈ cellsFrom (C + 1) sc.names [] ∧ h1.IsCell c none ∧ C + 1 ≤ c) ∨ (X.env.cells.lookup x = some c ∧ (x, NameKind.free) ∈ sc.names) := fun x c e => by
  rw [cellsFrom_app] at e
  rcases lookup_app e with e | e
  ·have hm := mem_of_lookup e
   obtain ⟨q1, q2⟩ := own.empty x c hm
   exact .inl ⟨hm, q1, q2⟩
  ·exact .inr (clOf_sub has e)
 have cellLt : ∀ x c, X.env.cells.lookup x = some c → @LT.lt Nat instLTNat c s.heap.objs.size := fun x c e => by
  obtain ⟨v, z⟩ := I.cell x c e
  exact z.lt
 have freeIn : ∀ x, (x, NameKind.free) ∈ sc.names → (cellsFrom (C + 1) sc.names (clOf sc X.env)).lookup x = X.env.cells.lookup x := fun x hx => by
  rw [cellsFrom_app, lookup_app_r (fun c hc => ?_), clOf_has hx]
  ·obtain ⟨c, hc⟩ := has _ hx rfl
   have hc : X.env.cells.lookup x = some c := hc
   rw [hc]; rfl
  ·have k1 := B.look (cellsFrom_key sc.names _ x c hc)
   have k2 := B.look hx
   rw [k1] at k2; cases k2
 have ex : (cxB X sc N fp C s H).ex = fp := rfl
 refine ⟨⟨I.ok.mod, B.kind, I.ok.glob, I.ok.blt, ?_, ?_, ?_, ?_, I.ok.hd, I.ok.frames, .inl rfl, ?_, I.bs, Nat.le_trans I.ok.bsz I.sz, ?_, ?_, I.stack, I.stkFree⟩, rfl, I.bare, Un.laid keep (Nat.le_refl _) (fresh _ (Nat.le_refl _)), ?_, ?_, ?_, ?_, ?_, ?_, ?_⟩
 ·-- above
  show s.heap.objs.size ≤ C
  omega
 ·-- inj
  intro x y c h1' h2'
  rcases cells x c h1' with ⟨m1, _, g1⟩ | ⟨e1', _⟩
  ·rcases cells y c h2' with ⟨m2, _, _⟩ | ⟨e2', _⟩
   ·exact name_of_addr own.apart m1 m2
   ·have := cellLt y c e2'; omega
  ·rcases cells y c h2' with ⟨_, _, g2⟩ | ⟨e2', _⟩
   ·have := cellLt x c e1'; omega
   ·exact I.ok.inj x y c e1' e2'
 ·-- has
  intro x hx
  show ∃ c, (cellsFrom (C + 1) sc.names (clOf sc X.env)).lookup x = some c
  have hx' : sc.names.lookup x = some .cell ∨ sc.names.lookup x = some .free := by
   rcases hx with hx | hx
   ·exact relabel_cell (sc := sc) (env := X.env) hx
   ·exact .inr (relabel_free (env := X.env) hx)
  rcases hx' with hx' | hx'
  ·exact Option.isSome_iff_exists.mp (PySem.W.cellsFrom_some sc.names (C + 1) (clOf sc X.env) (.inl hx'))
  ·rw [freeIn x (PySem.mem_of_lookup hx')]
   exact has _ (PySem.mem_of_lookup hx') rfl
 ·-- cab
  intro x c hfn hc
  have hfn' : sc.names.lookup x = some .cell := by simpa [cxB] using hfn
  show s.heap.objs.size ≤ c
  rcases cells x c hc with ⟨_, _, g⟩ | ⟨_, hfr⟩
  ·omega
  ·have := B.look hfr
   rw [hfn'] at this; cases this
 ·-- exf
  intro b hb
  rw [ex] at hb
  have hb' : @LT.lt Nat instLTNat b s.heap.objs.size := hlt b hb
  obtain ⟨f0, f1, f2, f3, f4, f5⟩ := hf b hb
  refine ⟨Nat.ne_of_lt (show @LT.lt Nat instLTNat b C by omega), fun x c hc => ?_⟩
  rcases cells x c hc with ⟨_, _, g⟩ | ⟨e, _⟩
  ·exact Nat.ne_of_gt (show @LT.lt Nat instLTNat b c by omega)
  ·exact f4 x c e
 ·-- noex
  intro b o e hb
  rw [ex] at hb
  obtain ⟨f0, f1, f2, f3, f4, f5⟩ := hf b hb
  rcases f3 with f3 | f3
  ·exact I.ok.noex b o e f3
  ·exact absurd (Nat.lt_of_lt_of_le (Heap.lt_size e) (Nat.le_trans I.ok.bsz f3)) (Nat.lt_irrefl _)
 ·-- exfs
  intro b hb hb2
  rw [ex] at hb
  obtain ⟨f0, f1, f2, f3, f4, f5⟩ := hf b hb
  rcases List.mem_cons.mp (I.stkSub b hb2) with z | z
  ·exact f1 z
  ·exact f2 z
 ·-- loc
  refine ⟨fun _ => none, nsC, fun j x v hj hv _ => ?_⟩
  have hj : N[j]? = some x := hj
  unfold entry at hv
  rw [List.getElem?_map] at hv
  cases hs : src[j]? with
  | none => rw [hs] at hv; cases hv
  | some o =>
   rw [hs] at hv
   cases o with
   | none => cases hv
   | some i =>
    have hv : ((σ[i]?).join) = some v := by simpa using hv
    have hm : (some i, x) ∈ src.zip N := by
     rw [List.mem_iff_getElem?]
     exact ⟨j, by rw [List.getElem?_zip_eq_some]; exact ⟨hs, hj⟩⟩
    have q := List.all_eq_true.mp B.src _ hm
    simp only [Bool.and_eq_true, beq_iff_eq] at q
    obtain ⟨q1, q2⟩ := q
    have hfr := PySem.mem_of_lookup q2
    have hσ : σ[i]? = some (some v) := by
     cases e : σ[i]? with
     | none => rw [e] at hv; cases hv
     | some u => rw [e] at hv; cases u with
      | none => cases hv
      | some w' => cases hv; rfl
    obtain ⟨m, hn, hl⟩ := I.loc
    have hso := List.all_eq_true.mp B.free _ hfr
    simp only [beq_self_eq_true, Bool.not_true, Bool.false_or, Bool.or_eq_true, beq_iff_eq] at hso
    have hvis : Vis X.env.scope x := by
     rcases hso with z | z
     ·exact .inr (.inl z)
     ·exact .inr (.inr z)
    obtain ⟨u, ru, lk⟩ := hl i x v q1 hσ hvis
    refine ⟨u, ru, .inr ⟨?_, ?_⟩⟩
    ·exact relabel_of_free (env := X.env) q2
    ·rcases lk with ⟨kk, _⟩ | ⟨_, c, hc, hcell⟩
     ·have kk : X.env.scope.names.lookup x = some .local := kk
      rcases hso with z | z
      ·rw [kk] at z; cases z
      ·rw [kk] at z; cases z
     ·refine ⟨c, ?_, hcell.keeps keep⟩
      show (cellsFrom (C + 1) sc.names (clOf sc X.env)).lookup x = some c
      rw [freeIn x hfr]; exact hc
 ·-- cell
  intro x c hc
  rcases cells x c hc with ⟨_, g, _⟩ | ⟨e, _⟩
  ·exact ⟨none, g⟩
  ·obtain ⟨v, z⟩ := I.cell x c e
   exact ⟨v, z.keeps keep⟩
 ·-- free
  show upd H s.heap.objs.size (.lst []) C = none
  rw [upd_ne (Nat.ne_of_gt (show @LT.lt Nat instLTNat s.heap.objs.size C by omega))]
  exact fresh _ (show @LE.le Nat instLENat s.heap.objs.size C by omega)
 ·-- freeC
  intro x c hc
  rcases cells x c hc with ⟨_, _, g⟩ | ⟨e, _⟩
  ·rw [upd_ne (Nat.ne_of_gt (show @LT.lt Nat instLTNat s.heap.objs.size c by omega))]; exact fresh _ (show @LE.le Nat instLENat s.heap.objs.size c by omega)
  ·rw [upd_ne (Nat.ne_of_lt (cellLt x c e))]; exact I.freeC x c e
 ·-- pin
  intro p hp
  exact absurd (show p ∈ ([] : List (Addr × Obj)) from hp) (by simp)
 ·-- hok
  refine I.hok.laid keep (Nat.le_refl _) ?_
  exact ⟨Nat.zero_le _, [], 0, .nil, atD⟩
 ·-- len
  unfold entry
  rw [List.length_map]
  exact B.len
noncomputable def PTs (X : Cx) (ifs : List Expr) (t : TT) : Prop :=
 ∀ (pins : List (Addr × Obj)) (s : Shared) (σ : St) (H : Hp) (Q : Bool → Hp → Prop), Inv X pins σ H s → t σ H Q →
  wpAny (model X.prog X.w) X.A (forIn ifs true fun c r => if r = true then do let ok ← isTrue c X.env (eval c X.env); pure (ForInStep.yield ok) else pure (ForInStep.yield r)) (TP X pins σ Q) X.xe s
noncomputable def tTrue : TT := fun _ H Q => Q true H
theorem pts_nil : PTs X [] tTrue := fun _ _ _ H _ I h => wpAny_tests_nil ⟨H, I, h⟩
theorem pts_one {c : Expr} {t : TT} (h : PT X c t) : PTs X [c] t := fun pins s σ H Q I hw => wpAny_tests_one (h pins s σ H Q I hw)
noncomputable def tComp (src : List (Option Nat)) (wi : TI) (g : TG) (tt : TT) (te : TE) : TE := fun σ H Q => wi σ H fun J H1 => ∀ D, H1 D = none →
 ∃ W : Nat → Nat → St → Hp → Prop, (∃ m, W 0 m (entry src σ) (upd H1 D (.lst []))) ∧ ∀ i m σ' H', W i m σ' H' →
  (J.stop i H' ∧ Q (.ref D) H') ∨ (J.go i H' ∧ ∃ N : St → Hp → Prop, (∀ σ2 H2, N σ2 H2 → ∃ m', m' < m ∧ W (i + 1) m' σ2 H2) ∧ ∀ x H2, J.yld i H' x H2 → g x σ' H2 fun σ3 H3 => tt σ3 H3 fun b H4 =>
   if b = true then te σ3 H4 fun v H5 => ∃ xs, H5 D = some (.lst xs) ∧ xs.length < sizeLine ∧ N σ3 (upd H5 D (.lst (xs ++ [v]))) else N σ3 H4)
theorem pe_comp {elt tgt iter : Expr} {ifs : List Expr} {wi : TI} {g : TG} {tt : TT} {te : TE} {pos : Pos} (hc : X.calm = true) (B : BkScope X.env.scope sc X.N N src) (hi : PI X tgt iter wi)
  (hg : ∀ (s : Shared) (H : Hp) (C : Addr) (fp : List Addr), PG (cxB X sc N fp C s H) tgt g) (ht : ∀ (s : Shared) (H : Hp) (C : Addr) (fp : List Addr), PTs (cxB X sc N fp C s H) ifs tt)
  (he : ∀ (s : Shared) (H : Hp) (C : Addr) (fp : List Addr), PE (cxB X sc N fp C s H) elt te) (hs : ∀ x, foldedSetIterable iter X.env x = pure x := by intro _; rfl) :
  PE X (.ListComp elt [⟨tgt, iter, ifs, 0⟩] sc pos) (tComp src wi g tt te) := by
 intro pins s σ H Q I h
 rw [eval_ListComp]
 have has := B.has rfl I.ok
 refine wpAny_comprehension_free (use := none) rfl hs (clos_of has) B.kind (fun y hy hk => by have := B.look (x := y.1) (k := y.2) hy; rw [hk] at this; exact this)
  (thn (hi pins s σ H _ I h) fun v s1 h1 => thn h1 fun itv s2 h2 => ?_)
 obtain ⟨it, fp, tn, J, H2, e, I2, T, st2, f2, q⟩ := h2
 subst e
 refine wpAny_newObj_type (newBlock ?_)
 obtain ⟨W, ⟨m0, w0⟩, turn⟩ := q s2.heap.objs.size (I2.hok.fresh (Nat.le_refl _))
 have hlt : ∀ b ∈ fp, b < s2.heap.objs.size := fun b hb => by
  obtain ⟨o, ho, _⟩ := T.obj 0 _ st2 b hb
  exact Heap.lt_size ho
 have szL : (s2.heap.push { cls := .type "list", dict := none, data := .seq ([] : List Value).toArray } : Heap).objs.size = s2.heap.objs.size + 1 := Heap.size_push ..
 generalize hh1 : pushCells ((s2.heap.push { cls := .type "list", dict := none, data := .seq ([] : List Value).toArray } : Heap).push { cls := .type "dict", data := .dict #[] }) sc.names = hB
 have IB := I2.block (C := (s2.heap.push { cls := .type "list", dict := none, data := .seq ([] : List Value).toArray } : Heap).objs.size) (t := s2.toks) B f2 hlt szL hh1.symm
 generalize (s2.heap.push { cls := .type "list", dict := none, data := .seq ([] : List Value).toArray } : Heap).objs.size = C at IB szL ⊢
 have keepB : ∀ b o, s2.heap.get? b = some o → hB.get? b = some o := fun b o e => by
  rw [← hh1]
  exact pushCells_keeps _ _ b o (Heap.get?_push_of_some _ (Heap.get?_push_of_some _ e))
 have stB : tn 0 hB := T.keep 0 _ _ st2 fun b _ o e => keepB b o e
 have frB : ∀ b ∈ fp, upd H2 s2.heap.objs.size (.lst []) b = none := fun b hb => by
  rw [upd_ne (Nat.ne_of_lt (hlt b hb))]
  exact (f2 b hb).1
 have stat : ∀ {H' : Hp}, (∀ b ∈ fp, H' b = none) → ∀ b ∈ fp, FpOk (cxB X sc N fp C s2 H2) [] H' b := fun {H'} hn b hb => by
  obtain ⟨z1, z2⟩ := IB.ok.exf b hb
  exact ⟨hn b hb, z1, IB.ok.exfs b hb, .inl hb, z2, fun p hp => absurd (show p ∈ ([] : List (Addr × Obj)) from hp) (by simp)⟩
 show codeAny (model X.prog X.w) X.A (.compStart (.ListComp elt [⟨tgt, iter, ifs, 0⟩] sc pos) 0 (.ref it) (.ref s2.heap.objs.size) (bkEnv sc (clOf sc X.env) C X.env)) (compPost (model X.prog X.w) X.A X.xe none (EP X pins σ Q) (.ref s2.heap.objs.size) C) { s2 with heap := hB }
 have loop : codeAny (model X.prog X.w) X.A (.compLoop (.ListComp elt [⟨tgt, iter, ifs, 0⟩] sc pos) 0 (.ref it) (.ref s2.heap.objs.size) (bkEnv sc (clOf sc X.env) C X.env))
   (compPost (model X.prog X.w) X.A X.xe none (EP X pins σ Q) (.ref s2.heap.objs.size) C) { s2 with heap := hB } := by
  refine compLoop_go (fun n s' => ∃ i σ' H', Inv (cxB X sc N fp C s2 H2) [] σ' H' s' ∧ tn i s'.heap ∧ (∀ b ∈ fp, H' b = none) ∧ W i n σ' H') ?_ m0 ⟨0, _, _, IB, stB, frB, w0⟩
  rintro n s3 ⟨i, σ3, H3, I3, st3, fr3, w3⟩
  rcases turn i n σ3 H3 w3 with ⟨stop, qn⟩ | ⟨go, N', hN, step⟩
  ·refine thn (T.done (cxB X sc N fp C s2 H2) rfl rfl rfl hc i [] s3 σ3 H3 _ I3 (stat fr3) st3 stop) fun r s4 ⟨hr, I4⟩ => ?_
   subst hr
   obtain ⟨m, hn, _⟩ := I4.loc
   refine ⟨m, hn, fun h' hs' => ?_⟩
   refine ⟨.ref s2.heap.objs.size, H3, ?_, rfl, qn⟩
   have ltC : ∀ b o, s2.heap.get? b = some o → b ≠ C := fun b o e => Nat.ne_of_lt (show @LT.lt Nat instLTNat b C by have : @LT.lt Nat instLTNat b s2.heap.objs.size := Heap.lt_size e; omega)
   have base := I4.base
   have freeC : H3 C = none := I4.free
   refine I2.call' (s' := { s4 with heap := h' }) (ch := fp) I4.os ⟨fun b o e n hb hx => ?_, fun b o e n hb hx => ?_, base.free, fun b o e hx => ?_, base.tups, base.frzs, base.tbls⟩ (fun b ob e => ?_) I4.bare (fun b hb => ?_)
   ·exact (hs'.2 b (ltC b o e)).trans (base.keep b o e n hb hx)
   ·obtain ⟨sl, e1⟩ := base.slot b o e n hb hx
    exact ⟨sl, (hs'.2 b (ltC b o e)).trans e1⟩
   ·obtain ⟨o', e1⟩ := base.there b o e hx
    exact ⟨o', (hs'.2 b (ltC b o e)).trans e1⟩
   ·refine (I4.hok b ob e).stay (fun c w' hc' q' => (hs'.2 c ?_).trans q') (fun _ q' => q') fun _ _ q' => q'
    intro z
    rcases hc' with z' | z'
    ·rw [← z', z, freeC] at e; cases e
    ·rw [z, freeC] at z'; cases z'
   ·obtain ⟨f0, f1, f2', f3, f4, f5⟩ := f2 b hb
    exact ⟨f3, f1, f4, f5⟩
  ·refine thn (T.item (cxB X sc N fp C s2 H2) rfl rfl rfl hc i [] s3 σ3 H3 _ I3 (stat fr3) st3 go) fun r s4 ⟨u, hr, h4⟩ => ?_
   subst hr
   refine thn h4 fun _ s5 ⟨x, H5, I5, r5, y5, st5, fr5⟩ => ?_
   have I5' := I5.pinned (stat fr5) (T.obj _ _ st5)
   have again : ∀ {s7 : Shared} {σ7 : St} {H7 : Hp}, Inv (cxB X sc N fp C s2 H2) ([] ++ pinsAt fp s5.heap) σ7 H7 s7 → N' σ7 H7 → ∃ m, m < n ∧ ∃ i σ' H', Inv (cxB X sc N fp C s2 H2) [] σ' H' s7 ∧ tn i s7.heap ∧ (∀ b ∈ fp, H' b = none) ∧ W i m σ' H' := fun {s7 σ7 H7} I7 n7 => by
    obtain ⟨m', hm, w7⟩ := hN σ7 H7 n7
    refine ⟨m', hm, i + 1, σ7, H7, I7.unpinned, T.keep _ _ _ st5 fun b hb o e => (I7.pin (b, o) (List.mem_append_right _ (List.mem_append_right _ (mem_pinsAt hb e)))).1, fun b hb => ?_, w7⟩
    obtain ⟨o, e, d⟩ := T.obj _ _ st5 b hb
    exact (I7.pin (b, o) (List.mem_append_right _ (List.mem_append_right _ (mem_pinsAt hb e)))).2.1
   refine thn (hg s2 H2 C fp _ s5 σ3 H5 x u _ I5' r5 (step x H5 y5)) fun _ s6 ⟨σ6, H6, I6, q6⟩ => ?_
   refine thn (ht s2 H2 C fp _ s6 σ6 H6 _ I6 q6) fun b s7 ⟨H7, I7, q7⟩ => ?_
   cases b with
   | false =>
    rw [if_neg Bool.false_ne_true] at q7 ⊢
    exact again I7 q7
   | true =>
    rw [if_pos rfl] at q7 ⊢
    refine thn (he s2 H2 C fp _ s7 σ6 H7 _ I7 q7) fun u8 s8 ⟨v8, H8, I8, r8, xs, hD, hz, n8⟩ => ?_
    exact thn (mt_append (X := cxB X sc N fp C s2 H2) _ s8 σ6 H8 (.ref s2.heap.objs.size) [v8] (.ref s2.heap.objs.size) [u8] (fun _ H => N' σ6 H) I8 rfl (.cons r8 .nil) ⟨_, xs, v8, rfl, rfl, hD, hz, n8⟩) fun _ s9 ⟨_, H9, I9, _, n9⟩ => again I9 n9
 exact codeAny_compStart_list loop (T.self _ 0 _ _ _ stB loop)
end
section
variable {X : Cx}
noncomputable def rAll (K : PySem.W.Frag) : List V → Hp → VK → Prop := fun xs H Q => ∃ (p : Addr) (bs : List Bool), xs = [.ref p] ∧ SqL K H p (bs.map V.bl) ∧ Q (.bl (bs.all id)) H
theorem all_range (bs : List Bool) : ((List.range bs.length).all fun i => bs.getD i false) = bs.all id := by
 induction bs with
 | nil => rfl
 | cons b r ih =>
  rw [List.length_cons, List.range_succ_eq_map, List.all_cons, List.all_map, List.all_cons, ← ih]
  rfl
theorem call_all (hc : X.calm = true) : CallR X (.builtin "all") (rAll X.K) := by
 intro pins s σ H xs us Q I rs h
 obtain ⟨p, bs, rfl, hq, q⟩ := h
 obtain ⟨u, rfl, r1⟩ := vals1 rs
 cases r1
 obtain ⟨its, r, pl, hz⟩ := I.list hq
 have hlen : its.length = bs.length := by have := r.length; rw [List.length_map] at this; exact this.symm
 refine call_function_tree F.kind_all F.plain_all F.entry_all (F.args_all1 _) ?_
 show wpAny _ X.A.in1 (pyIter (.ref p) >>= _) _ _ s
 refine wpAny_bind (wpAny_pyIter_list pl.isList ?_)
 have hne : p ≠ s.heap.objs.size := by
  obtain ⟨o, ho, _⟩ := pl.isList
  exact Nat.ne_of_lt (Heap.lt_size ho)
 refine wpAny_pure ⟨plainId_quiet F.plain_all_loop _, ?_⟩
 refine codeAny_all_loop (Walks.list (A := X.A.in1) (I.ok.hd hc) s.heap.objs.size p hne its.toArray) (fun i => bs.getD i false) (fun i v s' Q' E' hP hQ' => ?_) its.toArray.size 0 _ rfl (Nat.zero_le _)
  ⟨⟨_, Heap.get?_push_size _ rfl, rfl, rfl⟩, (show s.heap.IsList p its.toArray from pl.isList).at fun o e => Heap.get?_push_of_some _ e⟩ fun h' tk hk => ?_
 ·have hP' : its[i]? = some v := by simpa using hP
  have hi : i < bs.length := by rw [← hlen]; exact (List.getElem?_eq_some_iff.mp hP').1
  obtain ⟨u, hu, ru⟩ := r.get (i := i) (x := V.bl (bs[i])) (by simp [hi])
  rw [hP'] at hu; cases hu
  obtain rfl : v = Value.bool bs[i] := ru
  have e : bs.getD i false = bs[i] := by simp [List.getD, hi]
  dsimp only at hQ'
  rw [e] at hQ'
  exact wpAny_truthy_bool hQ'
 ·refine ⟨.bl (bs.all id), H, I.kept (t' := tk) fun b o e => hk b o (fun z => ?_) (Heap.get?_push_of_some _ e), ?_, q⟩
  ·have z' : b = s.heap.objs.size := by simpa using z
   exact absurd (Heap.lt_size e) (by rw [z']; exact Nat.lt_irrefl _)
  ·show Value.bool _ = Value.bool _
   rw [List.drop_zero, List.size_toArray, hlen, all_range]
theorem op_mulG : OpR X (binaryOp .Mult) (rI IntMulOk fun i j => .int (i * j)) := opI fun _ _ _ _ _ _ _ hc q => mul_int q hc
end
end L2
namespace L2
open PySem PySem.Spec PyProof.Rows
structure FunD (K : PySem.W.Frag) (x qual : Str) (st : Stmt) (dV : Value) (f : Addr) (fd : FuncData) : Prop where
 ex : ∃ (oc : Value) (od : Option Addr) (kV doc pm : Value) (an : Option Addr) (cdv ct : Value) (osl : Array (Option Value)),
  fd = PySem.W.fnOf x qual (defArgs st) (defBody st) (defScope st) dV kV doc pm an cdv ct ∧ K.lookup f = some ⟨oc, od, .func fd, osl⟩ ∧ PySem.W.codeIn K cdv qual = true
 kp : PySem.W.keepIn K (.ref f) = true
theorem funD_mk {K : PySem.W.Frag} {x qual : Str} {st : Stmt} {dV : Value} {f : Addr} {oc : Value} {od an : Option Addr} {osl : Array (Option Value)} {kV doc pm cdv ct : Value}
  (l : K.lookup f = some ⟨oc, od, .func (PySem.W.fnOf x qual (defArgs st) (defBody st) (defScope st) dV kV doc pm an cdv ct), osl⟩)
  (c : PySem.W.codeIn K cdv qual = true) (k : PySem.W.keepIn K (.ref f) = true) : FunD K x qual st dV f (PySem.W.fnOf x qual (defArgs st) (defBody st) (defScope st) dV kV doc pm an cdv ct) := ⟨⟨oc, od, kV, doc, pm, an, cdv, ct, osl, rfl, l, c⟩, k⟩
structure Def (P : Program) (w : World) (K : PySem.W.Frag) (mg : Str → Option Value) (base : Heap) (k : Nat) (x : Str) (ps : List Str) (ds : List V) (sp : Sp) : Prop where
 ex : ∃ (f : Addr) (fd : FuncData) (dvs : List Value), FnOk P w K mg base CX0 k f fd ps sp ∧ mg x = some (.ref f) ∧ PySem.W.keepIn K (.ref f) = true ∧ Binds K fd ps dvs ∧ Vals ds dvs
section
variable {P : Program} {w : World} {K : PySem.W.Frag} {mg : Str → Option Value} {base : Heap}
theorem FunD.ok {x qual : Str} {st : Stmt} {dV : Value} {f : Addr} {fd : FuncData} {N ps : List Str} {k : Nat} {sp : Sp} (F : FunD K x qual st dV f fd) (S : FnScope N ps (defScope st)) (len : ∀ vs H Q E, sp vs H Q E → vs.length = ps.length)
  (hbody : ∀ (cdv : Value) (A : Around) (outer : List Env) (s : Shared) (H : Hp) (vs : List V) (Q : VK) (E : XK), Room k (A.deeper (envOfC qual (defScope st) s.heap.objs.size f cdv)) → sp vs H Q E →
   ∃ t, PSs (cxOf CX0 P w K mg base N qual (defScope st) f cdv A outer s H E).nox (defBody st) t ∧ t { nx := fun _ H' => Q .non H', rt := Q } (start N vs) H) : FnOk P w K mg base CX0 (k + 1) f fd ps sp := by
 obtain ⟨oc, od, kV, doc, pm, an, cdv, ct, osl, rfl, lk, hcd⟩ := F.ex
 refine fn_of lk hcd S len fun A outer s H vs Q E hr hsp => ?_
 obtain ⟨t, h, q⟩ := hbody cdv A outer s H vs Q E hr hsp
 exact ⟨t, h.nox, q⟩
theorem FunD.def {x qual : Str} {st : Stmt} {f : Addr} {fd : FuncData} {ps : List Str} {k : Nat} {sp : Sp} (F : FunD K x qual st .none f fd) (G : FnOk P w K mg base CX0 k f fd ps sp) (hm : mg x = some (.ref f))
  (h : ∀ (kV doc pm : Value) (an : Option Addr) (cdv ct : Value) (us : List Value), us.length = ps.length → bindArgs (PySem.W.fnOf x qual (defArgs st) (defBody st) (defScope st) .none kV doc pm an cdv ct) ⟨us, []⟩ = pure (ps.zip us)) : Def P w K mg base k x ps [] sp := by
 obtain ⟨oc, od, kV, doc, pm, an, cdv, ct, osl, rfl, lk, hcd⟩ := F.ex
 exact ⟨f, _, [], G, hm, F.kp, .all (h kV doc pm an cdv ct), .nil⟩
end
section
variable {X : Cx}
theorem pe_callD {k : Nat} {x : Str} {ps : List Str} {ds : List V} {sp : Sp} {e : Expr} {es : List Expr} {t : TA} {p pos : Pos} (D : Def X.prog X.w X.K X.mg X.base k x ps ds sp) (hr : Room k X.A) (hg : Gl X x)
  (ha : PA X (e :: es) t) (hdb : (x == ("__debug__" : Str)) = false := by decide) (he : starEach (e :: es) X.env = (false, eval e X.env) :: starEach es X.env := by rfl) (hpl : (backTo pos (starEach es X.env)).any (·.1) = false := by rfl) :
  PE X (.Call (.Name x p) (e :: es) [] pos) (tCall sp ds E0 t) := by
 obtain ⟨f, fd, dvs, F, hm, hk, hb, hd⟩ := D.ex
 exact pe_call F hr hg hm hk hb hd pass0 ha hdb he hpl
end
end L2
namespace Att
open PySem PySem.W PySem.Calls PyProof.Rows
theorem weight_mem : ∀ {ns : List Int} {x : Int}, x ∈ ns → Builtin.Int.intBits x ≤ WData.weightAll (ns.map WData.int)
 | n :: r, x, h => by
  rw [List.map_cons]
  unfold WData.weightAll
  rcases List.mem_cons.mp h with e | h
  ·subst e
   have : WData.weight (.int x) = Builtin.Int.intBits x := by unfold WData.weight Builtin.Int.intBits; rfl
   omega
  ·have := weight_mem h
   omega
theorem bits_of_lay {ns : List Int} (h : WData.layableAll [WData.list (ns.map WData.int)] = true) : ∀ x ∈ ns, Builtin.Int.intBits x ≤ 2 ^ 20 := fun x hx => by
 have h1 : WData.layable (WData.list (ns.map WData.int)) = true := by simpa [WData.layableAll] using h
 unfold WData.layable at h1
 rw [Bool.and_eq_true] at h1
 have h2 : WData.weight (WData.list (ns.map WData.int)) ≤ 2 ^ 20 := of_decide_eq_true h1.2
 have h3 : WData.weight (WData.list (ns.map WData.int)) = WData.weightAll (ns.map WData.int) := by unfold WData.weight; rfl
 have h4 := weight_mem hx
 omega
theorem attach_callB {l : OpenLaw} {n : Nat} {q : Program} {loose : List Str} {XP : (Str → Option Value) → Heap → Prop} {YP : World → Heap → Prop} {d : DefRec}
  (hn : l.most = some n) (hdf : d.params.defaults = [])
  (call : ∀ (w : World) (s₀ s₁ : Shared) (mg mb : Str → Option Value) (fa : Addr) (o : Obj) (pm cd doc : Value) (a : Addr) (vs : List Value) (ns : List Int),
   Ground q loose [] XP w s₀ mg mb s₁.heap → YP w s₁.heap →
   s₁.heap.get? fa = some o → o.data = .func (docDef d.name d.params d.body d.scope pm cd doc) → s₁.heap.CodeRec cd d.name → mg d.name = some (.ref fa) →
   s₁.heap.get? a = some { cls := .type "list", data := .seq vs.toArray } → IntsAre vs ns → ns.length ≤ n → (∀ x ∈ ns, Builtin.Int.intBits x ≤ 2 ^ 20) → s₁.gens = #[] →
   codeAny (model l.prog w) callerA (.call (.ref fa) ⟨[.ref a], []⟩) (fun r s' => r = .ok (.ret (.bool true)) ∧ OldK s₁.heap s'.heap ∧ s'.os = s₁.os ∧ AllBare s'.gens) s₁) :
  WalkO q loose XP YP l.row.toRowW d [] (fun f vs => PySem.call f vs) := by
 intro w s₀ s₁ mg mb G Y fa o pm cd doc dV kV ho hd hcd hD hmg hg args vals as hpre hlay hrd hwl hlo
 obtain rfl : dV = .none := Dflts.none hD hdf
 obtain rfl : kV = .none := Dflts.noKw hD
 obtain ⟨a, vs, ns, rfl, rfl, hobj, hints, hlen⟩ := script_of hn hpre hwl
 refine enter_call (codeAny_mono (call w s₀ s₁ mg mb fa o pm cd doc a vs ns G Y ho (fd_plain hd) hcd hmg hobj hints hlen (bits_of_lay hlay) hg) fun r s' hq => ?_)
 obtain ⟨rfl, h2, h3, h4⟩ := hq
 exact ⟨.inl ⟨.bool true, .bool true, [], rfl, fun _ => rfl, .bool true, post_true l _, fun _ => ⟨List.Pairwise.nil, fun _ hm => (nomatch hm)⟩⟩, h2, h3, h4⟩
end Att
namespace L2
open PySem PySem.Spec PyProof.Rows
open Sem (wp)
noncomputable def NoCtx (h : Heap) (ea : Addr) : Prop := ∃ o vs, h.get? ea = some o ∧ o.data = .fields vs ∧ vs[2]? = some Value.none
theorem NoCtx.keeps {h h' : Heap} {ea : Addr} (c : NoCtx h ea) (k : ∀ o, h.get? ea = some o → h'.get? ea = some o) : NoCtx h' ea := by
 obtain ⟨o, vs, e, d, n⟩ := c
 exact ⟨o, vs, k o e, d, n⟩
noncomputable def Keeps {α : Type} (P : Heap → Prop) : Sem α → Prop
 | .pure _ => True
 | .raise _ => True
 | .unsupported _ => True
 | .finish _ => True
 | .rule _ k => Keeps P (k ())
 | .at _ k => Keeps P (k ())
 | .load _ _ k => ∀ o, Keeps P (k o)
 | .update a _ f k => (∀ h, P h → P (h.update a f)) ∧ Keeps P (k ())
 | .alloc o k => (∀ h, P h → P (h.push o)) ∧ ∀ a, Keeps P (k a)
 | .loadIfAlive _ k => ∀ o, Keeps P (k o)
 | .point _ k => Keeps P (k ())
 | .register _ _ => True
 | .fresh k => ∀ n, Keeps P (k n)
 | .ask k => ∀ x, Keeps P (k x)
 | .choose _ _ k => ∀ n, Keeps P (k n)
 | .os _ _ k => ∀ x, Keeps P (k x)
 | .call .. => False
 | .handled _ k => ∀ x, Keeps P (k x)
 | .newGen _ k => ∀ n, Keeps P (k n)
 | .genState _ k => ∀ x, Keeps P (k x)
 | .resume .. => False
 | .yield .. => True
 | .stack k => ∀ l, Keeps P (k l)
 | .fork .. => True
 | .thread k => ∀ n, Keeps P (k n)
 | .await .. => True
section
variable {α β : Type} {P : Heap → Prop} {M : Model} {Γ : PySem.Ctx} {A : Around}
theorem Keeps.wp {t : Sem α} {Q : α → Pos → Shared → Prop} {E : Value → Pos → Shared → Prop} {p : Pos} {s : Shared} (hk : Keeps P t) (h : wp M Γ t Q E p s) (hp : P s.heap) :
  Sem.wp M Γ t (fun a p' s' => Q a p' s' ∧ P s'.heap) (fun e p' s' => E e p' s' ∧ P s'.heap) p s := by
 induction t generalizing p s with
 | pure a => exact ⟨h, hp⟩
 | raise e => exact ⟨h, hp⟩
 | unsupported w => exact h
 | finish e => exact h
 | rule tag k ih => exact ih () hk h hp
 | «at» q k ih => exact ih () hk h hp
 | load a part k ih => obtain ⟨o, ho, h⟩ := h; exact ⟨o, ho, ih o (hk o) h hp⟩
 | update a part f k ih => exact ⟨h.1, ih () hk.2 h.2 (hk.1 _ hp)⟩
 | alloc o k ih => exact ih _ (hk.2 _) h (hk.1 _ hp)
 | loadIfAlive a k ih => exact ih _ (hk _) h hp
 | point l k ih => exact ih () hk h hp
 | register a k ih => exact h
 | fresh k ih => exact ih _ (hk _) h hp
 | ask k ih => exact ih _ (hk _) h hp
 | choose src n k ih => exact ⟨h.1, ih _ (hk _) h.2 hp⟩
 | os q l k ih => exact ih _ (hk _) h hp
 | call c hd g l k ih => exact hk.elim
 | handled own k ih => exact ih _ (hk _) h hp
 | newGen c k ih => exact ih _ (hk _) h hp
 | genState g k ih => obtain ⟨st, e, h⟩ := h; exact ⟨st, e, ih _ (hk _) h hp⟩
 | resume g r l k ih => exact hk.elim
 | yield v g l k ih => exact h
 | stack k ih => exact ih _ (hk _) h hp
 | fork c k ih => exact h
 | thread k ih => exact ih _ (hk _) h hp
 | await a t b l k ih => exact h
theorem Keeps.any {t : Sem α} {Q : α → Shared → Prop} {E : Value → Shared → Prop} {s : Shared} (hk : Keeps P t) (hp : P s.heap) (h : wpAny M A t Q E s) : wpAny M A t (fun a s' => Q a s' ∧ P s'.heap) (fun e s' => E e s' ∧ P s'.heap) s :=
 fun Γ p hΓ => hk.wp (h Γ p hΓ) hp
theorem Keeps.bind {m : Sem α} {f : α → Sem β} (hm : Keeps P m) (hf : ∀ a, Keeps P (f a)) : Keeps P (m >>= f) := by
 show Keeps P (Sem.bind m f)
 induction m with
 | pure a => exact hf a
 | raise e => trivial
 | unsupported w => trivial
 | finish e => trivial
 | rule tag k ih => exact ih () hm
 | «at» q k ih => exact ih () hm
 | load a part k ih => exact fun o => ih o (hm o)
 | update a part g k ih => exact ⟨hm.1, ih () hm.2⟩
 | alloc o k ih => exact ⟨hm.1, fun a => ih a (hm.2 a)⟩
 | loadIfAlive a k ih => exact fun o => ih o (hm o)
 | point l k ih => exact ih () hm
 | register a k ih => trivial
 | fresh k ih => exact fun o => ih o (hm o)
 | ask k ih => exact fun o => ih o (hm o)
 | choose src n k ih => exact fun o => ih o (hm o)
 | os q l k ih => exact fun o => ih o (hm o)
 | call c hd g l k ih => exact hm.elim
 | handled own k ih => exact fun o => ih o (hm o)
 | newGen c k ih => exact fun o => ih o (hm o)
 | genState g k ih => exact fun o => ih o (hm o)
 | resume g r l k ih => exact hm.elim
 | yield v g l k ih => trivial
 | stack k ih => exact fun o => ih o (hm o)
 | fork c k ih => trivial
 | thread k ih => exact fun o => ih o (hm o)
 | await a t b l k ih => trivial
end
section
variable {ea : Addr}
theorem noctx_update {h : Heap} {a : Addr} {f : Obj → Obj} (c : NoCtx h ea) (hf : ∀ o vs, o.data = .fields vs → ∃ ws, (f o).data = .fields ws ∧ ws[2]? = vs[2]?) : NoCtx (h.update a f) ea := by
 obtain ⟨o, vs, e, d, n⟩ := c
 by_cases q : a = ea
 ·subst q
  obtain ⟨ws, d2, n2⟩ := hf o vs d
  exact ⟨f o, ws, Heap.get?_update_self _ e (Obj.isFreed_of_fields d2), d2, n2.trans n⟩
 ·exact ⟨o, vs, (Heap.get?_update_other _ _ q).trans e, d, n⟩
theorem noctx_push {h : Heap} {o : Obj} (c : NoCtx h ea) : NoCtx (h.push o) ea := c.keeps fun _ e => Heap.get?_push_of_some _ e
theorem noctx_field {h : Heap} {a : Addr} {i : Nat} {v : Value} (hi : i ≠ 2) (c : NoCtx h ea) : NoCtx (h.update a (Obj.mapFields (·.setIfInBounds i v))) ea :=
 noctx_update c fun o vs d => ⟨_, Obj.data_mapFields d _, by rw [Array.getElem?_setIfInBounds_ne hi]⟩
theorem keep_load {P : Heap → Prop} {a : Addr} : Keeps P (load a) := fun _ => trivial
theorem keep_stack {P : Heap → Prop} : Keeps P (stack : Sem (List (Code × Pos))) := fun _ => trivial
theorem keep_ite {P : Heap → Prop} {α : Type} {c : Prop} [Decidable c] {x y : Sem α} (h1 : Keeps P x) (h2 : Keeps P y) : Keeps P (if c then x else y) := by
 by_cases h : c
 ·rw [if_pos h]; exact h1
 ·rw [if_neg h]; exact h2
theorem keep_field {v : Value} {i : Nat} : Keeps (NoCtx · ea) (field v i) := by
  unfold field fieldsOf
  repeat' first
    | exact trivial
    | exact keep_load
    | (refine Keeps.bind ?_ fun _ => ?_)
    | split
theorem keep_setField {v x : Value} {i : Nat} (hi : i ≠ 2) : Keeps (NoCtx · ea) (setField v i x) := by
 unfold setField updateField
 cases v with
 | ref a =>
  refine keep_load.bind fun o => ?_
  cases o.data with
  | fields vs => exact keep_ite ⟨fun h c => noctx_field hi c, trivial⟩ trivial
  | _ => trivial
 | _ => trivial
theorem keep_setFlight {e : Value} {f : Option Addr} : Keeps (NoCtx · ea) (setFlight e f) := by
 unfold setFlight
 exact keep_field.bind fun tb => keep_ite (keep_setField (by decide)) trivial
theorem keep_entry {a b c d e : Value} {l : List Value} : Keeps (NoCtx · ea) (EntryCells.newEntry a b c d e l) := by
  unfold EntryCells.newEntry newFields newObj
  dsimp only
  repeat' first
    | exact trivial
    | exact ⟨fun h c => noctx_push c, fun _ => trivial⟩
    | (refine Keeps.bind ?_ fun _ => ?_)
    | (refine keep_ite ?_ ?_)
    | split
theorem keep_place {f : Addr} {b : Bool} : Keeps (NoCtx · ea) (entryPlaceOf f b) := by
 unfold entryPlaceOf
 refine keep_stack.bind fun l => ?_
 split <;> trivial
theorem keep_ready : ∀ (l : List Env), Keeps (NoCtx · ea) (readyFrames l)
  | [] => trivial
  | env :: outer => by
    unfold readyFrames
    cases env.frame with
    | none => trivial
    | some f =>
      refine keep_load.bind fun o => keep_ite trivial ?_
      refine Keeps.bind ?_ fun im => Keeps.bind ?_ fun bk => Keeps.bind ⟨fun h c => noctx_update c fun o vs d => ⟨vs, d, rfl⟩, trivial⟩ fun _ => keep_ready outer
      · unfold behindIsImport
        repeat' first
          | exact trivial
          | exact keep_field
          | (refine Keeps.bind ?_ fun _ => ?_)
          | (refine keep_ite ?_ ?_)
      · unfold keptBack underTheClaimsCaller
        repeat' first
          | exact trivial
          | exact keep_stack
          | (refine Keeps.bind ?_ fun _ => ?_)
          | (refine keep_ite ?_ ?_)
          | split
theorem keep_frameOf {env : Env} : Keeps (NoCtx · ea) (PySem.frameOf env) := by
  unfold PySem.frameOf frameEnvs frameObject
  repeat' first
    | exact trivial
    | exact keep_stack
    | exact keep_ready _
    | (refine Keeps.bind ?_ fun _ => ?_)
    | split
theorem keep_note {e : Value} {env : Env} : Keeps (NoCtx · ea) (noteFrame e env) := by
 unfold noteFrame
 cases env.frame with
 | none => trivial
 | some f =>
  refine keep_field.bind fun hd => ?_
  have fin : Keeps (NoCtx · ea) (do setField e 1 (← EntryCells.newEntry hd (← PySem.frameOf env) .none (rawInt f) .none (← entryPlaceOf f (hd != .none)))) :=
   keep_frameOf.bind fun fr => keep_place.bind fun pl => keep_entry.bind fun en => keep_setField (by decide)
  exact keep_ite (keep_field.bind fun x => keep_ite trivial ((keep_setField (by decide)).bind fun _ => fin)) fin
theorem keep_leaving {e : Value} {env : Env} : Keeps (NoCtx · ea) (leaving env e) := keep_note.bind fun _ => keep_setFlight
end
section
variable {M : Model} {A : Around} {E : Value → Shared → Prop} {s : Shared} {base : Heap} {env : Env} {outer l : List Env} {L e : Addr} {cls a0 : Value} {Q : Unit → Shared → Prop}
theorem leaves_onC (hfr : A.frames = some (env :: outer)) (hf : env.frame = some L) (hfl : Heap.FlyingW base (env :: outer) e cls a0 s.heap) (nc : NoCtx s.heap e)
  (hQ : ∀ h', Heap.FlyingW base outer e cls a0 h' → NoCtx h' e → s.heap.UpToSlots h' → Q () { s with heap := h' }) : wpAny M A (leaving env (.ref e)) Q E s :=
 wpAny_mono (keep_leaving.any nc (wpAny_leaves_onW (Q := fun _ s' => ∃ h', s' = { s with heap := h' } ∧ Heap.FlyingW base outer e cls a0 h' ∧ s.heap.UpToSlots h') (E := fun _ _ => False) hfr hf hfl fun h' a b => ⟨h', rfl, a, b⟩))
  (fun _ s' ⟨⟨h', e', a, b⟩, n⟩ => by subst e'; exact hQ h' a n b) fun _ _ z => z.1.elim
theorem leaves_madeC {h : Heap} {args : List Value} (hfr : A.frames = some (env :: outer)) (hf : env.frame = some L) (hkb : base.StaysIn h) (hl : h.FunFrames base (env :: outer)) (hx : Heap.MadeExcOf h s.heap e cls args)
  (hQ : ∀ h' t, Heap.FlyingW base outer e cls (.ref t) h' → NoCtx h' e → h'.TupAt t args → base.get? t = none → s.heap.UpToSlots h' → Q () { s with heap := h' }) : wpAny M A (leaving env (.ref e)) Q E s := by
 have nc : NoCtx s.heap e := by
  obtain ⟨t, he, _⟩ := hx.there
  exact ⟨_, _, he, rfl, rfl⟩
 exact wpAny_mono (keep_leaving.any nc (wpAny_leaves_madeW (Q := fun _ s' => ∃ h' t, s' = { s with heap := h' } ∧ Heap.FlyingW base outer e cls (.ref t) h' ∧ h'.TupAt t args ∧ base.get? t = none ∧ s.heap.UpToSlots h') (E := fun _ _ => False) hfr hf hkb hl hx fun h' t a b c d => ⟨h', t, rfl, a, b, c, d⟩))
  (fun _ s' ⟨⟨h', t, e', a, b, c, d⟩, n⟩ => by subst e'; exact hQ h' t a n b c d) fun _ _ z => z.1.elim
theorem looks_onC (hfr : A.frames = some (env :: outer)) (hf : env.frame = some L) (hfl : Heap.FlyingW base (env :: outer) e cls a0 s.heap) (nc : NoCtx s.heap e)
  (hQ : ∀ h', Heap.HeldW base (env :: outer) e cls a0 L h' → NoCtx h' e → s.heap.UpToSlots h' → Q () { s with heap := h' }) : wpAny M A (noteFrame (.ref e) env) Q E s :=
 wpAny_mono (keep_note.any nc (wpAny_looks_onW (Q := fun _ s' => ∃ h', s' = { s with heap := h' } ∧ Heap.HeldW base (env :: outer) e cls a0 L h' ∧ s.heap.UpToSlots h') (E := fun _ _ => False) hfr hf hfl fun h' a b => ⟨h', rfl, a, b⟩))
  (fun _ s' ⟨⟨h', e', a, b⟩, n⟩ => by subst e'; exact hQ h' a n b) fun _ _ z => z.1.elim
theorem landsC (hh : Heap.HeldW base l e cls a0 L s.heap) (nc : NoCtx s.heap e)
  (hQ : ∀ h', Heap.FlyingW base l e cls a0 h' → NoCtx h' e → s.heap.UpToSlots h' → Q () { s with heap := h' }) : wpAny M A (setFlight (.ref e) none) Q E s :=
 wpAny_mono (keep_setFlight.any nc (wpAny_landsW (Q := fun _ s' => ∃ h', s' = { s with heap := h' } ∧ Heap.FlyingW base l e cls a0 h' ∧ s.heap.UpToSlots h') (E := fun _ _ => False) hh fun h' a b => ⟨h', rfl, a, b⟩))
  (fun _ s' ⟨⟨h', e', a, b⟩, n⟩ => by subst e'; exact hQ h' a n b) fun _ _ z => z.1.elim
theorem lands_againC (hh : Heap.FlyingW base l e cls a0 s.heap) (nc : NoCtx s.heap e)
  (hQ : ∀ h', Heap.FlyingW base l e cls a0 h' → NoCtx h' e → s.heap.UpToSlots h' → Q () { s with heap := h' }) : wpAny M A (setFlight (.ref e) none) Q E s :=
 wpAny_mono (keep_setFlight.any nc (lands_againW (Q := fun _ s' => ∃ h', s' = { s with heap := h' } ∧ Heap.FlyingW base l e cls a0 h' ∧ s.heap.UpToSlots h') (E := fun _ _ => False) hh fun h' a b => ⟨h', rfl, a, b⟩))
  (fun _ s' ⟨⟨h', e', a, b⟩, n⟩ => by subst e'; exact hQ h' a n b) fun _ _ z => z.1.elim
end
structure Flew (P : Program) (w : World) (outer : List Env) (H H' : Hp) (h B h' : Heap) (ea : Addr) : Prop where
 hok : HOk P w H' B
 keep : ∀ b o, h.get? b = some o → H b = none → b ∉ frs outer → B.get? b = some o
 slot : ∀ b o, h.get? b = some o → b ∈ frs outer → ∃ sl, h'.get? b = some { o with slots := sl }
 free : ∀ b o, h.get? b = some o → H b = none → H' b = none
 there : ∀ b o, h.get? b = some o → b ∉ frs outer → ∃ o', B.get? b = some o'
 tups : ∀ b xs, H b = some (.tup xs) → H' b = some (.tup xs)
 frzs : ∀ b o u, H b = some (.frz o u) → H' b = some (.frz o u)
 tbls : ∀ b ps, H b = some (.tbl ps) → ∃ more, H' b = some (.tbl (ps ++ more))
 exc : H' ea = none
noncomputable def CX1 (P : Program) (w : World) : CXT := fun outer H s E e s' =>
 ∃ (ea : Addr) (cls a0 : Value) (H' : Hp) (B : Heap), e = .ref ea ∧ Heap.FlyingW B outer ea cls a0 s'.heap ∧ NoCtx s'.heap ea ∧ s'.os = s.os ∧ AllBare s'.gens ∧ Flew P w outer H H' s.heap B s'.heap ea ∧ E cls none H'
section
variable {P : Program} {w : World} {outer : List Env} {H H' : Hp} {h B h' h'' : Heap} {ea : Addr}
theorem Flew.up {cls a0 : Value} (f : Flew P w outer H H' h B h' ea) (fl : Heap.FlyingW B outer ea cls a0 h') (up : h'.UpToSlots h'') : Flew P w outer H H' h B h'' ea :=
 ⟨f.hok, f.keep, fun b o e hb => by
  obtain ⟨sl, e1⟩ := f.slot b o e hb
  obtain ⟨_, o1, e2, nf⟩ := fl.2.2.1.mem hb
  rw [e1] at e2
  cases e2
  obtain ⟨sl', e3⟩ := up b _ e1 nf
  exact ⟨sl', e3⟩, f.free, f.there, f.tups, f.frzs, f.tbls, f.exc⟩
theorem Flew.un (f : Flew P w outer H H' h B h' ea) (st : B.StaysIn h') : Un (frs outer) [] H H' h h' where
 keep := fun b o e n hb _ => st b o (f.keep b o e n hb)
 slot := fun b o e _ hb _ => f.slot b o e hb
 free := fun b o e n _ => f.free b o e n
 there := fun b o e _ => by
  by_cases hb : b ∈ frs outer
  ·obtain ⟨sl, e1⟩ := f.slot b o e hb
   exact ⟨_, e1⟩
  ·obtain ⟨o', e1⟩ := f.there b o e hb
   exact ⟨o', st b o' e1⟩
 tups := f.tups
 frzs := f.frzs
 tbls := f.tbls
theorem Flew.ok (f : Flew P w outer H H' h B h' ea) (st : B.StaysIn h') : HOk P w H' h' := f.hok.kept st
end
section
variable {P : Program} {w : World} {K : PySem.W.Frag} {mg : Str → Option Value} {base : Heap} {N : List Str} {qual : Str} {scope : Scope} {f : Addr} {cd : Value} {A : Around} {outer : List Env} {s₀ : Shared} {H₀ : Hp} {E : XK}
theorem passes1 : Passes (CX1 P w) (cxOf (CX1 P w) P w K mg base N qual scope f cd A outer s₀ H₀ E) E := by
 intro pins σ H s e s' I hc
 obtain ⟨ea, cls, a0, H', B, rfl, fl, nc, os, bare, fw, q⟩ := hc
 have fr : frs (envOfC qual scope s₀.heap.objs.size f cd :: outer) = s₀.heap.objs.size :: frs outer := rfl
 have neL : ∀ b o, s₀.heap.get? b = some o → b ∉ frs outer → b ∉ frs (envOfC qual scope s₀.heap.objs.size f cd :: outer) := fun b o e hb z => by
  rw [fr] at z
  rcases List.mem_cons.mp z with z | z
  ·have := Heap.lt_size e
   rw [z] at this
   exact absurd this (Nat.lt_irrefl _)
  ·exact hb z
 show wpAny (model P w) (A.deeper (envOfC qual scope s₀.heap.objs.size f cd)) (leaving (envOfC qual scope s₀.heap.objs.size f cd) (.ref ea)) (fun _ s'' => CX1 P w outer H₀ s₀ E (.ref ea) s'') (fun e' s'' => CX1 P w outer H₀ s₀ E e' s'') s'
 refine leaves_onC I.ok.frames rfl fl nc fun h'' fl'' nc'' up => ?_
 have fu := fw.up fl up
 have ub : Un (frs outer) [] H₀ H s₀.heap s.heap := I.base
 refine ⟨ea, cls, a0, H', B, rfl, fl'', nc'', os.trans I.os, bare, ⟨fw.hok, fun b o e n hb => ?_, fun b o e hb => ?_, fun b o e n => ?_, fun b o e hb => ?_, fun b xs e => fw.tups b xs (ub.tups b xs e), fun b o u e => fw.frzs b o u (ub.frzs b o u e), fun b ps e => ?_, fw.exc⟩, q⟩
 ·exact fw.keep b o (ub.keep b o e n hb (by simp)) (ub.free b o e n (by simp)) (neL b o e hb)
 ·obtain ⟨sl, e1⟩ := ub.slot b o e (I.ok.frf b hb) hb (by simp)
  obtain ⟨sl', e2⟩ := fu.slot b _ e1 (show b ∈ frs (envOfC qual scope s₀.heap.objs.size f cd :: outer) by rw [fr]; exact List.mem_cons_of_mem _ hb)
  exact ⟨sl', e2⟩
 ·obtain ⟨o', e1⟩ := ub.there b o e (by simp)
  exact fw.free b o' e1 (ub.free b o e n (by simp))
 ·obtain ⟨o', e1⟩ := ub.there b o e (by simp)
  exact fw.there b o' e1 (neL b o e hb)
 ·obtain ⟨m1, e1⟩ := ub.tbls b ps e
  obtain ⟨m2, e2⟩ := fw.tbls b _ e1
  exact ⟨m1 ++ m2, by rw [e2, Array.append_assoc]⟩
noncomputable def Raises (X : Cx) (E : XK) (cls : Value) : Prop := ∀ (pins : List (Addr × Obj)) (σ : St) (H : Hp) (s : Shared) (ea : Addr) (h' : Heap) (vs : List Value), Inv X pins σ H s → Heap.MadeExcOf s.heap h' ea cls vs → E cls none H → X.xe (.ref ea) { s with heap := h' }
theorem raises1 {cls : Value} : Raises (cxOf (CX1 P w) P w K mg base N qual scope f cd A outer s₀ H₀ E) E cls := by
 intro pins σ H s ea h' vs I hx q
 have fr : frs (envOfC qual scope s₀.heap.objs.size f cd :: outer) = s₀.heap.objs.size :: frs outer := rfl
 have neL : ∀ b o, s₀.heap.get? b = some o → b ∉ frs outer → b ∉ frs (envOfC qual scope s₀.heap.objs.size f cd :: outer) := fun b o e hb z => by
  rw [fr] at z
  rcases List.mem_cons.mp z with z | z
  ·have := Heap.lt_size e
   rw [z] at this
   exact absurd this (Nat.lt_irrefl _)
  ·exact hb z
 have stk : s.heap.FunFrames base (envOfC qual scope s₀.heap.objs.size f cd :: outer) := I.stack
 have hin : ∀ env ∈ (envOfC qual scope s₀.heap.objs.size f cd :: outer), ∀ b, env.frame = some b → b ∈ frs (envOfC qual scope s₀.heap.objs.size f cd :: outer) := fun env he b hb => List.mem_filterMap.mpr ⟨env, he, hb⟩
 have sf : ∀ b u, H b = some u → b ∉ frs (envOfC qual scope s₀.heap.objs.size f cd :: outer) := fun b u e z => by
  have n := I.stkFree b z
  rw [e] at n; cases n
 show wpAny (model P w) (A.deeper (envOfC qual scope s₀.heap.objs.size f cd)) (leaving (envOfC qual scope s₀.heap.objs.size f cd) (.ref ea)) (fun _ s'' => CX1 P w outer H₀ s₀ E (.ref ea) s'') (fun e' s'' => CX1 P w outer H₀ s₀ E e' s'') { s with heap := h' }
 refine leaves_madeC (base := PySem.W.hideAll s.heap (frs (envOfC qual scope s₀.heap.objs.size f cd :: outer))) (h := s.heap) I.ok.frames rfl (fun b o e => PySem.W.of_hideAll _ e) (PySem.W.funFrames_hide stk hin) hx fun h'' t fl nc tup hbt up => ?_
 have ub : Un (frs outer) [] H₀ H s₀.heap s.heap := I.base
 have toB : ∀ b o, s.heap.get? b = some o → b ∉ frs (envOfC qual scope s₀.heap.objs.size f cd :: outer) → (PySem.W.hideAll s.heap (frs (envOfC qual scope s₀.heap.objs.size f cd :: outer))).get? b = some o := fun b o e hb => PySem.W.hideAll_get _ e hb
 refine ⟨ea, cls, .ref t, H, _, rfl, fl, nc, I.os, I.bare, ⟨fun a o e => ?_, fun b o e n hb => ?_, fun b o e hb => ?_, fun b o e n => ?_, fun b o e hb => ?_, ub.tups, ub.frzs, ub.tbls, ?_⟩, q⟩
 ·refine (I.hok a o e).stay (fun b u hb g => toB b u g ?_) (fun _ g => g) fun _ _ g => g
  rcases hb with hb | hb
  ·rw [hb]; exact sf a o e
  ·exact sf b _ hb
 ·exact toB b o (ub.keep b o e n hb (by simp)) (neL b o e hb)
 ·obtain ⟨sl, e1⟩ := ub.slot b o e (I.ok.frf b hb) hb (by simp)
  obtain ⟨_, o1, e2, nf⟩ := I.funs.mem hb
  rw [e1] at e2
  cases e2
  obtain ⟨sl', e3⟩ := up b _ (hx.keeps b _ e1) nf
  exact ⟨sl', e3⟩
 ·exact ub.free b o e n (by simp)
 ·obtain ⟨o', e1⟩ := ub.there b o e (by simp)
  exact ⟨o', toB b o' e1 (neL b o e hb)⟩
 ·cases g : H ea with
  | none => rfl
  | some u =>
   have z : ∃ o, s.heap.get? ea = some o := by
    have := (I.hok ea u g)
    cases u with
    | lst xs => obtain ⟨_, _, _, _, e⟩ := this; exact ⟨_, e⟩
    | tup xs => obtain ⟨_, _, _, o, e, _⟩ := this; exact ⟨o, e⟩
    | dK kvs => obtain ⟨_, _, _, _, o, _, _, e, _⟩ := this; exact ⟨o, e⟩
    | dT kvs => obtain ⟨_, _, _, _, o, _, _, e, _⟩ := this; exact ⟨o, e⟩
    | set S n => obtain ⟨o, _, _, _, e, _⟩ := this; exact ⟨o, e⟩
    | ins C dx fs => obtain ⟨_, _, _, e, _⟩ := this; exact ⟨_, e⟩
    | own y => exact this
    | xd fs => obtain ⟨_, ⟨o, _, _, e, _⟩, _⟩ := this; exact ⟨o, e⟩
    | rng lo hi => obtain ⟨_, _, _, e⟩ := this; exact ⟨_, e⟩
    | frz ob u => obtain ⟨e, _⟩ := this; exact ⟨_, e⟩
    | tbl ps => exact ⟨_, this⟩
    | met f y => exact ⟨_, this⟩
    | ext φ => obtain ⟨_, e, _⟩ := this; exact e
   obtain ⟨o, e⟩ := z
   rw [hx.new] at e; cases e
end
theorem exc_obj {K : PySem.W.Frag} {h : Heap} {C : Addr} {bmB : List Value} {newId : String} (KX : K.In h) (q : PySem.W.excIn K C bmB newId = true) :
  ∃ bm nsA nm qn bs hd sn sub ab col dd k0 k1 k2 k3 k5 mN, h.get? C = some (excClassObj nm qn C nsA bs bm hd sn sub ab col dd k0 k1 k2 k3 k5 newId) ∧ h.Ns nsA mN ∧ mN "__init__" = none ∧ OwnTail h bmB bm := by
 unfold PySem.W.excIn at q
 split at q
 ·rename_i dd cd sl look
  split at q
  ·rename_i C2 bm k0 k1 k2 k3 n k5 hmro hsl
   simp only [Bool.and_eq_true, beq_iff_eq, Bool.not_eq_true'] at q
   obtain ⟨⟨⟨⟨⟨qC, qn'⟩, qdel⟩, qtail⟩, qok⟩, qinit⟩ := q
   cases qC
   cases qn'
   obtain ⟨nm, bs, mro, nsA, qn, hd, sn, sub, ab, col, del⟩ := cd
   have hmro' : mro = _ :: bm := hmro
   have qdel' : del = false := qdel
   cases hmro'
   cases qdel'
   have esl : sl = #[k0, k1, k2, k3, some (.builtin newId), k5] := by
    cases sl with
    | mk l => exact congrArg Array.mk hsl
   cases esl
   exact ⟨bm, nsA, nm, qn, bs, hd, sn, sub, ab, col, dd, k0, k1, k2, k3, k5, _, KX _ _ look, .of_isNs (PySem.W.isNs_of_in KX qok), PySem.W.nsMap_none_of_in KX qok qinit, PySem.W.tail_of_in KX qtail⟩
  ·exact absurd q Bool.false_ne_true
 ·exact absurd q Bool.false_ne_true
abbrev mroVE : List Value := [.type "ValueError", .type "Exception", .type "BaseException", .type "object"]
section
variable {X : Cx} {E : XK} {C : Addr} {x : Str}
noncomputable def tRaise (E : XK) (cls : Value) (t : TA) : TS := fun _ σ H => t σ H fun vs H1 => vs.length ≤ sizeLine ∧ E cls none H1
theorem ps_raise {e : Expr} {es : List Expr} {t : TA} {np cpos pos : Pos} (hc : X.calm = true) (hR : Raises X E (.ref C)) (hg : Gl X x) (hm : X.mg x = some (.ref C)) (hE : PySem.W.excIn X.K C mroVE "ValueError.__new__" = true)
    (ha : PA X (e :: es) t) (hdb : (x == ("__debug__" : Str)) = false := by decide) (he : starEach (e :: es) X.env = (false, eval e X.env) :: starEach es X.env := by rfl) (hpl : (backTo cpos (starEach es X.env)).any (·.1) = false := by rfl) :
    PS X (.Raise (some (.Call (.Name x np) (e :: es) [] cpos)) none pos) (tRaise E (.ref C) t) := by
  intro pins s σ H D I hq
  obtain ⟨bm, nsA, nm, qn, bs, hd, sn, sub, ab, col, dd, k0, k1, k2, k3, k5, mN, hC, hN, hni, T⟩ := exc_obj (h := X.base) I.ok.mod.kin hE
  refine wpAny_Raise_call_subU (C := C) (nm := nm) (q := qn) (N := nsA) (bs := bs) (bm := bm) (hdct := hd) (sn := sn) (sub := sub) (ab := ab) (col := col) (dd := dd) (k0 := k0) (k1 := k1) (k2 := k2) (k3 := k3) (k5 := k5)
    PySem.F.excBase_ValueError (by decide) PySem.F.excBase_ValueError (mN := mN) (T.hasType (by decide)) (I.ok.hd hc) (by rw [he]; show (false || (backTo cpos (starEach es X.env)).any (·.1)) = false; rw [hpl]; rfl) hni (ld_glob I hg hm ⟨rfl, ?_⟩ hdb)
  have h1 := ha cpos pins s σ H _ I hq
  rw [he] at h1 ⊢
  refine Calls.evalArgs_plain (thn h1 fun us s2 ⟨vs, H2, I2, r, hz, q⟩ => ⟨rfl, ?_, ?_⟩)
  · show us.length ≤ sizeLine
    rw [← r.length]; exact hz
  · exact ⟨I2.bk _ _ hC, hN.keeps I2.bk, T.keeps I2.bk, fun h' ea hx => hR pins σ H2 s2 ea h' us I2 hx q⟩
end
noncomputable def ExcO (ea C : Addr) : HO := .ext fun h => ∃ o vs, h.get? ea = some o ∧ o.cls = .ref C ∧ o.data = .fields vs ∧ vs[2]? = some Value.none
noncomputable def Cx.marked (X : Cx) (ea : Addr) : Cx := { X with A := X.A.mark (some (.ref ea)), calm := false, xe := fun _ _ => False }
section
variable {X : Cx} {pins : List (Addr × Obj)} {σ : St} {H : Hp} {s : Shared} {ea : Addr}
theorem Cx.Ok.marked (ok : X.Ok) (ea : Addr) : (X.marked ea).Ok :=
 ⟨ok.mod, ok.kind, ok.glob, ok.blt, ok.above, ok.inj, ok.has, ok.cab, (fun z => absurd (show false = true from z) (by decide)), ok.frames, ok.stk, ok.exf, ok.bs, ok.bsz, ok.noex, ok.exfs, ok.funs, ok.frf⟩
theorem Inv.marked (I : Inv X pins σ H s) (ea : Addr) : Inv (X.marked ea) pins σ H s := ⟨I.ok.marked ea, I.os, I.bare, I.base, I.loc, I.cell, I.free, I.freeC, I.pin, I.hok, I.len⟩
theorem Inv.unmarked (ok : X.Ok) (I : Inv (X.marked ea) pins σ H s) : Inv X pins σ H s := ⟨ok, I.os, I.bare, I.base, I.loc, I.cell, I.free, I.freeC, I.pin, I.hok, I.len⟩
theorem Inv.gone {i : Nat} {n : Str} {h' : Heap} {v : Option Value} {m : Str → Option Value} {t : Nat} (I : Inv X pins σ H s) (hN : X.N.Nodup) (hi : X.N[i]? = some n) (hk : X.env.scope.names.lookup n = some .local)
  (hl : ∀ (j : Nat) (x : Str) (v : V), X.N[j]? = some x → σ[j]? = some (some v) → Vis X.env.scope x → ∃ u, RelV v u ∧ Look X.env s.heap m x u)
  (hn' : h'.Ns X.env.locals (fun x => if x = n then v else m x)) (hs : Heap.SameBut X.env.locals s.heap h') : Inv X pins (σ.set i none) H { s with heap := h', toks := t } := by
 have ltL : ∀ b o, X.s₀.heap.get? b = some o → b ≠ X.env.locals := fun b o e => Nat.ne_of_lt (Nat.lt_of_lt_of_le (Heap.lt_size e) I.ok.above)
 refine ⟨I.ok, I.os, I.bare, ⟨fun b o e q hb hx => ?_, fun b o e q hb hx => ?_, I.base.free, fun b o e hx => ?_, I.base.tups, I.base.frzs, I.base.tbls⟩, ⟨_, hn', fun j y v' e1 e2 e3 => ?_⟩, fun y c e => ?_, I.free, I.freeC, fun p hp => ?_, fun b u e => ?_, by rw [List.length_set]; exact I.len⟩
 ·exact (hs.2 b (ltL b o e)).trans (I.base.keep b o e q hb hx)
 ·obtain ⟨sl, e1⟩ := I.base.slot b o e q hb hx
  exact ⟨sl, (hs.2 b (ltL b o e)).trans e1⟩
 ·obtain ⟨o', e1⟩ := I.base.there b o e hx
  exact ⟨o', (hs.2 b (ltL b o e)).trans e1⟩
 ·by_cases hj : j = i
  ·subst hj
   rw [List.getElem?_set] at e2
   simp at e2
  ·rw [List.getElem?_set_ne (Ne.symm hj)] at e2
   obtain ⟨u, r, q⟩ := hl j y v' e1 e2 e3
   refine ⟨u, r, ?_⟩
   rcases q with ⟨k, e⟩ | ⟨k, c, e, z⟩
   ·refine .inl ⟨k, ?_⟩
    have ne : y ≠ n := fun z => hj (nodup_ix hN e1 (z ▸ hi))
    simp [ne, e]
   ·exact .inr ⟨k, c, e, z.sameBut hs (I.cne y c e)⟩
 ·obtain ⟨w', z⟩ := I.cell y c e
  exact ⟨w', z.sameBut hs (I.cne y c e)⟩
 ·obtain ⟨e, q, ne, nf, d⟩ := I.pin p hp
  exact ⟨(hs.2 p.1 ne).trans e, q, ne, nf, d⟩
 ·refine (I.hok b u e).stay (fun c w' hc q => (hs.2 c ?_).trans q) (fun _ q => q) fun _ _ q => q
  intro z
  rcases hc with hc | hc
  ·rw [← hc, z, I.free] at e; cases e
  ·rw [z, I.free] at hc; cases hc
noncomputable def endsX (i : Nat) (D : Ends) : Ends := { nx := fun σ H => D.nx (σ.set i none) H, rt := D.rt, bk := fun σ H => D.bk (σ.set i none) H, ct := fun σ H => D.ct (σ.set i none) H }
noncomputable def catchX (K : PySem.W.Frag) (CF : Addr) (i : Nat) (ts : TS) (D : Ends) (σ : St) : XK := fun cls _ H1 =>
 ∃ C, cls = .ref C ∧ PySem.W.exmOne K (.ref C) (.ref CF) = some true ∧ ∀ ea, H1 ea = none → ts (endsX i D) (σ.set i (some (.ref ea))) (upd H1 ea (ExcO ea C))
end
noncomputable def EqL (K : PySem.W.Frag) (H : Hp) (rec : V → V → Bool → Prop) (p q : Addr) (b : Bool) : Prop :=
 ∃ xs ys, (SqL K H p xs ∧ SqL K H q ys ∧ xs.length ≠ ys.length ∧ b = false) ∨
  (((SqL K H p xs ∧ SqL K H q ys) ∨ (SqT K H p xs ∧ SqT K H q ys)) ∧ xs.length = ys.length ∧ ∃ e : Nat → Bool, (∀ i x y, xs[i]? = some x → ys[i]? = some y → rec x y (e i)) ∧ b = (List.range xs.length).all e)
noncomputable def EqD (K : PySem.W.Frag) (H : Hp) : Nat → V → V → Bool → Prop
 | 0, x, y, b => (∃ a, x = .ref a ∧ y = .ref a ∧ b = true) ∨ (flatV x = true ∧ flatV y = true ∧ b = eqV x y)
 | n + 1, x, y, b => EqD K H n x y b ∨ ∃ p q, x = .ref p ∧ y = .ref q ∧ p ≠ q ∧ EqL K H (EqD K H n) p q b
section
variable {X : Cx} {pins : List (Addr × Obj)} {σ : St} {H : Hp} {s : Shared}
theorem eqL_at {A : Around} {rec : V → V → Bool → Prop} {p q : Addr} {b : Bool} (I : Inv X pins σ H s) (hu : A.units < cLine) (hr : ∀ x y b u v, rec x y b → RelV x u → RelV y v → SeqAt.EqAt A.in1 s u v b) (h : EqL X.K H rec p q b) :
  SeqAt.RcAt A s (.ref p) (.ref q) b ∧ SeqAt.RcNeAt A s (.ref p) (.ref q) (!b) := by
 obtain ⟨xs, ys, ⟨h1, h2, hl, rfl⟩ | ⟨hk, hl, e, he, rfl⟩⟩ := h
 ·obtain ⟨its, r, pl, _⟩ := I.list h1
  obtain ⟨its2, r2, pl2, _⟩ := I.list h2
  have e1 := r.length
  have e2 := r2.length
  have hne : (its.toArray.size != its2.toArray.size) = true := by
   rw [bne_iff_ne]; simp only [List.size_toArray]; omega
  exact ⟨SeqAt.RcAt.lists_lengths pl.isList pl2.isList hne hu, SeqAt.RcNeAt.lists_lengths pl.isList pl2.isList hne hu⟩
 ·have items : ∀ (its its2 : List Value), Vals xs its → Vals ys its2 → ∀ j (h1 : j < its.toArray.size) (h2 : j < its2.toArray.size), SeqAt.EqAt A.in1 s its.toArray[j] its2.toArray[j] (e j) := by
   intro its its2 r r2 j h1 h2
   have l1 := r.length
   have l2 := r2.length
   simp only [List.size_toArray] at h1 h2
   have g1 : j < xs.length := by omega
   have g2 : j < ys.length := by omega
   obtain ⟨u, hu1, ru⟩ := r.get (i := j) (x := xs[j]) (by simp [g1])
   obtain ⟨v, hv1, rv⟩ := r2.get (i := j) (x := ys[j]) (by simp [g2])
   have eu : its.toArray[j] = u := by
    have : its[j]? = some its[j] := by simp [h1]
    rw [this] at hu1
    simpa using hu1
   have ev : its2.toArray[j] = v := by
    have : its2[j]? = some its2[j] := by simp [h2]
    rw [this] at hv1
    simpa using hv1
   rw [eu, ev]
   exact hr _ _ _ _ _ (he j _ _ (by simp [g1]) (by simp [g2])) ru rv
  rcases hk with ⟨h1, h2⟩ | ⟨h1, h2⟩
  ·obtain ⟨its, r, pl, _⟩ := I.list h1
   obtain ⟨its2, r2, pl2, _⟩ := I.list h2
   have l1 := r.length
   have l2 := r2.length
   have hsz : its.toArray.size = its2.toArray.size := by simp only [List.size_toArray]; omega
   have a1 := SeqAt.RcAt.lists pl.isList pl2.isList hsz hu (items its its2 r r2)
   have a2 := SeqAt.RcNeAt.lists pl.isList pl2.isList hsz hu (items its its2 r r2)
   have es : its.toArray.size = xs.length := by simp only [List.size_toArray]; omega
   rw [es] at a1 a2
   exact ⟨a1, a2⟩
  ·obtain ⟨its, r, pl, _⟩ := I.tuple h1
   obtain ⟨its2, r2, pl2, _⟩ := I.tuple h2
   have l1 := r.length
   have l2 := r2.length
   have t1 : s.heap.IsTuple p its.toArray := pl
   have t2 : s.heap.IsTuple q its2.toArray := pl2
   have a1 := SeqAt.RcAt.tuples t1 t2 hu (items its its2 r r2)
   have a2 := SeqAt.RcNeAt.tuples t1 t2 hu (items its its2 r r2)
   have es : min its.toArray.size its2.toArray.size = xs.length := by simp only [List.size_toArray]; omega
   have ez : (its.toArray.size == its2.toArray.size) = true := by rw [beq_iff_eq]; simp only [List.size_toArray]; omega
   rw [es, ez, Bool.and_true] at a1 a2
   exact ⟨a1, a2⟩
theorem eqD_at (I : Inv X pins σ H s) : ∀ (n : Nat) (A : Around), A.units + n < cLine → ∀ x y b u v, EqD X.K H n x y b → RelV x u → RelV y v → SeqAt.EqAt A s u v b
 | 0, A, hu, x, y, b, u, v, h, rx, ry => by
  rcases h with ⟨a, rfl, rfl, rfl⟩ | ⟨f1, f2, rfl⟩
  ·cases rx; cases ry; exact SeqAt.EqAt.same _
  ·exact eqAt_V rx ry f1 f2
 | n + 1, A, hu, x, y, b, u, v, h, rx, ry => by
  rcases h with h | ⟨p, q, rfl, rfl, ne, h⟩
  ·exact eqD_at I n A (by omega) x y b u v h rx ry
  ·cases rx; cases ry
   refine SeqAt.EqAt.of_refs ne (eqL_at (A := A) I (by omega) (fun x y b u v h rx ry => eqD_at I n A.in1 ?_ x y b u v h rx ry) h).1
   show A.units + 1 + n < cLine
   omega
noncomputable def rEqD (K : PySem.W.Frag) (neg : Bool) : R2 := fun x y H Q => ∃ n p q b, n ≤ 8 ∧ x = .ref p ∧ y = .ref q ∧ EqL K H (EqD K H n) p q b ∧ Q (.bl (if neg then !b else b)) H
theorem op_eqD (hu : X.A.units + 64 < cLine) : OpR X (compareOp .Eq) (rEqD X.K false) := by
 intro pins s σ H x y v u Q I rx ry h
 obtain ⟨n, p, q, b, hn, rfl, rfl, he, k⟩ := h
 cases rx; cases ry
 refine (eqL_at (A := X.A) I (by omega) (fun x y b u v h rx ry => eqD_at I n X.A.in1 ?_ x y b u v h rx ry) he).1 _ _ _ _ ⟨.bl b, H, I, rfl, k⟩
 show X.A.units + 1 + n < cLine
 omega
theorem op_neD (hu : X.A.units + 64 < cLine) : OpR X (compareOp .NotEq) (rEqD X.K true) := by
 intro pins s σ H x y v u Q I rx ry h
 obtain ⟨n, p, q, b, hn, rfl, rfl, he, k⟩ := h
 cases rx; cases ry
 refine (eqL_at (A := X.A) I (by omega) (fun x y b u v h rx ry => eqD_at I n X.A.in1 ?_ x y b u v h rx ry) he).2 _ _ _ _ ⟨.bl (!b), H, I, rfl, k⟩
 show X.A.units + 1 + n < cLine
 omega
end
theorem range_all {n : Nat} {e : Nat → Bool} (h : ∀ i, i < n → e i = true) : (List.range n).all e = true := by
 rw [List.all_eq_true]
 intro i hi
 exact h i (List.mem_range.mp hi)
theorem eqV_self {x : V} (f : flatV x = true) : eqV x x = true := by
  cases x <;> first | rfl | (simp [eqV]; done) | exact absurd (show false = true from f) Bool.false_ne_true
theorem EqL.same {K : PySem.W.Frag} {H : Hp} {p q : Addr} {xs : List V} (h : (SqL K H p xs ∧ SqL K H q xs) ∨ (SqT K H p xs ∧ SqT K H q xs)) (hf : ∀ x ∈ xs, flatV x = true ∨ ∃ a, x = .ref a) : EqL K H (EqD K H 0) p q true := by
 refine ⟨xs, xs, .inr ⟨h, rfl, fun _ => true, fun i x y h1 h2 => ?_, (range_all fun _ _ => rfl).symm⟩⟩
 rw [h1] at h2; cases h2
 rcases hf x (List.mem_of_getElem? h1) with f | ⟨a, rfl⟩
 ·exact .inr ⟨f, f, (eqV_self f).symm⟩
 ·exact .inl ⟨a, rfl, rfl, rfl⟩
theorem EqL.ints {K : PySem.W.Frag} {H : Hp} {p q : Addr} {ns ms : List Int} (h1 : SqL K H p (ns.map V.int)) (h2 : SqL K H q (ms.map V.int)) : EqL K H (EqD K H 0) p q (decide (ns = ms)) := by
 by_cases hl : ns.length = ms.length
 ·refine ⟨_, _, .inr ⟨.inl ⟨h1, h2⟩, by simp [hl], fun i => ns[i]? == ms[i]?, fun i x y e1 e2 => ?_, ?_⟩⟩
  ·rw [List.getElem?_map] at e1 e2
   cases g1 : ns[i]? with
   | none => rw [g1] at e1; cases e1
   | some n =>
    cases g2 : ms[i]? with
    | none => rw [g2] at e2; cases e2
    | some m =>
     rw [g1] at e1; rw [g2] at e2
     cases e1; cases e2
     refine .inr ⟨rfl, rfl, ?_⟩
     show (ns[i]? == ms[i]?) = (n == m)
     rw [g1, g2, Bool.eq_iff_iff]; simp
  ·rw [List.length_map, Bool.eq_iff_iff, decide_eq_true_iff, List.all_eq_true]
   constructor
   ·rintro rfl i _; simp
   ·intro h
    refine List.ext_getElem? fun i => ?_
    by_cases hi : i < ns.length
    ·have := h i (List.mem_range.mpr hi)
     exact beq_iff_eq.mp this
    ·rw [List.getElem?_eq_none (by omega), List.getElem?_eq_none (by omega)]
 ·refine ⟨_, _, .inl ⟨h1, h2, by simpa using hl, ?_⟩⟩
  exact decide_eq_false fun e => hl (by rw [e])
section
variable {X : Cx} {tg : Expr}
noncomputable def DictO (_ : Addr) : HO := .dK []
theorem Inv.big {pins : List (Addr × Obj)} {σ : St} {H : Hp} {s : Shared} (I : Inv X pins σ H s) : sysModules < s.heap.objs.size := by
 have h : mainGlobals < s.heap.objs.size := (I.mod.glob.keeps I.bk).lt
 exact Nat.lt_trans (by decide) h
noncomputable def tDict0 : TE := fun _ H Q => ∀ p, H p = none → Q (.ref p) (upd H p (DictO p))
theorem pe_dict0 {pos : Pos} : PE X (.Dict [] [] pos) tDict0 := fun pins s σ H Q I h =>
 wpAny_Dict_empty ⟨.ref s.heap.objs.size, _, I.laid (a := s.heap.objs.size) (o := DictO s.heap.objs.size) (t' := s.toks) (fun _ _ q => Heap.get?_push_of_some _ q) (Nat.le_refl _)
  ⟨Nat.zero_le _, beq_eq_false_iff_ne.mpr (Ne.symm (Nat.ne_of_lt I.big)), [], .nil, Heap.DictOf.new s.heap⟩, rfl, h _ (I.hok.fresh (Nat.le_refl _))⟩
end
noncomputable def PassesR (CX : CXT) (X : Cx) (R : St → XK) : Prop := ∀ (pins : List (Addr × Obj)) (σ : St) (H : Hp) (s : Shared) (e : Value) (s' : Shared), Inv X pins σ H s → CX X.stack H s (R σ) e s' → X.xe e s'
structure DefX (P : Program) (w : World) (K : PySem.W.Frag) (mg : Str → Option Value) (base : Heap) (k : Nat) (x : Str) (ps : List Str) (ds : List V) (sp : Sp) : Prop where
 ex : ∃ (f : Addr) (fd : FuncData) (dvs : List Value), FnOk P w K mg base (CX1 P w) k f fd ps sp ∧ mg x = some (.ref f) ∧ PySem.W.keepIn K (.ref f) = true ∧ Binds K fd ps dvs ∧ Vals ds dvs
noncomputable def tCallR (sp : Sp) (dvs : List V) (R : St → XK) (t : TA) : TE := fun σ H Q => t σ H fun vs H1 => sp (vs ++ dvs) H1 Q (R σ)
section
variable {X : Cx}
theorem pe_callX {k : Nat} {x : Str} {ps : List Str} {ds : List V} {sp : Sp} {e : Expr} {es : List Expr} {t : TA} {p pos : Pos} {R : St → XK} (D : DefX X.prog X.w X.K X.mg X.base k x ps ds sp) (hr : Room k X.A) (hx : PassesR (CX1 X.prog X.w) X R) (hg : Gl X x)
  (ha : PA X (e :: es) t) (hdb : (x == ("__debug__" : Str)) = false := by decide) (he : starEach (e :: es) X.env = (false, eval e X.env) :: starEach es X.env := by rfl) (hpl : (backTo pos (starEach es X.env)).any (·.1) = false := by rfl) :
  PE X (.Call (.Name x p) (e :: es) [] pos) (tCallR sp ds R t) := by
 obtain ⟨f, fd, dvs, F, hm, hk, hb, hd⟩ := D.ex
 intro pins s σ H Q I h
 refine wpAny_Call_Name_kw (ld_glob I hg hm ?_ hdb)
 refine PySem.W.callWith_K (h₀ := X.base) I.ok.mod.kin hk (thn (ha pos pins s σ H _ I h) fun us s1 ⟨vs, H1, I1, r, q⟩ => ⟨I1.kIn, ?_⟩) he hpl
 have r2 : Vals (vs ++ ds) (us ++ dvs) := r.append hd
 have hl : (us ++ dvs).length = ps.length := by rw [← r2.length]; exact F.len _ _ _ _ q
 refine wpAny_call (codeAny_mono (F.run X.A X.stack s1 H1 ⟨us, []⟩ (us ++ dvs) (vs ++ ds) Q (R σ) hr I1.env0 (hb s1 us I1.kIn hl) r2 q) fun res s' hq => ?_)
 cases res with
 | error er => exact hx pins σ H1 s1 er s' I1 hq
 | ok fl =>
  cases fl with
  | ret u => exact I1.after hq
  | next => exact False.elim hq
  | brk => exact False.elim hq
  | cont => exact False.elim hq
theorem passF {P : Program} {w : World} : PassesR (CX1 P w) X fun _ => E0 := fun _ _ _ _ _ _ _ h => by
 obtain ⟨_, _, _, _, _, _, _, _, _, _, _, q⟩ := h
 exact False.elim q
end
section
variable {P : Program} {w : World} {K : PySem.W.Frag} {mg : Str → Option Value} {base : Heap}
theorem passes1R {N : List Str} {qual : Str} {scope : Scope} {f : Addr} {cd : Value} {A : Around} {outer : List Env} {s₀ : Shared} {H₀ : Hp} {E : XK} :
  PassesR (CX1 P w) (cxOf (CX1 P w) P w K mg base N qual scope f cd A outer s₀ H₀ E) fun _ => E := fun pins σ H s e s' I h => passes1 pins σ H s e s' I h
theorem FunD.okX {x qual : Str} {st : Stmt} {dV : Value} {f : Addr} {fd : FuncData} {N ps : List Str} {k : Nat} {sp : Sp} (F : FunD K x qual st dV f fd) (S : FnScope N ps (defScope st)) (len : ∀ vs H Q E, sp vs H Q E → vs.length = ps.length)
  (hbody : ∀ (cdv : Value) (A : Around) (outer : List Env) (s : Shared) (H : Hp) (vs : List V) (Q : VK) (E : XK), Room k (A.deeper (envOfC qual (defScope st) s.heap.objs.size f cdv)) → sp vs H Q E →
   ∃ t, PSs (cxOf (CX1 P w) P w K mg base N qual (defScope st) f cdv A outer s H E) (defBody st) t ∧ t { nx := fun _ H' => Q .non H', rt := Q } (start N vs) H) : FnOk P w K mg base (CX1 P w) (k + 1) f fd ps sp := by
 obtain ⟨oc, od, kV, doc, pm, an, cdv, ct, osl, rfl, lk, hcd⟩ := F.ex
 exact fn_of lk hcd S len fun A outer s H vs Q E hr hsp => hbody cdv A outer s H vs Q E hr hsp
theorem FunD.defX {x qual : Str} {st : Stmt} {f : Addr} {fd : FuncData} {ps : List Str} {k : Nat} {sp : Sp} (F : FunD K x qual st .none f fd) (G : FnOk P w K mg base (CX1 P w) k f fd ps sp) (hm : mg x = some (.ref f))
  (h : ∀ (kV doc pm : Value) (an : Option Addr) (cdv ct : Value) (us : List Value), us.length = ps.length → bindArgs (PySem.W.fnOf x qual (defArgs st) (defBody st) (defScope st) .none kV doc pm an cdv ct) ⟨us, []⟩ = pure (ps.zip us)) : DefX P w K mg base k x ps [] sp := by
 obtain ⟨oc, od, kV, doc, pm, an, cdv, ct, osl, rfl, lk, hcd⟩ := F.ex
 exact ⟨f, _, [], G, hm, F.kp, .all (h kV doc pm an cdv ct), .nil⟩
end
section
variable {X : Cx} {pins pn : List (Addr × Obj)} {σ : St} {H : Hp} {s : Shared} {XE : Value → Shared → Prop}
noncomputable abbrev Cx.at (X : Cx) (pn : List (Addr × Obj)) (XE : Value → Shared → Prop) : Cx := { X with pn := pn, xe := XE }
theorem Cx.Ok.at (ok : X.Ok) : (X.at pn XE).Ok :=
 ⟨ok.mod, ok.kind, ok.glob, ok.blt, ok.above, ok.inj, ok.has, ok.cab, ok.hd, ok.frames, ok.stk, ok.exf, ok.bs, ok.bsz, ok.noex, ok.exfs, ok.funs, ok.frf⟩
theorem Cx.Ok.unat (ok : (X.at pn XE).Ok) : X.Ok :=
 ⟨ok.mod, ok.kind, ok.glob, ok.blt, ok.above, ok.inj, ok.has, ok.cab, ok.hd, ok.frames, ok.stk, ok.exf, ok.bs, ok.bsz, ok.noex, ok.exfs, ok.funs, ok.frf⟩
theorem Inv.at (I : Inv X pins σ H s) : Inv (X.at (X.pn ++ pins) XE) [] σ H s := ⟨I.ok.at, I.os, I.bare, I.base, I.loc, I.cell, I.free, I.freeC, fun p hp => I.pin p (by simpa using hp), I.hok, I.len⟩
theorem Inv.unat {pins' : List (Addr × Obj)} (I : Inv (X.at (X.pn ++ pins) XE) pins' σ H s) : Inv X pins σ H s := ⟨I.ok.unat, I.os, I.bare, I.base, I.loc, I.cell, I.free, I.freeC, fun p hp => I.pin p (List.mem_append_left _ hp), I.hok, I.len⟩
noncomputable def tTry2 (K : PySem.W.Frag) (CF : Addr) (i : Nat) (tb : (St → XK) → TS) (ts : TS) : TS := fun D σ H => tb (fun σ' => catchX K CF i ts D σ') D σ H
theorem ps_try2 {body : List Stmt} {cx n : Str} {CF : Addr} {i : Nat} {b0 : Stmt} {suite : List Stmt} {np hpos pos : Pos} {tb : (St → XK) → TS} {ts : TS}
  (hN : X.N.Nodup) (hi : X.N[i]? = some n) (hl : X.env.scope.names.lookup n = some .local) (hg : Gl X cx) (hm : X.mg cx = some (.ref CF)) (hst : X.stack = X.env :: X.outer) (hf : X.env.frame = some X.env.locals)
  (hb : ∀ (pn : List (Addr × Obj)) (XE : Value → Shared → Prop) (R : St → XK), PassesR (CX1 X.prog X.w) (X.at pn XE) R → PSs (X.at pn XE) body (tb R))
  (hs : ∀ ea, PSs (X.marked ea) (b0 :: suite) ts) (hdb : (cx == ("__debug__" : Str)) = false := by decide) :
  PS X (.Try body [.ExceptHandler (some (.Name cx np)) (some n) (b0 :: suite) hpos] [] [] pos) (tTry2 X.K CF i tb ts) := by
 intro pins s σ H D I hq
 refine wpAny_Try_except (wpAny_mono (hb (X.pn ++ pins) _ (fun σ' => catchX X.K CF i ts D σ') ?_ [] s σ H D I.at hq) (fun f s1 q => ?_) fun e s1 q => q)
 ·intro pins0 σ0 H0 s0 e s' I0' hc
  have I0 : Inv X pins σ0 H0 s0 := I0'.unat
  obtain ⟨ea, cls, a0, H', B, rfl, fl, nc, os, bare, fw, C, rfl, hex, q⟩ := hc
  replace fl : Heap.FlyingW B (X.env :: X.outer) ea (.ref C) a0 s'.heap := by rw [← hst]; exact fl
  replace fw : Flew X.prog X.w (X.env :: X.outer) H0 H' s0.heap B s'.heap ea := by rw [← hst]; exact fw
  have fr0 : X.A.frames = some (X.env :: X.outer) := by rw [I0.ok.frames, hst]
  have new0 : s0.heap.get? ea = none := by
   cases g : s0.heap.get? ea with
   | none => rfl
   | some o =>
    by_cases hb : ea ∈ frs (X.env :: X.outer)
    ·obtain ⟨_, o1, e1, nf⟩ := fl.2.2.1.mem hb
     obtain ⟨oe, vs, e2, _, d2, _⟩ := fl.first
     rw [e1] at e2; cases e2
     exact absurd d2 (nf vs)
    ·obtain ⟨o', e1⟩ := fw.there ea o g hb
     rw [fl.2.1] at e1; cases e1
  refine looks_onC fr0 hf fl nc fun h4 held4 nc4 up4 => ?_
  refine landsC held4 nc4 fun h5 fl5 nc5 up5 => ?_
  have inv : ∀ {h6 : Heap} {tk : Nat}, Heap.FlyingW B (X.env :: X.outer) ea (.ref C) a0 h6 → NoCtx h6 ea → s'.heap.UpToSlots h6 → Inv X pins σ0 (upd H' ea (ExcO ea C)) { s' with heap := h6, toks := tk } := fun {h6 tk} fl6 nc6 up6 => by
   have f6 := fw.up fl up6
   have u6 := f6.un fl6.1
   obtain ⟨oe, vs, e6, c6, d6, _⟩ := fl6.first
   obtain ⟨on, wn, en, dn, nn⟩ := nc6
   rw [e6] at en; cases en
   rw [d6] at dn; cases dn
   refine I0.call' (s' := { s' with heap := h6, toks := tk }) (ch := []) os (by
    rw [hst]
    exact ⟨u6.keep, u6.slot, fun b o e n hx => by
     rw [upd_ne (fun z => by rw [z, new0] at e; cases e)]
     exact u6.free b o e n hx, u6.there, fun b xs e => by
     have z := u6.tups b xs e
     rw [upd_ne (ne_of_none z fw.exc)]; exact z, fun b o u e => by
     have z := u6.frzs b o u e
     rw [upd_ne (ne_of_none z fw.exc)]; exact z, fun b ps e => by
     obtain ⟨more, z⟩ := u6.tbls b ps e
     exact ⟨more, by rw [upd_ne (ne_of_none z fw.exc)]; exact z⟩⟩) (fun b u e => ?_) bare (fun b hb => absurd hb (by simp))
   by_cases hbe : b = ea
   ·subst hbe
    rw [upd_same] at e
    cases e
    refine ⟨⟨oe, vs, e6, c6, d6, nn⟩, ⟨oe, e6⟩, fun h1 h2 p k => ?_⟩
    obtain ⟨o, ws, p1, p2, p3, p4⟩ := p
    exact ⟨o, ws, k o p1, p2, p3, p4⟩
   ·rw [upd_ne hbe] at e
    refine (f6.ok fl6.1 b u e).stay (fun _ _ _ g => g) (fun c g => ?_) fun c xs g => ?_
    ·rw [upd_ne (ne_of_none g fw.exc)]; exact g
    ·rw [upd_ne (ne_of_none g fw.exc)]; exact g
  have I5 := inv (tk := s'.toks) fl5 nc5 (up4.trans up5)
  refine wpAny_handleBy_cons (codeAny_handlers_test (ld_glob (X := X.marked ea) (I5.marked ea) hg hm ?_ hdb)) (by intro z; cases z)
  obtain ⟨ob, hob, hobc⟩ := fl5.there
  have LT : PySem.W.Looks (model X.prog X.w) h5 (typeOf (.ref ea)) (.ref C) := by
   rw [← hobc]
   exact (PySem.W.Looks.ld hob).andThen .now
  refine (PySem.W.exm_one (h := h5) I5.kIn LT hex).here ?_
  refine codeAny_handlers_suite_as ?_
  refine lands_againC fl5 nc5 fun h6 fl6 nc6 up6 => ?_
  have I6 := inv (tk := s'.toks) fl6 nc6 ((up4.trans up5).trans up6)
  refine store_ok I6 hN hi (Or.inl hl) (show RelV (.ref ea) (.ref ea) from rfl) (fun s7 I7 => ?_) (.inr hl)
  refine wpAny_mono (hs ea pins s7 _ _ _ (I7.marked ea) (q ea fw.exc)) (fun f s8 sp => ?_) fun _ _ z => z.elim
  have fin : ∀ {σ8 : St} {H8 : Hp} {Q8 : Shared → Prop}, Inv (X.marked ea) pins σ8 H8 s8 → (∀ s9, Inv X pins (σ8.set i none) H8 s9 → Q8 s9) →
    wpAny (model X.prog X.w) X.A (do bindName X.env n .none; unbindBehindTheSuite X.env n hpos) (fun _ s9 => Q8 s9) X.xe s8 := fun {σ8 H8 Q8} J k => by
   have J' := J.unmarked I0.ok
   obtain ⟨m, hn, hlk⟩ := J'.loc
   refine wpAny_nameGoes_keeps hl hn (by rw [I0.ok.kind]; rfl) fun h9 v hn9 sb9 => k _ ?_
   exact J'.gone hN hi hl hlk hn9 sb9
  cases f with
  | next =>
   obtain ⟨σ8, H8, J, z⟩ := sp
   exact fin J fun s9 I9 => ⟨_, H8, I9, z⟩
  | brk =>
   obtain ⟨σ8, H8, J, z⟩ := sp
   exact fin J fun s9 I9 => ⟨_, H8, I9, z⟩
  | cont =>
   obtain ⟨σ8, H8, J, z⟩ := sp
   exact fin J fun s9 I9 => ⟨_, H8, I9, z⟩
  | ret u =>
   obtain ⟨v, σ8, H8, J, r, z⟩ := sp
   exact fin J fun s9 I9 => ⟨v, _, H8, I9, r, z⟩
 ·cases f with
  | next => obtain ⟨σ1, H1, J, z⟩ := q; exact wpAny_execs_nil ⟨σ1, H1, J.unat, z⟩
  | brk => obtain ⟨σ1, H1, J, z⟩ := q; exact ⟨σ1, H1, J.unat, z⟩
  | cont => obtain ⟨σ1, H1, J, z⟩ := q; exact ⟨σ1, H1, J.unat, z⟩
  | ret u => obtain ⟨v, σ1, H1, J, r, z⟩ := q; exact ⟨v, σ1, H1, J.unat, r, z⟩
end
structure XCls (K : PySem.W.Frag) (D : Addr) : Prop where
 ga : PySem.W.findIn K (.ref D) "__getattribute__" = some (some (.builtin "BaseException.__getattribute__"))
 gx : PySem.W.findIn K (.ref D) "__getattr__" = some none
 cl : PySem.W.findIn K (.ref D) "__class__" = some (some (.builtin "object.__class__"))
 mB : PySem.W.mroIn K D (.type "BaseException") = some true
 mo : PySem.W.mroIn K D (.type "object") = some true
 isc : (PySem.W.clsIn K D).isSome = true
noncomputable def ExcAt (x D : Addr) (h : Heap) : Prop := ∃ o vs, h.get? x = some o ∧ o.cls = .ref D ∧ o.data = .fields vs
section
variable {prog : Program} {w : World} {A : Around} {E : Value → Shared → Prop} {s : Shared} {K : PySem.W.Frag} {x D : Addr}
theorem ExcAt.ty {M : Model} {h : Heap} (e : ExcAt x D h) : PySem.W.Looks M h (typeOf (.ref x)) (.ref D) := by
 obtain ⟨o, vs, h1, h2, _⟩ := e
 exact h2 ▸ (PySem.W.Looks.ld h1).andThen .now
theorem exc_class_get {R : Result → Shared → Prop} (KX : K.In s.heap) (e : ExcAt x D s.heap) (c : XCls K D) (h : R (.ok (.ret (.ref D))) s) :
    codeAny (model prog w) A (.call (.builtin "getset_descriptor.__get__") ⟨[.builtin "object.__class__", .ref x, .ref D], []⟩) R s := by
  obtain ⟨hh, g, dr, t, os⟩ := s
  have L0 : PySem.W.Looks (model prog w) hh (typeOf (.ref x)) (.ref D) := e.ty
  have L1 : PySem.W.Looks (model prog w) hh (isSubtype (.ref D) (.type (".".intercalate ("object.__class__".cutAt '.').dropLast))) true := by rw [F.owner_object_class]; exact PySem.W.looks_mroIn KX c.mo
  have LI : PySem.W.Looks (model prog w) hh (isInstance (.ref x) (.type (".".intercalate ("object.__class__".cutAt '.').dropLast))) true := L0.andThen L1
  have hT5 : (⟨hh, g, dr, t, os⟩ : Shared).TypeIs (.builtin "object.__class__") "getset_descriptor" := F.typeOf_object_class
  refine codeAny_call_builtin F.slot_gs_get.plain F.entry_gs_get (F.slot_gs_get.check _ _ _ _ _ _ _ _ hT5 (F.args_gs_get _ _ _) ?_)
  repeat (any_goals (first | assumption | (with_reducible refine LI.at ?_) | (with_reducible refine L0.at ?_) | (with_reducible refine L1.at ?_) | wp_step))
  refine ⟨Code.quiet_builtin _ (by decide +kernel), codeAny_builtin F.entry_object_class ?_⟩
  repeat (any_goals (first | assumption | (with_reducible refine L0.at ?_) | wp_step))
theorem exc_entry {tk : Tok} {Q : Fin → Shared → Prop} (KX : K.In s.heap) (e : ExcAt x D s.heap) (c : XCls K D) (h : Q (.done (.ret (.ref D))) s) :
    wpAny (model prog w) A (Builtin.«object.__getattribute__» ⟨[.ref x, .str "__class__" tk], []⟩) Q E s := by
  obtain ⟨hh, g, dr, t, os⟩ := s
  have L0 : PySem.W.Looks (model prog w) hh (typeOf (.ref x)) (.ref D) := e.ty
  have L4 := PySem.W.looks_findIn (M := model prog w) KX c.cl
  have hT5 : (⟨hh, g, dr, t, os⟩ : Shared).TypeIs (.builtin "object.__class__") "getset_descriptor" := F.typeOf_object_class
  have f5 := F.typeOf_object_class
  have f6 := F.slot_gs_get.lookup
  have f7 := F.slot_gs_set.lookup
  repeat (any_goals (first | assumption | (with_reducible refine L0.at ?_) | (with_reducible refine L4.at ?_) | wp_step))
  refine exc_class_get KX e c ?_
  exact wpAny_pure h
theorem bega_split : splitId "BaseException.__getattribute__" = some ("BaseException", "__getattribute__") := by decide +kernel
theorem bega_kind : builtinKind "BaseException.__getattribute__" = some .slot := by decide +kernel
theorem exc_check {M : Model} {v : Value} {Q : Unit → Shared → Prop} (KX : K.In s.heap) (e : ExcAt x D s.heap) (c : XCls K D) (h : Q () s) :
  wpAny M A (checkBuiltinCall "BaseException.__getattribute__" ⟨[.ref x, v], []⟩) Q E s := by
 have L0 : PySem.W.Looks M s.heap (typeOf (.ref x)) (.ref D) := e.ty
 have LI : PySem.W.Looks M s.heap (isInstance (.ref x) (.type "BaseException")) true := L0.andThen (PySem.W.looks_mroIn KX c.mB)
 have hA := F.args_bexc_ga (.ref x) v
 simp only [checkBuiltinCall, bega_split, bega_kind]
 refine wpAny_bind (LI.at ?_)
 unfold argsOk at hA
 cases hsig : Manifest.signature? "BaseException.__getattribute__" with
 | none =>
  rw [hsig] at hA
  simp only [Bool.not_true, Bool.false_eq_true, if_false]
  exact wpAny_pure h
 | some sig =>
  rw [hsig] at hA
  simp only [Bool.not_true, Bool.false_eq_true, if_false]
  exact wpAny_of_eq hA h
theorem exc_class {Q : Option Value → Shared → Prop} (KX : K.In s.heap) (e : ExcAt x D s.heap) (c : XCls K D) (h : Q (some (.ref D)) { s with toks := s.toks + 1 }) :
    wpAny (model prog w) A (getAttr? (.ref x) "__class__") Q E s := by
  obtain ⟨hh, g, dr, t, os⟩ := s
  have L0 : PySem.W.Looks (model prog w) hh (typeOf (.ref x)) (.ref D) := e.ty
  have L1 := PySem.W.looks_findIn (M := model prog w) KX c.ga
  have L2 := PySem.W.looks_findIn (M := model prog w) KX c.gx
  have hbind := F.excAttr_ValueError.ga.bind (.ref x)
  unfold getAttr? getAttrBy?
  repeat (any_goals (first | assumption | (with_reducible refine L0.at ?_) | (with_reducible refine L1.at ?_) | (with_reducible refine L2.at ?_) | wp_step))
  refine codeAny_call_builtin F.excAttr_ValueError.ga.plain F.entry_bexc_ga (exc_check (s := ⟨hh, g, dr, t + 1, os⟩) KX e c (exc_entry (s := ⟨hh, g, dr, t + 1, os⟩) KX e c ?_))
  repeat (any_goals (first | assumption | wp_step))
theorem kitx_exc (c : XCls K D) : PySem.W.KitX K (.ref x) (.ref D) (ExcAt x D) where
 ty := fun _ _ _ e => e.ty
 it := fun M h KX _ => by
  have hc := c.isc
  unfold PySem.W.clsIn at hc
  split at hc
  ·rename_i c' d' cd' sl' ho
   intro A' Q' E' s' k q
   unfold isType loadHead
   exact wpAny_bind (wpAny_loadPart (k _ _ (KX _ _ ho)) (wpAny_pure q))
  ·cases hc
 ne := fun h tp dd its n sl KX htp => by
  have hc := c.isc
  refine Bool.eq_false_iff.mpr fun q => ?_
  have e : D = tp := Value.ref.inj (beq_iff_eq.mp q)
  subst e
  unfold PySem.W.clsIn at hc
  split at hc
  ·rename_i c' d' cd' sl' ho
   have z := (KX _ _ ho).symm.trans htp
   cases z
  ·cases hc
 ca := fun KX e k => exc_class KX e c k
end
inductive TyX (K : PySem.W.Frag) (H : Hp) : V → Value → Prop where
 | of {x : V} {t : Value} (h : TyOf K H x t) : TyX K H x t
 | exc {a C : Addr} (e : H a = some (ExcO a C)) (c : XCls K C) : TyX K H (.ref a) (.ref C)
 | dict {a : Addr} (e : H a = some (DictO a)) : TyX K H (.ref a) (.type "dict")
noncomputable def IsX (K : PySem.W.Frag) (H : Hp) (x : V) (c : Value) (b : Bool) : Prop := ∃ t, TyX K H x t ∧ PySem.W.kitOne K t c = some b
noncomputable def rIsX (K : PySem.W.Frag) : List V → Hp → VK → Prop := fun xs H Q => match xs with
 | [x, .ty n] => ∃ b, IsX K H x (.type n) b ∧ Q (.bl b) H
 | [x, .ref C] => ∃ b, IsX K H x (.ref C) b ∧ Q (.bl b) H
 | _ => False
section
variable {X : Cx}
theorem isX_ok {A : Around} {E : Value → Shared → Prop} {Q : Value → Shared → Prop} {pins : List (Addr × Obj)} {σ : St} {H : Hp} {s : Shared} {x : V} {u c : Value} {b : Bool} (I : Inv X pins σ H s) (rx : RelV x u) (h : IsX X.K H x c b) (k : ∀ tk, Q (.bool b) { s with toks := tk }) :
  wpAny (model X.prog X.w) A (call (.builtin "isinstance") [u, c]) Q E s := by
 obtain ⟨t, ty, e⟩ := h
 cases ty with
 | of ty => exact isinst_ok I rx ty e k
 | @exc a C ea cc =>
  cases (show u = Value.ref a from rx)
  obtain ⟨⟨ox, vx, p1, p2, p3, _⟩, _, _⟩ := (show ObjOk X.prog X.w H s.heap a (ExcO a C) from I.hok a _ ea)
  have p : ∃ o vs, s.heap.get? a = some o ∧ o.cls = Value.ref C ∧ o.data = Data.fields vs := ⟨ox, vx, p1, p2, p3⟩
  exact PySem.W.kia_one (kitx_exc cc) I.kIn p e (fun z => nomatch z) k
 | @dict a ea =>
  cases (show u = Value.ref a from rx)
  obtain ⟨_, _, vs, _, p⟩ := (show ObjOk X.prog X.w H s.heap a (.dK []) from I.hok a _ ea)
  obtain ⟨o, es, ep, h1, h2, _⟩ := p
  exact PySem.W.kia_one PySem.W.kitx_dict I.kIn ⟨o, h1, h2.1⟩ e (fun z => nomatch z) k
theorem call_isX : CallR X (.builtin "isinstance") (rIsX X.K) := by
 intro pins s σ H xs us Q I rs h
 unfold rIsX at h
 split at h
 ·obtain ⟨u, w', rfl, r1, r2⟩ := vals2 rs
  cases r2
  obtain ⟨b, hb, q⟩ := h
  exact isX_ok I r1 hb fun tk => ⟨.bl b, H, I.tok tk, rfl, q⟩
 ·obtain ⟨u, w', rfl, r1, r2⟩ := vals2 rs
  cases r2
  obtain ⟨b, hb, q⟩ := h
  exact isX_ok I r1 hb fun tk => ⟨.bl b, H, I.tok tk, rfl, q⟩
 ·exact h.elim
theorem pe_isiX {e : Expr} {te : TE} {T : Str} {n : String} {p p2 pos : Pos} (he : PE X e te) (h1 : Gl X "isinstance") (h2 : X.mg "isinstance" = none) (h3 : Gl X T) (h4 : X.mg T = none) (h5 : bootBuiltins T = some (.type n)) (h6 : T ≠ "__name__" := by decide) (h7 : (T == ("__debug__" : Str)) = false := by decide)
  (s1 : starEach [e, .Name T p2] X.env = (false, eval e X.env) :: starEach [.Name T p2] X.env := by rfl) (s2 : starEach [.Name T p2] X.env = (false, eval (.Name T p2) X.env) :: starEach [] X.env := by rfl) (hpl : (backTo pos (starEach [.Name T p2] X.env)).any (·.1) = false := by rfl) :
  PE X (.Call (.Name "isinstance" p) [e, .Name T p2] [] pos) (tCB (rIsX X.K) (tCons te (tCons (tC (.ty n)) tNil))) :=
 pe_callB call_isX h1 h2 PyProof.Rows.boot_isinstance (pa_cons he (pa_cons (pe_bltn h3 h4 h5 rfl h6 h7) pa_nil s2) s1) (by decide) (by decide) s1 hpl
theorem pe_isiC {e : Expr} {te : TE} {T : Str} {C : Addr} {p p2 pos : Pos} (he : PE X e te) (h1 : Gl X "isinstance") (h2 : X.mg "isinstance" = none) (h3 : Gl X T) (h4 : X.mg T = some (.ref C)) (h7 : (T == ("__debug__" : Str)) = false := by decide)
  (s1 : starEach [e, .Name T p2] X.env = (false, eval e X.env) :: starEach [.Name T p2] X.env := by rfl) (s2 : starEach [.Name T p2] X.env = (false, eval (.Name T p2) X.env) :: starEach [] X.env := by rfl) (hpl : (backTo pos (starEach [.Name T p2] X.env)).any (·.1) = false := by rfl) :
  PE X (.Call (.Name "isinstance" p) [e, .Name T p2] [] pos) (tCB (rIsX X.K) (tCons te (tCons (tC (.ref C)) tNil))) :=
 pe_callB call_isX h1 h2 PyProof.Rows.boot_isinstance (pa_cons he (pa_cons (pe_glob h3 h4 rfl h7) pa_nil s2) s1) (by decide) (by decide) s1 hpl
end
theorem same_upd {H H' : Hp} {D : Addr} {o : HO} (s : Same H H') (h : H D = none) : Same H (upd H' D o) := fun b u e => by rw [upd_ne (ne_of_none e h)]; exact s b u e
theorem same_new {H : Hp} {D : Addr} {o : HO} (h : H D = none) : Same H (upd H D o) := same_upd (Same.refl H) h
inductive Kd (K : PySem.W.Frag) (H : Hp) : V → Prop where
 | non : Kd K H .non
 | bl (b : Bool) : Kd K H (.bl b)
 | int (i : Int) : Kd K H (.int i)
 | str (x : Str) : Kd K H (.str x)
 | lst {a : Addr} {xs : List V} (e : H a = some (.lst xs)) : Kd K H (.ref a)
 | tup {a : Addr} {xs : List V} (e : H a = some (.tup xs)) : Kd K H (.ref a)
 | dict {a : Addr} (e : H a = some (DictO a)) : Kd K H (.ref a)
theorem Kd.mono {K : PySem.W.Frag} {H H' : Hp} {x : V} (k : Kd K H x) (s : Same H H') : Kd K H' x := by
 cases k with
 | non => exact .non
 | bl b => exact .bl b
 | int i => exact .int i
 | str y => exact .str y
 | lst e => exact .lst (s _ _ e)
 | tup e => exact .tup (s _ _ e)
 | dict e => exact .dict (s _ _ e)
noncomputable def isI : V → Bool
 | .int _ => true
 | .bl _ => true
 | _ => false
noncomputable def isB : V → Bool
 | .bl _ => true
 | _ => false
noncomputable def isL (H : Hp) : V → Bool
 | .ref a => match H a with
  | some (.lst _) => true
  | _ => false
 | _ => false
section
variable {K : PySem.W.Frag}
theorem k_ii : PySem.W.kitOne K (.type "int") (.type "int") = some true := by kernel_rfl
theorem k_ib : PySem.W.kitOne K (.type "int") (.type "bool") = some false := by kernel_rfl
theorem k_il : PySem.W.kitOne K (.type "int") (.type "list") = some false := by kernel_rfl
theorem k_bi : PySem.W.kitOne K (.type "bool") (.type "int") = some true := by kernel_rfl
theorem k_bb : PySem.W.kitOne K (.type "bool") (.type "bool") = some true := by kernel_rfl
theorem k_bL : PySem.W.kitOne K (.type "bool") (.type "list") = some false := by kernel_rfl
theorem k_ni : PySem.W.kitOne K (.type "NoneType") (.type "int") = some false := by kernel_rfl
theorem k_nb : PySem.W.kitOne K (.type "NoneType") (.type "bool") = some false := by kernel_rfl
theorem k_nl : PySem.W.kitOne K (.type "NoneType") (.type "list") = some false := by kernel_rfl
theorem k_si : PySem.W.kitOne K (.type "str") (.type "int") = some false := by kernel_rfl
theorem k_sb : PySem.W.kitOne K (.type "str") (.type "bool") = some false := by kernel_rfl
theorem k_sl : PySem.W.kitOne K (.type "str") (.type "list") = some false := by kernel_rfl
theorem k_li : PySem.W.kitOne K (.type "list") (.type "int") = some false := by kernel_rfl
theorem k_lb : PySem.W.kitOne K (.type "list") (.type "bool") = some false := by kernel_rfl
theorem k_ll : PySem.W.kitOne K (.type "list") (.type "list") = some true := by kernel_rfl
theorem k_ti : PySem.W.kitOne K (.type "tuple") (.type "int") = some false := by kernel_rfl
theorem k_tb : PySem.W.kitOne K (.type "tuple") (.type "bool") = some false := by kernel_rfl
theorem k_tl : PySem.W.kitOne K (.type "tuple") (.type "list") = some false := by kernel_rfl
theorem k_di : PySem.W.kitOne K (.type "dict") (.type "int") = some false := by kernel_rfl
theorem k_db : PySem.W.kitOne K (.type "dict") (.type "bool") = some false := by kernel_rfl
theorem k_dl : PySem.W.kitOne K (.type "dict") (.type "list") = some false := by kernel_rfl
variable {H : Hp} {x : V}
theorem Kd.isInt (k : Kd K H x) : IsX K H x (.type "int") (isI x) := by
 cases k with
 | non => exact ⟨_, .of .non, k_ni⟩
 | bl b => exact ⟨_, .of (.bl b), k_bi⟩
 | int i => exact ⟨_, .of (.int i), k_ii⟩
 | str y => exact ⟨_, .of (.str y), k_si⟩
 | lst e => exact ⟨_, .of (.lst e), k_li⟩
 | tup e => exact ⟨_, .of (.tup e), k_ti⟩
 | dict e => exact ⟨_, .dict e, k_di⟩
theorem Kd.isBool (k : Kd K H x) : IsX K H x (.type "bool") (isB x) := by
 cases k with
 | non => exact ⟨_, .of .non, k_nb⟩
 | bl b => exact ⟨_, .of (.bl b), k_bb⟩
 | int i => exact ⟨_, .of (.int i), k_ib⟩
 | str y => exact ⟨_, .of (.str y), k_sb⟩
 | lst e => exact ⟨_, .of (.lst e), k_lb⟩
 | tup e => exact ⟨_, .of (.tup e), k_tb⟩
 | dict e => exact ⟨_, .dict e, k_db⟩
theorem Kd.isList (k : Kd K H x) : IsX K H x (.type "list") (isL H x) := by
 cases k with
 | non => exact ⟨_, .of .non, k_nl⟩
 | bl b => exact ⟨_, .of (.bl b), k_bL⟩
 | int i => exact ⟨_, .of (.int i), k_il⟩
 | str y => exact ⟨_, .of (.str y), k_sl⟩
 | lst e => refine ⟨_, .of (.lst e), ?_⟩; simp only [isL, e]; exact k_ll
 | tup e => refine ⟨_, .of (.tup e), ?_⟩; simp only [isL, e]; exact k_tl
 | dict e => refine ⟨_, .dict e, ?_⟩; simp only [isL, e, DictO]; exact k_dl
theorem isList_lst {a : Addr} {xs : List V} (e : H a = some (.lst xs)) : IsX K H (.ref a) (.type "list") true := ⟨_, .of (.lst e), k_ll⟩
end
noncomputable def Src (J : It) (L : List V) (H : Hp) : Prop := ∀ H', Same H H' → (∀ i x, L[i]? = some x → J.go i H' ∧ ∀ y H2, J.yld i H' y H2 → y = x ∧ H2 = H') ∧ J.stop L.length H'
theorem src_list {K : PySem.W.Frag} {a : Addr} {xs : List V} {H : Hp} (h : SqL K H a xs) : Src (Itl K a) xs H := fun H' sm =>
 ⟨fun i x e => ⟨⟨xs, x, sm.seq h, e⟩, fun y H2 ⟨q1, q2⟩ => ⟨by have := q2 xs (sm.seq h); rw [e] at this; exact (Option.some.inj this).symm, q1⟩⟩, ⟨xs, sm.seq h, Nat.le_refl _⟩⟩
theorem src_range {lo : Int} {n : Nat} {H : Hp} : Src (Itr lo n) ((List.range n).map fun (i : Nat) => V.int (lo + i)) H := fun H' sm => by
 refine ⟨fun i x e => ?_, ?_⟩
 ·have hi : i < n := by
   have := (List.getElem?_eq_some_iff.mp e).1
   simpa using this
  refine ⟨hi, fun y H2 ⟨q1, q2⟩ => ⟨?_, q1⟩⟩
  rw [List.getElem?_map, List.getElem?_range hi] at e
  rw [q2]
  exact Option.some.inj e
 ·show n ≤ _
  simp
theorem comp_fm {J : It} {L : List V} {k : Nat} {tt : TT} {te : TE} {D : Addr} {σ0 : St} {H : Hp} {Fn : Hp → Prop} (f : V → V) (p : V → Bool) (S : Src J L H) (hn : L.length ≤ sizeLine) (hD : H D = none)
  (ht : ∀ x ∈ L, ∀ (H' : Hp) (Qb : Bool → Hp → Prop), Same H H' → (∀ H'', Same H' H'' → Qb (p x) H'') → tt (σ0.set k (some x)) H' Qb)
  (he : ∀ x ∈ L, p x = true → ∀ (H' : Hp) (Q : VK), Same H H' → (∀ H'', Same H' H'' → Q (f x) H'') → te (σ0.set k (some x)) H' Q)
  (hd : ∀ H', Same H H' → H' D = some (.lst ((L.filter p).map f)) → Fn H') :
  ∃ W : Nat → Nat → St → Hp → Prop, (∃ m, W 0 m σ0 (upd H D (.lst []))) ∧ ∀ i m σ' H', W i m σ' H' →
   (J.stop i H' ∧ Fn H') ∨ (J.go i H' ∧ ∃ N : St → Hp → Prop, (∀ σ2 H2, N σ2 H2 → ∃ m', m' < m ∧ W (i + 1) m' σ2 H2) ∧ ∀ x H2, J.yld i H' x H2 → gName k x σ' H2 fun σ3 H3 => tt σ3 H3 fun b H4 =>
    if b = true then te σ3 H4 fun v H5 => ∃ xs, H5 D = some (.lst xs) ∧ xs.length < sizeLine ∧ N σ3 (upd H5 D (.lst (xs ++ [v]))) else N σ3 H4) := by
 refine ⟨fun i m σ' H' => m = L.length - i ∧ i ≤ L.length ∧ (∀ y, σ'.set k y = σ0.set k y) ∧ Same H H' ∧ H' D = some (.lst (((L.take i).filter p).map f)), ⟨L.length, rfl, Nat.zero_le _, fun _ => rfl, same_new hD, by rw [upd_same]; rfl⟩, ?_⟩
 rintro i m σ' H' ⟨rfl, hi, hσ, sm, hH⟩
 by_cases hlt : i < L.length
 ·have hx : L[i]? = some L[i] := by simp [hlt]
  obtain ⟨go, yl⟩ := (S H' sm).1 i _ hx
  refine .inr ⟨go, fun σ2 H2 => (∀ y, σ2.set k y = σ0.set k y) ∧ Same H H2 ∧ H2 D = some (.lst (((L.take (i + 1)).filter p).map f)), ?_, ?_⟩
  ·rintro σ2 H2 ⟨q1, q2, q3⟩
   exact ⟨L.length - (i + 1), by omega, rfl, hlt, q1, q2, q3⟩
  ·intro x H2 y
   obtain ⟨rfl, rfl⟩ := yl x H2 y
   show tt (σ'.set k (some L[i])) H2 _
   rw [hσ]
   have hm : L[i] ∈ L := List.getElem_mem hlt
   have tk : L.take (i + 1) = L.take i ++ [L[i]] := by rw [List.take_add_one, hx]; rfl
   refine ht _ hm H2 _ sm fun H4 s4 => ?_
   cases hp : p L[i] with
   | true =>
    refine iteT (he _ hm hp H4 _ (sm.trans s4) fun H5 s5 => ⟨_, s5 D _ (s4 D _ hH), ?_, fun y => by rw [List.set_set], same_upd (sm.trans (s4.trans s5)) hD, ?_⟩)
    ·have h1 : (((L.take i).filter p).map f).length ≤ (L.take i).length := by rw [List.length_map]; exact List.length_filter_le _ _
     rw [List.length_take] at h1
     omega
    ·rw [upd_same, tk, List.filter_append, List.map_append]
     simp [hp]
   | false =>
    refine iteF ⟨fun y => by rw [List.set_set], sm.trans s4, ?_⟩
    rw [tk, List.filter_append, List.filter_cons_of_neg (by simp [hp])]
    simpa using s4 D _ hH
 ·have e : i = L.length := by omega
  subst e
  exact .inl ⟨(S H' sm).2, hd H' sm (by rw [hH, List.take_length])⟩
structure PicV (H : Hp) (a : Addr) (ps : List Addr) (R : List (List V)) : Prop where
 top : H a = some (.lst (ps.map V.ref))
 row : Paired (fun p r => H p = some (.lst r)) ps R
 nd : ps.Nodup
 out : a ∉ ps
noncomputable def Fresh (H : Hp) (ps : List Addr) : Prop := ∀ q ∈ ps, H q = none
theorem Paired.mapI {α β : Type} {F G : α → β → Prop} : ∀ {l₁ : List α} {l₂ : List β}, Paired F l₁ l₂ → (∀ a b, a ∈ l₁ → F a b → G a b) → Paired G l₁ l₂
 | _, _, .nil, _ => .nil
 | _, _, .cons r t, f => .cons (f _ _ List.mem_cons_self r) (Paired.mapI t fun a b h => f a b (List.mem_cons_of_mem _ h))
theorem Paired.app {α β : Type} {F : α → β → Prop} : ∀ {l₁ m₁ : List α} {l₂ m₂ : List β}, Paired F l₁ l₂ → Paired F m₁ m₂ → Paired F (l₁ ++ m₁) (l₂ ++ m₂)
 | _, _, _, _, .nil, q => q
 | _, _, _, _, .cons r t, q => .cons r (Paired.app t q)
theorem Paired.getL {α β : Type} {F : α → β → Prop} : ∀ {l₁ : List α} {l₂ : List β} {i : Nat} {a : α}, Paired F l₁ l₂ → l₁[i]? = some a → ∃ b, l₂[i]? = some b ∧ F a b
 | _, _, _, _, .nil, e => by simp at e
 | _, _, 0, _, .cons r t, e => by simp at e; subst e; exact ⟨_, rfl, r⟩
 | _, _, i + 1, a, .cons r t, e => by
  obtain ⟨b, h1, h2⟩ := Paired.getL (i := i) (a := a) t (by simpa using e)
  exact ⟨b, by simpa using h1, h2⟩
section
variable {H H' : Hp} {a : Addr} {ps : List Addr} {R : List (List V)}
theorem PicV.mono (p : PicV H a ps R) (s : Same H H') : PicV H' a ps R := ⟨s _ _ p.top, Paired.mapI p.row fun _ _ _ e => s _ _ e, p.nd, p.out⟩
theorem PicV.len (p : PicV H a ps R) : ps.length = R.length := Paired.length p.row
theorem PicV.at {i : Nat} {q : Addr} (p : PicV H a ps R) (h : ps[i]? = some q) : ∃ r, R[i]? = some r ∧ H q = some (.lst r) := Paired.getL p.row h
theorem PicV.mem (p : PicV H a ps R) {q : Addr} (hq : q ∈ ps) : ∃ r, r ∈ R ∧ H q = some (.lst r) := by
 obtain ⟨i, hi⟩ := List.mem_iff_getElem?.mp hq
 obtain ⟨r, hr, e⟩ := p.at hi
 exact ⟨r, List.mem_of_getElem? hr, e⟩
end
theorem comp_rows {J : It} {L : List V} {k : Nat} {te : TE} {D : Addr} {σ0 : St} {H : Hp} {Fn : Hp → Prop} (g : V → List V) (S : Src J L H) (hn : L.length ≤ sizeLine) (hD : H D = none)
  (he : ∀ x ∈ L, ∀ (H' : Hp) (Q : VK), Same H H' → (∀ q H'', Same H' H'' → H' q = none → H'' q = some (.lst (g x)) → Q (.ref q) H'') → te (σ0.set k (some x)) H' Q)
  (hd : ∀ ps H', Same H H' → Fresh H ps → PicV H' D ps (L.map g) → Fn H') :
  ∃ W : Nat → Nat → St → Hp → Prop, (∃ m, W 0 m σ0 (upd H D (.lst []))) ∧ ∀ i m σ' H', W i m σ' H' →
   (J.stop i H' ∧ Fn H') ∨ (J.go i H' ∧ ∃ N : St → Hp → Prop, (∀ σ2 H2, N σ2 H2 → ∃ m', m' < m ∧ W (i + 1) m' σ2 H2) ∧ ∀ x H2, J.yld i H' x H2 → gName k x σ' H2 fun σ3 H3 => tTrue σ3 H3 fun b H4 =>
    if b = true then te σ3 H4 fun v H5 => ∃ xs, H5 D = some (.lst xs) ∧ xs.length < sizeLine ∧ N σ3 (upd H5 D (.lst (xs ++ [v]))) else N σ3 H4) := by
 refine ⟨fun i m σ' H' => m = L.length - i ∧ i ≤ L.length ∧ (∀ y, σ'.set k y = σ0.set k y) ∧ Same H H' ∧ ∃ ps, Fresh H ps ∧ PicV H' D ps ((L.take i).map g), ⟨L.length, rfl, Nat.zero_le _, fun _ => rfl, same_new hD, [], (fun q h => nomatch h), ⟨by rw [upd_same]; rfl, .nil, List.nodup_nil, by simp⟩⟩, ?_⟩
 rintro i m σ' H' ⟨rfl, hi, hσ, sm, ps, fr, pic⟩
 by_cases hlt : i < L.length
 ·have hx : L[i]? = some L[i] := by simp [hlt]
  obtain ⟨go, yl⟩ := (S H' sm).1 i _ hx
  refine .inr ⟨go, fun σ2 H2 => (∀ y, σ2.set k y = σ0.set k y) ∧ Same H H2 ∧ ∃ ps, Fresh H ps ∧ PicV H2 D ps ((L.take (i + 1)).map g), ?_, ?_⟩
  ·rintro σ2 H2 ⟨q1, q2, q3⟩
   exact ⟨L.length - (i + 1), by omega, rfl, hlt, q1, q2, q3⟩
  ·intro x H2 y
   obtain ⟨rfl, rfl⟩ := yl x H2 y
   simp only [gName, tTrue, if_true]
   rw [hσ]
   have hm : L[i] ∈ L := List.getElem_mem hlt
   have tk : L.take (i + 1) = L.take i ++ [L[i]] := by rw [List.take_add_one, hx]; rfl
   have hl : ps.length = i := by have := pic.len; rw [List.length_map, List.length_take] at this; omega
   refine he _ hm H2 _ sm fun q H5 s5 hq hq5 => ⟨_, s5 D _ pic.top, by rw [List.length_map, hl]; omega, fun y => by rw [List.set_set], same_upd (sm.trans s5) hD, ps ++ [q], ?_, ?_⟩
   ·intro c hc
    rcases List.mem_append.mp hc with hc | hc
    ·exact fr c hc
    ·have e : c = q := by simpa using hc
     subst e
     exact sm.free hq
   ·have nq : q ∉ ps := fun z => by
     obtain ⟨r, _, e⟩ := pic.mem z
     rw [hq] at e; cases e
    have nD : D ≠ q := ne_of_none pic.top hq
    refine ⟨by rw [upd_same, List.map_append]; rfl, ?_, ?_, ?_⟩
    ·rw [tk, List.map_append]
     refine Paired.app (Paired.mapI pic.row fun c r hc e => ?_) (.cons ?_ .nil)
     ·have ne : c ≠ D := fun z => pic.out (by rw [← z]; exact hc)
      rw [upd_ne ne]
      exact s5 _ _ e
     ·rw [upd_ne (Ne.symm nD)]
      exact hq5
    ·rw [List.nodup_append]
     exact ⟨pic.nd, by simp, fun c hc d hd z => by
      have e : d = q := by simpa using hd
      subst e; subst z
      exact nq hc⟩
    ·intro z
     rcases List.mem_append.mp z with z | z
     ·exact pic.out z
     ·exact nD (by simpa using z)
 ·have e : i = L.length := by omega
  subst e
  exact .inl ⟨(S H' sm).2, hd ps H' sm fr (by rw [List.take_length] at pic; exact pic)⟩
section
variable {X : Cx} (K : PySem.W.Frag)
theorem ixK (h : X.K = K) : IxR X (rIxL K) := by subst h; exact ix_list
theorem slK (h : X.K = K) : SlR X (rSlL K) := by subst h; exact sl_list
theorem lenK (h : X.K = K) : CallR X (.builtin "len") (fun xs H Q => ∃ p ys, xs = [.ref p] ∧ (SqL K H p ys ∨ SqT K H p ys) ∧ Q (.int ys.length) H) := by subst h; exact call_len_seq
theorem listK (h : X.K = K) : CallR X (.type "list") (fun xs H Q => ∃ p ys, xs = [.ref p] ∧ (SqL K H p ys ∨ SqT K H p ys) ∧ ∀ l, H l = none → Q (.ref l) (upd H l (.lst ys))) := by subst h; exact call_list_of
theorem allK (h : X.K = K) (hc : X.calm = true) : CallR X (.builtin "all") (rAll K) := by subst h; exact call_all hc
theorem eqDK (h : X.K = K) (hu : X.A.units + 64 < cLine) : OpR X (compareOp .Eq) (rEqD K false) := by subst h; exact op_eqD hu
theorem neDK (h : X.K = K) (hu : X.A.units + 64 < cLine) : OpR X (compareOp .NotEq) (rEqD K true) := by subst h; exact op_neD hu
theorem piK {tg l : Expr} {tl : TE} (h : X.K = K) (hl : PE X l tl) : PI X tg l (iList K tl) := by subst h; exact pi_list hl
theorem isiK {e : Expr} {te : TE} {T : Str} {n : String} {p p2 pos : Pos} (h : X.K = K) (he : PE X e te) (h1 : Gl X "isinstance") (h2 : X.mg "isinstance" = none) (h3 : Gl X T) (h4 : X.mg T = none) (h5 : bootBuiltins T = some (.type n)) (h6 : T ≠ "__name__" := by decide) (h7 : (T == ("__debug__" : Str)) = false := by decide)
  (s1 : starEach [e, .Name T p2] X.env = (false, eval e X.env) :: starEach [.Name T p2] X.env := by rfl) (s2 : starEach [.Name T p2] X.env = (false, eval (.Name T p2) X.env) :: starEach [] X.env := by rfl) (hpl : (backTo pos (starEach [.Name T p2] X.env)).any (·.1) = false := by rfl) :
  PE X (.Call (.Name "isinstance" p) [e, .Name T p2] [] pos) (tCB (rIsX K) (tCons te (tCons (tC (.ty n)) tNil))) := by
 subst h; exact pe_isiX he h1 h2 h3 h4 h5 h6 h7 s1 s2 hpl
theorem isiCK {e : Expr} {te : TE} {T : Str} {C : Addr} {p p2 pos : Pos} (h : X.K = K) (he : PE X e te) (h1 : Gl X "isinstance") (h2 : X.mg "isinstance" = none) (h3 : Gl X T) (h4 : X.mg T = some (.ref C)) (h7 : (T == ("__debug__" : Str)) = false := by decide)
  (s1 : starEach [e, .Name T p2] X.env = (false, eval e X.env) :: starEach [.Name T p2] X.env := by rfl) (s2 : starEach [.Name T p2] X.env = (false, eval (.Name T p2) X.env) :: starEach [] X.env := by rfl) (hpl : (backTo pos (starEach [.Name T p2] X.env)).any (·.1) = false := by rfl) :
  PE X (.Call (.Name "isinstance" p) [e, .Name T p2] [] pos) (tCB (rIsX K) (tCons te (tCons (tC (.ref C)) tNil))) := by
 subst h; exact pe_isiC he h1 h2 h3 h4 h7 s1 s2 hpl
end
open C5
section
variable {X : Cx} {sc : Scope} {N : List Str} {src : List (Option Nat)}
structure TurnG (Cp : Cx → Prop) (P : Program) (w : World) (K : PySem.W.Frag) (tg : Expr) (J : It) (fp : List Addr) (it : Addr) (tn : Nat → Heap → Prop) : Prop where
 mem : it ∈ fp
 obj : ∀ i h, tn i h → ∀ b ∈ fp, ∃ o, h.get? b = some o ∧ ∀ v, o.data ≠ .cell v
 keep : ∀ i h h', tn i h → (∀ b ∈ fp, ∀ o, h.get? b = some o → h'.get? b = some o) → tn i h'
 item : ∀ (X : Cx), X.prog = P → X.w = w → X.K = K → Cp X → ∀ (i : Nat) (pins : List (Addr × Obj)) (s : Shared) (σ : St) (H : Hp) (E : Value → Shared → Prop), Inv X pins σ H s → (∀ b ∈ fp, FpOk X pins H b) → tn i s.heap → J.go i H →
  wpAny (model P w) X.A (pyNext (.ref it)) (fun r s1 => ∃ u, r = some u ∧ wpAny (model P w) X.A (letOwnedTupleGo tg (.ref it) u) (fun _ s2 => ∃ x H', Inv X pins σ H' s2 ∧ RelV x u ∧ J.yld i H x H' ∧ tn (i + 1) s2.heap ∧ ∀ b ∈ fp, H' b = none) E s1) E s
 done : ∀ (X : Cx), X.prog = P → X.w = w → X.K = K → Cp X → ∀ (i : Nat) (pins : List (Addr × Obj)) (s : Shared) (σ : St) (H : Hp) (E : Value → Shared → Prop), Inv X pins σ H s → (∀ b ∈ fp, FpOk X pins H b) → tn i s.heap → J.stop i H →
  wpAny (model P w) X.A (pyNext (.ref it)) (fun r s1 => r = none ∧ Inv X pins σ H s1) E s
 self : ∀ (A : Around) (i : Nat) (s : Shared) (Q : Value → Shared → Prop) (E : Value → Shared → Prop), tn i s.heap → Q (.ref it) s → wpAny (model P w) A (pyIter (.ref it)) Q E s
noncomputable def PIG (Cp : Cx → Prop) (X : Cx) (tg iter : Expr) (wi : TI) : Prop :=
 ∀ (pins : List (Addr × Obj)) (s : Shared) (σ : St) (H : Hp) (R : It → Hp → Prop), Inv X pins σ H s → wi σ H R →
  wpAny (model X.prog X.w) X.A (eval iter X.env) (fun v s1 => wpAny (model X.prog X.w) X.A (pyIter v) (fun itv s2 => ∃ (it : Addr) (fp : List Addr) (tn : Nat → Heap → Prop) (J : It) (H' : Hp), itv = .ref it ∧ Inv X pins σ H' s2 ∧ TurnG Cp X.prog X.w X.K tg J fp it tn ∧ tn 0 s2.heap ∧ (∀ b ∈ fp, FpOk X pins H' b) ∧ R J H') X.xe s1) X.xe s
theorem PI.g {X : Cx} {tg iter : Expr} {wi : TI} (h : PI X tg iter wi) : PIG (fun X => X.calm = true) X tg iter wi := fun pins s σ H R I hw =>
 thn (h pins s σ H R I hw) fun _ _ h1 => thn h1 fun _ _ ⟨it, fp, tn, J, H', e, I2, T, st, f, r⟩ => ⟨it, fp, tn, J, H', e, I2, ⟨T.mem, T.obj, T.keep, T.item, T.done, T.self⟩, st, f, r⟩
theorem ps_setCG (Cp : Cx → Prop) {x : Str} {ix : Nat} {p1 spos : Pos} {elt tgt iter : Expr} {ifs : List Expr} {wi : TI} {g : TG} {tt : TT} {te : TE} {pos : Pos} (hN : X.N.Nodup) (hix : X.N[ix]? = some x) (hxl : X.env.scope.names.lookup x = some .local) (hc : ∀ (s : Shared) (H : Hp) (C : Addr) (fp : List Addr), Cp (cxB X sc N fp C s H)) (B : BkScope X.env.scope sc X.N N src) (hi : PIG Cp X tgt iter wi)
  (hg : ∀ (s : Shared) (H : Hp) (C : Addr) (fp : List Addr), PG (cxB X sc N fp C s H) tgt g) (ht : ∀ (s : Shared) (H : Hp) (C : Addr) (fp : List Addr), PTs (cxB X sc N fp C s H) ifs tt)
  (he : ∀ (s : Shared) (H : Hp) (C : Addr) (fp : List Addr), PE (cxB X sc N fp C s H) elt te) (hs : ∀ x, foldedSetIterable iter X.env x = pure x := by intro _; rfl)
  (hsw : swapsWith (.ListComp elt [⟨tgt, iter, ifs, 0⟩] sc pos) (some (.Name x p1)) spos.line X.env = pure true := by rfl) :
  PS X (.Assign [.Name x p1] (.ListComp elt [⟨tgt, iter, ifs, 0⟩] sc pos) spos) (tAsg (tComp src wi g tt te) (gName ix)) := by
 intro pins s σ H D I h
 rw [exec_Assign_Name_used _ _ _ _ hsw]
 refine wpAny_bind (wpAny_standAt (wpAny_bind ?_))
 show wpAny _ X.A (do let _ ← comprehension (.ListComp elt [⟨tgt, iter, ifs, 0⟩] sc pos) sc X.env _ (newList []) false (eval iter X.env) (some (assign (.Name x p1) X.env))) _ _ s
 have has := B.has rfl I.ok
 refine wpAny_bind (wpAny_mono (wpAny_comprehension_free (use := some (assign (.Name x p1) X.env)) (Q := fun _ s' => SP X pins D .next s') rfl hs (clos_of has) B.kind (fun y hy hk => by have := B.look (x := y.1) (k := y.2) hy; rw [hk] at this; exact this)
  (thn (hi pins s σ H _ I h) fun v s1 h1 => thn h1 fun itv s2 h2 => ?_)) (fun _ s' hq => wpAny_pure (wpAny_pure hq)) fun _ _ z => z)
 obtain ⟨it, fp, tn, J, H2, e, I2, T, st2, f2, q⟩ := h2
 subst e
 refine wpAny_newObj_type (newBlock ?_)
 obtain ⟨W, ⟨m0, w0⟩, turn⟩ := q s2.heap.objs.size (I2.hok.fresh (Nat.le_refl _))
 have hlt : ∀ b ∈ fp, b < s2.heap.objs.size := fun b hb => by
  obtain ⟨o, ho, _⟩ := T.obj 0 _ st2 b hb
  exact Heap.lt_size ho
 have szL : (s2.heap.push { cls := .type "list", dict := none, data := .seq ([] : List Value).toArray } : Heap).objs.size = s2.heap.objs.size + 1 := Heap.size_push ..
 generalize hh1 : pushCells ((s2.heap.push { cls := .type "list", dict := none, data := .seq ([] : List Value).toArray } : Heap).push { cls := .type "dict", data := .dict #[] }) sc.names = hB
 have IB := I2.block (C := (s2.heap.push { cls := .type "list", dict := none, data := .seq ([] : List Value).toArray } : Heap).objs.size) (t := s2.toks) B f2 hlt szL hh1.symm
 generalize (s2.heap.push { cls := .type "list", dict := none, data := .seq ([] : List Value).toArray } : Heap).objs.size = C at IB szL ⊢
 have keepB : ∀ b o, s2.heap.get? b = some o → hB.get? b = some o := fun b o e => by
  rw [← hh1]
  exact pushCells_keeps _ _ b o (Heap.get?_push_of_some _ (Heap.get?_push_of_some _ e))
 have stB : tn 0 hB := T.keep 0 _ _ st2 fun b _ o e => keepB b o e
 have frB : ∀ b ∈ fp, upd H2 s2.heap.objs.size (.lst []) b = none := fun b hb => by
  rw [upd_ne (Nat.ne_of_lt (hlt b hb))]
  exact (f2 b hb).1
 have stat : ∀ {H' : Hp}, (∀ b ∈ fp, H' b = none) → ∀ b ∈ fp, FpOk (cxB X sc N fp C s2 H2) [] H' b := fun {H'} hn b hb => by
  obtain ⟨z1, z2⟩ := IB.ok.exf b hb
  exact ⟨hn b hb, z1, IB.ok.exfs b hb, .inl hb, z2, fun p hp => absurd (show p ∈ ([] : List (Addr × Obj)) from hp) (by simp)⟩
 show codeAny (model X.prog X.w) X.A (.compStart (.ListComp elt [⟨tgt, iter, ifs, 0⟩] sc pos) 0 (.ref it) (.ref s2.heap.objs.size) (bkEnv sc (clOf sc X.env) C X.env)) (compPost (model X.prog X.w) X.A X.xe (some (assign (.Name x p1) X.env)) (fun _ s' => SP X pins D .next s') (.ref s2.heap.objs.size) C) { s2 with heap := hB }
 have loop : codeAny (model X.prog X.w) X.A (.compLoop (.ListComp elt [⟨tgt, iter, ifs, 0⟩] sc pos) 0 (.ref it) (.ref s2.heap.objs.size) (bkEnv sc (clOf sc X.env) C X.env))
   (compPost (model X.prog X.w) X.A X.xe (some (assign (.Name x p1) X.env)) (fun _ s' => SP X pins D .next s') (.ref s2.heap.objs.size) C) { s2 with heap := hB } := by
  refine compLoop_go (fun n s' => ∃ i σ' H', Inv (cxB X sc N fp C s2 H2) [] σ' H' s' ∧ tn i s'.heap ∧ (∀ b ∈ fp, H' b = none) ∧ W i n σ' H') ?_ m0 ⟨0, _, _, IB, stB, frB, w0⟩
  rintro n s3 ⟨i, σ3, H3, I3, st3, fr3, w3⟩
  rcases turn i n σ3 H3 w3 with ⟨stop, qn⟩ | ⟨go, N', hN, step⟩
  ·refine thn (T.done (cxB X sc N fp C s2 H2) rfl rfl rfl (hc _ _ _ _) i [] s3 σ3 H3 _ I3 (stat fr3) st3 stop) fun r s4 ⟨hr, I4⟩ => ?_
   subst hr
   obtain ⟨m, hn, _⟩ := I4.loc
   have ltC : ∀ b o, s2.heap.get? b = some o → b ≠ C := fun b o e => Nat.ne_of_lt (show @LT.lt Nat instLTNat b C by have : @LT.lt Nat instLTNat b s2.heap.objs.size := Heap.lt_size e; omega)
   have base := I4.base
   have freeC : H3 C = none := I4.free
   have J : Inv X pins σ H3 s4 := by
    refine I2.call' (s' := s4) (ch := fp) I4.os ⟨base.keep, base.slot, base.free, base.there, base.tups, base.frzs, base.tbls⟩ I4.hok I4.bare (fun b hb => ?_)
    obtain ⟨f0, f1, f2', f3, f4, f5⟩ := f2 b hb
    exact ⟨f3, f1, f4, f5⟩
   have neL : C ≠ X.env.locals := fun z => by
    obtain ⟨m', ⟨o, _, _, ho, _⟩, _⟩ := I2.loc
    exact ltC _ o ho z.symm
   have neCell : ∀ y c, X.env.cells.lookup y = some c → c ≠ C := fun y c e => by
    obtain ⟨v', o, ho, _⟩ := I2.cell y c e
    exact ltC c o ho
   show wpAny (model X.prog X.w) X.A (assign (.Name x p1) X.env (.ref s2.heap.objs.size)) _ _ s4
   refine wpAny_assign_Name (store_ok2 J hN hix (.inl hxl) (show RelV (.ref s2.heap.objs.size) (.ref s2.heap.objs.size) from rfl) (fun s5 J5 hsb => ?_) (.inr hxl))
   obtain ⟨a, sb, ha⟩ := hsb
   have neA : C ≠ a := by
    rcases ha with z | z
    ·rw [z]; exact neL
    ·exact fun q => neCell _ _ z q.symm
   refine ⟨m, hn.sameBut sb neA, fun h' hs' => ?_⟩
   refine ⟨_, H3, J5.turned (t' := s5.toks) (it := C) (fun b o hb e => (hs'.2 b hb).trans e) freeC neL (.inr ?_) neCell (fun p hp => ltC p.1 p.2 (I2.pin p hp).1), qn⟩
   exact Nat.le_trans I2.sz (show @LE.le Nat instLENat s2.heap.objs.size C by omega)
  ·refine thn (T.item (cxB X sc N fp C s2 H2) rfl rfl rfl (hc _ _ _ _) i [] s3 σ3 H3 _ I3 (stat fr3) st3 go) fun r s4 ⟨u, hr, h4⟩ => ?_
   subst hr
   refine thn h4 fun _ s5 ⟨x, H5, I5, r5, y5, st5, fr5⟩ => ?_
   have I5' := I5.pinned (stat fr5) (T.obj _ _ st5)
   have again : ∀ {s7 : Shared} {σ7 : St} {H7 : Hp}, Inv (cxB X sc N fp C s2 H2) ([] ++ pinsAt fp s5.heap) σ7 H7 s7 → N' σ7 H7 → ∃ m, m < n ∧ ∃ i σ' H', Inv (cxB X sc N fp C s2 H2) [] σ' H' s7 ∧ tn i s7.heap ∧ (∀ b ∈ fp, H' b = none) ∧ W i m σ' H' := fun {s7 σ7 H7} I7 n7 => by
    obtain ⟨m', hm, w7⟩ := hN σ7 H7 n7
    refine ⟨m', hm, i + 1, σ7, H7, I7.unpinned, T.keep _ _ _ st5 fun b hb o e => (I7.pin (b, o) (List.mem_append_right _ (List.mem_append_right _ (mem_pinsAt hb e)))).1, fun b hb => ?_, w7⟩
    obtain ⟨o, e, d⟩ := T.obj _ _ st5 b hb
    exact (I7.pin (b, o) (List.mem_append_right _ (List.mem_append_right _ (mem_pinsAt hb e)))).2.1
   refine thn (hg s2 H2 C fp _ s5 σ3 H5 x u _ I5' r5 (step x H5 y5)) fun _ s6 ⟨σ6, H6, I6, q6⟩ => ?_
   refine thn (ht s2 H2 C fp _ s6 σ6 H6 _ I6 q6) fun b s7 ⟨H7, I7, q7⟩ => ?_
   cases b with
   | false =>
    rw [if_neg Bool.false_ne_true] at q7 ⊢
    exact again I7 q7
   | true =>
    rw [if_pos rfl] at q7 ⊢
    refine thn (he s2 H2 C fp _ s7 σ6 H7 _ I7 q7) fun u8 s8 ⟨v8, H8, I8, r8, xs, hD, hz, n8⟩ => ?_
    exact thn (mt_append (X := cxB X sc N fp C s2 H2) _ s8 σ6 H8 (.ref s2.heap.objs.size) [v8] (.ref s2.heap.objs.size) [u8] (fun _ H => N' σ6 H) I8 rfl (.cons r8 .nil) ⟨_, xs, v8, rfl, rfl, hD, hz, n8⟩) fun _ s9 ⟨_, H9, I9, _, n9⟩ => again I9 n9
 exact codeAny_compStart_list loop (T.self _ 0 _ _ _ stB loop)
theorem ps_setC {x : Str} {ix : Nat} {p1 spos : Pos} {elt tgt iter : Expr} {ifs : List Expr} {wi : TI} {g : TG} {tt : TT} {te : TE} {pos : Pos} (hN : X.N.Nodup) (hix : X.N[ix]? = some x) (hxl : X.env.scope.names.lookup x = some .local) (hc : X.calm = true) (B : BkScope X.env.scope sc X.N N src) (hi : PI X tgt iter wi)
  (hg : ∀ (s : Shared) (H : Hp) (C : Addr) (fp : List Addr), PG (cxB X sc N fp C s H) tgt g) (ht : ∀ (s : Shared) (H : Hp) (C : Addr) (fp : List Addr), PTs (cxB X sc N fp C s H) ifs tt)
  (he : ∀ (s : Shared) (H : Hp) (C : Addr) (fp : List Addr), PE (cxB X sc N fp C s H) elt te) (hs : ∀ x, foldedSetIterable iter X.env x = pure x := by intro _; rfl)
  (hsw : swapsWith (.ListComp elt [⟨tgt, iter, ifs, 0⟩] sc pos) (some (.Name x p1)) spos.line X.env = pure true := by rfl) :
  PS X (.Assign [.Name x p1] (.ListComp elt [⟨tgt, iter, ifs, 0⟩] sc pos) spos) (tAsg (tComp src wi g tt te) (gName ix)) :=
 ps_setCG (fun X => X.calm = true) hN hix hxl (fun _ _ _ _ => hc) B hi.g hg ht he hs hsw
end
end L2
namespace L2
open PySem
theorem exm_mk {K : PySem.W.Frag} {C F : Addr} (h1 : PySem.W.subIn K (.ref F) (.type "BaseException") = some true) (h2 : PySem.W.isClsIn K F = true) (h3 : PySem.W.typeIn K (.ref F) = some (.type "type")) (h4 : PySem.W.subIn K (.ref C) (.ref F) = some true) : PySem.W.exmOne K (.ref C) (.ref F) = some true := by
 unfold PySem.W.exmOne PySem.W.kitCls
 have h2' : (PySem.W.clsIn K F).isSome = true := h2
 rw [h1, if_pos (by decide)]
 dsimp only
 rw [h2', h3, if_pos (by simp), h4]
end L2
namespace L2
open PySem PySem.Spec PyProof.Rows
noncomputable def Ite (K : PySem.W.Frag) (a : Addr) : It :=
  ⟨fun i H => ∃ xs x, SqL K H a xs ∧ xs[i]? = some x,
   fun i H v H' => ∃ T x, v = .ref T ∧ H T = none ∧ H' = upd H T (.tup [.int (i : Int), x]) ∧ ∀ xs, SqL K H a xs → xs[i]? = some x,
   fun i H => ∃ xs, SqL K H a xs ∧ xs.length ≤ i⟩
noncomputable def ESt (e it a : Addr) (i : Nat) (h : Heap) : Prop := (∃ old, IsEnum h e it (i : Int) old) ∧ h.IsListIter it a i
theorem turn_enum {P : Program} {w : World} {K : PySem.W.Frag} {elts : List Expr} {x1} {pos : Pos} {e it a : Addr} (D : e ≠ it) :
  Turn P w K (.Tuple elts x1 pos) (Ite K a) [e, it] e (ESt e it a) where
 mem := by simp
 obj := fun i h st c hc => by
  obtain ⟨⟨old, s1⟩, ⟨o4, e4, c4, d4⟩⟩ := st
  simp only [List.mem_cons, List.not_mem_nil, or_false] at hc
  rcases hc with rfl | rfl
  ·exact ⟨_, s1, fun v e => by cases e⟩
  ·exact ⟨_, e4, fun v e => by rw [d4] at e; cases e⟩
 keep := fun i h h' st k => by
  obtain ⟨⟨old, s1⟩, s4⟩ := st
  exact ⟨⟨old, k e (by simp) _ s1⟩, s4.at fun o q => k it (by simp) o q⟩
 item := by
  intro X hP hw hK hc i pins s σ H E I hf st hg
  subst hP hw hK
  obtain ⟨⟨old, s1⟩, s4⟩ := st
  obtain ⟨xs, x, hx, ex⟩ := hg
  obtain ⟨its, r, pl, _⟩ := I.list hx
  obtain ⟨v1, hv1, rv1⟩ := r.get ex
  refine wpAny_pyNext_enum_item s1 s4 pl.isList (x := v1) (by simpa using hv1) D fun h' a1 a2 a5 a6 hk => ?_
  have fresh : H s.heap.objs.size = none := I.hok.fresh (Nat.le_refl _)
  have inF : ∀ c, c ∈ [e, it] → FpOk X pins H c := fun c hc => hf c hc
  have hk' : ∀ c o, c ∉ [e, it] → s.heap.get? c = some o → h'.get? c = some o := fun c o hc q => by
   simp only [List.mem_cons, List.not_mem_nil, or_false, not_or] at hc
   exact hk c o hc.1 hc.2 q
  have nF : ∀ c u, H c = some u → c ∉ [e, it] := fun c u q hc => by have := (inF c hc).1; rw [q] at this; cases this
  have I1 : Inv X pins σ (upd H s.heap.objs.size (.tup [.int (i : Int), x])) { s with heap := h', toks := s.toks + 1 } := by
   refine I.step (g' := s.gens) (d' := s.drawn) (t' := s.toks + 1) (ch := [e, it]) (fun c hc => ?_) (fun c o _ _ hc e _ => hk' c o hc e) (fun c o _ _ hc e _ => ⟨o.slots, hk' c o hc e⟩) (fun c o hc e n => ?_)
    (fun c o hc e => ⟨o, hk' c o hc e⟩) (fun c zs e => ?_) (fun c o u e => ?_) (fun c ps e => ?_) (fun m hm => ?_) (fun c u e => ?_) I.bare
   ·obtain ⟨f0, f1, f2, f3, f4, f5⟩ := inF c hc
    exact ⟨f3, f1, f4, f5⟩
   ·rw [upd_ne (Nat.ne_of_lt (Heap.lt_size e))]; exact n
   ·rw [upd_ne (ne_of_none e fresh)]; exact e
   ·rw [upd_ne (ne_of_none e fresh)]; exact e
   ·exact ⟨#[], by rw [upd_ne (ne_of_none e fresh), e]; simp⟩
   ·obtain ⟨o, es, ep, ho, rr⟩ := hm
    exact ⟨o, es, ep, hk' _ o (fun hc => (inF _ hc).2.1 rfl) ho, rr⟩
   ·by_cases hce : c = s.heap.objs.size
    ·subst hce
     rw [upd_same] at e
     cases e
     exact ⟨by show 2 ≤ sizeLine; decide, [_, v1], .cons ⟨_, rfl⟩ (.cons rv1 .nil), ⟨_, a5, rfl, _, rfl⟩⟩
    ·rw [upd_ne hce] at e
     refine (I.hok c u e).stay (fun d o hd q => hk' d o ?_ q) (fun d q => ?_) fun d zs q => ?_
     ·rcases hd with z1 | z1
      ·rw [z1]; exact nF c u e
      ·exact nF d _ z1
     ·rw [upd_ne (ne_of_none q fresh)]; exact q
     ·rw [upd_ne (ne_of_none q fresh)]; exact q
  refine ⟨_, rfl, wpAny_letOwnedTupleGo_enum a1 fun h2 hz2 hs2 => ?_⟩
  obtain ⟨f0, f1, f2, f3, f4, f5⟩ := inF e (by simp)
  have nez : e ≠ s.heap.objs.size := Nat.ne_of_lt (Heap.lt_size s1)
  have I2 : Inv X pins σ (upd H s.heap.objs.size (.tup [.int (i : Int), x])) { s with heap := h2, toks := s.toks + 1 } := I1.turned (t' := s.toks + 1) (fun c o hc e => hs2.extBut c o hc e) (by rw [upd_ne nez]; exact f0) f1 f3 f4 f5
  refine ⟨.ref s.heap.objs.size, _, I2, rfl, ⟨_, x, rfl, fresh, rfl, fun zs q1 => by rw [I.list_inj q1 hx]; exact ex⟩, ⟨⟨v1, ?_⟩, a2.extBut hs2.extBut (Ne.symm D)⟩, fun c hc => ?_⟩
  ·have q : ((i + 1 : Nat) : Int) = (i : Int) + 1 := by push_cast; rfl
   rw [q]; exact hz2
  obtain ⟨o, ho⟩ : ∃ o, s.heap.get? c = some o := by
   simp only [List.mem_cons, List.not_mem_nil, or_false] at hc
   obtain ⟨o4, e4, _⟩ := s4
   rcases hc with rfl | rfl
   ·exact ⟨_, s1⟩
   ·exact ⟨_, e4⟩
  rw [upd_ne (Nat.ne_of_lt (Heap.lt_size ho))]
  exact (inF c hc).1
 done := by
  intro X hP hw hK hc i pins s σ H E I hf st hg
  subst hP hw hK
  obtain ⟨⟨old, s1⟩, s4⟩ := st
  obtain ⟨xs, hx, hl⟩ := hg
  obtain ⟨its, r, pl, _⟩ := I.list hx
  have l1 := r.length
  obtain ⟨f0, f1, f2, f3, f4, f5⟩ := hf it (by simp)
  refine wpAny_pyNext_enum_end (I.ok.hd hc) s1 s4 pl.isList (by simp; omega) fun h' hk => ⟨rfl, ?_⟩
  exact I.turned (t' := s.toks) (fun c o hc e => hk c o hc e) f0 f1 f3 f4 f5
 self := fun _ _ _ _ _ st h => by obtain ⟨⟨old, s1⟩, _⟩ := st; exact wpAny_pyIter_enum s1 h
noncomputable def iEnum (K : PySem.W.Frag) (ta : TA) : TI := fun σ H R => ta σ H fun vs H1 => ∃ a, vs = [.ref a] ∧ (∃ xs, SqL K H1 a xs) ∧ R (Ite K a) H1
section
variable {X : Cx}
theorem pi_enum {a : Expr} {ta : TA} {p pos : Pos} {elts : List Expr} {x1} {tpos : Pos} (hg : Gl X "enumerate") (hm : X.mg "enumerate" = none) (ha : PA X [a] ta) (hs : starEach [a] X.env = [(false, eval a X.env)] := by rfl) :
  PI X (.Tuple elts x1 tpos) (.Call (.Name "enumerate" p) [a] [] pos) (iEnum X.K ta) := by
 intro pins s σ H R I h
 refine Call_ (ld_blt I hg hm boot_enumerate (PyProof.Rows.callWith_type1 (thn (ha pos pins s σ H _ I h) fun us s1 ⟨vs, H1, I1, r1, q1⟩ => ?_) (by rw [hs]; rfl) (by rfl)))
 obtain ⟨l1, e, ⟨xs, hx⟩, q⟩ := q1
 subst e
 obtain ⟨u1, rfl, ru1⟩ := Vals.one r1
 cases ru1
 obtain ⟨its, r, pl, _⟩ := I1.list hx
 refine call_enumerate_list pl.isList fun h' a1 a4 a6 hk => ?_
 have I2 : Inv X pins σ H1 { s1 with heap := h' } := I1.kept (t' := s1.toks) hk
 refine wpAny_pyIter_enum (s := { s1 with heap := h' }) a1 ?_
 refine ⟨s1.heap.objs.size + 1, [s1.heap.objs.size + 1, s1.heap.objs.size], _, Ite X.K l1, H1, rfl, I2, turn_enum (Nat.succ_ne_self _), ⟨⟨_, a1⟩, a4⟩, fun c hc => ?_, q⟩
 have hle : s1.heap.objs.size ≤ c := by
  simp only [List.mem_cons, List.not_mem_nil, or_false] at hc
  show @LE.le Nat instLENat s1.heap.objs.size c
  rcases hc with e | e <;> (rw [e]; omega)
 exact I1.fpOk hle (I1.hok.fresh hle)
end
end L2
namespace PySem
namespace F
end F
end PySem
namespace L2
open PySem PySem.Spec PyProof.Rows
noncomputable def Sl (e : Expr) : Prop := ∀ es env, starEach (e :: es) env = (false, eval e env) :: starEach es env
structure LitE (e : Expr) (t : TE) : Prop where
 pe : ∀ X : Cx, PE X e t
 sl : Sl e
structure LitA (es : List Expr) (t : TA) : Prop where
 pa : ∀ X : Cx, PA X es t
theorem la_nil : LitA [] tNil := ⟨fun _ => pa_nil⟩
theorem la_cons {e : Expr} {es : List Expr} {t : TE} {ts : TA} (h : LitE e t) (hs : LitA es ts) : LitA (e :: es) (tCons t ts) := ⟨fun X => pa_cons (h.pe X) (hs.pa X) (h.sl _ _)⟩
theorem lit_non {k : Nat} {p : Pos} : LitE (.Constant .none k p) (L2.tC .non) := ⟨fun _ => pe_non, fun _ _ => rfl⟩
theorem lit_int {n : Int} {k : Nat} {p : Pos} : LitE (.Constant (.int n) k p) (L2.tC (.int n)) := ⟨fun _ => pe_int, fun _ _ => rfl⟩
theorem lit_str {x : Str} {k : Nat} {p : Pos} : LitE (.Constant (.str x) k p) (L2.tC (.str x)) := ⟨fun _ => pe_str, fun _ _ => rfl⟩
theorem lit_lst {es : List Expr} {ts : TA} {p : Pos} (h : LitA es ts) : LitE (.List es p) (tLst ts) := ⟨fun X => pe_lst (h.pa X), fun _ _ => rfl⟩
theorem lit_tup {es : List Expr} {ts : TA} {k : Nat} {p : Pos} (h : LitA es ts) : LitE (.Tuple es k p) (tTup ts) := ⟨fun X => pe_tup (h.pa X), fun _ _ => rfl⟩
theorem drop_at {α : Type} {l : List α} {n : Nat} {x : α} (h : l[n]? = some x) (m : Nat) (hm : n + 1 = m) : l.drop n = x :: l.drop m := by
 subst hm
 obtain ⟨hlt, rfl⟩ := List.getElem?_eq_some_iff.mp h
 exact List.drop_eq_getElem_cons hlt
theorem pss_at {X : Cx} {body : List Stmt} {n : Nat} {st : Stmt} {t u : TS} (m : Nat) (h : body[n]? = some st) (hm : n + 1 = m) (h1 : PS X st t) (h2 : PSs X (body.drop m) u) : PSs X (body.drop n) (tSeq t u) := by
 rw [drop_at h m hm]; exact pss_cons h1 h2
noncomputable def signsOf (x : Str) : List V := x.cps.toList.map fun c => .str ⟨#[c]⟩
end L2
namespace L2
open PySem
theorem lit_dict0 {p : Pos} : LitE (.Dict [] [] p) tDict0 := ⟨fun _ => pe_dict0, fun _ _ => rfl⟩
end L2
namespace L2
open PySem PySem.Spec PyProof.Rows
noncomputable def isT (H : Hp) : V → Bool
 | .ref a => match H a with
  | some (.tup _) => true
  | _ => false
 | _ => false
section
variable {K : PySem.W.Frag}
theorem k_nt : PySem.W.kitOne K (.type "NoneType") (.type "tuple") = some false := by kernel_rfl
theorem k_bt : PySem.W.kitOne K (.type "bool") (.type "tuple") = some false := by kernel_rfl
theorem k_it : PySem.W.kitOne K (.type "int") (.type "tuple") = some false := by kernel_rfl
theorem k_st : PySem.W.kitOne K (.type "str") (.type "tuple") = some false := by kernel_rfl
theorem k_lt : PySem.W.kitOne K (.type "list") (.type "tuple") = some false := by kernel_rfl
theorem k_tt : PySem.W.kitOne K (.type "tuple") (.type "tuple") = some true := by kernel_rfl
theorem k_dt : PySem.W.kitOne K (.type "dict") (.type "tuple") = some false := by kernel_rfl
variable {H : Hp} {x : V}
theorem Kd.isTuple (k : Kd K H x) : IsX K H x (.type "tuple") (isT H x) := by
 cases k with
 | non => exact ⟨_, .of .non, k_nt⟩
 | bl b => exact ⟨_, .of (.bl b), k_bt⟩
 | int i => exact ⟨_, .of (.int i), k_it⟩
 | str y => exact ⟨_, .of (.str y), k_st⟩
 | lst e => refine ⟨_, .of (.lst e), ?_⟩; simp only [isT, e]; exact k_lt
 | tup e => refine ⟨_, .of (.tup e), ?_⟩; simp only [isT, e]; exact k_tt
 | dict e => refine ⟨_, .dict e, ?_⟩; simp only [isT, e, DictO]; exact k_dt
end
section
variable {X : Cx}
theorem op_mulS01 : OpR X (binaryOp .Mult) (fun x y H Q => ∃ a n, x = .str a ∧ y = .int n ∧ (n = 0 ∨ n = 1) ∧ Q (.str (if n = 1 then a else Str.empty)) H) := by
 intro pins s σ H x y v u Q I rx ry h
 obtain ⟨a, n, rfl, rfl, hn, q⟩ := h
 obtain ⟨t, rfl⟩ := rx
 obtain ⟨t2, rfl⟩ := ry
 rcases hn with rfl | rfl
 ·refine PySem.P.mul_str (by decide) (fun z => absurd (by decide : (0 : Int) < 1) z) (fun z => absurd (by decide : (0 : Int) < 1) z) ?_
  rw [if_pos (by decide)]
  rw [if_neg (by decide)] at q
  exact ⟨by decide, ⟨.str _, H, I.tok _, ⟨_, rfl⟩, q⟩⟩
 ·refine PySem.P.mul_str (by decide) (fun _ z => ?_) (fun _ z => ?_) ?_
  ·simp at z
  ·simp at z
  ·rw [if_neg (by decide), if_pos (by simp)]
   rw [if_pos rfl] at q
   exact ⟨.str _, H, I, ⟨_, rfl⟩, q⟩
end
structure FnOkM (P : Program) (w : World) (K : PySem.W.Frag) (mg : Str → Option Value) (base : Heap) (k : Nat) (f : Addr) (fd : FuncData) (ps : List Str) (sp : Addr → Sp) : Prop where
 len : ∀ ea vs H Q E, sp ea vs H Q E → vs.length = ps.length
 run : ∀ (A : Around) (ea : Addr) (outer : List Env) (s : Shared) (H : Hp) (args : Args) (us : List Value) (vs : List V) (Q : VK) (E : XK), Room k A → Env0 P w K mg base (A.mark (some (.ref ea))) outer s H → BindsTo s fd args (ps.zip us) → Vals vs us → sp ea vs H Q E →
  codeAny (model P w) (A.mark (some (.ref ea))) (.call (.ref f) args) (CR CX0 outer P w H s Q E) s
structure DefM (P : Program) (w : World) (K : PySem.W.Frag) (mg : Str → Option Value) (base : Heap) (k : Nat) (x : Str) (ps : List Str) (ds : List V) (sp : Addr → Sp) : Prop where
 ex : ∃ (f : Addr) (fd : FuncData) (dvs : List Value), FnOkM P w K mg base k f fd ps sp ∧ mg x = some (.ref f) ∧ PySem.W.keepIn K (.ref f) = true ∧ Binds K fd ps dvs ∧ Vals ds dvs
section
variable {P : Program} {w : World} {K : PySem.W.Frag} {mg : Str → Option Value} {base : Heap}
theorem Env0.unmark {A : Around} {ea : Addr} {outer : List Env} {s : Shared} {H : Hp} (e : Env0 P w K mg base (A.mark (some (.ref ea))) outer s H) : Env0 P w K mg base A outer s H := ⟨e.frames, e.mod, e.bs, e.bsz, e.funs, e.frf, e.hok, e.bare⟩
theorem FunD.okM {x qual : Str} {st : Stmt} {dV : Value} {f : Addr} {fd : FuncData} {N ps : List Str} {k : Nat} {sp : Addr → Sp} (F : FunD K x qual st dV f fd) (S : FnScope N ps (defScope st)) (len : ∀ ea vs H Q E, sp ea vs H Q E → vs.length = ps.length)
  (hbody : ∀ (cdv : Value) (A : Around) (ea : Addr) (outer : List Env) (s : Shared) (H : Hp) (vs : List V) (Q : VK) (E : XK), Room k (A.deeper (envOfC qual (defScope st) s.heap.objs.size f cdv)) → sp ea vs H Q E →
   ∃ t, PSs ((cxOf CX0 P w K mg base N qual (defScope st) f cdv A outer s H E).marked ea) (defBody st) t ∧ t { nx := fun _ H' => Q .non H', rt := Q } (start N vs) H) : FnOkM P w K mg base (k + 1) f fd ps sp := by
 obtain ⟨oc, od, kV, doc, pm, an, cdv, ct, osl, rfl, lk, hcd⟩ := F.ex
 refine ⟨len, fun A ea outer s H args us vs Q E hr e0 hb r hsp => ?_⟩
 have hl := len _ _ _ _ _ hsp
 have KX : K.In s.heap := e0.mod.kin.keeps fun b o e => (e0.bs b o e).1
 have lim : s.heap.NoLimit := e0.mod.nolimit.keeps fun b o e => (e0.bs b o e).1
 have hkind : ∀ y ∈ ps.zip us, (defScope st).names.lookup y.1 = some .local ∨ ((defScope st).names.lookup y.1 = some .cell ∧ ((cellsFrom (s.heap.objs.size + 1) (defScope st).names []).lookup y.1).isSome = true) := fun ⟨n, v⟩ hy => by
  rcases S.par n (List.of_mem_zip hy).1 with q | q
  ·exact .inl q
  ·exact .inr ⟨q, PySem.W.cellsFrom_some _ _ _ (.inl q)⟩
 refine codeAny_call_function (A := A.mark (some (.ref ea))) hr.depth (KX _ _ lk) rfl S.co S.gen rfl (PySem.W.codeRec_of KX hcd) (hb _ _ _ _ ?_)
 refine wpAny_newFunctionEnv_cells S.kind hkind fun env he s1 x => ?_
 subst he
 refine ⟨lim.keeps x.toInCall.keep, codeAny_func ?_⟩
 obtain ⟨t, ht, hq⟩ := hbody cdv A ea outer s H vs Q E (hr.deeper _) hsp
 have I : Inv ((cxOf CX0 P w K mg base N qual (defScope st) f cdv A outer s H E).marked ea) [] (start N vs) H s1 := (inv_start S hr.hd e0.unmark hl r x).marked ea
 refine wpAny_mono (ht [] s1 (start N vs) H _ I hq) (fun fl s' hs => ?_) fun e s' hs => False.elim hs
 have fin : ∀ {σ' : St} {H' : Hp} {v : V} {u : Value}, Inv ((cxOf CX0 P w K mg base N qual (defScope st) f cdv A outer s H E).marked ea) [] σ' H' s' → RelV v u → Q v H' → CE outer P w H s Q u s' :=
  fun {σ' H' v u} J rv q => ⟨v, H', J.os, J.bare, J.base, J.hok, rv, q⟩
 cases fl with
 | ret u =>
  obtain ⟨v, σ', H', J, rv, q⟩ := hs
  exact fin J rv q
 | next =>
  obtain ⟨σ', H', J, q⟩ := hs
  exact fin (v := V.non) (u := Value.none) J rfl q
 | brk =>
  obtain ⟨_, _, _, q⟩ := hs
  exact False.elim q
 | cont =>
  obtain ⟨_, _, _, q⟩ := hs
  exact False.elim q
theorem FunD.defM {x qual : Str} {st : Stmt} {f : Addr} {fd : FuncData} {ps : List Str} {k : Nat} {sp : Addr → Sp} (F : FunD K x qual st .none f fd) (G : FnOkM P w K mg base k f fd ps sp) (hm : mg x = some (.ref f))
  (h : ∀ (kV doc pm : Value) (an : Option Addr) (cdv ct : Value) (us : List Value), us.length = ps.length → bindArgs (PySem.W.fnOf x qual (defArgs st) (defBody st) (defScope st) .none kV doc pm an cdv ct) ⟨us, []⟩ = pure (ps.zip us)) : DefM P w K mg base k x ps [] sp := by
 obtain ⟨oc, od, kV, doc, pm, an, cdv, ct, osl, rfl, lk, hcd⟩ := F.ex
 exact ⟨f, _, [], G, hm, F.kp, .all (h kV doc pm an cdv ct), .nil⟩
end
section
variable {X : Cx}
theorem pe_callM {k : Nat} {x : Str} {ps : List Str} {ds : List V} {sp : Addr → Sp} {e : Expr} {es : List Expr} {t : TA} {p pos : Pos} {ea : Addr} (D : DefM X.prog X.w X.K X.mg X.base k x ps ds sp) (hr : Room k X.A) (hg : Gl (X.marked ea) x)
  (ha : PA (X.marked ea) (e :: es) t) (hdb : (x == ("__debug__" : Str)) = false := by decide) (he : starEach (e :: es) X.env = (false, eval e X.env) :: starEach es X.env := by rfl) (hpl : (backTo pos (starEach es X.env)).any (·.1) = false := by rfl) :
  PE (X.marked ea) (.Call (.Name x p) (e :: es) [] pos) (tCall (sp ea) ds E0 t) := by
 obtain ⟨f, fd, dvs, F, hm, hk, hb, hd⟩ := D.ex
 intro pins s σ H Q I h
 refine wpAny_Call_Name_kw (ld_glob I hg hm ?_ hdb)
 refine PySem.W.callWith_K (h₀ := X.base) I.ok.mod.kin hk (thn (ha pos pins s σ H _ I h) fun us s1 ⟨vs, H1, I1, r, q⟩ => ⟨I1.kIn, ?_⟩) he hpl
 have r2 : Vals (vs ++ ds) (us ++ dvs) := r.append hd
 have hl : (us ++ dvs).length = ps.length := by rw [← r2.length]; exact F.len _ _ _ _ _ q
 refine wpAny_call (codeAny_mono (F.run X.A ea X.stack s1 H1 ⟨us, []⟩ (us ++ dvs) (vs ++ ds) Q E0 hr I1.env0 (hb s1 us I1.kIn hl) r2 q) fun r s' hq => ?_)
 cases r with
 | error e => exact False.elim hq
 | ok fl =>
  cases fl with
  | ret u => exact I1.after hq
  | next => exact False.elim hq
  | brk => exact False.elim hq
  | cont => exact False.elim hq
end
theorem noFill_tuple_mul : fillsNumberSlot (.type "tuple") "mul" = pure false :=
 PySem.fillsNumberSlot_seq (id := "tuple.__mul__") (r := some (.builtin "tuple.__rmul__")) F.slot_tuple_mul.lookup (by decide +kernel) F.slot_tuple_rmul.lookup (by decide +kernel)
theorem repeat_tuple : seqRepeat? (.type "tuple") = pure (some (.builtin "tuple.__mul__")) := by
 unfold seqRepeat?
 rw [PySem.seqSlot_of (T := "tuple") (name := "__mul__") (id := "tuple.__mul__") F.slot_tuple_mul.lookup (by decide +kernel), PySem.seqSlot_of (T := "tuple") (name := "__rmul__") (id := "tuple.__rmul__") F.slot_tuple_rmul.lookup (by decide +kernel)]
 rfl
theorem int_rmul_tuple (dd : Option Addr) (ss : Array (Option Value)) (a : Int) (t : Tok) (l : Addr) (items : Array Value) (n : Nat) :
  Meets (Builtin.«int.__rmul__» ⟨[.int a t, .ref l], []⟩) (fun _ R s => s.heap.get? l = some { cls := .type "tuple", dict := dd, data := .seq items n, slots := ss } ∧ R (.ok (.ret Value.notImplemented)) s) :=
 .of_wp fun prog w A R s h => by obtain ⟨hp, g, d, tk, os⟩ := s; obtain ⟨hl, h⟩ := h; wp_walk; exact ⟨_, rfl, h⟩
set_option maxHeartbeats 1600000
theorem tuple_mul_n (dd : Option Addr) (ss : Array (Option Value)) (l : Addr) (items : Array Value) (n : Nat) (x : Int) (u : Tok) (hc0 : ¬ (decide (x < -(2 ^ 63)) || decide (x ≥ 2 ^ 63)) = true) (hc1 : ¬ (items.isEmpty || x == 1) = true) (hc2 : ¬ (decide (x ≤ 0) || items.isEmpty) = true) (hc3 : ¬ (items.size : Int) * x > (2 ^ 63 - 1) / 8) (hc4 : ¬ Builtin.Tuple.tupleTooMany ((items.size : Int) * x) = true) (hs : (List.foldl (fun x1 x2 => x1 ++ x2) #[] (List.replicate x.toNat items)).size ≤ sizeLine) :
  Meets (Builtin.«tuple.__mul__» ⟨[.ref l, .int x u], []⟩) (fun _ R s => s.heap.get? l = some { cls := .type "tuple", dict := dd, data := .seq items n, slots := ss } ∧ R (.ok (.ret (Value.ref s.heap.objs.size))) { s with heap := s.heap.push { cls := Value.type "tuple", data := Data.seq (List.foldl (fun x1 x2 => x1 ++ x2) #[] (List.replicate x.toNat items)) }, toks := s.toks }) :=
 .of_wp fun prog w A R s h => by
  obtain ⟨hp, g, d, tk, os⟩ := s; obtain ⟨hl, h⟩ := h; have f1 := PySem.AutoSeq1.idx_int; have f2 := PySem.AutoSeq1.sub_tuple_tuple
  wp_walk using wpAny_loadPart' hl
  rw [if_neg hc0]
  wp_walk using wpAny_loadPart' hl
  try rw [if_neg hc1]
  try wp_walk using wpAny_loadPart' hl
  try rw [if_neg hc2]
  try wp_walk using wpAny_loadPart' hl
  try rw [if_neg hc3]
  try wp_walk using wpAny_loadPart' hl
  try rw [if_neg hc4]
  try wp_walk using wpAny_loadPart' hl
  exact ⟨_, rfl, h⟩
section
variable {X : Cx}
noncomputable def rRepT (K : PySem.W.Frag) : R2 := fun x y H Q => ∃ a k xs, x = .ref a ∧ y = .int k ∧ SqT K H a xs ∧ xs ≠ [] ∧ 2 ≤ k ∧ k < 2 ^ 62 ∧ xs.length * k.toNat ≤ sizeLine ∧ ∀ p, H p = none → Q (.ref p) (upd H p (.tup (List.replicate k.toNat xs).flatten))
theorem op_repT : OpR X (binaryOp .Mult) (rRepT X.K) := by
 intro pins s σ H x y v u Q I rx ry h
 obtain ⟨a, k, xs, rfl, rfl, ha, hne, h2, h3, hz, q⟩ := h
 cases rx
 obtain ⟨t, rfl⟩ := ry
 obtain ⟨its, r1, p1, _⟩ := I.tuple ha
 have hl := r1.length
 have hn : its ≠ [] := fun z => hne (r1.nil_iff.mp z)
 have hem : its.toArray.isEmpty = false := by cases its with | nil => exact absurd rfl hn | cons _ _ => rfl
 have hsz : its.toArray.size = xs.length := by rw [List.size_toArray, hl]
 have f0 : List.foldl (fun x1 x2 => x1 ++ x2) #[] (List.replicate k.toNat its.toArray) = (List.replicate k.toNat its).flatten.toArray := by
  have := foldl_rep its k.toNat []
  rw [List.nil_append] at this
  exact this
 have hk : (xs.length : Int) * k = ((xs.length * k.toNat : Nat) : Int) := by
  rw [Int.natCast_mul, Int.toNat_of_nonneg (by omega)]
 have hzz : (sizeLine : Nat) ≤ (2 ^ 63 - 1) / 8 := by decide
 obtain ⟨⟨oc, od, odt, osl⟩, e, ec, n, ed⟩ := p1
 cases ec
 cases ed
 have htm : ¬ Builtin.Tuple.tupleTooMany ((xs.length * k.toNat : Nat) : Int) = true := by
  unfold Builtin.Tuple.tupleTooMany
  rw [decide_eq_true_eq]
  omega
 have M := tuple_mul_n od osl a its.toArray n k t (by simp; omega) (by rw [hem]; simp; omega) (by rw [hem]; simp; omega) (by rw [hsz, hk]; omega) (by rw [hsz, hk]; exact htm) (by rw [f0, List.size_toArray, len_rep, ← hl, Nat.mul_comm]; exact hz)
 rw [f0] at M
 refine PySem.wpAny_binaryOp_repeat_ref (T := "tuple") (U := "int") (by decide) ⟨_, e, rfl⟩ (fun s' => typeIs_int s' k t) noFill_tuple_mul F.fills_int_mul F.slot_int_rmul repeat_tuple F.slot_int_index.lookup
  (call_meets F.slot_int_rmul (typeIs_int s k t) F.entry_int_rmul (F.args_int_rmul_2 _ _) (int_rmul_tuple od osl k t a its.toArray n)
   ⟨e, rfl, ⟨_, e, rfl⟩, call_meets F.slot_tuple_mul ⟨_, e, rfl⟩ F.entry_tuple_mul (F.args_tuple_mul_2 _ _) M ⟨e, ?_⟩⟩)
 refine ⟨.ref s.heap.objs.size, _, I.laid (t' := s.toks) (o := .tup (List.replicate k.toNat xs).flatten) (fun b ob q => Heap.get?_push_of_some _ q) (Nat.le_refl _) ?_, rfl, q _ (I.hok.fresh (Nat.le_refl _))⟩
 exact ⟨by rw [len_rep, Nat.mul_comm]; exact hz, _, r1.rep k.toNat, IsTup.new _ _⟩
end
theorem tuple_addW0 (l b : Addr) (items items2 : Array Value) (n n2 : Nat) (dd dd2 : Option Addr) (sl sl2 : Array (Option Value)) (hc0 : items.isEmpty = true) :
  Meets (Builtin.«tuple.__add__» ⟨[.ref l, .ref b], []⟩) (fun _ R s => s.heap.get? l = some { cls := .type "tuple", dict := dd, data := .seq items n, slots := sl } ∧ s.heap.get? b = some { cls := .type "tuple", dict := dd2, data := .seq items2 n2, slots := sl2 } ∧ R (.ok (.ret (Value.ref b))) { s with heap := s.heap, toks := s.toks }) :=
 .of_wp fun prog w A R s h => by obtain ⟨hp, g, d, tk, os⟩ := s; obtain ⟨hl, hb, h⟩ := h; have f2 := PySem.AutoSeq1.sub_tuple_tuple; wp_walk using wpAny_loadPart' hl, wpAny_loadPart' hb; exact ⟨_, rfl, h⟩
section
variable {X : Cx}
noncomputable def rCatA (K : PySem.W.Frag) : R2 := fun x y H Q => ∃ a b xs ys, x = .ref a ∧ y = .ref b ∧ SqT K H a xs ∧ SqT K H b ys ∧ xs.length + ys.length ≤ sizeLine ∧
 (xs = [] → Q (.ref b) H) ∧ (xs ≠ [] → ys = [] → Q (.ref a) H) ∧ (xs ≠ [] → ys ≠ [] → ∀ p, H p = none → Q (.ref p) (upd H p (.tup (xs ++ ys))))
theorem op_catA : OpR X (binaryOp .Add) (rCatA X.K) := by
 intro pins s σ H x y v u Q I rx ry h
 obtain ⟨a, b, xs, ys, rfl, rfl, ha, hb, hz, q0, q1, q2⟩ := h
 by_cases hx : xs = []
 ·cases rx
  cases ry
  obtain ⟨its, r1, p1, _⟩ := I.tuple ha
  obtain ⟨its2, r2, p2, _⟩ := I.tuple hb
  obtain ⟨⟨cls, dd, data, sl⟩, ho, hc, n, hd⟩ := id p1
  obtain ⟨⟨cls2, dd2, data2, sl2⟩, ho2, hc2, n2, hd2⟩ := id p2
  simp only at hc hd hc2 hd2
  subst hc hd hc2 hd2
  exact concat_meets ⟨_, ho, rfl⟩ ⟨_, ho2, rfl⟩ noFill_tuple_add seq_tuple_add PySem.F.slot_tuple_add PySem.F.entry_tuple_add (PySem.F.args_tuple_add_2 _ _)
   (tuple_addW0 a b its.toArray its2.toArray n n2 dd dd2 sl sl2 (by rw [r1.nil_iff.mpr hx]; rfl)) ⟨ho, ho2, ⟨.ref b, H, I, rfl, q0 hx⟩⟩
 ·exact op_catT pins s σ H _ _ v u Q I rx ry ⟨a, b, xs, ys, rfl, rfl, ha, hb, hx, hz, q1 hx, q2 hx⟩
end
section
variable {X : Cx} {e : Expr} {te : TE} {e3 : Expr} {ts : TO} {pos p2 : Pos}
noncomputable def tSlRev (K : PySem.W.Frag) (te : TE) (ts : TO) : TE := fun σ H Q => te σ H fun x H1 => ts σ H1 fun o H2 => o = some (-1) ∧ ∃ a xs, x = .ref a ∧ SqL K H2 a xs ∧ ∀ p, H2 p = none → Q (.ref p) (upd H2 p (.lst xs.reverse))
theorem vals_reverse {xs : List V} {us : List Value} (r : Vals xs us) : Vals xs.reverse us.reverse := by
 induction r with
 | nil => exact .nil
 | cons h t ih =>
  rw [List.reverse_cons, List.reverse_cons]
  exact ih.append (.cons h .nil)
theorem pe_sliceRev (K : PySem.W.Frag) (hK : X.K = K) (he : PE X e te) (hs : PO X (some e3) ts) : PE X (.Subscript e (.Slice none none (some e3) p2) pos) (tSlRev K te ts) := by
 subst hK
 intro pins s σ H Q I h
 refine Subscript_ (thn (he pins s σ H _ I h) fun v s1 ⟨x, H1, I1, r1, q1⟩ => ?_)
 refine wpAny_Slice ?_
 rw [evalPart_none]
 refine wpAny_pure (wpAny_pure ?_)
 refine thn (hs pins s1 σ H1 _ I1 q1) fun vk s3 ⟨o, H3, I3, pk, q3⟩ => ?_
 obtain ⟨rfl, a, xs, rfl, hx, q⟩ := q3
 cases r1
 have I4 : Inv X pins σ H3 { s3 with heap := s3.heap.push { cls := .type "slice", data := .fields #[.none, .none, vk] } } := I3.kept (t' := s3.toks) fun b ob q => Heap.get?_push_of_some _ q
 show wpAny (model X.prog X.w) X.A (subscriptTail e (.Slice none none (some e3) p2) (.ref a) (.ref s3.heap.objs.size)) (EP X pins σ Q) X.xe { s3 with heap := s3.heap.push { cls := .type "slice", data := .fields #[.none, .none, vk] } }
 obtain ⟨its, r, ht, hz⟩ := I4.list hx
 have hlen := r.length
 refine tail_any (ops := [.ref a, .ref s3.heap.objs.size]) ht.isList.typeIs slot_list_getitem.lookup ?_ (by with_unfolding_all rfl)
 refine wpAny_getItem_list_slice ht.isList (Heap.IsSliceOf.new ..) .none .none pk (by decide) ?_ (by rw [List.size_toArray] <;> omega)
 rw [PySem.W.krv_pick]
 refine ⟨.ref _, _, I4.laid (t' := s3.toks) (o := .lst xs.reverse) (fun b ob q => Heap.get?_push_of_some _ q) (Nat.le_refl _) ?_, rfl, q _ (I4.hok.fresh (Nat.le_refl _))⟩
 exact ⟨by rw [List.length_reverse]; exact hz, _, 0, vals_reverse r, Heap.get?_push_size _ rfl⟩
end
structure DefA (P : Program) (w : World) (K : PySem.W.Frag) (mg : Str → Option Value) (base : Heap) (k : Nat) (f : Addr) (ps : List Str) (ds : List V) (sp : Sp) : Prop where
 ex : ∃ (fd : FuncData) (dvs : List Value), FnOk P w K mg base CX0 k f fd ps sp ∧ PySem.W.keepIn K (.ref f) = true ∧ Binds K fd ps dvs ∧ Vals ds dvs
section
variable {P : Program} {w : World} {K : PySem.W.Frag} {mg : Str → Option Value} {base : Heap}
theorem FunD.defA {x qual : Str} {st : Stmt} {f : Addr} {fd : FuncData} {ps : List Str} {k : Nat} {sp : Sp} (F : FunD K x qual st .none f fd) (G : FnOk P w K mg base CX0 k f fd ps sp)
  (h : ∀ (kV doc pm : Value) (an : Option Addr) (cdv ct : Value) (us : List Value), us.length = ps.length → bindArgs (PySem.W.fnOf x qual (defArgs st) (defBody st) (defScope st) .none kV doc pm an cdv ct) ⟨us, []⟩ = pure (ps.zip us)) : DefA P w K mg base k f ps [] sp := by
 obtain ⟨oc, od, kV, doc, pm, an, cdv, ct, osl, rfl, lk, hcd⟩ := F.ex
 exact ⟨_, [], G, F.kp, .all (h kV doc pm an cdv ct), .nil⟩
end
section
variable {X : Cx}
theorem ld_var {E : Value → Shared → Prop} {pins : List (Addr × Obj)} {s : Shared} {σ : St} {H : Hp} {i : Nat} {x : Str} {v : V} {pos : Pos} {Q : Value → Shared → Prop} (I : Inv X pins σ H s) (hN : X.N[i]? = some x) (hv : Vis X.env.scope x) (e : σ[i]? = some (some v)) (h : ∀ u, RelV v u → Q u s)
  (hd : (x == ("__debug__" : Str)) = false := by decide) (hcd : (x == ("__classdict__" : Str)) = false := by decide) : wpAny (model X.prog X.w) X.A (eval (.Name x pos) X.env) Q E s := by
 obtain ⟨m, hn, hl⟩ := I.loc
 obtain ⟨u, r, l⟩ := hl i x v hN e hv
 have fin := h u r
 rcases l with ⟨hk, hm⟩ | ⟨hk, c, hc, hcell⟩
 ·exact wpAny_Name (wpAny_loadName_local I.ok.kind hk hn hm fin) hd
 ·rcases hk with hk | hk
  ·exact wpAny_Name (wpAny_loadName_cell I.ok.kind hk hc hcell fin) hd
  ·exact wpAny_Name (wpAny_loadName_free I.ok.kind hk hc hcell fin hcd) hd
noncomputable def tCallV (i : Nat) (f : Addr) (sp : Sp) (dvs : List V) (E : XK) (t : TA) : TE := fun σ H Q => σ[i]? = some (some (.ref f)) ∧ tCall sp dvs E t σ H Q
theorem pe_callV (i : Nat) {k : Nat} {x : Str} {f : Addr} {ps : List Str} {ds : List V} {sp : Sp} {e : Expr} {es : List Expr} {t : TA} {p pos : Pos} (D : DefA X.prog X.w X.K X.mg X.base k f ps ds sp) (hr : Room k X.A) (ha : PA X (e :: es) t)
  (hN : X.N[i]? = some x := by rfl) (hv : Vis X.env.scope x := by first | exact Or.inl rfl | exact Or.inr (Or.inl rfl) | exact Or.inr (Or.inr rfl)) (hdb : (x == ("__debug__" : Str)) = false := by decide) (hcd : (x == ("__classdict__" : Str)) = false := by decide)
  (he : starEach (e :: es) X.env = (false, eval e X.env) :: starEach es X.env := by rfl) (hpl : (backTo pos (starEach es X.env)).any (·.1) = false := by rfl) :
  PE X (.Call (.Name x p) (e :: es) [] pos) (tCallV i f sp ds E0 t) := by
 obtain ⟨fd, dvs, F, hk, hb, hd⟩ := D.ex
 intro pins s σ H Q I ⟨hi, h⟩
 refine wpAny_Call_Name_kw (ld_var I hN hv hi (fun u r => ?_) hdb hcd)
 obtain rfl : u = Value.ref f := r
 refine PySem.W.callWith_K (h₀ := X.base) I.ok.mod.kin hk (thn (ha pos pins s σ H _ I h) fun us s1 ⟨vs, H1, I1, r, q⟩ => ⟨I1.kIn, ?_⟩) he hpl
 exact run_fn F hr hb hd pass0 I1 r q
end
structure LamV where
 prm : Arguments
 body : Expr
 sc : Scope
 qual : Str
 c : Addr
noncomputable def CodeO (c : Addr) (qual : Str) : HO := .ext fun h => h.CodeRec (.ref c) qual
noncomputable abbrev LamV.fn (L : LamV) (pm ctv : Value) : FuncData := PySem.W.kla_fn "<lambda>" L.qual L.prm L.body L.sc [] pm (.ref L.c) ctv
noncomputable def LamO (f : Addr) (L : LamV) : HO := .ext fun h => ∃ pm ctv, h.get? f = some (PySem.W.kla_obj "<lambda>" L.qual L.prm L.body L.sc [] pm L.c ctv)
noncomputable def BMain (mg : Str → Option Value) (base : Heap) : Prop := ∃ bm ob, mg "__builtins__" = some (.ref bm) ∧ bm ≠ builtinsNs ∧ base.get? bm = some ob ∧ ob.cls = .type "module" ∧ ob.dict = some builtinsNs ∧ ob.data = .plain
noncomputable def tLam (P : Addr) (pos : Pos) (prm : Arguments) (body : Expr) (sc : Scope) (qual : Str) : TE := fun _ H Q => ∃ ps : Array Value, H P = some (.tbl ps) ∧ TriplesOk ps.toList ∧
 ((codeAmong pos ps.toList = none ∧ ∀ c' f, H c' = none → H f = none → c' ≠ f → c' ≠ P → f ≠ P → Q (.ref f) (upd (upd (upd H P (.tbl (ps ++ #[rawInt pos.line, rawInt pos.col, .ref c']))) c' (CodeO c' qual)) f (LamO f ⟨prm, body, sc, qual, c'⟩)))
 ∨ (∃ c', codeAmong pos ps.toList = some (.ref c') ∧ H c' = some (CodeO c' qual) ∧ ∀ f, H f = none → Q (.ref f) (upd H f (LamO f ⟨prm, body, sc, qual, c'⟩))))
section
variable {P : Program} {w : World} {H : Hp} {h : Heap}
theorem codeO_ok {c : Addr} {qual : Str} (e : h.CodeRec (.ref c) qual) : ObjOk P w H h c (CodeO c qual) := by
 obtain ⟨c2, oc, vs, t, e2, hoc, hd, hv⟩ := id e
 cases e2
 exact ⟨e, ⟨oc, hoc⟩, fun h1 h2 ⟨c3, o3, v3, t3, e3, f1, f2, f3⟩ k => by cases e3; exact ⟨_, o3, v3, t3, rfl, k _ f1, f2, f3⟩⟩
theorem lamO_ok {f : Addr} {L : LamV} {pm ctv : Value} (e : h.get? f = some (PySem.W.kla_obj "<lambda>" L.qual L.prm L.body L.sc [] pm L.c ctv)) : ObjOk P w H h f (LamO f L) :=
 ⟨⟨pm, ctv, e⟩, ⟨_, e⟩, fun h1 h2 ⟨pm, ctv, e⟩ k => ⟨pm, ctv, k _ e⟩⟩
end
section
variable {X : Cx}
theorem pe_lam {prm : Arguments} {body : Expr} {sc : Scope} {pos : Pos} {c P : Addr} (hcode : X.env.code = .ref c) (C : PySem.W.CodeHd X.base c P) (hB : BMain X.mg X.base) (hdef : defaultsOf prm X.env = ([], []) := by rfl) (hcl : closureFor sc X.env = pure [] := by rfl) :
  PE X (.Lambda prm body sc pos) (tLam P pos prm body sc (X.env.qual ++ "<lambda>")) := by
 intro pins s σ H Q I h
 obtain ⟨ps, hP, ht, h⟩ := h
 have eP : s.heap.get? P = some (PySem.W.tabObj ps) := I.hok P _ hP
 have Cs : PySem.W.CodeHd s.heap c P := C.keeps I.bk
 have nb : ∀ b o, X.base.get? b = some o → b ≠ P := fun b o e z => by
  have := (I.bs b o e).2
  rw [z, hP] at this; cases this
 have hgb := I.mod.glob
 have hg : s.heap.Ns mainGlobals X.mg := hgb.keeps I.bk
 have hgP : mainGlobals ≠ P := by
  obtain ⟨o, es, ep, e, _⟩ := hgb
  exact nb _ _ e
 have hb : s.heap.BuiltinsAt X.mg P := by
  obtain ⟨bm, ob, b1, b2, b3, b4, b5, b6⟩ := hB
  refine ⟨bm, ob, b1, b2, fun z => ?_, nb _ _ b3, I.bk _ _ b3, b4, b5, b6⟩
  obtain ⟨o, es, ep, e, hd, _⟩ := hgb
  rw [z, e] at b3; cases b3
  rw [hd] at b6; cases b6
 refine PySem.W.kla_eval hdef ?_
 rcases h with ⟨hnf, q⟩ | ⟨c', hf, hc', q⟩
 ·refine PySem.W.kla_makeFunction (mg := X.mg) hcl I.ok.glob hg hcode Cs eP ht hnf hgP hb fun c' ctv h' tk hx hge hlt hrec htb => ?_
  have lt : ∀ b u, s.heap.get? b = some u → b < c' := fun b u e => Nat.lt_of_lt_of_le (Heap.lt_size e) hge
  have nP : c' ≠ P := fun z => by
   have := lt _ _ eP
   rw [z] at this; exact Nat.lt_irrefl _ this
  have nfP : h'.objs.size ≠ P := fun z => by
   have := lt _ _ eP
   rw [← z] at this; exact Nat.lt_irrefl _ (Nat.lt_trans this hlt)
  have hc0 : H c' = none := I.hok.fresh hge
  have hf0 : H h'.objs.size = none := I.hok.fresh (Nat.le_of_lt (Nat.lt_of_le_of_lt hge hlt))
  have up : ∀ b u, b ≠ P → s.heap.get? b = some u → ∀ ob, (h'.push ob).get? b = some u := fun b u nbp e ob => Heap.get?_push_of_some _ (hx b u nbp e)
  have eq : ∀ b, b ≠ P → b < c' → upd (upd (upd H P (.tbl (ps ++ #[rawInt pos.line, rawInt pos.col, .ref c']))) c' (CodeO c' (X.env.qual ++ "<lambda>"))) h'.objs.size (LamO h'.objs.size ⟨prm, body, sc, X.env.qual ++ "<lambda>", c'⟩) b = H b := fun b n1 n2 => by
   rw [upd_ne (fun z => by rw [z] at n2; exact Nat.lt_irrefl _ (Nat.lt_trans n2 hlt)), upd_ne (fun z => by rw [z] at n2; exact Nat.lt_irrefl _ n2), upd_ne n1]
  have atP : upd (upd (upd H P (.tbl (ps ++ #[rawInt pos.line, rawInt pos.col, .ref c']))) c' (CodeO c' (X.env.qual ++ "<lambda>"))) h'.objs.size (LamO h'.objs.size ⟨prm, body, sc, X.env.qual ++ "<lambda>", c'⟩) P = some (.tbl (ps ++ #[rawInt pos.line, rawInt pos.col, .ref c'])) := by
   rw [upd_ne (Ne.symm nfP), upd_ne (Ne.symm nP), upd_same]
  refine ⟨.ref h'.objs.size, _, I.un (t' := tk) (h' := h'.push _) ⟨fun b o e n _ _ => ?_, fun b o e n _ _ => ?_, fun b o e n _ => ?_, fun b o e _ => ?_, fun b xs e => ?_, fun b o u e => ?_, fun b ps' e => ?_⟩ (fun b u e => ?_), rfl, q c' h'.objs.size hc0 hf0 (Nat.ne_of_lt hlt) nP nfP⟩
  ·exact up b o (fun z => by rw [z, hP] at n; cases n) e _
  ·exact ⟨o.slots, up b o (fun z => by rw [z, hP] at n; cases n) e _⟩
  ·rw [eq b (fun z => by rw [z, hP] at n; cases n) (lt b o e)]; exact n
  ·by_cases z : b = P
   ·rw [z]; exact ⟨_, Heap.get?_push_of_some _ htb⟩
   ·exact ⟨o, up b o z e _⟩
  ·rw [eq b (fun z => by rw [z, hP] at e; cases e) (Nat.lt_of_lt_of_le (I.hok b _ e).lt hge)]; exact e
  ·rw [eq b (fun z => by rw [z, hP] at e; cases e) (Nat.lt_of_lt_of_le (I.hok b _ e).lt hge)]; exact e
  ·by_cases z : b = P
   ·rw [z, hP] at e; cases e
    exact ⟨_, by rw [z]; exact atP⟩
   ·exact ⟨#[], by rw [eq b z (Nat.lt_of_lt_of_le (I.hok b _ e).lt hge), e]; simp⟩
  ·by_cases z1 : b = h'.objs.size
   ·rw [z1, upd_same] at e; cases e
    rw [z1]
    exact lamO_ok (L := ⟨prm, body, sc, X.env.qual ++ "<lambda>", c'⟩) (Heap.get?_push_size _ rfl)
   ·by_cases z2 : b = c'
    ·rw [upd_ne z1, z2, upd_same] at e; cases e
     rw [z2]
     refine codeO_ok ?_
     obtain ⟨c3, o3, v3, t3, e3, f1, f2, f3⟩ := hrec
     exact ⟨c3, o3, v3, t3, e3, Heap.get?_push_of_some _ f1, f2, f3⟩
    ·by_cases z3 : b = P
     ·rw [z3, atP] at e; cases e
      rw [z3]
      exact Heap.get?_push_of_some _ htb
     ·rw [upd_ne z1, upd_ne z2, upd_ne z3] at e
      refine (I.hok b u e).stay (fun b' u' hc q' => ?_) (fun b' hb' => ?_) fun b' xs hb' => ?_
      ·refine up b' u' ?_ q' _
       rcases hc with z | z
       ·rw [z]; exact z3
       ·intro y; rw [y, hP] at z; cases z
      ·rw [eq b' (fun z => by rw [z, hP] at hb'; cases hb') (Nat.lt_of_lt_of_le (I.hok b' _ hb').lt hge)]; exact hb'
      ·rw [eq b' (fun z => by rw [z, hP] at hb'; cases hb') (Nat.lt_of_lt_of_le (I.hok b' _ hb').lt hge)]; exact hb'
 ·obtain ⟨hrec, _, _⟩ := (show ObjOk X.prog X.w H s.heap c' (CodeO c' (X.env.qual ++ "<lambda>")) from I.hok c' _ hc')
  refine PySem.W.kla_makeFunctionHit (mg := X.mg) hcl I.ok.glob hg hcode Cs eP ht hf hb fun ctv h' tk hk hsz => ?_
  refine ⟨.ref h'.objs.size, _, I.laid (t' := tk) (o := LamO h'.objs.size ⟨prm, body, sc, X.env.qual ++ "<lambda>", c'⟩) (fun b u e => Heap.get?_push_of_some _ (hk b u e)) hsz (lamO_ok (L := ⟨prm, body, sc, X.env.qual ++ "<lambda>", c'⟩) (Heap.get?_push_size _ rfl)), rfl, q _ (I.hok.fresh hsz)⟩
end
structure LamP (P : Program) (w : World) (K : PySem.W.Frag) (mg : Str → Option Value) (base : Heap) (k : Nat) (L : LamV) (ps : List Str) (sp : Sp) : Prop where
 len : ∀ vs H Q E, sp vs H Q E → vs.length = ps.length
 bnd : ∀ (pm ctv : Value) (us : List Value), us.length = ps.length → bindArgs (L.fn pm ctv) ⟨us, []⟩ = pure (ps.zip us)
 run : ∀ (f : Addr) (A : Around) (outer : List Env) (s : Shared) (H : Hp) (us : List Value) (vs : List V) (Q : VK) (E : XK), H f = some (LamO f L) → H L.c = some (CodeO L.c L.qual) → Room k A → Env0 P w K mg base A outer s H → Vals vs us → sp vs H Q E →
  codeAny (model P w) A (.call (.ref f) ⟨us, []⟩) (CR CX0 outer P w H s Q E) s
section
variable {P : Program} {w : World} {K : PySem.W.Frag} {mg : Str → Option Value} {base : Heap}
theorem lam_of {L : LamV} {N ps : List Str} {k : Nat} {sp : Sp} (S : FnScope N ps L.sc) (len : ∀ vs H Q E, sp vs H Q E → vs.length = ps.length)
  (bnd : ∀ (pm ctv : Value) (us : List Value), us.length = ps.length → bindArgs (L.fn pm ctv) ⟨us, []⟩ = pure (ps.zip us))
  (hbody : ∀ (f : Addr) (A : Around) (outer : List Env) (s : Shared) (H : Hp) (vs : List V) (Q : VK) (E : XK), Room k (A.deeper (envOfC L.qual L.sc s.heap.objs.size f (.ref L.c))) → sp vs H Q E →
   ∃ t, PE (cxOf CX0 P w K mg base N L.qual L.sc f (.ref L.c) A outer s H E).nox L.body t ∧ t (start N vs) H Q) : LamP P w K mg base (k + 1) L ps sp := by
 refine ⟨len, bnd, fun f A outer s H us vs Q E hf hc hr e0 r hsp => ?_⟩
 have hl := len _ _ _ _ hsp
 have lim : s.heap.NoLimit := e0.mod.nolimit.keeps fun b o e => (e0.bs b o e).1
 obtain ⟨⟨pm, ctv, ef⟩, _, _⟩ := (show ObjOk P w H s.heap f (LamO f L) from e0.hok f _ hf)
 obtain ⟨hrec, _, _⟩ := (show ObjOk P w H s.heap L.c (CodeO L.c L.qual) from e0.hok L.c _ hc)
 have hkind : ∀ y ∈ ps.zip us, L.sc.names.lookup y.1 = some .local ∨ (L.sc.names.lookup y.1 = some .cell ∧ ((cellsFrom (s.heap.objs.size + 1) L.sc.names []).lookup y.1).isSome = true) := fun ⟨n, v⟩ hy => by
  rcases S.par n (List.of_mem_zip hy).1 with q | q
  ·exact .inl q
  ·exact .inr ⟨q, PySem.W.cellsFrom_some _ _ _ (.inl q)⟩
 refine PySem.W.kla_callFunE hr.depth ef rfl S.co S.gen rfl hrec ?_
 rw [bnd pm ctv us (by rw [← r.length]; exact hl)]
 refine wpAny_pure ?_
 refine wpAny_newFunctionEnv_cells S.kind hkind fun env he s1 x => ?_
 subst he
 refine ⟨lim.keeps x.toInCall.keep, PySem.W.kla_codeExpr ?_⟩
 obtain ⟨t, ht, hq⟩ := hbody f A outer s H vs Q E (hr.deeper _) hsp
 have I : Inv (cxOf CX0 P w K mg base N L.qual L.sc f (.ref L.c) A outer s H E) [] (start N vs) H s1 := inv_start S hr.hd e0 hl r x
 refine wpAny_mono (ht.nox [] s1 (start N vs) H _ I hq) (fun u s' hs => ?_) fun e s' hs => hs
 obtain ⟨v, H', J, rv, q⟩ := hs
 exact ⟨v, H', J.os, J.bare, J.base, J.hok, rv, q⟩
end
noncomputable def tCallL (LP : LamV → Sp → Prop) (i : Nat) (t : TA) : TE := fun σ H Q => ∃ (f : Addr) (L : LamV) (sp : Sp), σ[i]? = some (some (.ref f)) ∧ H f = some (LamO f L) ∧ LP L sp ∧ t σ H fun vs H1 => H1 f = some (LamO f L) ∧ H1 L.c = some (CodeO L.c L.qual) ∧ sp vs H1 Q E0
section
variable {X : Cx}
theorem pe_callL (i k : Nat) (ps : List Str) {x : Str} {e : Expr} {es : List Expr} {t : TA} {p pos : Pos} (hr : Room k X.A) (ha : PA X (e :: es) t)
  (hN : X.N[i]? = some x := by rfl) (hv : Vis X.env.scope x := by first | exact Or.inl rfl | exact Or.inr (Or.inl rfl) | exact Or.inr (Or.inr rfl)) (hdb : (x == ("__debug__" : Str)) = false := by decide) (hcd : (x == ("__classdict__" : Str)) = false := by decide)
  (he : starEach (e :: es) X.env = (false, eval e X.env) :: starEach es X.env := by rfl) (hpl : (backTo pos (starEach es X.env)).any (·.1) = false := by rfl) :
  PE X (.Call (.Name x p) (e :: es) [] pos) (tCallL (fun L sp => LamP X.prog X.w X.K X.mg X.base k L ps sp) i t) := by
 intro pins s σ H Q I ⟨f, L, sp, hi, hf, G, h⟩
 refine wpAny_Call_Name_kw (ld_var I hN hv hi (fun u r => ?_) hdb hcd)
 obtain rfl : u = Value.ref f := r
 obtain ⟨⟨pm, ctv, ef⟩, _, _⟩ := (show ObjOk X.prog X.w H s.heap f (LamO f L) from I.hok f _ hf)
 refine PySem.W.callWith_F (first := []) ⟨_, _, _, _, ef⟩ (thn (ha pos pins s σ H _ I h) fun us s1 ⟨vs, H1, I1, r, hf1, hc1, q⟩ => ?_) he hpl
 obtain ⟨⟨pm1, ctv1, ef1⟩, _, _⟩ := (show ObjOk X.prog X.w H1 s1.heap f (LamO f L) from I1.hok f _ hf1)
 refine ⟨⟨_, _, _, _, ef1⟩, ?_⟩
 show wpAny (model X.prog X.w) X.A (call (.ref f) us) (EP X pins σ Q) X.xe s1
 refine wpAny_call (codeAny_mono (G.run f X.A X.stack s1 H1 us vs Q E0 hf1 hc1 hr I1.env0 r q) fun r s' hq => ?_)
 cases r with
 | error e => exact pass0 pins σ H1 s1 e s' I1 hq
 | ok fl =>
  cases fl with
  | ret u => exact I1.after hq
  | next => exact False.elim hq
  | brk => exact False.elim hq
  | cont => exact False.elim hq
end
section
variable {P : Program} {w : World} {K : PySem.W.Frag} {mg : Str → Option Value} {base : Heap}
theorem FunD.okXT {x qual : Str} {st : Stmt} {dV : Value} {f c : Addr} {fd : FuncData} {N ps : List Str} {k : Nat} {sp : Sp} (F : FunD K x qual st dV f fd) (hc : fd.code = .ref c) (S : FnScope N ps (defScope st)) (len : ∀ vs H Q E, sp vs H Q E → vs.length = ps.length)
  (hbody : ∀ (cdv : Value) (hcdv : cdv = .ref c) (A : Around) (outer : List Env) (s : Shared) (H : Hp) (vs : List V) (Q : VK) (E : XK), Room k (A.deeper (envOfC qual (defScope st) s.heap.objs.size f cdv)) → sp vs H Q E →
   ∃ t, PSs (cxOf (CX1 P w) P w K mg base N qual (defScope st) f cdv A outer s H E) (defBody st) t ∧ t { nx := fun _ H' => Q .non H', rt := Q } (start N vs) H) : FnOk P w K mg base (CX1 P w) (k + 1) f fd ps sp := by
 obtain ⟨oc, od, kV, doc, pm, an, cdv, ct, osl, rfl, lk, hcd⟩ := F.ex
 refine fn_of lk hcd S len fun A outer s H vs Q E hr hsp => ?_
 exact hbody cdv hc A outer s H vs Q E hr hsp
end
theorem law_callT {P : Program} {w : World} {K : PySem.W.Frag} {mg mb : Str → Option Value} {CX : CXT} {k : Nat} {fa a : Addr} {fd : FuncData} {x : Str} {sp : Sp} {s₁ : Shared} {vs : List Value} {ns : List Int} {ts : List Addr}
  (KX : K.In s₁.heap) (hns : s₁.heap.Ns mainGlobals mg) (hb : s₁.heap.Ns builtinsNs mb) (hbb : ∀ x : Str, x ≠ "__name__" → mb x = bootBuiltins x) (hlim : s₁.heap.NoLimit) (hg : s₁.gens = #[])
  (hBM : BMain mg s₁.heap) (hT : ∀ p ∈ ts, s₁.heap.get? p = some (PySem.W.tabObj #[])) (hC : ∀ p ∈ ts, ∃ c, PySem.W.codeHdIn K c p = true) (hNT : PySem.W.noTabs K = true)
  (ha : s₁.heap.get? a = some { cls := .type "list", data := .seq vs.toArray }) (hi : IntsAre vs ns) (hl : ns.length ≤ sizeLine) (hr : Room k callerA)
  (F : ∀ base : Heap, K.In base → base.Ns mainGlobals mg → BMain mg base → FnOk P w K mg base CX k fa fd [x] sp) (hbind : ∀ (s : Shared) (u : Value), BindsTo s fd ⟨[u], []⟩ [(x, u)])
  (hsp : ∀ H : Hp, (∀ p ∈ ts, H p = some (.tbl #[])) → SqL K H a (ns.map V.int) → sp [.ref a] H (fun v _ => v = .bl true) fun _ _ _ => False)
  (hCX : ∀ H e s', CX [] H s₁ (fun _ _ _ => False) e s' → False) :
  codeAny (model P w) callerA (.call (.ref fa) ⟨[.ref a], []⟩) (fun r s' => r = .ok (.ret (.bool true)) ∧ OldK s₁.heap s'.heap ∧ s'.os = s₁.os ∧ AllBare s'.gens) s₁ := by
 have rv := vals_ints hi
 have lenV := hi.length
 have nat : a ∉ ts := fun z => by
  have := hT a z
  rw [ha] at this; cases this
 have core : ∀ H : Hp, (∀ b, H b = none ∨ (∃ o xs, H b = some (.frz o (.lst xs))) ∨ (H b = some (.tbl #[]) ∧ b ∈ ts)) → (∀ p ∈ ts, H p = some (.tbl #[])) → SqL K H a (ns.map V.int) → HOk P w H s₁.heap → (∀ b, H b ≠ none → b = a ∨ b ∈ ts) → (H a ≠ none → K.lookup a = none) →
   codeAny (model P w) callerA (.call (.ref fa) ⟨[.ref a], []⟩) (fun r s' => r = .ok (.ret (.bool true)) ∧ OldK s₁.heap s'.heap ∧ s'.os = s₁.os ∧ AllBare s'.gens) s₁ := by
  intro H hO hTs hS hok hA hK
  have base_of : ∀ {b : Addr} {o : Obj}, s₁.heap.get? b = some o → H b = none → (hidT s₁.heap H).get? b = some o := fun e n => hidT_get e n
  have noB : ∀ {b : Addr} {o : Obj}, s₁.heap.get? b = some o → o ≠ { cls := .type "list", data := .seq vs.toArray } → o ≠ PySem.W.tabObj #[] → H b = none := fun {b o} e n1 n2 => by
   cases q : H b with
   | none => rfl
   | some u =>
    rcases hA b (by rw [q]; simp) with e' | e'
    ·subst e'
     rw [ha] at e; cases e
     exact absurd rfl n1
    ·have := hT b e'
     rw [e] at this; cases this
     exact absurd rfl n2
  have nsK : ∀ {b : Addr} {m : Str → Option Value}, s₁.heap.Ns b m → (hidT s₁.heap H).Ns b m := fun {b m} ⟨o, es, ep, e, d, r⟩ => ⟨o, es, ep, base_of e (noB e (fun z => by rw [z] at d; cases d) (fun z => by rw [z] at d; cases d)), d, r⟩
  have hKb : K.In (hidT s₁.heap H) := fun b o e => base_of (KX b o e) (by
   cases q : H b with
   | none => rfl
   | some u =>
    rcases hA b (by rw [q]; simp) with e' | e'
    ·subst e'
     rw [hK (by rw [q]; simp)] at e; cases e
    ·have e3 := hT b e'
     rw [KX b o e] at e3; cases e3
     have h2 := List.all_eq_true.mp hNT (b, _) (PySem.W.mem_of_lookupK e)
     exact absurd (show false = true from h2) Bool.false_ne_true)
  have hBMb : BMain mg (hidT s₁.heap H) := by
   obtain ⟨bm, ob, b1, b2, b3, b4, b5, b6⟩ := hBM
   exact ⟨bm, ob, b1, b2, base_of b3 (noB b3 (fun z => by rw [z] at b6; cases b6) (fun z => by rw [z] at b6; cases b6)), b4, b5, b6⟩
  have hM : Mod K mg (hidT s₁.heap H) := ⟨hKb, nsK hns, ⟨mb, nsK hb, hbb⟩, let ⟨mc, h1, h2⟩ := hlim; ⟨mc, nsK h1, h2⟩⟩
  have e0 : Env0 P w K mg (hidT s₁.heap H) callerA [] s₁ H := ⟨rfl, hM, fun b o e => of_hidT e, Nat.le_of_eq (hidT_size _ _), trivial, fun b hb => absurd (show b ∈ ([] : List Addr) from hb) (by simp), hok, .of_eq hg⟩
  refine codeAny_mono ((F _ hKb (nsK hns) hBMb).run callerA [] s₁ H ⟨[.ref a], []⟩ [.ref a] [.ref a] _ _ hr e0 (hbind s₁ (.ref a)) (.cons rfl .nil) (hsp H hTs hS)) fun r s' h => ?_
  cases r with
  | error e => exact (hCX H e s' h).elim
  | ok fl =>
   cases fl with
   | next => exact False.elim h
   | brk => exact False.elim h
   | cont => exact False.elim h
   | ret u =>
    obtain ⟨v, H', os, bare, un, hok', r', q⟩ := h
    have q' : v = .bl true := q
    subst q'
    obtain rfl : u = Value.bool true := r'
    have kept : ∀ b o, b ∉ ts → s₁.heap.get? b = some o → s'.heap.get? b = some o := fun b o nb e => by
     cases q : H b with
     | none => exact un.keep b o e q (by intro z; exact absurd (show b ∈ ([] : List Addr) from z) (by simp)) (by simp)
     | some u =>
      rcases hO b with z | ⟨ob, xs, z⟩ | ⟨_, z⟩
      ·rw [q] at z; cases z
      ·have z2 := un.frzs b ob _ z
       obtain ⟨e1, _⟩ := hok b _ z
       obtain ⟨e2, _⟩ := hok' b _ z2
       rw [e] at e1; cases e1
       exact e2
      ·exact absurd z nb
    have grown : ∀ b ∈ ts, ∃ more : Array Value, s'.heap.get? b = some (PySem.W.tabObj (#[] ++ more)) := fun b hb => by
     obtain ⟨more, z⟩ := un.tbls b _ (hTs b hb)
     exact ⟨more, hok' b _ z⟩
    refine ⟨rfl, ⟨fun b o e => ?_, fun b o e => ?_⟩, os, bare⟩
    ·by_cases hbt : b ∈ ts
     ·obtain ⟨more, z⟩ := grown b hbt
      have e2 := hT b hbt
      rw [e] at e2; cases e2
      obtain ⟨c, hc⟩ := hC b hbt
      exact .inr (.inl ⟨((PySem.W.codeHd_of_K KX hc).tab (hT b hbt)).isCodeTable, rfl, #[], more, rfl, z⟩)
     ·exact .inl (kept b o hbt e)
    ·by_cases hbt : b ∈ ts
     ·obtain ⟨more, z⟩ := grown b hbt
      exact ⟨_, z⟩
     ·exact ⟨o, kept b o hbt e⟩
 cases hk : K.lookup a with
 | some o =>
  have e := KX a o hk
  rw [ha] at e
  cases e
  refine core (fun b => if b ∈ ts then some (.tbl #[]) else none) (fun b => ?_) (fun p hp => if_pos hp) (.inr ⟨_, vs.toArray, _, hk, rfl, rfl, rfl, by rw [List.size_toArray, lenV]; exact hl, by simpa using rv⟩) (fun b u z => ?_) (fun b z => ?_) fun z => absurd (if_neg nat) z
  ·by_cases hb : b ∈ ts
   ·exact .inr (.inr ⟨if_pos hb, hb⟩)
   ·exact .inl (if_neg hb)
  ·by_cases hb : b ∈ ts
   ·have z' := (if_pos hb).symm.trans z
    cases z'
    exact hT b hb
   ·have z' := (if_neg hb).symm.trans z
    cases z'
  ·by_cases hb : b ∈ ts
   ·exact .inr hb
   ·exact absurd (if_neg hb) z
 | none =>
  have ifa : ∀ b, b = a → (if b = a then some (HO.frz { cls := .type "list", data := .seq vs.toArray } (.lst (ns.map V.int))) else if b ∈ ts then some (.tbl #[]) else none) = some (HO.frz { cls := .type "list", data := .seq vs.toArray } (.lst (ns.map V.int))) := fun b hb => if_pos hb
  have ift : ∀ b, b ∈ ts → (if b = a then some (HO.frz { cls := .type "list", data := .seq vs.toArray } (.lst (ns.map V.int))) else if b ∈ ts then some (.tbl #[]) else none) = some (HO.tbl #[]) := fun b hb => by
   have nb : ¬ b = a := fun z => nat (by rw [← z]; exact hb)
   rw [if_neg nb, if_pos hb]
  have ifn : ∀ b, b ≠ a → b ∉ ts → (if b = a then some (HO.frz { cls := .type "list", data := .seq vs.toArray } (.lst (ns.map V.int))) else if b ∈ ts then some (.tbl #[]) else none) = none := fun b n1 n2 => by
   rw [if_neg n1, if_neg n2]
  refine core (fun b => if b = a then some (.frz { cls := .type "list", data := .seq vs.toArray } (.lst (ns.map V.int))) else if b ∈ ts then some (.tbl #[]) else none) (fun b => ?_) (fun p hp => ift p hp) (.inl (.inr ⟨{ cls := .type "list", data := .seq vs.toArray }, ifa a rfl⟩)) (fun b u z => ?_) (fun b z => ?_) fun _ => hk
  ·by_cases hb : b = a
   ·exact .inr (.inl ⟨_, _, ifa b hb⟩)
   ·by_cases ht : b ∈ ts
    ·exact .inr (.inr ⟨ift b ht, ht⟩)
    ·exact .inl (ifn b hb ht)
  ·by_cases hb : b = a
   ·have z' := (ifa b hb).symm.trans z
    cases z'
    subst hb
    exact ⟨ha, by rw [List.length_map]; exact hl, vs, _, rv, ha⟩
   ·by_cases ht : b ∈ ts
    ·have z' := (ift b ht).symm.trans z
     cases z'
     exact hT b ht
    ·have z' := (ifn b hb ht).symm.trans z
     cases z'
  ·by_cases hb : b = a
   ·exact .inl hb
   ·by_cases ht : b ∈ ts
    ·exact .inr ht
    ·exact absurd (ifn b hb ht) z
theorem walk_ofT {l : PySem.W.OpenLaw} {n k : Nat} {q : Program} {loose : List Str} {XP : (Str → Option Value) → Heap → Prop} {YP : World → Heap → Prop} {d : DefRec} {K : Params → PySem.W.Frag} {CX : CXT} {sp : PySem.W.Frag → Sp} {x : Str} {ts : List Addr}
  (hn : l.most = some n) (hn2 : n ≤ sizeLine) (hdf : d.params.defaults = []) (hr : Room k callerA)
  (hY : ∀ (w : World) (h : Heap), YP w h → (K w.params).In h) (hT : ∀ (w : World) (h : Heap), YP w h → ∀ p ∈ ts, h.get? p = some (PySem.W.tabObj #[]))
  (hC : ∀ (w : World), ∀ p ∈ ts, ∃ c, PySem.W.codeHdIn (K w.params) c p = true) (hNT : ∀ w : World, PySem.W.noTabs (K w.params) = true)
  (F : ∀ (w : World) (mg : Str → Option Value) (fa : Addr) (h : Heap), (K w.params).In h → h.Ns mainGlobals mg → mg d.name = some (.ref fa) →
   ∃ fd : FuncData, (∀ (s : Shared) (u : Value), BindsTo s fd ⟨[u], []⟩ [(x, u)]) ∧
    ∀ base : Heap, (K w.params).In base → base.Ns mainGlobals mg → BMain mg base → FnOk l.prog w (K w.params) mg base CX k fa fd [x] (sp (K w.params)))
  (hsp : ∀ (K : PySem.W.Frag) (H : Hp) (a : Addr) (ns : List Int), ns.length ≤ n → (∀ x ∈ ns, Builtin.Int.intBits x ≤ 2 ^ 20) → (∀ p ∈ ts, H p = some (.tbl #[])) → SqL K H a (ns.map V.int) → sp K [.ref a] H (fun v _ => v = .bl true) fun _ _ _ => False)
  (hCX : ∀ (H : Hp) (s : Shared) (e : Value) (s' : Shared), CX [] H s (fun _ _ _ => False) e s' → False) :
  PySem.W.WalkO q loose XP YP l.row.toRowW d [] (fun f vs => PySem.call f vs) := by
 refine Att.attach_callB hn hdf fun w s₀ s₁ mg mb fa o pm cd doc a vs ns G Y ho hd hcd hmg hobj hints hlen hbits hg => ?_
 have KX := hY w _ Y
 obtain ⟨fd, hb, hF⟩ := F w mg fa _ KX G.T.g hmg
 exact law_callT KX G.T.g G.T.b G.T.builtins G.T.nolimit hg G.T.bmain (hT w _ Y) (hC w) (hNT w) hobj hints (Nat.le_trans hlen hn2) hr hF hb (fun H hO hS => hsp (K w.params) H a ns hlen hbits hO hS) fun H e s' => hCX H s₁ e s'
end L2
namespace L2
open PySem PySem.Spec PyProof.Rows C5
end L2
namespace C5
open PySem
end C5
namespace L2
open PySem PySem.Spec PyProof.Rows C5
end L2
namespace L2
open PySem PySem.Spec PyProof.Rows
theorem pg_tupK {X : Cx} {es : List Expr} {k : Nat} {t : TGs} {n : Nat} {pos : Pos} (K : PySem.W.Frag) (hK : X.K = K) (hc : X.calm = true) (h : PGs X es t)
  (hn : (assignEach es X.env).length = n := by rfl) (hst : (assignEach es X.env).findIdx? (·.1) = none := by rfl) : PG X (.Tuple es k pos) (gTup K n t) := by
 subst hK
 exact pg_tup hc h hn hst
noncomputable def g2 (K : PySem.W.Frag) (k1 k2 : Nat) : TG := gTup K 2 (gCons (gName k1) (gCons (gName k2) gNil))
noncomputable def set2 (σ : St) (k1 k2 : Nat) (p : V × V) : St := (σ.set k1 (some p.1)).set k2 (some p.2)
noncomputable def Src2 (J : It) (g : TG) (L : List (V × V)) (k1 k2 : Nat) (H : Hp) : Prop := ∀ H', Same H H' → (∀ i p, L[i]? = some p → J.go i H' ∧ ∀ y H2, J.yld i H' y H2 → ∀ (σ : St) (C : St → Hp → Prop), (∀ H3, Same H' H3 → C (set2 σ k1 k2 p) H3) → g y σ H2 C) ∧ J.stop L.length H'
section
variable {K : PySem.W.Frag} {H : Hp} {k1 k2 : Nat}
noncomputable def enumL (xs : List V) : List (V × V) := (List.range xs.length).map fun (i : Nat) => (V.int (i : Int), xs.getD i .non)
theorem enumL_len (xs : List V) : (enumL xs).length = xs.length := by simp [enumL]
theorem enumL_at {xs : List V} {i : Nat} {p : V × V} (h : (enumL xs)[i]? = some p) : ∃ x, xs[i]? = some x ∧ p = (.int (i : Int), x) := by
 unfold enumL at h
 have hi : i < xs.length := by
  have := (List.getElem?_eq_some_iff.mp h).1
  simpa using this
 rw [List.getElem?_map, List.getElem?_range hi] at h
 refine ⟨xs[i], List.getElem?_eq_getElem hi, ?_⟩
 have := (Option.some.inj h).symm
 simpa [List.getD, hi] using this
theorem src2_enum {a : Addr} {xs : List V} (hx : SqL K H a xs) : Src2 (Ite K a) (g2 K k1 k2) (enumL xs) k1 k2 H := fun H' sm => by
 refine ⟨fun i p e => ?_, xs, sm.seq hx, by rw [enumL_len]; exact Nat.le_refl _⟩
 obtain ⟨x, e1, rfl⟩ := enumL_at e
 refine ⟨⟨xs, x, sm.seq hx, e1⟩, fun v H2 hv σ C hC => ?_⟩
 obtain ⟨T, x', rfl, hT, rfl, hv⟩ := hv
 have q1 := hv xs (sm.seq hx)
 rw [e1] at q1; cases q1
 exact ⟨T, _, rfl, SqT.of upd_same, rfl, _, _, rfl, _, _, rfl, rfl, hC _ (same_new hT)⟩
theorem set2_set2 {σ : St} {p q : V × V} : set2 (set2 σ k1 k2 p) k1 k2 q = set2 σ k1 k2 q := by
 unfold set2
 by_cases h : k1 = k2
 ·subst h; simp only [List.set_set]
 ·rw [List.set_comm (some p.2) (some q.1) (Ne.symm h), List.set_set, List.set_set]
theorem comp2_fm {J : It} {g : TG} {L : List (V × V)} {tt : TT} {te : TE} {D : Addr} {σ0 : St} {Fn : Hp → Prop} (f : V × V → V) (p : V × V → Bool) (S : Src2 J g L k1 k2 H) (hn : L.length ≤ sizeLine) (hD : H D = none)
  (ht : ∀ x ∈ L, ∀ (H' : Hp) (Qb : Bool → Hp → Prop), Same H H' → (∀ H'', Same H' H'' → Qb (p x) H'') → tt (set2 σ0 k1 k2 x) H' Qb)
  (he : ∀ x ∈ L, p x = true → ∀ (H' : Hp) (Q : VK), Same H H' → (∀ H'', Same H' H'' → Q (f x) H'') → te (set2 σ0 k1 k2 x) H' Q)
  (hd : ∀ H', Same H H' → H' D = some (.lst ((L.filter p).map f)) → Fn H') :
  ∃ W : Nat → Nat → St → Hp → Prop, (∃ m, W 0 m σ0 (upd H D (.lst []))) ∧ ∀ i m σ' H', W i m σ' H' →
   (J.stop i H' ∧ Fn H') ∨ (J.go i H' ∧ ∃ N : St → Hp → Prop, (∀ σ2 H2, N σ2 H2 → ∃ m', m' < m ∧ W (i + 1) m' σ2 H2) ∧ ∀ x H2, J.yld i H' x H2 → g x σ' H2 fun σ3 H3 => tt σ3 H3 fun b H4 =>
    if b = true then te σ3 H4 fun v H5 => ∃ xs, H5 D = some (.lst xs) ∧ xs.length < sizeLine ∧ N σ3 (upd H5 D (.lst (xs ++ [v]))) else N σ3 H4) := by
 refine ⟨fun i m σ' H' => m = L.length - i ∧ i ≤ L.length ∧ (∀ y, set2 σ' k1 k2 y = set2 σ0 k1 k2 y) ∧ Same H H' ∧ H' D = some (.lst (((L.take i).filter p).map f)), ⟨L.length, rfl, Nat.zero_le _, fun _ => rfl, same_new hD, by rw [upd_same]; rfl⟩, ?_⟩
 rintro i m σ' H' ⟨rfl, hi, hσ, sm, hH⟩
 by_cases hlt : i < L.length
 ·have hx : L[i]? = some L[i] := by simp [hlt]
  obtain ⟨go, yl⟩ := (S H' sm).1 i _ hx
  refine .inr ⟨go, fun σ2 H2 => (∀ y, set2 σ2 k1 k2 y = set2 σ0 k1 k2 y) ∧ Same H H2 ∧ H2 D = some (.lst (((L.take (i + 1)).filter p).map f)), ?_, ?_⟩
  ·rintro σ2 H2 ⟨q1, q2, q3⟩
   exact ⟨L.length - (i + 1), by omega, rfl, hlt, q1, q2, q3⟩
  ·intro x H2 y
   refine yl x H2 y σ' _ fun H3 s3 => ?_
   rw [hσ]
   have hm : L[i] ∈ L := List.getElem_mem hlt
   have tk : L.take (i + 1) = L.take i ++ [L[i]] := by rw [List.take_add_one, hx]; rfl
   refine ht _ hm H3 _ (sm.trans s3) fun H4 s4 => ?_
   have s34 := s3.trans s4
   cases hp : p L[i] with
   | true =>
    refine iteT (he _ hm hp H4 _ (sm.trans s34) fun H5 s5 => ⟨_, s5 D _ (s34 D _ hH), ?_, fun y => set2_set2, same_upd (sm.trans (s34.trans s5)) hD, ?_⟩)
    ·have h1 : (((L.take i).filter p).map f).length ≤ (L.take i).length := by rw [List.length_map]; exact List.length_filter_le _ _
     rw [List.length_take] at h1
     omega
    ·rw [upd_same, tk, List.filter_append, List.map_append]
     simp [hp]
   | false =>
    refine iteF ⟨fun y => set2_set2, sm.trans s34, ?_⟩
    rw [tk, List.filter_append, List.filter_cons_of_neg (by simp [hp])]
    simpa using s34 D _ hH
 ·have e : i = L.length := by omega
  subst e
  exact .inl ⟨(S H' sm).2, hd H' sm (by rw [hH, List.take_length])⟩
theorem comp2_rows {J : It} {g : TG} {L : List (V × V)} {te : TE} {D : Addr} {σ0 : St} {Fn : Hp → Prop} (G : V × V → List V) (S : Src2 J g L k1 k2 H) (hn : L.length ≤ sizeLine) (hD : H D = none)
  (he : ∀ x ∈ L, ∀ (H' : Hp) (Q : VK), Same H H' → (∀ q H'', Same H' H'' → H' q = none → H'' q = some (.lst (G x)) → Q (.ref q) H'') → te (set2 σ0 k1 k2 x) H' Q)
  (hd : ∀ ps H', Same H H' → Fresh H ps → PicV H' D ps (L.map G) → Fn H') :
  ∃ W : Nat → Nat → St → Hp → Prop, (∃ m, W 0 m σ0 (upd H D (.lst []))) ∧ ∀ i m σ' H', W i m σ' H' →
   (J.stop i H' ∧ Fn H') ∨ (J.go i H' ∧ ∃ N : St → Hp → Prop, (∀ σ2 H2, N σ2 H2 → ∃ m', m' < m ∧ W (i + 1) m' σ2 H2) ∧ ∀ x H2, J.yld i H' x H2 → g x σ' H2 fun σ3 H3 => tTrue σ3 H3 fun b H4 =>
    if b = true then te σ3 H4 fun v H5 => ∃ xs, H5 D = some (.lst xs) ∧ xs.length < sizeLine ∧ N σ3 (upd H5 D (.lst (xs ++ [v]))) else N σ3 H4) := by
 refine ⟨fun i m σ' H' => m = L.length - i ∧ i ≤ L.length ∧ (∀ y, set2 σ' k1 k2 y = set2 σ0 k1 k2 y) ∧ Same H H' ∧ ∃ ps, Fresh H ps ∧ PicV H' D ps ((L.take i).map G), ⟨L.length, rfl, Nat.zero_le _, fun _ => rfl, same_new hD, [], (fun q h => nomatch h), ⟨by rw [upd_same]; rfl, .nil, List.nodup_nil, by simp⟩⟩, ?_⟩
 rintro i m σ' H' ⟨rfl, hi, hσ, sm, ps, fr, pic⟩
 by_cases hlt : i < L.length
 ·have hx : L[i]? = some L[i] := by simp [hlt]
  obtain ⟨go, yl⟩ := (S H' sm).1 i _ hx
  refine .inr ⟨go, fun σ2 H2 => (∀ y, set2 σ2 k1 k2 y = set2 σ0 k1 k2 y) ∧ Same H H2 ∧ ∃ ps, Fresh H ps ∧ PicV H2 D ps ((L.take (i + 1)).map G), ?_, ?_⟩
  ·rintro σ2 H2 ⟨q1, q2, q3⟩
   exact ⟨L.length - (i + 1), by omega, rfl, hlt, q1, q2, q3⟩
  ·intro x H2 y
   refine yl x H2 y σ' _ fun H3 s3 => ?_
   simp only [tTrue, if_true]
   rw [hσ]
   have hm : L[i] ∈ L := List.getElem_mem hlt
   have tk : L.take (i + 1) = L.take i ++ [L[i]] := by rw [List.take_add_one, hx]; rfl
   have hl : ps.length = i := by have := pic.len; rw [List.length_map, List.length_take] at this; omega
   have pic := pic.mono s3
   have sm := sm.trans s3
   refine he _ hm H3 _ sm fun q H5 s5 hq hq5 => ⟨_, s5 D _ pic.top, by rw [List.length_map, hl]; omega, fun y => set2_set2, same_upd (sm.trans s5) hD, ps ++ [q], ?_, ?_⟩
   ·intro c hc
    rcases List.mem_append.mp hc with hc | hc
    ·exact fr c hc
    ·have e : c = q := by simpa using hc
     subst e
     exact sm.free hq
   ·have nq : q ∉ ps := fun z => by
     obtain ⟨r, _, e⟩ := pic.mem z
     rw [hq] at e; cases e
    have nD : D ≠ q := ne_of_none pic.top hq
    refine ⟨by rw [upd_same, List.map_append]; rfl, ?_, ?_, ?_⟩
    ·rw [tk, List.map_append]
     refine Paired.app (Paired.mapI pic.row fun c r hc e => ?_) (.cons ?_ .nil)
     ·have ne : c ≠ D := fun z => pic.out (by rw [← z]; exact hc)
      rw [upd_ne ne]
      exact s5 _ _ e
     ·rw [upd_ne (Ne.symm nD)]
      exact hq5
    ·rw [List.nodup_append]
     exact ⟨pic.nd, by simp, fun c hc d hd z => by
      have e : d = q := by simpa using hd
      subst e; subst z
      exact nq hc⟩
    ·intro z
     rcases List.mem_append.mp z with z | z
     ·exact pic.out z
     ·have e : D = q := by simpa using z
      exact nD e
 ·have e : i = L.length := by omega
  subst e
  exact .inl ⟨(S H' sm).2, hd ps H' sm fr (by rw [List.take_length] at pic; exact pic)⟩
end
end L2
namespace PySem
open Sem (wp)
open AutoSeq1 (wpAny_loadPart')
section
variable {prog : Program} {w : World} {A : Around} {E : Value → Shared → Prop} {s : Shared}
theorem wpAny_nextOf_tuple_item {it l : Addr} {i : Nat} {items} {x : Value} {Q : Value → Shared → Prop} (hit : s.heap.IsTupleIter it l i)
  (hl : s.heap.IsTuple l items) (hx : items[i]? = some x)
  (hQ : ∀ h', h'.IsTupleIter it l (i + 1) → Heap.SameBut it s.heap h' → Q x { s with heap := h' }) :
  wpAny (model prog w) A (Builtin.SmallTypes.nextOf (.ref it)) Q E s := by
 obtain ⟨o, ho, hc, hd⟩ := id hit
 obtain ⟨ol, hol, _, nl, hdl⟩ := hl
 unfold Builtin.SmallTypes.nextOf
 refine wpAny_bind (wpAny_callSpecial?_slot (name := Str.ofString "__next__") hit.typeIs F.slot_tuple_iterator_next
  (wpAny_call_entry F.slot_tuple_iterator_next hit.typeIs F.entry_tuple_iterator_next ?_ (F.args_tuple_iterator_next_1 _)))
 show wpAny _ _ (field (.ref it) 0 >>= _) _ _ s
 refine wpAny_bind (wpAny_field ho hd (x := .ref l) rfl ?_)
 show wpAny _ _ (if (Value.ref l == Value.none) = true then _ else _) _ _ s
 rw [if_neg (show ¬ ((Value.ref l == Value.none) = true) from Bool.false_ne_true)]
 show wpAny _ _ (field (.ref it) 1 >>= _) _ _ s
 refine wpAny_bind (wpAny_field ho hd (x := .int i 0) rfl ?_)
 show wpAny _ _ (seqItems? (.ref l) >>= _) _ _ s
 refine wpAny_bind (wpAny_seqItems hol hdl ?_)
 simp only [Int.toNat_natCast, hx]
 refine wpAny_bind (wpAny_setField ho hd (by simp) (wpAny_pure ⟨x, rfl, wpAny_pure (hQ _ ?_ (Heap.SameBut.update ..))⟩))
 exact ⟨_, Heap.get?_update_self _ ho (Obj.isFreed_of_fields (Obj.data_mapFields hd _)), (Obj.cls_mapFields ..).trans hc, by
  rw [Obj.data_mapFields hd]; simp [rawInt]⟩
theorem wpAny_nextOf_tuple_end {it l : Addr} {i : Nat} {items} {Q : Value → Shared → Prop} (hh : A.handled = none)
    (hit : s.heap.IsTupleIter it l i) (hl : s.heap.IsTuple l items) (hx : items[i]? = none)
    (hE : ∀ h' e, Heap.ExtBut it s.heap h' → (∃ o, h'.get? e = some o ∧ o.cls = .type "StopIteration") → E (.ref e) { s with heap := h' }) :
    wpAny (model prog w) A (Builtin.SmallTypes.nextOf (.ref it)) Q E s := by
  obtain ⟨o, ho, hc, hd⟩ := id hit
  obtain ⟨ol, hol, _, nl, hdl⟩ := hl
  unfold Builtin.SmallTypes.nextOf
  refine wpAny_bind (wpAny_callSpecial?_slot (name := Str.ofString "__next__") hit.typeIs F.slot_tuple_iterator_next
    (wpAny_call_entry F.slot_tuple_iterator_next hit.typeIs F.entry_tuple_iterator_next ?_ (F.args_tuple_iterator_next_1 _)))
  show wpAny _ _ (field (.ref it) 0 >>= _) _ _ s
  refine wpAny_bind (wpAny_field ho hd (x := .ref l) rfl ?_)
  show wpAny _ _ (if (Value.ref l == Value.none) = true then _ else _) _ _ s
  rw [if_neg (show ¬ ((Value.ref l == Value.none) = true) from Bool.false_ne_true)]
  show wpAny _ _ (field (.ref it) 1 >>= _) _ _ s
  refine wpAny_bind (wpAny_field ho hd (x := .int i 0) rfl ?_)
  show wpAny _ _ (seqItems? (.ref l) >>= _) _ _ s
  refine wpAny_bind (wpAny_seqItems hol hdl ?_)
  simp only [Int.toNat_natCast, hx]
  refine wpAny_bind (wpAny_rule (wpAny_bind (wpAny_setField ho hd (by simp) ?_)))
  show wpAny _ _ (newExc (.type "StopIteration") [] >>= _) _ _ _
  refine wpAny_bind ?_
  simp only [newExc, newTuple]
  refine wpAny_bind (wpAny_newObj_type ?_ (by size_fits))
  refine wpAny_bind (m := firstArgMember _ _) (wpAny_of_eq (a := Value.none) (by first | rfl | (simp only [firstArgMember]; rfl)) ?_)
  refine wpAny_newObj_type ?_ (by size_fits)
  simp only [raiseNew]
  refine wpAny_bind (wpAny_handled ?_)
  first | rw [show A.in1.handled = none from hh] | rw [hh]
  refine wpAny_bind (wpAny_pure (wpAny_throw ?_))
  exact hE _ _ (((Heap.SameBut.update ..).extBut.push _).push _) ⟨_, Heap.get?_push_size _ rfl, rfl⟩
end
theorem Draws.tuple {prog : Program} {w : World} {A : Around} (hh : A.handled = none) (it l : Addr) (hne : l ≠ it) (items : Array Value) :
  Draws prog w A it [it, l] items.size (fun i v => items[i]? = some v) (fun i h => h.IsTupleIter it l i ∧ h.IsTuple l items) where
 live := fun _ _ st => let ⟨o, ho, _⟩ := st.1; ⟨o, ho⟩
 frame := fun _ _ _ st hk => ⟨let ⟨o, ho, r⟩ := st.1; ⟨o, hk it (by simp) o ho, r⟩, let ⟨o, ho, r⟩ := st.2; ⟨o, hk l (by simp) o ho, r⟩⟩
 item := fun i s Q E hi st hQ => by
  refine wpAny_nextOf_tuple_item st.1 st.2 (x := items[i]) (by simp [hi]) fun h' hit' hs' => ?_
  exact hQ _ h' s.toks (by simp [hi]) ⟨hit', st.2.extBut hs'.extBut hne⟩ hs'
 done := fun s Q E st hE => wpAny_nextOf_tuple_end hh st.1 st.2 (by simp) hE
theorem meets_enumerate_newT (l : Addr) (items : Array Value) (n : Nat) (dct : Option Addr) (sl : Array (Option Value)) :
  Meets (Builtin.«enumerate.__new__» ⟨[.type "enumerate", .ref l], []⟩) (fun _ R s => s.heap.get? l = some { cls := .type "tuple", dict := dct, data := .seq items n, slots := sl } ∧
   R (.ok (.ret (.ref (s.heap.push { cls := .type "tuple_iterator", data := .fields #[.ref l, .int 0 0] }).objs.size)))
    { s with heap := (s.heap.push { cls := .type "tuple_iterator", data := .fields #[.ref l, .int 0 0] }).push { cls := .type "enumerate", data := .fields #[.none, .bool false, .ref s.heap.objs.size, rawInt 0, .none, .none] } }) :=
 .of_wp fun prog w A R s h => by
  obtain ⟨hp, g, d, tk, os⟩ := s; obtain ⟨hl, h⟩ := h
  have hsub := sub_enumerate
  have hL : Heap.IsTuple (Shared.heap ⟨hp, g, d, tk, os⟩) l items := ⟨_, hl, rfl, n, rfl⟩
  wp_walk using wpAny_loadPart' hl
  refine wpAny_stack_any fun st => wpAny_pure ?_
  split
  ·rename_i c _ _ _ _ _
   cases (c == Value.type "enumerate")
   ·wp_walk using wpAny_loadPart' hl, wpAny_pyIter_tuple hL
    exact ⟨_, rfl, h⟩
   ·wp_walk using wpAny_loadPart' hl, wpAny_pyIter_tuple hL
    exact ⟨_, rfl, h⟩
  ·wp_walk using wpAny_loadPart' hl, wpAny_pyIter_tuple hL
   exact ⟨_, rfl, h⟩
section
variable {prog : Program} {w : World} {A : Around} {E : Value → Shared → Prop} {s : Shared}
theorem call_enumerate_tuple {l : Addr} {items : Array Value} {Q : Value → Shared → Prop} (hL : s.heap.IsTuple l items)
  (h : ∀ h', IsEnum h' (s.heap.objs.size + 1) s.heap.objs.size 0 .none → h'.IsTupleIter s.heap.objs.size l 0 → h'.objs.size = s.heap.objs.size + 2 →
   (∀ b o, s.heap.get? b = some o → h'.get? b = some o) → Q (.ref (s.heap.objs.size + 1)) { s with heap := h' }) :
  wpAny (model prog w) A (call (.type "enumerate") [.ref l]) Q E s := by
 obtain ⟨⟨c, dct, dt, sl⟩, hl, hc, n, hd⟩ := hL
 replace hc : c = .type "tuple" := hc
 replace hd : dt = .seq items n := hd
 subst hc hd
 refine callType_new F.called_enumerate (by decide) (F.typeCall_enumerate_1 _) (F.newCall_enumerate_1 _) (fun obj => F.args_object_init_2 obj _) F.entry_enumerate_new
  (meets_enumerate_newT l items n dct sl) ⟨hl, ?_⟩
 have hz : (s.heap.push { cls := .type "tuple_iterator", data := .fields #[.ref l, .int 0 0] }).objs.size = s.heap.objs.size + 1 := Heap.size_push ..
 show _ ∧ _
 rw [hz]
 have he : IsEnum ((s.heap.push { cls := .type "tuple_iterator", data := .fields #[.ref l, .int 0 0] }).push
   { cls := .type "enumerate", data := .fields #[.none, .bool false, .ref s.heap.objs.size, rawInt 0, .none, .none] }) (s.heap.objs.size + 1) s.heap.objs.size 0 .none := by
  have := Heap.get?_push_size (s.heap.push { cls := .type "tuple_iterator", data := .fields #[.ref l, .int 0 0] })
   (o := { cls := .type "enumerate", data := .fields #[.none, .bool false, .ref s.heap.objs.size, rawInt 0, .none, .none] }) rfl
  rw [hz] at this; exact this
 refine ⟨⟨_, he, rfl⟩, h _ he ⟨_, Heap.get?_push_of_some _ (Heap.get?_push_size _ rfl), rfl, rfl⟩ (by rw [Heap.size_push, hz]) fun b o x => Heap.get?_push_of_some _ (Heap.get?_push_of_some _ x)⟩
end
section
variable {prog : Program} {w : World} {A : Around} {E : Value → Shared → Prop} {s : Shared}
theorem wpAny_pyNext_enum_endT {e it l : Addr} {i : Nat} {items : Array Value} {old : Value} {Q : Option Value → Shared → Prop} (hh : A.handled = none)
  (he : IsEnum s.heap e it i old) (hit : s.heap.IsTupleIter it l i) (hl : s.heap.IsTuple l items) (hx : items[i]? = none)
  (hQ : ∀ h', Heap.ExtBut it s.heap h' → Q none { s with heap := h' }) : wpAny (model prog w) A (pyNext (.ref e)) Q E s := by
 have hT : s.TypeIs (.ref e) "enumerate" := ⟨_, he, rfl⟩
 unfold pyNext
 refine wpAny_bind (wpAny_attempt (wpAny_callSpecial?_slot (name := Str.ofString "__next__") hT F.slot_enumerate_next
  (wpAny_call_entry F.slot_enumerate_next hT F.entry_enumerate_next ?_ (F.args_enumerate_next_1 _))))
 show wpAny _ _ (field (.ref e) 2 >>= _) _ _ _
 refine wpAny_bind (wpAny_field he rfl (x := .ref it) rfl ?_)
 refine wpAny_bind (wpAny_nextOf_tuple_end hh hit hl hx fun h' x he' hx' => ?_)
 obtain ⟨o, ho, hc⟩ := hx'
 refine wpAny_bind (wpAny_isInstance (T := "StopIteration") (b := true) ⟨o, ho, hc⟩ isSubtype_stop ?_)
 exact wpAny_pure (hQ _ he')
end
end PySem
namespace L2
open PySem PySem.Spec PyProof.Rows
noncomputable def Itet (K : PySem.W.Frag) (a : Addr) : It :=
  ⟨fun i H => ∃ xs x, SqT K H a xs ∧ xs[i]? = some x,
   fun i H v H' => ∃ T x, v = .ref T ∧ H T = none ∧ H' = upd H T (.tup [.int (i : Int), x]) ∧ ∀ xs, SqT K H a xs → xs[i]? = some x,
   fun i H => ∃ xs, SqT K H a xs ∧ xs.length ≤ i⟩
noncomputable def EStT (e it a : Addr) (i : Nat) (h : Heap) : Prop := (∃ old, IsEnum h e it (i : Int) old) ∧ h.IsTupleIter it a i
theorem turn_enumT {P : Program} {w : World} {K : PySem.W.Frag} {elts : List Expr} {x1} {pos : Pos} {e it a : Addr} (D : e ≠ it) :
  Turn P w K (.Tuple elts x1 pos) (Itet K a) [e, it] e (EStT e it a) where
 mem := by simp
 obj := fun i h st c hc => by
  obtain ⟨⟨old, s1⟩, ⟨o4, e4, c4, d4⟩⟩ := st
  simp only [List.mem_cons, List.not_mem_nil, or_false] at hc
  rcases hc with rfl | rfl
  ·exact ⟨_, s1, fun v e => by cases e⟩
  ·exact ⟨_, e4, fun v e => by rw [d4] at e; cases e⟩
 keep := fun i h h' st k => by
  obtain ⟨⟨old, s1⟩, s4⟩ := st
  exact ⟨⟨old, k e (by simp) _ s1⟩, (let ⟨o, ho, r⟩ := s4; ⟨o, k it (by simp) o ho, r⟩)⟩
 item := by
  intro X hP hw hK hc i pins s σ H E I hf st hg
  subst hP hw hK
  obtain ⟨⟨old, s1⟩, s4⟩ := st
  obtain ⟨xs, x, hx, ex⟩ := hg
  obtain ⟨its, r, pl, _⟩ := I.tuple hx
  obtain ⟨v1, hv1, rv1⟩ := r.get ex
  have hal : a ≠ it := fun z => by
   obtain ⟨o1, f1, f2, _⟩ := s4
   obtain ⟨o2, g1, g2, _⟩ := (show s.heap.IsTuple a its.toArray from pl)
   rw [z, f1] at g1; cases g1
   rw [f2] at g2; exact absurd g2 (by decide)
  have hae : e ∉ [it, a] := fun z => by
   simp only [List.mem_cons, List.not_mem_nil, or_false] at z
   rcases z with z | z
   ·exact D z
   ·obtain ⟨o2, g1, g2, _⟩ := (show s.heap.IsTuple a its.toArray from pl)
    rw [← z, show s.heap.get? e = some _ from s1] at g1; cases g1
    exact absurd g2 (by show ¬ (Value.type "enumerate" = Value.type "tuple"); decide)
  refine wpAny_pyNext_enum_itemD (Draws.tuple (A := X.A.in1) (I.ok.hd hc) it a hal its.toArray) s1 ⟨s4, pl⟩ (by have := (List.getElem?_eq_some_iff.mp hv1).1; simpa using this) D hae fun v2 h' tk hv2 a1 a2 a5 a6 hk => ?_
  have ev : v2 = v1 := by
   have z : its.toArray[i]? = some v1 := by simpa using hv1
   rw [z] at hv2; exact (Option.some.inj hv2).symm
  subst ev
  have fresh : H s.heap.objs.size = none := I.hok.fresh (Nat.le_refl _)
  have inF : ∀ c, c ∈ [e, it] → FpOk X pins H c := fun c hc => hf c hc
  have hk' : ∀ c o, c ∉ [e, it] → s.heap.get? c = some o → h'.get? c = some o := fun c o hc q => by
   simp only [List.mem_cons, List.not_mem_nil, or_false, not_or] at hc
   exact hk c o hc.1 hc.2 q
  have nF : ∀ c u, H c = some u → c ∉ [e, it] := fun c u q hc => by have := (inF c hc).1; rw [q] at this; cases this
  have I1 : Inv X pins σ (upd H s.heap.objs.size (.tup [.int (i : Int), x])) { s with heap := h', toks := tk + 1 } := by
   refine I.step (g' := s.gens) (d' := s.drawn) (t' := tk + 1) (ch := [e, it]) (fun c hc => ?_) (fun c o _ _ hc e _ => hk' c o hc e) (fun c o _ _ hc e _ => ⟨o.slots, hk' c o hc e⟩) (fun c o hc e n => ?_)
    (fun c o hc e => ⟨o, hk' c o hc e⟩) (fun c zs e => ?_) (fun c o u e => ?_) (fun c ps e => ?_) (fun m hm => ?_) (fun c u e => ?_) I.bare
   ·obtain ⟨f0, f1, f2, f3, f4, f5⟩ := inF c hc
    exact ⟨f3, f1, f4, f5⟩
   ·rw [upd_ne (Nat.ne_of_lt (Heap.lt_size e))]; exact n
   ·rw [upd_ne (ne_of_none e fresh)]; exact e
   ·rw [upd_ne (ne_of_none e fresh)]; exact e
   ·exact ⟨#[], by rw [upd_ne (ne_of_none e fresh), e]; simp⟩
   ·obtain ⟨o, es, ep, ho, rr⟩ := hm
    exact ⟨o, es, ep, hk' _ o (fun hc => (inF _ hc).2.1 rfl) ho, rr⟩
   ·by_cases hce : c = s.heap.objs.size
    ·subst hce
     rw [upd_same] at e
     cases e
     exact ⟨by show 2 ≤ sizeLine; decide, [_, v2], .cons ⟨_, rfl⟩ (.cons rv1 .nil), ⟨_, a5, rfl, _, rfl⟩⟩
    ·rw [upd_ne hce] at e
     refine (I.hok c u e).stay (fun d o hd q => hk' d o ?_ q) (fun d q => ?_) fun d zs q => ?_
     ·rcases hd with z1 | z1
      ·rw [z1]; exact nF c u e
      ·exact nF d _ z1
     ·rw [upd_ne (ne_of_none q fresh)]; exact q
     ·rw [upd_ne (ne_of_none q fresh)]; exact q
  refine ⟨_, rfl, wpAny_letOwnedTupleGo_enum a1 fun h2 hz2 hs2 => ?_⟩
  obtain ⟨f0, f1, f2, f3, f4, f5⟩ := inF e (by simp)
  have nez : e ≠ s.heap.objs.size := Nat.ne_of_lt (Heap.lt_size s1)
  have I2 : Inv X pins σ (upd H s.heap.objs.size (.tup [.int (i : Int), x])) { s with heap := h2, toks := tk + 1 } := I1.turned (t' := tk + 1) (fun c o hc e => hs2.extBut c o hc e) (by rw [upd_ne nez]; exact f0) f1 f3 f4 f5
  refine ⟨.ref s.heap.objs.size, _, I2, rfl, ⟨_, x, rfl, fresh, rfl, fun zs q1 => by rw [I.tuple_inj q1 hx]; exact ex⟩, ⟨⟨v2, ?_⟩, a2.1.extBut hs2.extBut (Ne.symm D)⟩, fun c hc => ?_⟩
  ·have q : ((i + 1 : Nat) : Int) = (i : Int) + 1 := by push_cast; rfl
   rw [q]; exact hz2
  obtain ⟨o, ho⟩ : ∃ o, s.heap.get? c = some o := by
   simp only [List.mem_cons, List.not_mem_nil, or_false] at hc
   obtain ⟨o4, e4, _⟩ := s4
   rcases hc with rfl | rfl
   ·exact ⟨_, s1⟩
   ·exact ⟨_, e4⟩
  rw [upd_ne (Nat.ne_of_lt (Heap.lt_size ho))]
  exact (inF c hc).1
 done := by
  intro X hP hw hK hc i pins s σ H E I hf st hg
  subst hP hw hK
  obtain ⟨⟨old, s1⟩, s4⟩ := st
  obtain ⟨xs, hx, hl⟩ := hg
  obtain ⟨its, r, pl, _⟩ := I.tuple hx
  have l1 := r.length
  obtain ⟨f0, f1, f2, f3, f4, f5⟩ := hf it (by simp)
  have hal : a ≠ it := fun z => by
   obtain ⟨o1, f1, f2, _⟩ := s4
   obtain ⟨o2, g1, g2, _⟩ := (show s.heap.IsTuple a its.toArray from pl)
   rw [z, f1] at g1; cases g1
   rw [f2] at g2; exact absurd g2 (by decide)
  refine wpAny_pyNext_enum_endT (I.ok.hd hc) s1 s4 pl (by simp; omega) fun h' hk => ⟨rfl, ?_⟩
  exact I.turned (t' := s.toks) (fun c o hc e => hk c o hc e) f0 f1 f3 f4 f5
 self := fun _ _ _ _ _ st h => by obtain ⟨⟨old, s1⟩, _⟩ := st; exact wpAny_pyIter_enum s1 h
noncomputable def iEnumT (K : PySem.W.Frag) (ta : TA) : TI := fun σ H R => ta σ H fun vs H1 => ∃ a, vs = [.ref a] ∧ (∃ xs, SqT K H1 a xs) ∧ R (Itet K a) H1
section
variable {X : Cx}
theorem pi_enumT {a : Expr} {ta : TA} {p pos : Pos} {elts : List Expr} {x1} {tpos : Pos} (K : PySem.W.Frag) (hK : X.K = K) (hg : Gl X "enumerate") (hm : X.mg "enumerate" = none) (ha : PA X [a] ta) (hs : starEach [a] X.env = [(false, eval a X.env)] := by rfl) :
  PI X (.Tuple elts x1 tpos) (.Call (.Name "enumerate" p) [a] [] pos) (iEnumT K ta) := by
 subst hK
 intro pins s σ H R I h
 refine Call_ (ld_blt I hg hm boot_enumerate (PyProof.Rows.callWith_type1 (thn (ha pos pins s σ H _ I h) fun us s1 ⟨vs, H1, I1, r1, q1⟩ => ?_) (by rw [hs]; rfl) (by rfl)))
 obtain ⟨l1, e, ⟨xs, hx⟩, q⟩ := q1
 subst e
 obtain ⟨u1, rfl, ru1⟩ := Vals.one r1
 cases ru1
 obtain ⟨its, r, pl, _⟩ := I1.tuple hx
 refine call_enumerate_tuple (show s1.heap.IsTuple l1 its.toArray from pl) fun h' a1 a4 a6 hk => ?_
 have I2 : Inv X pins σ H1 { s1 with heap := h' } := I1.kept (t' := s1.toks) hk
 refine wpAny_pyIter_enum (s := { s1 with heap := h' }) a1 ?_
 refine ⟨s1.heap.objs.size + 1, [s1.heap.objs.size + 1, s1.heap.objs.size], _, Itet X.K l1, H1, rfl, I2, turn_enumT (Nat.succ_ne_self _), ⟨⟨_, a1⟩, a4⟩, fun c hc => ?_, q⟩
 have hle : s1.heap.objs.size ≤ c := by
  simp only [List.mem_cons, List.not_mem_nil, or_false] at hc
  show @LE.le Nat instLENat s1.heap.objs.size c
  rcases hc with e | e <;> (rw [e]; omega)
 exact I1.fpOk hle (I1.hok.fresh hle)
end
section
variable {K : PySem.W.Frag} {H : Hp} {k1 k2 : Nat}
theorem Same.seqT {K : PySem.W.Frag} {H H' : Hp} {a : Addr} {xs : List V} (e : Same H H') (h : SqT K H a xs) : SqT K H' a xs := by
 rcases h with (h | ⟨o, h⟩) | h
 ·exact .inl (.inl (e _ _ h))
 ·exact .inl (.inr ⟨o, e _ _ h⟩)
 ·exact .inr h
theorem src2_enumT {a : Addr} {xs : List V} (hx : SqT K H a xs) : Src2 (Itet K a) (g2 K k1 k2) (enumL xs) k1 k2 H := fun H' sm => by
 refine ⟨fun i p e => ?_, xs, (Same.seqT sm hx), by rw [enumL_len]; exact Nat.le_refl _⟩
 obtain ⟨x, e1, rfl⟩ := enumL_at e
 refine ⟨⟨xs, x, (Same.seqT sm hx), e1⟩, fun v H2 hv σ C hC => ?_⟩
 obtain ⟨T, x', rfl, hT, rfl, hv⟩ := hv
 have q1 := hv xs ((Same.seqT sm hx))
 rw [e1] at q1; cases q1
 exact ⟨T, _, rfl, SqT.of upd_same, rfl, _, _, rfl, _, _, rfl, rfl, hC _ (same_new hT)⟩
end
section
variable {X : Cx}
theorem pe_callLK (P : Program) (w : World) (K : PySem.W.Frag) (mg : Str → Option Value) (base : Heap) (hP : X.prog = P) (hw : X.w = w) (hK : X.K = K) (hm : X.mg = mg) (hb : X.base = base) (i k : Nat) (ps : List Str) {x : Str} {e : Expr} {es : List Expr} {t : TA} {p pos : Pos} (hr : Room k X.A) (ha : PA X (e :: es) t)
  (hN : X.N[i]? = some x := by rfl) (hv : Vis X.env.scope x := by first | exact Or.inl rfl | exact Or.inr (Or.inl rfl) | exact Or.inr (Or.inr rfl)) (hdb : (x == ("__debug__" : Str)) = false := by decide) (hcd : (x == ("__classdict__" : Str)) = false := by decide)
  (he : starEach (e :: es) X.env = (false, eval e X.env) :: starEach es X.env := by rfl) (hpl : (backTo pos (starEach es X.env)).any (·.1) = false := by rfl) :
  PE X (.Call (.Name x p) (e :: es) [] pos) (tCallL (fun L sp => LamP P w K mg base k L ps sp) i t) := by
 subst hP hw hK hm hb
 exact pe_callL i k ps hr ha hN hv hdb hcd he hpl
end
theorem EqL.intsT {K : PySem.W.Frag} {H : Hp} {p q : Addr} {ns ms : List Int} (h1 : SqT K H p (ns.map V.int)) (h2 : SqT K H q (ms.map V.int)) (hl : ns.length = ms.length) : EqL K H (EqD K H 0) p q (decide (ns = ms)) := by
 refine ⟨_, _, .inr ⟨.inr ⟨h1, h2⟩, by simp [hl], fun i => ns[i]? == ms[i]?, fun i x y e1 e2 => ?_, ?_⟩⟩
 ·rw [List.getElem?_map] at e1 e2
  cases g1 : ns[i]? with
  | none => rw [g1] at e1; cases e1
  | some n =>
   cases g2 : ms[i]? with
   | none => rw [g2] at e2; cases e2
   | some m =>
    rw [g1] at e1; rw [g2] at e2
    cases e1; cases e2
    refine .inr ⟨rfl, rfl, ?_⟩
    show (ns[i]? == ms[i]?) = (n == m)
    rw [g1, g2, Bool.eq_iff_iff]; simp
 ·rw [Bool.eq_iff_iff, decide_eq_true_eq, List.all_eq_true, List.length_map]
  constructor
  ·rintro rfl i _; simp
  ·intro h
   refine List.ext_getElem? fun i => ?_
   by_cases hi : i < ns.length
   ·exact eq_of_beq (h i (List.mem_range.mpr hi))
   ·rw [List.getElem?_eq_none (by omega), List.getElem?_eq_none (by omega)]
noncomputable def ButL (ts : List Addr) (H H' : Hp) : Prop := ∀ b o, b ∉ ts → H b = some o → H' b = some o
theorem ButL.of {ts : List Addr} {H H' : Hp} (s : Same H H') : ButL ts H H' := fun b o _ e => s b o e
noncomputable def TabSt (ts : List Addr) (p : Addr) (pos : Pos) (qual : Str) (H : Hp) : Prop := H p = some (.tbl #[]) ∨ ∃ c, c ∉ ts ∧ H p = some (.tbl #[rawInt pos.line, rawInt pos.col, .ref c]) ∧ H c = some (CodeO c qual)
theorem TabSt.mono {ts : List Addr} {p : Addr} {pos : Pos} {qual : Str} {H H' : Hp} (t : TabSt ts p pos qual H) (s : Same H H') : TabSt ts p pos qual H' := by
 rcases t with t | ⟨c, n, e1, e2⟩
 ·exact .inl (s _ _ t)
 ·exact .inr ⟨c, n, s _ _ e1, s _ _ e2⟩
theorem tLam_of {ts : List Addr} {p : Addr} {pos : Pos} {prm : Arguments} {body : Expr} {sc : Scope} {qual : Str} {σ : St} {H : Hp} {Q : VK} (hp : p ∈ ts) (hts : ∀ t ∈ ts, H t ≠ none) (t : TabSt ts p pos qual H)
  (k : ∀ f c H', ButL ts H H' → (∀ t ∈ ts, t ≠ p → H' t = H t) → TabSt ts p pos qual H' → H' f = some (LamO f ⟨prm, body, sc, qual, c⟩) → H' c = some (CodeO c qual) → Q (.ref f) H') : tLam p pos prm body sc qual σ H Q := by
 have nts : ∀ {b}, H b = none → b ∉ ts := fun {b} e z => hts b z e
 rcases t with t | ⟨c, n, e1, e2⟩
 ·refine ⟨#[], t, trivial, .inl ⟨rfl, fun c f hc hf ncf ncp nfp => k f c _ (fun b o nb e => ?_) (fun t' ht' ne => ?_) (.inr ⟨c, nts hc, ?_, ?_⟩) upd_same ?_⟩⟩
  ·have nbf : b ≠ f := fun z => by rw [z, hf] at e; cases e
   have nbc : b ≠ c := fun z => by rw [z, hc] at e; cases e
   have nbp : b ≠ p := fun z => nb (by rw [z]; exact hp)
   rw [upd_ne nbf, upd_ne nbc, upd_ne nbp]; exact e
  ·have n1 : t' ≠ f := fun z => hts t' ht' (by rw [z]; exact hf)
   have n2 : t' ≠ c := fun z => hts t' ht' (by rw [z]; exact hc)
   rw [upd_ne n1, upd_ne n2, upd_ne ne]
  ·rw [upd_ne (Ne.symm nfp), upd_ne (Ne.symm ncp), upd_same]; rfl
  ·rw [upd_ne ncf, upd_same]
  ·rw [upd_ne ncf, upd_same]
 ·refine ⟨_, e1, trivial, .inr ⟨c, ?_, e2, fun f hf => k f c _ (ButL.of (same_new hf)) (fun t' ht' ne => ?_) (.inr ⟨c, n, same_new hf _ _ e1, same_new hf _ _ e2⟩) upd_same (same_new hf _ _ e2)⟩⟩
  ·show (if (pos.line : Int) == pos.line && (pos.col : Int) == pos.col then some (Value.ref c) else _) = _
   simp
  ·have n1 : t' ≠ f := fun z => hts t' ht' (by rw [z]; exact hf)
   rw [upd_ne n1]
theorem tuple_mul_1 (dd : Option Addr) (ss : Array (Option Value)) (l : Addr) (items : Array Value) (n : Nat) (x : Int) (u : Tok) (hc0 : ¬ (decide (x < -(2 ^ 63)) || decide (x ≥ 2 ^ 63)) = true) (hc1 : (items.isEmpty || x == 1) = true) :
  Meets (Builtin.«tuple.__mul__» ⟨[.ref l, .int x u], []⟩) (fun _ R s => s.heap.get? l = some { cls := .type "tuple", dict := dd, data := .seq items n, slots := ss } ∧ R (.ok (.ret (Value.ref l))) s) :=
 .of_wp fun prog w A R s h => by
  obtain ⟨hp, g, d, tk, os⟩ := s; obtain ⟨hl, h⟩ := h; have f1 := PySem.AutoSeq1.idx_int; have f2 := PySem.AutoSeq1.sub_tuple_tuple
  wp_walk using wpAny_loadPart' hl
  rw [if_neg hc0]
  wp_walk using wpAny_loadPart' hl
  try rw [if_pos hc1]
  try wp_walk using wpAny_loadPart' hl
  exact ⟨_, rfl, h⟩
section
variable {X : Cx}
noncomputable def rRepT1 (K : PySem.W.Frag) : R2 := fun x y H Q => (∃ a xs, x = .ref a ∧ y = .int 1 ∧ SqT K H a xs ∧ Q (.ref a) H) ∨ rRepT K x y H Q
theorem op_repT1 : OpR X (binaryOp .Mult) (rRepT1 X.K) := by
 intro pins s σ H x y v u Q I rx ry h
 rcases h with ⟨a, xs, rfl, rfl, ha, q⟩ | h
 ·cases rx
  obtain ⟨t, rfl⟩ := ry
  obtain ⟨its, r1, p1, _⟩ := I.tuple ha
  obtain ⟨⟨oc, od, odt, osl⟩, e, ec, n, ed⟩ := p1
  cases ec
  cases ed
  have M := tuple_mul_1 od osl a its.toArray n 1 t (by decide) (by simp)
  refine PySem.wpAny_binaryOp_repeat_ref (T := "tuple") (U := "int") (by decide) ⟨_, e, rfl⟩ (fun s' => typeIs_int s' 1 t) noFill_tuple_mul F.fills_int_mul F.slot_int_rmul repeat_tuple F.slot_int_index.lookup
   (call_meets F.slot_int_rmul (typeIs_int s 1 t) F.entry_int_rmul (F.args_int_rmul_2 _ _) (int_rmul_tuple od osl 1 t a its.toArray n)
    ⟨e, rfl, ⟨_, e, rfl⟩, call_meets F.slot_tuple_mul ⟨_, e, rfl⟩ F.entry_tuple_mul (F.args_tuple_mul_2 _ _) M ⟨e, ?_⟩⟩)
  exact ⟨.ref a, H, I, rfl, q⟩
 ·exact op_repT pins s σ H x y v u Q I rx ry h
theorem repT1K (K : PySem.W.Frag) (h : X.K = K) : OpR X (binaryOp .Mult) (rRepT1 K) := by subst h; exact op_repT1
end
theorem rep1_of {K : PySem.W.Frag} {H : Hp} {Q : VK} {a : Addr} {x : V} {n : Nat} (e : H a = some (.tup [x])) (h1 : 1 ≤ n) (h24 : n ≤ 24) (k : ∀ q H', Same H H' → H' q = some (.tup (List.replicate n x)) → Q (.ref q) H') : rRepT1 K (.ref a) (.int (n : Int)) H Q := by
 by_cases hn : n = 1
 ·subst hn
  exact .inl ⟨a, _, rfl, rfl, SqT.of e, k a H (Same.refl H) e⟩
 ·refine .inr ⟨a, n, _, rfl, rfl, SqT.of e, (by simp), by omega, by omega, ?_, fun q hq => k q _ (same_new hq) ?_⟩
  ·rw [Int.toNat_natCast]; exact Nat.le_trans (show 1 * n ≤ 24 by omega) (by decide)
  ·rw [upd_same, Int.toNat_natCast]
   congr 2
   clear h1 h24 hn k
   induction n with
   | zero => rfl
   | succ n ih => rw [List.replicate_succ, List.flatten_cons, ih, List.replicate_succ]; rfl
end L2
namespace M5
noncomputable def tb (n w : Nat) : Nat → Nat
 | 0 => 0
 | k + 1 => if n.testBit (w - 1 - k) then tb n w k ||| 2 ^ k else tb n w k
end M5
namespace L2
open PySem PySem.Spec PyProof.Rows
end L2
namespace M4
end M4
set_option maxHeartbeats 4000000
namespace K8
open PySem L2 M4
theorem sz1 : 1 ≤ sizeLine := by decide
theorem sz2 : 2 ≤ sizeLine := by decide
theorem sz3 : 3 ≤ sizeLine := by decide
theorem sz5 : 5 ≤ sizeLine := by decide
theorem sz6 : 6 ≤ sizeLine := by decide
theorem sz7 : 7 ≤ sizeLine := by decide
theorem sz8 : 8 ≤ sizeLine := by decide
theorem sz9 : 9 ≤ sizeLine := by decide
theorem sz12 : 12 ≤ sizeLine := by decide
noncomputable def top (i : Nat) : Stmt := PySem.Challenge.pw_cellfolio_k08_whole_masks_and_pictures.main.body.getD i (.Pass ⟨0, 0, 0, 0⟩)
noncomputable abbrev s_bit_at : Stmt := top 1
noncomputable abbrev s_with_bit : Stmt := top 2
noncomputable abbrev s_is_whole_from : Stmt := top 15
noncomputable abbrev s_is_whole_within : Stmt := top 16
noncomputable abbrev s_is_cell : Stmt := top 17
noncomputable abbrev s_is_side : Stmt := top 18
noncomputable abbrev s_is_list_of : Stmt := top 19
noncomputable abbrev s_is_list_of_cells : Stmt := top 20
noncomputable abbrev s_are_rows_of : Stmt := top 21
noncomputable abbrev s_is_picture : Stmt := top 22
noncomputable abbrev s_need_picture : Stmt := top 23
noncomputable abbrev s_need_cell : Stmt := top 24
noncomputable abbrev s_need_like_sizes : Stmt := top 25
noncomputable abbrev s_size_of : Stmt := top 26
noncomputable abbrev s_full_row : Stmt := top 28
noncomputable abbrev s_is_mask : Stmt := top 29
noncomputable abbrev s_need_mask : Stmt := top 30
noncomputable abbrev s_mask_size : Stmt := top 31
noncomputable abbrev s_bits_of_numbers : Stmt := top 32
noncomputable abbrev s_mask_of : Stmt := top 33
noncomputable abbrev s_row_by_row : Stmt := top 34
noncomputable abbrev s_both_masks : Stmt := top 35
noncomputable abbrev s_either_mask : Stmt := top 36
noncomputable abbrev s_other_mask : Stmt := top 37
noncomputable abbrev s_painted_row : Stmt := top 38
noncomputable abbrev s_painted : Stmt := top 39
noncomputable abbrev s_chosen_row : Stmt := top 40
noncomputable abbrev s_chosen_cells : Stmt := top 41
noncomputable abbrev s_law_cell : Stmt := top 43
noncomputable abbrev s_law_mixed : Stmt := top 44
noncomputable abbrev s_law_whole : Stmt := top 45
noncomputable abbrev s_law_power : Stmt := top 46
noncomputable abbrev s_law_picture : Stmt := top 47
noncomputable abbrev s_law_mask : Stmt := top 48
noncomputable abbrev s_law_places : Stmt := top 49
noncomputable abbrev s_law_mask_by : Stmt := top 50
noncomputable abbrev s_law_same_mask : Stmt := top 51
noncomputable abbrev s_law_same : Stmt := top 52
noncomputable abbrev s_law_class : Stmt := top 53
noncomputable abbrev s_law_wrong_picture : Stmt := top 54
noncomputable abbrev s_law_wrong_mask : Stmt := top 55
noncomputable abbrev s_law_wrong_cell : Stmt := top 56
noncomputable abbrev s_law_copied : Stmt := top 57
noncomputable abbrev s_law_some : Stmt := top 58
noncomputable abbrev s_law_word : Stmt := top 59
noncomputable abbrev s_law_refused : Stmt := top 60
noncomputable abbrev s_law_by_cells : Stmt := top 61
noncomputable abbrev s_law : Stmt := top 62
theorem iteB {b : Bool} {A B : Prop} (h1 : b = true → A) (h2 : b = false → B) : if b = true then A else B := by
 cases b with
 | true => exact iteT (h1 rfl)
 | false => exact iteF (h2 rfl)
theorem iteN {b : Bool} {A B : Prop} (h1 : b = false → A) (h2 : b = true → B) : if (!b) = true then A else B := by
 cases b with
 | true => exact iteF (h2 rfl)
 | false => exact iteT (h1 rfl)
noncomputable def isWh (lo hi : Int) : V → Bool
 | .int i => decide (lo ≤ i) && decide (i ≤ hi)
 | _ => false
noncomputable def ir (rows : List (List Int)) : List (List V) := rows.map fun r => r.map V.int
structure Good (rows : List (List Int)) (w : Nat) : Prop where
 ne : 1 ≤ rows.length
 le : rows.length ≤ 24
 w1 : 1 ≤ w
 w24 : w ≤ 24
 row : ∀ r ∈ rows, r.length = w ∧ ∀ c ∈ r, 0 ≤ c ∧ c ≤ 15
noncomputable def isWf (lo : Int) : V → Bool
 | .int i => decide (lo ≤ i)
 | _ => false
noncomputable def spWf (K : W.Frag) : Sp := fun vs H Q _ => ∃ x lo, vs = [x, .int lo] ∧ Kd K H x ∧ Q (.bl (isWf lo x)) H
noncomputable def spWh (K : W.Frag) : Sp := fun vs H Q _ => ∃ x lo hi, vs = [x, .int lo, .int hi] ∧ Kd K H x ∧ Q (.bl (isWh lo hi x)) H
noncomputable def spCellQ (K : W.Frag) : Sp := fun vs H Q _ => ∃ x, vs = [x] ∧ Kd K H x ∧ Q (.bl (isWh 0 15 x)) H
noncomputable def spSide (K : W.Frag) : Sp := fun vs H Q _ => ∃ x, vs = [x] ∧ Kd K H x ∧ Q (.bl (isWh 1 24 x)) H
noncomputable def spLoc (K : W.Frag) : Sp := fun vs H Q _ => ∃ x, vs = [x] ∧ ((∃ a xs, x = .ref a ∧ H a = some (.lst xs) ∧ xs.length ≤ 1000000 ∧ (∀ y ∈ xs, Kd K H y) ∧ ∀ H', Same H H' → Q (.bl (xs.all (isWh 0 15))) H') ∨ (Kd K H x ∧ isL H x = false ∧ Q (.bl false) H))
noncomputable def spLocF (K : W.Frag) (fC : Addr) : Sp := fun vs H Q E => ∃ x, vs = [x, .ref fC] ∧ spLoc K [x] H Q E
structure Txt (K : W.Frag) (mg : Str → Option Value) (cFE cBP cBC cBS cBM : Addr) (tS tC : Tok) : Prop where
 len : mg "len" = none
 range : mg "range" = none
 isinstance : mg "isinstance" = none
 int : mg "int" = none
 bool : mg "bool" = none
 list : mg "list" = none
 tuple : mg "tuple" = none
 all : mg "all" = none
 abs : mg "abs" = none
 min : mg "min" = none
 str : mg "str" = none
 sum : mg "sum" = none
 enumerate : mg "enumerate" = none
 ValueError : mg "ValueError" = none
 MOST_SIDE : mg "MOST_SIDE" = some (.int 24 tS)
 MOST_CELL : mg "MOST_CELL" = some (.int 15 tC)
 FolioError : mg "FolioError" = some (.ref cFE)
 BadPicture : mg "BadPicture" = some (.ref cBP)
 BadSize : mg "BadSize" = some (.ref cBS)
 BadCell : mg "BadCell" = some (.ref cBC)
 BadMask : mg "BadMask" = some (.ref cBM)
 xBadPicture : W.excIn K cBP mroVE "ValueError.__new__" = true
 kP : XCls K cBP
 eP : W.exmOne K (.ref cBP) (.ref cFE) = some true
 xBadSize : W.excIn K cBS mroVE "ValueError.__new__" = true
 kS : XCls K cBS
 eS : W.exmOne K (.ref cBS) (.ref cFE) = some true
 xBadCell : W.excIn K cBC mroVE "ValueError.__new__" = true
 kC : XCls K cBC
 eC : W.exmOne K (.ref cBC) (.ref cFE) = some true
 xBadMask : W.excIn K cBM mroVE "ValueError.__new__" = true
 kM : XCls K cBM
 eM : W.exmOne K (.ref cBM) (.ref cFE) = some true
theorem boot_VE : bootBuiltins "ValueError" = some (.type "ValueError") := by decide +kernel
section
variable {P : Program} {w : World} {K : W.Frag} {mg : Str → Option Value} {base : Heap} {cFE cBP cBC cBS cBM : Addr} {tS tC : Tok}
theorem sc_is_whole_from : FnScope ["thing", "least"] ["thing", "least"] (defScope s_is_whole_from) := ⟨rfl, rfl, rfl, by decide +kernel, rfl, by decide +kernel, by decide +kernel⟩
theorem ok_is_whole_from {f : Addr} {fd : FuncData} (F : FunD K "is_whole_from" "is_whole_from" s_is_whole_from .none f fd) (T : Txt K mg cFE cBP cBC cBS cBM tS tC) : FnOk P w K mg base CX0 1 f fd ["thing", "least"] (spWf K) := by
 refine F.ok sc_is_whole_from (fun vs H Q E h => ?_) (fun cdv A outer s H vs Q E hr h => ?_)
 ·obtain ⟨x, lo, rfl, _⟩ := h; rfl
 ·obtain ⟨x, lo, rfl, kd, k⟩ := h
  refine ⟨_, (pss_cons (ps_if (PW.pt (pw_or (pt_not (pt_val (isiK K rfl (pv 0) rfl T.isinstance rfl T.int PyProof.Rows.boot_int))) (pw_or1 (pt_val (isiK K rfl (pv 0) rfl T.isinstance rfl T.bool PyProof.Rows.boot_bool))))) (pss_one (ps_ret pe_bl)) pss_nil)
    (pss_one (ps_ret (pe_cmpR op_le (pv 1) (pv 0) (nomark _))))), ?_⟩
  have fl : isWf lo x = false → Q (.bl false) H := fun e => by rw [e] at k; exact k
  refine ⟨_, rfl, _, kd.isInt, _, rfl, iteN (fun hI => (fl ?_)) (fun hI => ⟨_, rfl, _, kd.isBool, _, rfl, iteB (fun hB => (fl ?_)) (fun hB => ?_)⟩)⟩
  ·cases x <;> first | rfl | cases hI
  ·cases x <;> first | rfl | cases hB
  ·cases x with
   | int i => exact ⟨_, rfl, _, rfl, _, _, rfl, rfl, k⟩
   | bl b => cases hB
   | _ => cases hI
theorem sc_is_whole_within : FnScope ["thing", "least", "most"] ["thing", "least", "most"] (defScope s_is_whole_within) := ⟨rfl, rfl, rfl, by decide +kernel, rfl, by decide +kernel, by decide +kernel⟩
theorem ok_is_whole_within {f : Addr} {fd : FuncData} (F : FunD K "is_whole_within" "is_whole_within" s_is_whole_within .none f fd) (g_is_whole_from : Def P w K mg base 1 "is_whole_from" ["thing", "least"] [] (spWf K)) : FnOk P w K mg base CX0 2 f fd ["thing", "least", "most"] (spWh K) := by
 refine F.ok sc_is_whole_within (fun vs H Q E h => ?_) (fun cdv A outer s H vs Q E hr h => ?_)
 ·obtain ⟨x, lo, hi, rfl, _⟩ := h; rfl
 ·obtain ⟨x, lo, hi, rfl, kd, k⟩ := h
  refine ⟨_, (pss_one (ps_ret (pe_and (pe_callD g_is_whole_from (hr.mono (by decide)) rfl (pa_cons (pv 0) (pa_cons (pv 1) pa_nil))) (pe_one (pe_cmpR op_le (pv 0) (pv 2) (nomark _)))))), ?_⟩
  refine ⟨_, rfl, _, rfl, x, lo, rfl, kd, _, rfl, iteB (fun h1 => ?_) (fun h1 => ?_)⟩
  ·cases x with
   | int i =>
    refine ⟨_, rfl, _, rfl, _, _, rfl, rfl, ?_⟩
    have h2 : decide (lo ≤ i) = true := h1
    simpa only [isWh, h2, Bool.true_and] using k
   | _ => cases h1
  ·have e : isWh lo hi x = false := by
    cases x with
    | int i =>
     have h2 : decide (lo ≤ i) = false := h1
     simp only [isWh, h2, Bool.false_and]
    | _ => rfl
   rw [e] at k
   exact k
theorem sc_is_cell : FnScope ["thing"] ["thing"] (defScope s_is_cell) := ⟨rfl, rfl, rfl, by decide +kernel, rfl, by decide +kernel, by decide +kernel⟩
theorem ok_is_cell {f : Addr} {fd : FuncData} (F : FunD K "is_cell" "is_cell" s_is_cell .none f fd) (T : Txt K mg cFE cBP cBC cBS cBM tS tC) (g_is_whole_within : Def P w K mg base 2 "is_whole_within" ["thing", "least", "most"] [] (spWh K)) : FnOk P w K mg base CX0 3 f fd ["thing"] (spCellQ K) := by
 refine F.ok sc_is_cell (fun vs H Q E h => ?_) (fun cdv A outer s H vs Q E hr h => ?_)
 ·obtain ⟨x, rfl, _⟩ := h; rfl
 ·obtain ⟨x, rfl, kd, k⟩ := h
  refine ⟨_, (pss_one (ps_ret (pe_callD g_is_whole_within (hr.mono (by decide)) rfl (pa_cons (pv 0) (pa_cons pe_int (pa_cons (pe_glob (v := .int 15) rfl T.MOST_CELL ⟨_, rfl⟩) pa_nil)))))), ?_⟩
  exact ⟨_, rfl, x, 0, 15, rfl, kd, k⟩
theorem sc_is_side : FnScope ["thing"] ["thing"] (defScope s_is_side) := ⟨rfl, rfl, rfl, by decide +kernel, rfl, by decide +kernel, by decide +kernel⟩
theorem ok_is_side {f : Addr} {fd : FuncData} (F : FunD K "is_side" "is_side" s_is_side .none f fd) (T : Txt K mg cFE cBP cBC cBS cBM tS tC) (g_is_whole_within : Def P w K mg base 2 "is_whole_within" ["thing", "least", "most"] [] (spWh K)) : FnOk P w K mg base CX0 3 f fd ["thing"] (spSide K) := by
 refine F.ok sc_is_side (fun vs H Q E h => ?_) (fun cdv A outer s H vs Q E hr h => ?_)
 ·obtain ⟨x, rfl, _⟩ := h; rfl
 ·obtain ⟨x, rfl, kd, k⟩ := h
  refine ⟨_, (pss_one (ps_ret (pe_callD g_is_whole_within (hr.mono (by decide)) rfl (pa_cons (pv 0) (pa_cons pe_int (pa_cons (pe_glob (v := .int 24) rfl T.MOST_SIDE ⟨_, rfl⟩) pa_nil)))))), ?_⟩
  exact ⟨_, rfl, x, 1, 24, rfl, kd, k⟩
theorem all_map_id {α : Type} (f : α → Bool) (xs : List α) : (xs.map f).all id = xs.all f := by
 induction xs with
 | nil => rfl
 | cons x r ih => rw [List.map_cons, List.all_cons, List.all_cons, ih]; rfl
theorem filter_t {α : Type} (xs : List α) : xs.filter (fun _ => true) = xs := List.filter_eq_self.mpr fun _ _ => rfl
theorem sc_is_list_of : FnScope ["thing", "is_one"] ["thing", "is_one"] (defScope s_is_list_of) := ⟨rfl, rfl, rfl, by decide +kernel, rfl, by decide +kernel, by decide +kernel⟩
theorem ok_is_list_of {fC f : Addr} {fd : FuncData} (F : FunD K "is_list_of" "is_list_of" s_is_list_of .none f fd) (T : Txt K mg cFE cBP cBC cBS cBM tS tC) (g_is_one : DefA P w K mg base 3 fC ["thing"] [] (spCellQ K)) : FnOk P w K mg base CX0 4 f fd ["thing", "is_one"] (spLocF K fC) := by
 refine F.ok sc_is_list_of (fun vs H Q E h => ?_) (fun cdv A outer s H vs Q E hr h => ?_)
 ·obtain ⟨x, rfl, _⟩ := h; rfl
 ·obtain ⟨x, rfl, x', ex, h⟩ := h
  cases ex
  refine ⟨_, (pss_one (ps_ret (pe_and (isiK K rfl (pv 0) rfl T.isinstance rfl T.list PyProof.Rows.boot_list) (pe_one (pe_callB (allK K rfl rfl) rfl T.all PyProof.Rows.boot_all (pa_cons (pe_comp (N := ["part", "is_one"]) (src := [none, some 1]) rfl ⟨rfl, rfl, rfl, rfl, rfl, by decide +kernel⟩ (piK K rfl (pv 0)) (fun s H C fp => pg_name (i := 0) (show (["part", "is_one"] : List Str).Nodup by decide +kernel) rfl (by first | exact Or.inl rfl | exact Or.inr rfl)) (fun s H C fp => pts_nil) (fun s H C fp => (pe_callV 1 g_is_one (hr.mono (by decide)) (pa_cons (pv 0) pa_nil)))) pa_nil)))))), ?_⟩
  rcases h with ⟨a, xs, rfl, hH, hl, kds, k⟩ | ⟨kd, hL, k⟩
  ·refine ⟨_, rfl, true, isList_lst hH, _, rfl, ⟨_, rfl, a, rfl, ⟨_, SqL.of hH⟩, fun D hD => ?_⟩⟩
   refine comp_fm (k := 0) (fun x => .bl (isWh 0 15 x)) (fun _ => true) (src_list (SqL.of hH)) (Nat.le_trans hl (by decide)) hD (fun x _ H' Qb _ kk => kk H' (Same.refl _)) (fun x hx _ H' Q sm kk => ⟨rfl, _, rfl, x, rfl, (kds x hx).mono sm, kk H' (Same.refl _)⟩) fun H' sm hD' => ?_
   refine ⟨D, xs.map (isWh 0 15), rfl, SqL.of (by rw [hD', filter_t, List.map_map]; rfl), ?_⟩
   rw [all_map_id]
   exact k H' sm
  ·refine ⟨_, rfl, _, kd.isList, _, rfl, iteB (fun z => ?_) (fun _ => k)⟩
   rw [hL] at z; cases z
theorem wh_len {n : Nat} (h1 : 1 ≤ n) (h2 : n ≤ 24) : isWh 1 24 (.int (n : Int)) = true := by
 simp only [isWh, Bool.and_eq_true, decide_eq_true_eq]; omega
theorem wh_cells {ns : List Int} (h : ∀ c ∈ ns, 0 ≤ c ∧ c ≤ 15) : (ns.map V.int).all (isWh 0 15) = true := by
 rw [List.all_map, List.all_eq_true]
 intro c hc
 have := h c hc
 simp only [Function.comp, isWh, Bool.and_eq_true, decide_eq_true_eq]; omega
theorem kd_ints {H : Hp} {ns : List Int} : ∀ y ∈ ns.map V.int, Kd K H y := fun y hy => by
 obtain ⟨n, _, rfl⟩ := List.mem_map.mp hy
 exact .int n
end
noncomputable def rowOf (H : Hp) : V → Option (List V)
 | .ref b => match H b with
  | some (.lst ys) => some ys
  | _ => none
 | _ => none
noncomputable def rowB (ys : List V) : Bool := ys.all (isWh 0 15) && isWh 1 24 (.int (ys.length : Int))
noncomputable def rowQ (H : Hp) (x : V) : Bool := match rowOf H x with
 | some ys => rowB ys
 | none => false
noncomputable def lenOf (H : Hp) (x : V) : Nat := match rowOf H x with
 | some ys => ys.length
 | none => 0
noncomputable def picB (H : Hp) (v : V) : Bool := match rowOf H v with
 | some xs => isWh 1 24 (.int (xs.length : Int)) && (xs.all (rowQ H) && xs.all fun x => decide (lenOf H x = lenOf H (xs.headD .non)))
 | none => false
structure Rw (K : W.Frag) (H : Hp) (x : V) : Prop where
 kd : Kd K H x
 len : ∀ ys, rowOf H x = some ys → ys.length ≤ 1000
 it : ∀ ys, rowOf H x = some ys → ∀ y ∈ ys, Kd K H y
structure Th (K : W.Frag) (H : Hp) (v : V) : Prop where
 kd : Kd K H v
 len : ∀ xs, rowOf H v = some xs → xs.length ≤ 1000
 it : ∀ xs, rowOf H v = some xs → ∀ x ∈ xs, Rw K H x
section
variable {K : W.Frag} {H H' : Hp} {x : V}
theorem rowOf_lst {a : Addr} {ys : List V} (e : H a = some (.lst ys)) : rowOf H (.ref a) = some ys := by simp only [rowOf, e]
theorem rowOf_ref {ys : List V} (h : rowOf H x = some ys) : ∃ a, x = .ref a ∧ H a = some (.lst ys) := by
 cases x with
 | ref a =>
  refine ⟨a, rfl, ?_⟩
  unfold rowOf at h
  dsimp only at h
  split at h
  ·rename_i zs e; cases h; exact e
  ·cases h
 | _ => cases h
theorem rowOf_mono (k : Kd K H x) (s : Same H H') : rowOf H' x = rowOf H x := by
 cases k with
 | lst e => rw [rowOf_lst e, rowOf_lst (s _ _ e)]
 | tup e => simp only [rowOf, e, s _ _ e]
 | dict e => simp only [rowOf, e, s _ _ e, DictO]
 | _ => rfl
theorem isL_row (k : Kd K H x) : isL H x = (rowOf H x).isSome := by
 cases k with
 | lst e => simp only [isL, rowOf, e]; rfl
 | tup e => simp only [isL, rowOf, e]; rfl
 | dict e => simp only [isL, rowOf, e, DictO]; rfl
 | _ => rfl
theorem Rw.mono (r : Rw K H x) (s : Same H H') : Rw K H' x := by
 have e := rowOf_mono r.kd s
 exact ⟨r.kd.mono s, fun ys h => r.len ys (by rw [← e]; exact h), fun ys h y hy => (r.it ys (by rw [← e]; exact h) y hy).mono s⟩
theorem Th.mono (t : Th K H x) (s : Same H H') : Th K H' x := by
 have e := rowOf_mono t.kd s
 exact ⟨t.kd.mono s, fun ys h => t.len ys (by rw [← e]; exact h), fun ys h y hy => (t.it ys (by rw [← e]; exact h) y hy).mono s⟩
theorem rowQ_mono (k : Kd K H x) (s : Same H H') : rowQ H' x = rowQ H x := by unfold rowQ; rw [rowOf_mono k s]
theorem lenOf_mono (k : Kd K H x) (s : Same H H') : lenOf H' x = lenOf H x := by unfold lenOf; rw [rowOf_mono k s]
theorem picB_mono (t : Th K H x) (s : Same H H') : picB H' x = picB H x := by
 unfold picB
 rw [rowOf_mono t.kd s]
 cases h : rowOf H x with
 | none => rfl
 | some xs =>
  dsimp only
  have e1 : xs.all (rowQ H') = xs.all (rowQ H) := by
   rw [Bool.eq_iff_iff, List.all_eq_true, List.all_eq_true]
   constructor
   ·intro h2 y hy; rw [← rowQ_mono (t.it xs h y hy).kd s]; exact h2 y hy
   ·intro h2 y hy; rw [rowQ_mono (t.it xs h y hy).kd s]; exact h2 y hy
  have e2 : (xs.all fun y => decide (lenOf H' y = lenOf H' (xs.headD .non))) = (xs.all fun y => decide (lenOf H y = lenOf H (xs.headD .non))) := by
   cases xs with
   | nil => rfl
   | cons z r =>
    have hz : lenOf H' z = lenOf H z := lenOf_mono (t.it _ h z List.mem_cons_self).kd s
    rw [Bool.eq_iff_iff, List.all_eq_true, List.all_eq_true]
    constructor
    ·intro h2 y hy
     have q : decide (lenOf H' y = lenOf H' z) = true := h2 y hy
     have q' := of_decide_eq_true q
     rw [lenOf_mono (t.it _ h y hy).kd s, hz] at q'
     exact decide_eq_true q'
    ·intro h2 y hy
     have q : decide (lenOf H y = lenOf H z) = true := h2 y hy
     have q' := of_decide_eq_true q
     refine decide_eq_true ?_
     show lenOf H' y = lenOf H' z
     rw [lenOf_mono (t.it _ h y hy).kd s, hz]
     exact q'
  rw [e1, e2]
end
noncomputable def spPic (K : W.Frag) : Sp := fun vs H Q _ => ∃ x, vs = [x] ∧ Th K H x ∧ ∀ H', Same H H' → Q (.bl (picB H x)) H'
noncomputable def spPicF (K : W.Frag) (fC : Addr) : Sp := fun vs H Q E => ∃ x, vs = [x, .ref fC] ∧ spPic K [x] H Q E
noncomputable def spNeed (K : W.Frag) (cBP : Addr) : Sp := fun vs H Q E => ∃ x, vs = [x] ∧ Th K H x ∧ (picB H x = true → ∀ H', Same H H' → Q .non H') ∧ (picB H x = false → ∀ H', Same H H' → E (.ref cBP) none H')
noncomputable def spNeedC (K : W.Frag) (cBC : Addr) : Sp := fun vs H Q E => ∃ x, vs = [x] ∧ Kd K H x ∧ (isWh 0 15 x = true → Q .non H) ∧ (isWh 0 15 x = false → E (.ref cBC) none H)
noncomputable def spSize (K : W.Frag) (cBP : Addr) : Sp := fun vs H Q E => ∃ x, vs = [x] ∧ Th K H x ∧ (picB H x = true → ∀ xs p H', rowOf H x = some xs → Same H H' → H p = none → H' p = some (.tup [.int (lenOf H (xs.headD .non) : Int), .int (xs.length : Int)]) → Q (.ref p) H') ∧ (picB H x = false → ∀ H', Same H H' → E (.ref cBP) none H')
section
variable {P : Program} {w : World} {K : W.Frag} {mg : Str → Option Value} {base : Heap} {cFE cBP cBC cBS cBM : Addr} {tS tC : Tok}
theorem wh_side {v : V} (h : isWh 1 24 v = true) : ∃ w : Nat, v = .int (w : Int) ∧ 1 ≤ w ∧ w ≤ 24 := by
 cases v with
 | int i =>
  simp only [isWh, Bool.and_eq_true, decide_eq_true_eq] at h
  exact ⟨i.toNat, by rw [Int.toNat_of_nonneg (by omega)], by omega, by omega⟩
 | _ => cases h
theorem head_at {xs : List V} (h : 0 < xs.length) : xs[0]? = some (xs.headD .non) := by
 cases xs with
 | nil => simp at h
 | cons x r => rfl
theorem sc_are_rows_of : FnScope ["thing", "is_one"] ["thing", "is_one"] (defScope s_are_rows_of) := ⟨rfl, rfl, rfl, by decide +kernel, rfl, by decide +kernel, by decide +kernel⟩
theorem ok_are_rows_of {fC f : Addr} {fd : FuncData} (F : FunD K "are_rows_of" "are_rows_of" s_are_rows_of .none f fd) (T : Txt K mg cFE cBP cBC cBS cBM tS tC) (g_is_list_of : Def P w K mg base 4 "is_list_of" ["thing", "is_one"] [] (spLocF K fC)) (g_is_side : Def P w K mg base 3 "is_side" ["thing"] [] (spSide K)) : FnOk P w K mg base CX0 5 f fd ["thing", "is_one"] (spPicF K fC) := by
 refine F.ok sc_are_rows_of (fun vs H Q E h => ?_) (fun cdv A outer s H vs Q E hr h => ?_)
 ·obtain ⟨x, rfl, _⟩ := h; rfl
 ·obtain ⟨x, rfl, x', ex, th, k⟩ := h
  cases ex
  refine ⟨_, (pss_cons (ps_if (PW.pt (pw_or (pt_not (pt_val (isiK K rfl (pv 0) rfl T.isinstance rfl T.list PyProof.Rows.boot_list))) (pw_or1 (pt_not (pt_val (pe_callD g_is_side (hr.mono (by decide)) rfl (pa_cons (pe_callB (lenK K rfl) rfl T.len PySem.boot_len (pa_cons (pv 0) pa_nil)) pa_nil))))))) (pss_one (ps_ret pe_bl)) pss_nil)
    (pss_cons (ps_if (pt_not (pt_val (pe_callB (allK K rfl rfl) rfl T.all PyProof.Rows.boot_all (pa_cons (pe_comp (N := ["row", "is_one"]) (src := [none, some 1]) rfl ⟨rfl, rfl, rfl, rfl, rfl, by decide +kernel⟩ (piK K rfl (pv 0)) (fun s H C fp => pg_name (i := 0) (show (["row", "is_one"] : List Str).Nodup by decide +kernel) rfl (by first | exact Or.inl rfl | exact Or.inr rfl)) (fun s H C fp => pts_nil) (fun s H C fp => (pe_and (pe_callD g_is_list_of (hr.mono (by decide)) rfl (pa_cons (pv 0) (pa_cons (pv 1) pa_nil))) (pe_one (pe_callD g_is_side (hr.mono (by decide)) rfl (pa_cons (pe_callB (lenK K rfl) rfl T.len PySem.boot_len (pa_cons (pv 0) pa_nil)) pa_nil)))))) pa_nil)))) (pss_one (ps_ret pe_bl)) pss_nil)
    (pss_one (ps_ret (pe_callB (allK K rfl rfl) rfl T.all PyProof.Rows.boot_all (pa_cons (pe_comp (N := ["row", "thing"]) (src := [none, some 0]) rfl ⟨rfl, rfl, rfl, rfl, rfl, by decide +kernel⟩ (piK K rfl (pv 0)) (fun s H C fp => pg_name (i := 0) (show (["row", "thing"] : List Str).Nodup by decide +kernel) rfl (by first | exact Or.inl rfl | exact Or.inr rfl)) (fun s H C fp => pts_nil) (fun s H C fp => (pe_cmpR op_eq (pe_callB (lenK K rfl) rfl T.len PySem.boot_len (pa_cons (pv 0) pa_nil)) (pe_callB (lenK K rfl) rfl T.len PySem.boot_len (pa_cons (pe_ix (ixK K rfl) (pv 1) pe_int (fun _ _ => rfl)) pa_nil)) (nomark _)))) pa_nil)))))), ?_⟩
  cases hx : rowOf H x with
  | none =>
   have ek : picB H x = false := by unfold picB; rw [hx]
   rw [ek] at k
   refine ⟨_, rfl, _, th.kd.isList, _, rfl, ?_⟩
   rw [isL_row th.kd, hx]
   exact k H (Same.refl H)
  | some xs =>
   obtain ⟨a, rfl, e⟩ := rowOf_ref hx
   have ek : picB H (.ref a) = (isWh 1 24 (.int (xs.length : Int)) && (xs.all (rowQ H) && xs.all fun x => decide (lenOf H x = lenOf H (xs.headD .non)))) := by unfold picB; rw [hx]
   rw [ek] at k
   have hz : xs.length ≤ sizeLine := Nat.le_trans (th.len xs hx) (by decide)
   refine ⟨_, rfl, true, isList_lst e, _, rfl, ⟨_, rfl, a, _, rfl, .inl (SqL.of e), _, rfl, .int _, _, rfl, iteN (fun h1 => ?_) (fun h1 => ?_)⟩⟩
   ·rw [h1, Bool.false_and] at k
    exact k H (Same.refl H)
   rw [h1, Bool.true_and] at k
   refine ⟨_, rfl, a, rfl, ⟨_, SqL.of e⟩, fun D hD => ?_⟩
   refine comp_fm (k := 0) (fun y => .bl (rowQ H y)) (fun _ => true) (src_list (SqL.of e)) hz hD (fun x _ H' Qb _ kk => kk H' (Same.refl _)) (fun y hy _ H' Q' sm kk => ?_) fun H1 s1 hD1 => ?_
   ·have r1 := th.it xs hx y hy
    have r2 := r1.mono sm
    have k2 : ∀ H2, Same H' H2 → Q' (.bl (rowQ H' y)) H2 := fun H2 s2 => by rw [rowQ_mono r1.kd sm]; exact kk H2 s2
    refine ⟨_, rfl, _, rfl, y, rfl, y, rfl, ?_⟩
    cases hr0 : rowOf H' y with
    | none =>
     refine .inr ⟨r2.kd, by rw [isL_row r2.kd, hr0]; rfl, _, rfl, ?_⟩
     have := k2 H' (Same.refl H')
     unfold rowQ at this
     rw [hr0] at this
     exact this
    | some ys =>
     obtain ⟨b, rfl, e2⟩ := rowOf_ref hr0
     have ek : rowQ H' (.ref b) = rowB ys := by unfold rowQ; rw [hr0]
     refine .inl ⟨b, ys, rfl, e2, Nat.le_trans (r2.len ys hr0) (by decide), r2.it ys hr0, fun H1 s1 => ⟨_, rfl, iteB (fun h1 => ?_) (fun h1 => ?_)⟩⟩
     ·refine ⟨_, rfl, b, _, rfl, .inl (SqL.of (s1 _ _ e2)), _, rfl, .int _, ?_⟩
      have := k2 H1 s1
      rw [ek] at this
      unfold rowB at this
      rw [h1, Bool.true_and] at this
      exact this
     ·have := k2 H1 s1
      rw [ek] at this
      unfold rowB at this
      rw [h1, Bool.false_and] at this
      exact this
   refine ⟨D, xs.map (rowQ H), rfl, SqL.of (by rw [hD1, filter_t, List.map_map]; rfl), _, rfl, ?_⟩
   rw [all_map_id]
   refine iteN (fun h2 => ?_) (fun h2 => ?_)
   ·rw [h2, Bool.false_and] at k
    exact k H1 s1
   rw [h2, Bool.true_and] at k
   have hpos : 0 < xs.length := by
    obtain ⟨n, en, n1, _⟩ := wh_side h1
    injection en with en
    omega
   have lst : ∀ y ∈ xs, ∃ b ys, y = .ref b ∧ H b = some (.lst ys) ∧ lenOf H y = ys.length := fun y hy => by
    have q := List.all_eq_true.mp h2 y hy
    unfold rowQ at q
    cases hy2 : rowOf H y with
    | none => rw [hy2] at q; cases q
    | some ys =>
     obtain ⟨b, rfl, e2⟩ := rowOf_ref hy2
     exact ⟨b, ys, rfl, e2, by unfold lenOf; rw [hy2]⟩
   obtain ⟨b0, y0, eh, e0, l0⟩ := lst (xs.headD .non) (by cases xs with | nil => simp at hpos | cons z r => exact List.mem_cons_self)
   refine ⟨_, rfl, a, rfl, ⟨_, SqL.of (s1 _ _ e)⟩, fun D2 hD2 => ?_⟩
   refine comp_fm (k := 0) (fun y => .bl (decide (lenOf H y = lenOf H (xs.headD .non)))) (fun _ => true) (src_list (SqL.of (s1 _ _ e))) hz hD2 (fun x _ H' Qb _ kk => kk H' (Same.refl _)) (fun y hy _ H' Q' sm kk => ?_) fun H2 s2 hD2' => ?_
   ·have sm2 := s1.trans sm
    obtain ⟨b, ys, rfl, e2, l2⟩ := lst y hy
    refine ⟨_, rfl, b, _, rfl, .inl (SqL.of (sm2 _ _ e2)), _, rfl, a, _, _, _, rfl, rfl, SqL.of (sm2 _ _ e), atI_nat (j := 0) (head_at hpos), b0, _, eh ▸ rfl, .inl (SqL.of (sm2 _ _ e0)), rfl, ?_⟩
    have ed : decide (V.int (ys.length : Int) = V.int (y0.length : Int)) = decide (lenOf H (.ref b) = lenOf H (xs.headD .non)) := by
     rw [l2, l0, dec_int, Bool.eq_iff_iff]
     simp
     omega
    rw [ed]
    exact kk H' (Same.refl _)
   ·refine ⟨D2, xs.map fun y => decide (lenOf H y = lenOf H (xs.headD .non)), rfl, SqL.of (by rw [hD2', filter_t, List.map_map]; rfl), ?_⟩
    rw [all_map_id]
    exact k H2 (s1.trans s2)
theorem sc_is_picture : FnScope ["thing"] ["thing"] (defScope s_is_picture) := ⟨rfl, rfl, rfl, by decide +kernel, rfl, by decide +kernel, by decide +kernel⟩
theorem ok_is_picture {fC f : Addr} {fd : FuncData} (F : FunD K "is_picture" "is_picture" s_is_picture .none f fd) (hC : mg "is_cell" = some (.ref fC)) (g_are_rows_of : Def P w K mg base 5 "are_rows_of" ["thing", "is_one"] [] (spPicF K fC)) : FnOk P w K mg base CX0 6 f fd ["thing"] (spPic K) := by
 refine F.ok sc_is_picture (fun vs H Q E h => ?_) (fun cdv A outer s H vs Q E hr h => ?_)
 ·obtain ⟨x, rfl, _⟩ := h; rfl
 ·obtain ⟨x, rfl, th, k⟩ := h
  refine ⟨_, (pss_one (ps_ret (pe_callD g_are_rows_of (hr.mono (by decide)) rfl (pa_cons (pv 0) (pa_cons (pe_glob (v := .ref fC) rfl hC rfl) pa_nil))))), ?_⟩
  exact ⟨_, rfl, x, rfl, x, rfl, th, k⟩
theorem sc_need_picture : FnScope ["picture"] ["picture"] (defScope s_need_picture) := ⟨rfl, rfl, rfl, by decide +kernel, rfl, by decide +kernel, by decide +kernel⟩
theorem ok_need_picture {f : Addr} {fd : FuncData} (F : FunD K "need_picture" "need_picture" s_need_picture .none f fd) (T : Txt K mg cFE cBP cBC cBS cBM tS tC) (g_is_picture : Def P w K mg base 6 "is_picture" ["thing"] [] (spPic K)) : FnOk P w K mg base (CX1 P w) 7 f fd ["picture"] (spNeed K cBP) := by
 refine F.okX sc_need_picture (fun vs H Q E h => ?_) (fun cdv A outer s H vs Q E hr h => ?_)
 ·obtain ⟨x, rfl, _⟩ := h; rfl
 ·obtain ⟨x, rfl, th, kY, kN⟩ := h
  refine ⟨_, (pss_one (ps_if (pt_not (pt_val (pe_callD g_is_picture (hr.mono (by decide)) rfl (pa_cons (pv 0) pa_nil)))) (pss_one (ps_raise rfl raises1 rfl T.BadPicture T.xBadPicture (pa_cons pe_str pa_nil))) pss_nil)), ?_⟩
  exact ⟨_, rfl, x, rfl, th, fun H' sm => ⟨_, rfl, iteN (fun h => ⟨sz1, kN h H' sm⟩) (fun h => kY h H' sm)⟩⟩
theorem sc_need_cell : FnScope ["cell"] ["cell"] (defScope s_need_cell) := ⟨rfl, rfl, rfl, by decide +kernel, rfl, by decide +kernel, by decide +kernel⟩
theorem ok_need_cell {f : Addr} {fd : FuncData} (F : FunD K "need_cell" "need_cell" s_need_cell .none f fd) (T : Txt K mg cFE cBP cBC cBS cBM tS tC) (g_is_cell : Def P w K mg base 3 "is_cell" ["thing"] [] (spCellQ K)) : FnOk P w K mg base (CX1 P w) 4 f fd ["cell"] (spNeedC K cBC) := by
 refine F.okX sc_need_cell (fun vs H Q E h => ?_) (fun cdv A outer s H vs Q E hr h => ?_)
 ·obtain ⟨x, rfl, _⟩ := h; rfl
 ·obtain ⟨x, rfl, kd, kY, kN⟩ := h
  refine ⟨_, (pss_one (ps_if (pt_not (pt_val (pe_callD g_is_cell (hr.mono (by decide)) rfl (pa_cons (pv 0) pa_nil)))) (pss_one (ps_raise rfl raises1 rfl T.BadCell T.xBadCell (pa_cons pe_str pa_nil))) pss_nil)), ?_⟩
  exact ⟨_, rfl, x, rfl, kd, _, rfl, iteN (fun h => ⟨sz1, kN h⟩) (fun h => kY h)⟩
theorem sc_size_of : FnScope ["picture"] ["picture"] (defScope s_size_of) := ⟨rfl, rfl, rfl, by decide +kernel, rfl, by decide +kernel, by decide +kernel⟩
theorem ok_size_of {f : Addr} {fd : FuncData} (F : FunD K "size_of" "size_of" s_size_of .none f fd) (T : Txt K mg cFE cBP cBC cBS cBM tS tC) (g_need_picture : DefX P w K mg base 7 "need_picture" ["picture"] [] (spNeed K cBP)) : FnOk P w K mg base (CX1 P w) 8 f fd ["picture"] (spSize K cBP) := by
 refine F.okX sc_size_of (fun vs H Q E h => ?_) (fun cdv A outer s H vs Q E hr h => ?_)
 ·obtain ⟨x, rfl, _⟩ := h; rfl
 ·obtain ⟨x, rfl, th, kY, kN⟩ := h
  refine ⟨_, (pss_cons (ps_expr (pe_callX g_need_picture (hr.mono (by decide)) passes1R rfl (pa_cons (pv 0) pa_nil)))
    (pss_one (ps_ret (pe_tup (pa_cons (pe_callB (lenK K rfl) rfl T.len PySem.boot_len (pa_cons (pe_ix (ixK K rfl) (pv 0) pe_int (fun _ _ => rfl)) pa_nil)) (pa_cons (pe_callB (lenK K rfl) rfl T.len PySem.boot_len (pa_cons (pv 0) pa_nil)) pa_nil)))))), ?_⟩
  refine ⟨_, rfl, x, rfl, th, fun hp H1 s1 => ?_, kN⟩
  cases hx : rowOf H x with
  | none => unfold picB at hp; rw [hx] at hp; cases hp
  | some xs =>
   obtain ⟨a, rfl, e⟩ := rowOf_ref hx
   unfold picB at hp
   rw [hx] at hp
   simp only [Bool.and_eq_true] at hp
   obtain ⟨h1, h2, _⟩ := hp
   have hpos : 0 < xs.length := by
    obtain ⟨n, en, n1, _⟩ := wh_side h1
    injection en with en
    omega
   have hm : xs.headD .non ∈ xs := by cases xs with | nil => simp at hpos | cons z r => exact List.mem_cons_self
   have q := List.all_eq_true.mp h2 _ hm
   unfold rowQ at q
   cases hy2 : rowOf H (xs.headD .non) with
   | none => rw [hy2] at q; cases q
   | some ys =>
    obtain ⟨b, eb, e2⟩ := rowOf_ref hy2
    refine ⟨_, rfl, a, _, _, _, rfl, rfl, SqL.of (s1 _ _ e), atI_nat (j := 0) (head_at hpos), b, _, eb ▸ rfl, .inl (SqL.of (s1 _ _ e2)), _, rfl, a, _, rfl, .inl (SqL.of (s1 _ _ e)), sz2, fun p hp' => ?_⟩
    refine kY (by unfold picB; rw [hx]; simp only [Bool.and_eq_true]; exact ⟨h1, h2, ‹_›⟩) xs p _ hx (s1.trans (same_new hp')) (s1.free hp') ?_
    rw [upd_same]
    unfold lenOf
    rw [hy2]
end
theorem isL_mono {H H' : Hp} {v : V} {K : W.Frag} (kd : Kd K H v) (s : Same H H') : isL H' v = isL H v := by
 cases kd with
 | lst e => simp only [isL, e, s _ _ e]
 | tup e => simp only [isL, e, s _ _ e]
 | dict e => simp only [isL, e, s _ _ e, DictO]
 | _ => rfl
theorem picB_iff {H : Hp} {a : Addr} {xs : List V} (e : rowOf H (.ref a) = some xs) : picB H (.ref a) = true ↔ (isWh 1 24 (.int (xs.length : Int)) = true ∧ (∀ x ∈ xs, rowQ H x = true) ∧ ∀ x ∈ xs, lenOf H x = lenOf H (xs.headD .non)) := by
 unfold picB
 rw [e]
 simp only [Bool.and_eq_true, List.all_eq_true, decide_eq_true_eq]
theorem rowQ_iff {H : Hp} {b : Addr} {ys : List V} (e : H b = some (.lst ys)) : rowQ H (.ref b) = true ↔ (ys.all (isWh 0 15) = true ∧ isWh 1 24 (.int (ys.length : Int)) = true) := by
 unfold rowQ
 rw [rowOf_lst e]
 simp only [rowB, Bool.and_eq_true]
theorem lenOf_lst {H : Hp} {b : Addr} {ys : List V} (e : H b = some (.lst ys)) : lenOf H (.ref b) = ys.length := by unfold lenOf; rw [rowOf_lst e]
noncomputable def Th2 (K : W.Frag) (H : Hp) (v : V) : Prop := Th K H v ∧ ∀ a xs, v = .ref a → H a = some (.tup xs) → ∀ y ∈ xs, flatV y = true ∨ ∃ b, y = .ref b
section
variable {K : W.Frag} {H : Hp} {q : Addr} {r r' : List V}
theorem Rw.lst (e : H q = some (.lst r)) (hl : r.length ≤ 1000) (hk : ∀ y ∈ r, Kd K H y) : Rw K H (.ref q) :=
 ⟨.lst e, fun ys h => by rw [rowOf_lst e] at h; cases h; exact hl, fun ys h => by rw [rowOf_lst e] at h; cases h; exact hk⟩
theorem Rw.tup {a : Addr} {xs : List V} (e : H a = some (.tup xs)) : Rw K H (.ref a) := by
 refine ⟨.tup e, fun ys h => ?_, fun ys h => ?_⟩
 ·obtain ⟨b, z, e2⟩ := rowOf_ref h; cases z; rw [e] at e2; cases e2
 ·obtain ⟨b, z, e2⟩ := rowOf_ref h; cases z; rw [e] at e2; cases e2
theorem rowOf_dict {a : Addr} (e : H a = some (DictO a)) : rowOf H (.ref a) = Option.none := by
 cases h : rowOf H (.ref a) with
 | none => rfl
 | some ys => obtain ⟨b, z, e2⟩ := rowOf_ref h; cases z; rw [e] at e2; cases e2
theorem Th.lst {p : Addr} {xs : List V} (e : H p = some (.lst xs)) (hl : xs.length ≤ 1000) (hk : ∀ x ∈ xs, Rw K H x) : Th2 K H (.ref p) :=
 ⟨⟨.lst e, fun ys h => by rw [rowOf_lst e] at h; cases h; exact hl, fun ys h => by rw [rowOf_lst e] at h; cases h; exact hk⟩, fun a ys z e2 => by cases z; rw [e] at e2; cases e2⟩
theorem Th.pic {a : Addr} {ps : List Addr} {R : List (List V)} (p : PicV H a ps R) (hl : R.length ≤ 1000) (hr : ∀ r ∈ R, r.length ≤ 1000 ∧ ∀ y ∈ r, Kd K H y) : Th2 K H (.ref a) := by
 refine Th.lst p.top (by rw [List.length_map, p.len]; exact hl) fun x hx => ?_
 obtain ⟨q, hq, rfl⟩ := List.mem_map.mp hx
 obtain ⟨r, hrm, e⟩ := p.mem hq
 exact Rw.lst e (hr r hrm).1 (hr r hrm).2
end
set_option maxHeartbeats 1600000
theorem ixTK {X : Cx} (K : W.Frag) (h : X.K = K) : IxR X (rIxT K) := by subst h; exact ix_tup
theorem piTK {X : Cx} {tg l : Expr} {tl : TE} (K : W.Frag) (h : X.K = K) (hl : PE X l tl) : PI X tg l (iTup K tl) := by subst h; exact pi_tup hl
noncomputable def tupOf (H : Hp) : V → Option (List V)
 | .ref b => match H b with
  | some (.tup ys) => some ys
  | _ => none
 | _ => none
noncomputable def fullI : V → Int
 | .int w => 2 ^ w.toNat - 1
 | _ => 0
noncomputable def maskB (H : Hp) (v : V) : Bool := match tupOf H v with
 | some [w, r] => isWh 1 24 w && (match tupOf H r with
  | some ys => isWh 1 24 (.int (ys.length : Int)) && ys.all (isWh 0 (fullI w))
  | none => false)
 | _ => false
structure Tm (K : W.Frag) (H : Hp) (v : V) : Prop where
 kd : Kd K H v
 it : ∀ xs, tupOf H v = some xs → ∀ x ∈ xs, Kd K H x
 it2 : ∀ xs, tupOf H v = some xs → ∀ x ∈ xs, ∀ ys, tupOf H x = some ys → ys.length ≤ 100000 ∧ ∀ y ∈ ys, Kd K H y
theorem tupOf_tup {H : Hp} {a : Addr} {ys : List V} (e : H a = some (.tup ys)) : tupOf H (.ref a) = some ys := by simp only [tupOf, e]
theorem tupOf_ref {H : Hp} {x : V} {ys : List V} (h : tupOf H x = some ys) : ∃ a, x = .ref a ∧ H a = some (.tup ys) := by
 cases x with
 | ref a =>
  refine ⟨a, rfl, ?_⟩
  unfold tupOf at h
  dsimp only at h
  split at h
  ·rename_i zs e; cases h; exact e
  ·cases h
 | _ => cases h
theorem isT_tup {K : W.Frag} {H : Hp} {x : V} (k : Kd K H x) : isT H x = (tupOf H x).isSome := by
 cases k with
 | lst e => simp only [isT, tupOf, e]; rfl
 | tup e => simp only [isT, tupOf, e]; rfl
 | dict e => simp only [isT, tupOf, e, DictO]; rfl
 | _ => rfl
theorem isTup_tup {K : W.Frag} {H : Hp} {a : Addr} {xs : List V} (e : H a = some (.tup xs)) : IsX K H (.ref a) (.type "tuple") true := ⟨_, .of (.tup e), k_tt⟩
noncomputable def spFull : Sp := fun vs H Q _ => ∃ w : Nat, vs = [.int (w : Int)] ∧ w ≤ 24 ∧ Q (.int (2 ^ w - 1)) H
noncomputable def spMask (K : W.Frag) : Sp := fun vs H Q _ => ∃ x, vs = [x] ∧ Tm K H x ∧ ∀ H', Same H H' → Q (.bl (maskB H x)) H'
noncomputable def spNeedM (K : W.Frag) (cBM : Addr) : Sp := fun vs H Q E => ∃ x, vs = [x] ∧ Tm K H x ∧ (maskB H x = true → ∀ H', Same H H' → Q .non H') ∧ (maskB H x = false → ∀ H', Same H H' → E (.ref cBM) none H')
theorem src_tup {K : W.Frag} {a : Addr} {xs : List V} {H : Hp} (e : H a = some (.tup xs)) : Src (Itt K a) xs H := fun H' sm =>
 ⟨fun i x ex => ⟨⟨xs, x, SqT.of (sm _ _ e), ex⟩, fun y H2 ⟨q1, q2⟩ => ⟨by have := q2 xs (SqT.of (sm _ _ e)); rw [ex] at this; exact (Option.some.inj this).symm, q1⟩⟩, ⟨xs, SqT.of (sm _ _ e), Nat.le_refl _⟩⟩
section
variable {P : Program} {w : World} {K : W.Frag} {mg : Str → Option Value} {base : Heap} {cFE cBP cBC cBS cBM : Addr} {tS tC : Tok}
theorem sc_full_row : FnScope ["wide"] ["wide"] (defScope s_full_row) := ⟨rfl, rfl, rfl, by decide +kernel, rfl, by decide +kernel, by decide +kernel⟩
theorem ok_full_row {f : Addr} {fd : FuncData} (F : FunD K "full_row" "full_row" s_full_row .none f fd) : FnOk P w K mg base CX0 1 f fd ["wide"] spFull := by
 refine F.ok sc_full_row (fun vs H Q E h => ?_) (fun cdv A outer s H vs Q E hr h => ?_)
 ·obtain ⟨n, rfl, _⟩ := h; rfl
 ·obtain ⟨n, rfl, hn, k⟩ := h
  refine ⟨_, (pss_one (ps_ret (pe_op op_sub (pe_op op_shl pe_int (pv 0)) pe_int))), ?_⟩
  refine ⟨_, rfl, _, _, rfl, rfl, ⟨by omega, by omega, by decide⟩, _, _, rfl, rfl, ?_⟩
  show Q (.int (1 * 2 ^ (n : Int).toNat - 1)) H
  rw [Int.toNat_natCast, Int.one_mul]
  exact k
theorem sc_is_mask : FnScope ["thing"] ["thing"] (defScope s_is_mask) := ⟨rfl, rfl, rfl, by decide +kernel, rfl, by decide +kernel, by decide +kernel⟩
theorem ok_is_mask {f : Addr} {fd : FuncData} (F : FunD K "is_mask" "is_mask" s_is_mask .none f fd) (T : Txt K mg cFE cBP cBC cBS cBM tS tC) (g_is_whole_within : Def P w K mg base 2 "is_whole_within" ["thing", "least", "most"] [] (spWh K)) (g_is_side : Def P w K mg base 3 "is_side" ["thing"] [] (spSide K)) (g_full_row : Def P w K mg base 1 "full_row" ["wide"] [] spFull) : FnOk P w K mg base CX0 4 f fd ["thing"] (spMask K) := by
 refine F.ok sc_is_mask (fun vs H Q E h => ?_) (fun cdv A outer s H vs Q E hr h => ?_)
 ·obtain ⟨x, rfl, _⟩ := h; rfl
 ·obtain ⟨x, rfl, tm, k⟩ := h
  refine ⟨_, (pss_cons (ps_if (PW.pt (pw_or (pt_not (pt_val (isiK K rfl (pv 0) rfl T.isinstance rfl T.tuple PyProof.Rows.boot_tuple))) (pw_or1 (pt_cmpR op_ne (pe_callB (lenK K rfl) rfl T.len PySem.boot_len (pa_cons (pv 0) pa_nil)) pe_int (nomark _))))) (pss_one (ps_ret pe_bl)) pss_nil)
    (pss_cons (ps_if (pt_not (pt_val (pe_callD g_is_side (hr.mono (by decide)) rfl (pa_cons (pe_ix (ixTK K rfl) (pv 0) pe_int (fun _ _ => rfl)) pa_nil)))) (pss_one (ps_ret pe_bl)) pss_nil)
    (pss_cons (ps_if (PW.pt (pw_or (pt_not (pt_val (isiK K rfl (pe_ix (ixTK K rfl) (pv 0) pe_int (fun _ _ => rfl)) rfl T.isinstance rfl T.tuple PyProof.Rows.boot_tuple))) (pw_or1 (pt_not (pt_val (pe_callD g_is_side (hr.mono (by decide)) rfl (pa_cons (pe_callB (lenK K rfl) rfl T.len PySem.boot_len (pa_cons (pe_ix (ixTK K rfl) (pv 0) pe_int (fun _ _ => rfl)) pa_nil)) pa_nil))))))) (pss_one (ps_ret pe_bl)) pss_nil)
    (pss_one (ps_ret (pe_callB (allK K rfl rfl) rfl T.all PyProof.Rows.boot_all (pa_cons (pe_comp (N := ["row", "thing"]) (src := [none, some 0]) rfl ⟨rfl, rfl, rfl, rfl, rfl, by decide +kernel⟩ (piTK K rfl (pe_ix (ixTK K rfl) (pv 0) pe_int (fun _ _ => rfl))) (fun s H C fp => pg_name (i := 0) (show (["row", "thing"] : List Str).Nodup by decide +kernel) rfl (by first | exact Or.inl rfl | exact Or.inr rfl)) (fun s H C fp => pts_nil) (fun s H C fp => (pe_callD g_is_whole_within (hr.mono (by decide)) rfl (pa_cons (pv 0) (pa_cons pe_int (pa_cons (pe_callD g_full_row (hr.mono (by decide)) rfl (pa_cons (pe_ix (ixTK K rfl) (pv 1) pe_int (fun _ _ => rfl)) pa_nil)) pa_nil)))))) pa_nil))))))), ?_⟩
  cases hx : tupOf H x with
  | none =>
   have ek : maskB H x = false := by unfold maskB; rw [hx]
   rw [ek] at k
   refine ⟨_, rfl, _, tm.kd.isTuple, _, rfl, ?_⟩
   rw [isT_tup tm.kd, hx]
   exact k H (Same.refl H)
  | some xs =>
   obtain ⟨a, rfl, e⟩ := tupOf_ref hx
   refine ⟨_, rfl, true, isTup_tup e, _, rfl, ⟨_, rfl, a, _, rfl, .inr (SqT.of e), rfl, _, rfl, iteN (fun h2 => ?_) (fun h2 => ?_)⟩⟩
   ·have hl : xs.length ≠ 2 := fun z => by
     have := of_decide_eq_false h2
     rw [z] at this
     exact this rfl
    have ek : maskB H (.ref a) = false := by
     unfold maskB
     rw [hx]
     match xs, hl with
     | [], _ => rfl
     | [_], _ => rfl
     | _ :: _ :: _ :: _, _ => rfl
    rw [ek] at k
    exact k H (Same.refl H)
   ·have hl : xs.length = 2 := by
     have := of_decide_eq_true h2
     injection this with this
     omega
    match xs, hl, hx, e with
    | [v, r], _, hx, e =>
     have kv := tm.it _ hx v (by simp)
     have kr := tm.it _ hx r (by simp)
     have ek : maskB H (.ref a) = (isWh 1 24 v && (match tupOf H r with
      | some ys => isWh 1 24 (.int (ys.length : Int)) && ys.all (isWh 0 (fullI v))
      | none => false)) := by unfold maskB; rw [hx]
     rw [ek] at k
     refine ⟨_, rfl, a, _, _, v, rfl, rfl, SqT.of e, atI_nat (j := 0) rfl, v, rfl, kv, _, rfl, iteN (fun h3 => ?_) (fun h3 => ?_)⟩
     ·rw [h3, Bool.false_and] at k
      exact k H (Same.refl H)
     rw [h3, Bool.true_and] at k
     cases hr2 : tupOf H r with
     | none =>
      rw [hr2] at k
      refine ⟨_, rfl, a, _, _, r, rfl, rfl, SqT.of e, atI_nat (j := 1) rfl, _, kr.isTuple, _, rfl, ?_⟩
      rw [isT_tup kr, hr2]
      exact k H (Same.refl H)
     | some ys =>
      obtain ⟨b, rfl, e2⟩ := tupOf_ref hr2
      obtain ⟨ly, ky⟩ := tm.it2 _ hx (.ref b) (by simp) ys hr2
      rw [hr2] at k
      dsimp only at k
      refine ⟨_, rfl, a, _, _, .ref b, rfl, rfl, SqT.of e, atI_nat (j := 1) rfl, true, isTup_tup e2, _, rfl, ⟨_, rfl, a, _, _, .ref b, rfl, rfl, SqT.of e, atI_nat (j := 1) rfl, b, _, rfl, .inr (SqT.of e2), _, rfl, .int _, _, rfl, iteN (fun h4 => ?_) (fun h4 => ?_)⟩⟩
      ·rw [h4, Bool.false_and] at k
       exact k H (Same.refl H)
      rw [h4, Bool.true_and] at k
      obtain ⟨wd, rfl, w1, w24⟩ := wh_side h3
      refine ⟨_, rfl, a, _, _, .ref b, rfl, rfl, SqT.of e, atI_nat (j := 1) rfl, b, rfl, ⟨_, SqT.of e2⟩, fun D hD => ?_⟩
      refine comp_fm (k := 0) (fun y => .bl (isWh 0 (2 ^ wd - 1) y)) (fun _ => true) (src_tup e2) (Nat.le_trans ly (by decide)) hD (fun x _ H' Qb _ kk => kk H' (Same.refl _)) (fun y hy _ H' Q' sm kk => ?_) fun H1 s1 hD1 => ?_
      ·exact ⟨_, rfl, _, rfl, a, _, _, .int (wd : Int), rfl, rfl, SqT.of (sm _ _ e), atI_nat (j := 0) rfl, wd, rfl, w24, y, 0, _, rfl, (ky y hy).mono sm, kk H' (Same.refl _)⟩
      ·refine ⟨D, ys.map (isWh 0 (2 ^ wd - 1)), rfl, SqL.of (by rw [hD1, filter_t, List.map_map]; rfl), ?_⟩
       rw [all_map_id]
       have ef : fullI (.int (wd : Int)) = 2 ^ wd - 1 := by show (2 : Int) ^ (wd : Int).toNat - 1 = _; rw [Int.toNat_natCast]
       rw [ef] at k
       exact k H1 s1
theorem sc_need_mask : FnScope ["mask"] ["mask"] (defScope s_need_mask) := ⟨rfl, rfl, rfl, by decide +kernel, rfl, by decide +kernel, by decide +kernel⟩
theorem ok_need_mask {f : Addr} {fd : FuncData} (F : FunD K "need_mask" "need_mask" s_need_mask .none f fd) (T : Txt K mg cFE cBP cBC cBS cBM tS tC) (g_is_mask : Def P w K mg base 4 "is_mask" ["thing"] [] (spMask K)) : FnOk P w K mg base (CX1 P w) 5 f fd ["mask"] (spNeedM K cBM) := by
 refine F.okX sc_need_mask (fun vs H Q E h => ?_) (fun cdv A outer s H vs Q E hr h => ?_)
 ·obtain ⟨x, rfl, _⟩ := h; rfl
 ·obtain ⟨x, rfl, tm, kY, kN⟩ := h
  refine ⟨_, (pss_one (ps_if (pt_not (pt_val (pe_callD g_is_mask (hr.mono (by decide)) rfl (pa_cons (pv 0) pa_nil)))) (pss_one (ps_raise rfl raises1 rfl T.BadMask T.xBadMask (pa_cons pe_str pa_nil))) pss_nil)), ?_⟩
  exact ⟨_, rfl, x, rfl, tm, fun H' sm => ⟨_, rfl, iteN (fun h => ⟨sz1, kN h H' sm⟩) (fun h => kY h H' sm)⟩⟩
end
noncomputable def nV (rows : List Nat) : List V := rows.map fun (r : Nat) => V.int (r : Int)
structure GoodM (wd : Nat) (rows : List Nat) : Prop where
 w1 : 1 ≤ wd
 w24 : wd ≤ 24
 h1 : 1 ≤ rows.length
 h24 : rows.length ≤ 24
 row : ∀ r ∈ rows, r < 2 ^ wd
structure MaskV (H : Hp) (a b : Addr) (wd : Nat) (rows : List Nat) : Prop where
 top : H a = some (.tup [.int (wd : Int), .ref b])
 row : H b = some (.tup (nV rows))
theorem MaskV.mono {H H' : Hp} {a b : Addr} {wd : Nat} {rows : List Nat} (m : MaskV H a b wd rows) (s : Same H H') : MaskV H' a b wd rows := ⟨s _ _ m.top, s _ _ m.row⟩
theorem nV_len (rows : List Nat) : (nV rows).length = rows.length := List.length_map ..
theorem nV_at {rows : List Nat} {i : Nat} {r : Nat} (h : rows[i]? = some r) : (nV rows)[i]? = some (.int (r : Int)) := by unfold nV; rw [List.getElem?_map, h]; rfl
section
variable {K : W.Frag} {H : Hp} {a b : Addr} {wd : Nat} {rows : List Nat}
theorem tm_mask (m : MaskV H a b wd rows) (g : GoodM wd rows) : Tm K H (.ref a) := by
 refine ⟨.tup m.top, fun xs e x hx => ?_, fun xs e x hx ys e2 => ?_⟩
 ·rw [tupOf_tup m.top] at e; cases e
  simp only [List.mem_cons, List.not_mem_nil, or_false] at hx
  rcases hx with rfl | rfl
  ·exact .int _
  ·exact .tup m.row
 ·rw [tupOf_tup m.top] at e; cases e
  simp only [List.mem_cons, List.not_mem_nil, or_false] at hx
  rcases hx with rfl | rfl
  ·cases e2
  ·rw [tupOf_tup m.row] at e2; cases e2
   refine ⟨by rw [nV_len]; exact Nat.le_trans g.h24 (by decide), fun y hy => ?_⟩
   obtain ⟨r, _, rfl⟩ := List.mem_map.mp hy
   exact .int _
theorem maskB_good (m : MaskV H a b wd rows) (g : GoodM wd rows) : maskB H (.ref a) = true := by
 have h1 : isWh 1 24 (.int (wd : Int)) = true := by
  have := g.w1; have := g.w24
  simp only [isWh, Bool.and_eq_true, decide_eq_true_eq]; omega
 have h2 : isWh 1 24 (.int ((nV rows).length : Int)) = true := by
  have := g.h1; have := g.h24
  rw [nV_len]
  simp only [isWh, Bool.and_eq_true, decide_eq_true_eq]; omega
 have h3 : (nV rows).all (isWh 0 (fullI (.int (wd : Int)))) = true := by
  rw [List.all_eq_true]
  intro y hy
  obtain ⟨r, hr, rfl⟩ := List.mem_map.mp hy
  have := g.row r hr
  have ef : fullI (.int (wd : Int)) = 2 ^ wd - 1 := by show (2 : Int) ^ (wd : Int).toNat - 1 = _; rw [Int.toNat_natCast]
  rw [ef]
  simp only [isWh, Bool.and_eq_true, decide_eq_true_eq]
  have hp : ((2 ^ wd : Nat) : Int) = (2 : Int) ^ wd := by push_cast; rfl
  omega
 unfold maskB
 rw [tupOf_tup m.top]
 dsimp only
 rw [tupOf_tup m.row, h1]
 dsimp only
 rw [h2, h3]; rfl
end
noncomputable def spCell (K : W.Frag) : Sp := fun vs H Q _ => ∃ (a : Addr) (ns : List Int) (k : Nat), vs = [.ref a, .int k] ∧ SqL K H a (ns.map V.int) ∧ Q (.int (ns.getD k 0)) H
noncomputable def spMixed (K : W.Frag) : Sp := fun vs H Q _ => ∃ (a : Addr) (ns : List Int) (k : Nat), vs = [.ref a, .int k] ∧ SqL K H a (ns.map V.int) ∧ (∀ x ∈ ns, Builtin.Int.intBits x ≤ 2 ^ 20) ∧ k ≤ 1000 ∧ ∀ m : Nat, m < 2 ^ 27 → Q (.int m) H
noncomputable def spWhole : Sp := fun vs H Q _ => ∃ i : Int, vs = [.int i] ∧ Q (.bl true) H
noncomputable def spPower : Sp := fun vs H Q _ => ∃ p : Nat, vs = [.int p] ∧ p ≤ 1000 ∧ Q (.int (2 ^ p : Nat)) H
theorem bits_getD {ns : List Int} (h : ∀ x ∈ ns, Builtin.Int.intBits x ≤ 2 ^ 20) (k : Nat) : Builtin.Int.intBits (ns.getD k 0) ≤ 2 ^ 20 := by
 by_cases hk : k < ns.length
 ·have e : ns.getD k 0 = ns[k] := by simp [List.getD, hk]
  rw [e]
  exact h _ (List.getElem_mem hk)
 ·have e : ns.getD k 0 = 0 := by simp [List.getD, List.getElem?_eq_none (Nat.le_of_not_lt hk)]
  rw [e]
  decide
theorem mix_ok {c : Int} {k : Nat} (hc : Builtin.Int.intBits c ≤ 2 ^ 20) (hk : k ≤ 1000) : IntMulOk (c + 7919 * (k : Int) + 13) (c + 7919 * (k : Int) + 13) := by
 have h1 : Builtin.Int.intBits (7919 * (k : Int)) ≤ 64 := intBits_le_iff.mpr (by omega)
 have h2 : Builtin.Int.intBits (13 : Int) ≤ 64 := by decide
 have h3 := intBits_add_le (intBits_add_le hc h1) h2
 exact PyProof.Rows.mulOk_of_bits h3 h3 (by decide)
section
variable {P : Program} {w : World} {K : W.Frag} {mg : Str → Option Value} {base : Heap} {cFE cBP cBC cBS cBM : Addr} {tS tC : Tok}
theorem sc_law_cell : FnScope ["_law_script", "_law_k"] ["_law_script", "_law_k"] (defScope s_law_cell) := ⟨rfl, rfl, rfl, by decide +kernel, rfl, by decide +kernel, by decide +kernel⟩
theorem ok__law_cell {f : Addr} {fd : FuncData} (F : FunD K "_law_cell" "_law_cell" s_law_cell .none f fd) (T : Txt K mg cFE cBP cBC cBS cBM tS tC) : FnOk P w K mg base CX0 1 f fd ["_law_script", "_law_k"] (spCell K) := by
 refine F.ok sc_law_cell (fun vs H Q E h => ?_) (fun cdv A outer s H vs Q E hr h => ?_)
 ·obtain ⟨a, ns, k, rfl, _⟩ := h; rfl
 ·obtain ⟨a, ns, j, rfl, hS, k⟩ := h
  refine ⟨_, (pss_cons (ps_if (pt_cmpR op_lt (pv 1) (pe_callB (lenK K rfl) rfl T.len PySem.boot_len (pa_cons (pv 0) pa_nil)) (nomark _)) (pss_one (ps_ret (pe_ix (ixK K rfl) (pv 0) (pv 1) (fun _ _ => rfl)))) pss_nil)
    (pss_one (ps_ret pe_int))), ?_⟩
  refine ⟨_, rfl, _, rfl, a, _, rfl, .inl hS, _, _, rfl, rfl, _, rfl, ?_⟩
  rw [List.length_map]
  refine ite2 (fun hc => ?_) (fun hc => ?_)
  ·have hlt : j < ns.length := by have := of_decide_eq_true hc; omega
   refine ⟨_, rfl, _, rfl, a, _, _, _, rfl, rfl, hS, atI_nat (j := j) (v := V.int (ns.getD j 0)) ?_, k⟩
   rw [List.getElem?_map, List.getElem?_eq_getElem hlt]
   simp [List.getD, hlt]
  ·have hge : ¬ j < ns.length := fun z => hc (decide_eq_true (by omega))
   have e : ns.getD j 0 = 0 := by simp [List.getD, List.getElem?_eq_none (Nat.le_of_not_lt hge)]
   rw [e] at k
   exact k
theorem sc_law_mixed : FnScope ["_law_script", "_law_k", "_law_number"] ["_law_script", "_law_k"] (defScope s_law_mixed) := ⟨rfl, rfl, rfl, by decide +kernel, rfl, by decide +kernel, by decide +kernel⟩
theorem ok__law_mixed {f : Addr} {fd : FuncData} (F : FunD K "_law_mixed" "_law_mixed" s_law_mixed .none f fd) (g__law_cell : Def P w K mg base 1 "_law_cell" ["_law_script", "_law_k"] [] (spCell K)) : FnOk P w K mg base CX0 2 f fd ["_law_script", "_law_k"] (spMixed K) := by
 refine F.ok sc_law_mixed (fun vs H Q E h => ?_) (fun cdv A outer s H vs Q E hr h => ?_)
 ·obtain ⟨a, ns, k, rfl, _⟩ := h; rfl
 ·obtain ⟨a, ns, j, rfl, hS, hB, hj, k⟩ := h
  refine ⟨_, (pss_cons (ps_set (i := 2) sc_law_mixed.nd rfl (by first | exact Or.inl rfl | exact Or.inr rfl) (pe_op op_add (pe_op op_add (pe_callD g__law_cell (hr.mono (by decide)) rfl (pa_cons (pv 0) (pa_cons (pv 1) pa_nil))) (pe_op op_mul pe_int (pv 1))) pe_int))
    (pss_one (ps_ret (pe_op op_fdiv (pe_op op_mod (pe_op op_mul (pe_op op_mod (pe_op op_mulG (pv 2) (pv 2)) pe_int) (pv 2)) pe_int) pe_int)))), ?_⟩
  refine ⟨_, rfl, _, rfl, a, ns, j, rfl, hS, _, rfl, _, _, rfl, rfl, .inl ⟨by decide, by decide⟩, _, _, rfl, rfl, _, _, rfl, rfl, ?_⟩
  have hm := mix_ok (bits_getD hB j) hj
  have p1 : 0 ≤ (ns.getD j 0 + 7919 * (j : Int) + 13) * (ns.getD j 0 + 7919 * (j : Int) + 13) % 1000000007 := Int.emod_nonneg _ (by decide)
  have p2 : (ns.getD j 0 + 7919 * (j : Int) + 13) * (ns.getD j 0 + 7919 * (j : Int) + 13) % 1000000007 < 1000000007 := Int.emod_lt_of_pos _ (by decide)
  refine ⟨_, rfl, _, rfl, _, _, rfl, rfl, hm, _, _, rfl, rfl, (by show (0 : Int) < 1000000007; decide), _, rfl, _, _, rfl, rfl, .inl ⟨Int.lt_of_lt_of_le (by decide) p1, Int.lt_trans p2 (by decide)⟩, _, _, rfl, rfl, (by show (0 : Int) < 998244353; decide), _, _, rfl, rfl, ⟨by decide, by decide⟩, ?_⟩
  show Q (.int (((ns.getD j 0 + 7919 * (j : Int) + 13) * (ns.getD j 0 + 7919 * (j : Int) + 13) % 1000000007 * (ns.getD j 0 + 7919 * (j : Int) + 13) % 998244353) / 11)) H
  generalize hy : (ns.getD j 0 + 7919 * (j : Int) + 13) * (ns.getD j 0 + 7919 * (j : Int) + 13) % 1000000007 * (ns.getD j 0 + 7919 * (j : Int) + 13) % 998244353 = y
  have p3 : 0 ≤ y := by rw [← hy]; exact Int.emod_nonneg _ (by decide)
  have p4 : y < 998244353 := by rw [← hy]; exact Int.emod_lt_of_pos _ (by decide)
  have e : y / 11 = ((y / 11).toNat : Int) := by omega
  rw [e]
  exact k _ (by omega)
theorem sc_law_whole : FnScope ["_law_found"] ["_law_found"] (defScope s_law_whole) := ⟨rfl, rfl, rfl, by decide +kernel, rfl, by decide +kernel, by decide +kernel⟩
theorem ok__law_whole {f : Addr} {fd : FuncData} (F : FunD K "_law_whole" "_law_whole" s_law_whole .none f fd) (T : Txt K mg cFE cBP cBC cBS cBM tS tC) : FnOk P w K mg base CX0 1 f fd ["_law_found"] spWhole := by
 refine F.ok sc_law_whole (fun vs H Q E h => ?_) (fun cdv A outer s H vs Q E hr h => ?_)
 ·obtain ⟨i, rfl, _⟩ := h; rfl
 ·obtain ⟨i, rfl, k⟩ := h
  refine ⟨_, (pss_one (ps_ret (pe_and (isiK K rfl (pv 0) rfl T.isinstance rfl T.int PyProof.Rows.boot_int) (pe_one (pe_not (isiK K rfl (pv 0) rfl T.isinstance rfl T.bool PyProof.Rows.boot_bool)))))), ?_⟩
  exact ⟨_, rfl, _, (Kd.int (K := K) (H := H) i).isInt, _, rfl, iteT ⟨_, rfl, _, (Kd.int (K := K) (H := H) i).isBool, _, rfl, k⟩⟩
theorem sc_law_power : FnScope ["_law_place", "_law_found", "_law_turn"] ["_law_place"] (defScope s_law_power) := ⟨rfl, rfl, rfl, by decide +kernel, rfl, by decide +kernel, by decide +kernel⟩
theorem ok__law_power {f : Addr} {fd : FuncData} (F : FunD K "_law_power" "_law_power" s_law_power .none f fd) (T : Txt K mg cFE cBP cBC cBS cBM tS tC) : FnOk P w K mg base CX0 1 f fd ["_law_place"] spPower := by
 refine F.ok sc_law_power (fun vs H Q E h => ?_) (fun cdv A outer s H vs Q E hr h => ?_)
 ·obtain ⟨p, rfl, _⟩ := h; rfl
 ·obtain ⟨p, rfl, hp, k⟩ := h
  refine ⟨_, (pss_cons (ps_set (i := 1) sc_law_power.nd rfl (by first | exact Or.inl rfl | exact Or.inr rfl) pe_int)
    (pss_cons (ps_for PassesOwn.never rfl (pi_range1 rfl T.range (pa_cons (pv 0) pa_nil)) (pg_name (i := 2) sc_law_power.nd rfl (by first | exact Or.inl rfl | exact Or.inr rfl)) (pss_one (ps_set (i := 1) sc_law_power.nd rfl (by first | exact Or.inl rfl | exact Or.inr rfl) (pe_op op_mul pe_int (pv 1)))))
    (pss_one (ps_ret (pv 1))))), ?_⟩
  refine ⟨_, rfl, _, rfl, by omega, by omega, ?_⟩
  rw [Int.toNat_natCast]
  refine for_range (fun i σ H2 => H2 = H ∧ ∃ v, σ = [some (.int p), some (.int (2 ^ i : Nat)), v]) ⟨rfl, none, rfl⟩ ?_ ?_
  ·rintro i σ H2 hi ⟨rfl, v, rfl⟩
   refine ⟨_, rfl, _, _, rfl, rfl, .inl ⟨by decide, by decide⟩, rfl, some (.int (0 + (i : Int))), ?_⟩
   have e : (2 : Int) * ((2 ^ i : Nat) : Int) = ((2 ^ (i + 1) : Nat) : Int) := by rw [Nat.pow_succ]; omega
   rw [← e]
   rfl
  ·rintro σ H2 ⟨rfl, v, rfl⟩
   exact ⟨_, rfl, k⟩
end
theorem sqL_mono {K : W.Frag} {H H' : Hp} {a : Addr} {xs : List V} (h : SqL K H a xs) (s : Same H H') : SqL K H' a xs := by
 rcases h with (h | ⟨o, h⟩) | h
 ·exact .inl (.inl (s _ _ h))
 ·exact .inl (.inr ⟨o, s _ _ h⟩)
 ·exact .inr h
theorem modN {p : Nat} {f : Int} (hp : 0 < (p : Int)) (ef : f + 1 = (p : Int)) (x : Int) : ∃ o : Nat, o < p ∧ x % (f + 1) = (o : Int) := by
 rw [ef]
 have h1 := Int.emod_nonneg x (by omega : (p : Int) ≠ 0)
 have h2 := Int.emod_lt_of_pos x hp
 exact ⟨(x % p).toNat, by omega, by omega⟩
noncomputable def spLMask (K : W.Frag) : Sp := fun vs H Q _ => ∃ (a : Addr) (ns : List Int) (at_ wd hi : Nat), vs = [.ref a, .int at_, .int wd, .int hi] ∧ SqL K H a (ns.map V.int) ∧ (∀ x ∈ ns, Builtin.Int.intBits x ≤ 2 ^ 20) ∧ at_ ≤ 100 ∧ 1 ≤ wd ∧ wd ≤ 24 ∧ 1 ≤ hi ∧ hi ≤ 24 ∧ ∀ p q rows H', Same H H' → MaskV H' p q wd rows → GoodM wd rows → rows.length = hi → Q (.ref p) H'
section
variable {P : Program} {w : World} {K : W.Frag} {mg : Str → Option Value} {base : Heap} {cFE cBP cBC cBS cBM : Addr} {tS tC : Tok}
theorem sc_law_mask : FnScope ["_law_script", "_law_at", "_law_wide", "_law_high", "_law_rows", "_law_full", "_law_y", "_law_number", "_law_one"] ["_law_script", "_law_at", "_law_wide", "_law_high"] (defScope s_law_mask) := ⟨rfl, rfl, rfl, by decide +kernel, rfl, by decide +kernel, by decide +kernel⟩
theorem ok__law_mask {f : Addr} {fd : FuncData} (F : FunD K "_law_mask" "_law_mask" s_law_mask .none f fd) (T : Txt K mg cFE cBP cBC cBS cBM tS tC) (g__law_mixed : Def P w K mg base 2 "_law_mixed" ["_law_script", "_law_k"] [] (spMixed K)) (g__law_power : Def P w K mg base 1 "_law_power" ["_law_place"] [] spPower) : FnOk P w K mg base CX0 3 f fd ["_law_script", "_law_at", "_law_wide", "_law_high"] (spLMask K) := by
 refine F.ok sc_law_mask (fun vs H Q E h => ?_) (fun cdv A outer s H vs Q E hr h => ?_)
 ·obtain ⟨a, ns, at_, wd, hi, rfl, _⟩ := h; rfl
 ·obtain ⟨a, ns, at_, wd, hi, rfl, hS, hB, hat, w1, w24, h1, h24, k⟩ := h
  refine ⟨_, (pss_cons (ps_set (i := 4) sc_law_mask.nd rfl (by first | exact Or.inl rfl | exact Or.inr rfl) (pe_lst pa_nil))
    (pss_cons (ps_set (i := 5) sc_law_mask.nd rfl (by first | exact Or.inl rfl | exact Or.inr rfl) (pe_op op_sub (pe_callD g__law_power (hr.mono (by decide)) rfl (pa_cons (pv 2) pa_nil)) pe_int))
    (pss_cons (ps_for PassesOwn.never rfl (pi_range1 rfl T.range (pa_cons (pv 3) pa_nil)) (pg_name (i := 6) sc_law_mask.nd rfl (by first | exact Or.inl rfl | exact Or.inr rfl)) (pss_cons (ps_set (i := 7) sc_law_mask.nd rfl (by first | exact Or.inl rfl | exact Or.inr rfl) (pe_op op_add (pe_callD g__law_mixed (hr.mono (by decide)) rfl (pa_cons (pv 0) (pa_cons (pe_op op_add (pv 1) (pe_op op_mod (pv 6) pe_int)) pa_nil))) (pe_op op_mul (pe_op op_mul pe_int (pv 6)) (pv 6))))
    (pss_cons (ps_set (i := 8) sc_law_mask.nd rfl (by first | exact Or.inl rfl | exact Or.inr rfl) (pe_op op_mod (pe_op op_mod (pe_op op_mul (pv 7) pe_int) pe_int) (pe_op op_add (pv 5) pe_int)))
    (pss_one (ps_expr (pe_bm PySem.F.plainAttrs_list PySem.F.slot_list_append PySem.F.type_list_append mt_append (pv 4) (pa_cons (pe_ix (ixK K rfl) (pe_lst (pa_cons (pv 8) (pa_cons pe_int (pa_cons (pv 5) (pa_cons (pe_op op_mod (pe_op op_mul (pv 7) pe_int) (pe_op op_add (pv 5) pe_int)) (pa_cons (pv 8) (pa_cons (pv 8) pa_nil))))))) (pe_op op_mod (pe_op op_fdiv (pv 7) pe_int) pe_int) (fun _ _ => rfl)) pa_nil)))))))
    (pss_one (ps_ret (pe_tup (pa_cons (pv 2) (pa_cons (pe_callTy call_tuple_of rfl T.tuple PyProof.Rows.boot_tuple (pa_cons (pv 4) pa_nil)) pa_nil)))))))), ?_⟩
  refine ⟨Nat.zero_le _, fun S hS0 => ?_⟩
  have s1 : Same H (upd H S (.lst [])) := same_new hS0
  refine ⟨_, rfl, wd, rfl, by omega, _, _, rfl, rfl, ?_⟩
  have ef : ((2 ^ wd : Nat) : Int) - 1 + 1 = ((2 ^ wd : Nat) : Int) := by omega
  refine ⟨_, rfl, _, rfl, by omega, by omega, ?_⟩
  rw [Int.toNat_natCast]
  refine for_range (fun i σ H2 => Same H H2 ∧ ∃ rows : List Nat, H2 S = some (.lst (nV rows)) ∧ rows.length = i ∧ (∀ r ∈ rows, r < 2 ^ wd) ∧ ∃ v6 v7 v8, σ = [some (.ref a), some (.int at_), some (.int wd), some (.int hi), some (.ref S), some (.int (((2 ^ wd : Nat) : Int) - 1)), v6, v7, v8]) ⟨s1, [], upd_same, rfl, (fun r hr => nomatch hr), _, _, _, rfl⟩ ?_ ?_
  ·rintro i σ H2 hi2 ⟨s2, rows, hS2, hl, hrw, v6, v7, v8, rfl⟩
   have hS' : SqL K H2 a (ns.map V.int) := sqL_mono hS s2
   refine ⟨_, rfl, _, rfl, _, rfl, _, _, rfl, rfl, (by show (0 : Int) < 10; decide), _, _, rfl, rfl, a, ns, at_ + i % 10, ?_, hS', hB, by omega, fun m hm => ?_⟩
   ·have e : (at_ : Int) + (0 + (i : Int)) % 10 = ((at_ + i % 10 : Nat) : Int) := by omega
    show [V.ref a, V.int ((at_ : Int) + (0 + (i : Int)) % 10)] = _
    rw [e]
   ·refine ⟨_, rfl, _, _, rfl, rfl, .inl ⟨by decide, by decide⟩, _, rfl, _, _, rfl, rfl, ?_, _, _, rfl, rfl, ?_⟩
    ·exact .inr ⟨by show _; omega, by show _; omega⟩
    ·have hn : 0 ≤ (m : Int) + 977 * (0 + (i : Int)) * (0 + (i : Int)) := by
      have := Int.mul_nonneg (show 0 ≤ 977 * (0 + (i : Int)) by omega) (show 0 ≤ (0 + (i : Int)) by omega)
      omega
     show gName 7 (.int ((m : Int) + 977 * (0 + (i : Int)) * (0 + (i : Int)))) _ H2 _
     generalize (m : Int) + 977 * (0 + (i : Int)) * (0 + (i : Int)) = n at hn
     have hp : (0 : Int) < ((2 ^ wd : Nat) : Int) := by have := Nat.two_pow_pos wd; omega
     have hfull : (0 : Int) < ((2 ^ wd : Nat) : Int) - 1 + 1 := by omega
     refine ⟨_, rfl, _, _, rfl, rfl, .inr ⟨by decide, by decide⟩, _, _, rfl, rfl, (by show (0 : Int) < 1000000007; decide), _, rfl, _, _, rfl, rfl, _, _, rfl, rfl, hfull, ?_⟩
     show gName 8 (.int (n * 40692 % 1000000007 % (((2 ^ wd : Nat) : Int) - 1 + 1))) _ H2 _
     obtain ⟨o1, l1, e1⟩ := modN hp ef (n * 40692 % 1000000007)
     obtain ⟨o2, l2, e2⟩ := modN hp ef (n * 16807)
     rw [e1]
     refine ⟨_, rfl, .inl ⟨rfl, _, SqL.of hS2⟩, _, rfl, _, rfl, _, rfl, _, _, rfl, rfl, .inr ⟨by decide, by decide⟩, _, rfl, _, _, rfl, rfl, _, _, rfl, rfl, hfull, ?_⟩
     obtain ⟨r, lr, er⟩ : ∃ r : Nat, r < 2 ^ wd ∧ atI [V.int (o1 : Int), V.int 0, V.int (((2 ^ wd : Nat) : Int) - 1), V.int (n * 16807 % (((2 ^ wd : Nat) : Int) - 1 + 1)), V.int (o1 : Int), V.int (o1 : Int)] (n / 3 % 6) = some (V.int (r : Int)) := by
      obtain ⟨j, hj, ej⟩ : ∃ j : Nat, j < 6 ∧ n / 3 % 6 = (j : Int) := ⟨(n / 3 % 6).toNat, by omega, by omega⟩
      rw [ej, e2]
      have hfe : ((2 ^ wd : Nat) : Int) - 1 = ((2 ^ wd - 1 : Nat) : Int) := by omega
      rw [hfe]
      match j, hj with
      | 0, _ => exact ⟨o1, l1, atI_nat rfl⟩
      | 1, _ => exact ⟨0, by omega, atI_nat rfl⟩
      | 2, _ => exact ⟨2 ^ wd - 1, by omega, atI_nat rfl⟩
      | 3, _ => exact ⟨o2, l2, atI_nat rfl⟩
      | 4, _ => exact ⟨o1, l1, atI_nat rfl⟩
      | 5, _ => exact ⟨o1, l1, atI_nat rfl⟩
     refine ⟨_, rfl, _, rfl, sz6, fun L hL => ?_⟩
     have hSL := same_new (o := HO.lst [V.int (o1 : Int), V.int 0, V.int (((2 ^ wd : Nat) : Int) - 1), V.int (n * 16807 % (((2 ^ wd : Nat) : Int) - 1 + 1)), V.int (o1 : Int), V.int (o1 : Int)]) hL _ _ hS2
     refine ⟨_, rfl, _, _, rfl, rfl, ⟨by decide, by decide⟩, _, _, rfl, rfl, (by show (0 : Int) < 6; decide), L, _, _, .int (r : Int), rfl, rfl, SqL.of upd_same, er, S, _, _, rfl, rfl, hSL, ?_, same_upd (s2.trans (same_new hL)) hS0, rows ++ [r], ?_, ?_, ?_, _, _, _, rfl⟩
     ·rw [nV_len]; exact Nat.lt_of_le_of_lt (by omega : rows.length ≤ 24) (by decide)
     ·rw [upd_same]; unfold nV; rw [List.map_append]; rfl
     ·rw [List.length_append, hl]; rfl
     ·intro z hz
      rcases List.mem_append.mp hz with hz | hz
      ·exact hrw z hz
      ·rw [List.mem_singleton.mp hz]; exact lr
  ·rintro σ H2 ⟨s2, rows, hS2, hl, hrw, v6, v7, v8, rfl⟩
   refine ⟨_, rfl, _, rfl, S, _, rfl, .inl ⟨SqL.of hS2, fun q hq => ⟨sz2, fun p hp => ?_⟩⟩⟩
   refine k p q rows _ (s2.trans ((same_new hq).trans (same_new hp))) ⟨upd_same, same_new hp _ _ upd_same⟩ ⟨w1, w24, by omega, by omega, hrw⟩ hl
end
noncomputable def qV (q : Int × Int) : List V := [.int q.1, .int q.2]
structure PlV (H : Hp) (S : Addr) (ps : List Addr) (qs : List (Int × Int)) : Prop where
 top : H S = some (.lst (ps.map V.ref))
 len : ps.length = qs.length
 at_ : ∀ (i : Nat) p q, ps[i]? = some p → qs[i]? = some q → H p = some (.tup (qV q))
noncomputable def plR (r : Nat) (y : Nat) (n : Nat) : List (Int × Int) := ((List.range n).filter fun x => r.testBit x).map fun (x : Nat) => ((x : Int), (y : Int))
noncomputable def plM (wd : Nat) (rows : List Nat) (n : Nat) : List (Int × Int) := (List.range n).flatMap fun y => plR (rows.getD y 0) y wd
theorem plR_succ (r y n : Nat) : plR r y (n + 1) = plR r y n ++ (if r.testBit n then [((n : Int), (y : Int))] else []) := by
 unfold plR
 rw [List.range_succ, List.filter_append, List.map_append]
 congr 1
 by_cases h : r.testBit n = true
 ·rw [if_pos h, List.filter_cons_of_pos h]; rfl
 ·rw [if_neg h, List.filter_cons_of_neg h]; rfl
theorem plM_succ (wd : Nat) (rows : List Nat) (n : Nat) : plM wd rows (n + 1) = plM wd rows n ++ plR (rows.getD n 0) n wd := by
 unfold plM
 rw [List.range_succ, List.flatMap_append, List.flatMap_singleton]
theorem plR_len (r y n : Nat) : (plR r y n).length ≤ n := by
 unfold plR
 rw [List.length_map]
 exact Nat.le_trans (List.length_filter_le _ _) (by rw [List.length_range]; exact Nat.le_refl _)
theorem plM_len (wd : Nat) (rows : List Nat) (n : Nat) : (plM wd rows n).length ≤ n * wd := by
 induction n with
 | zero => exact Nat.zero_le _
 | succ n ih =>
  rw [plM_succ, List.length_append, Nat.succ_mul]
  exact Nat.add_le_add ih (plR_len _ _ _)
theorem PlV.push {H : Hp} {S p : Addr} {ps : List Addr} {qs : List (Int × Int)} {q : Int × Int} (m : PlV H S ps qs) (hp : H p = none) :
  PlV (upd (upd H p (.tup (qV q))) S (.lst ((ps ++ [p]).map V.ref))) S (ps ++ [p]) (qs ++ [q]) := by
 refine ⟨upd_same, by simp [m.len], fun i p' q' h1 h2 => ?_⟩
 have hne : ∀ {z u}, (upd H p (.tup (qV q))) z = some (.tup u) → (upd (upd H p (.tup (qV q))) S (.lst ((ps ++ [p]).map V.ref))) z = some (.tup u) := by
  intro z u hz
  rw [upd_ne]
  ·exact hz
  ·rintro rfl
   rw [same_new hp _ _ m.top] at hz
   cases hz
 refine hne ?_
 by_cases hi : i < ps.length
 ·rw [List.getElem?_append_left hi] at h1
  rw [List.getElem?_append_left (by rw [← m.len]; exact hi)] at h2
  exact same_new hp _ _ (m.at_ i p' q' h1 h2)
 ·rw [List.getElem?_append_right (by omega)] at h1
  rw [List.getElem?_append_right (by rw [← m.len]; omega), ← m.len] at h2
  cases e : i - ps.length with
  | zero =>
   rw [e] at h1 h2
   cases h1; cases h2
   exact upd_same
  | succ n => rw [e] at h1; cases h1
theorem PlV.mono {H H' : Hp} {S : Addr} {ps : List Addr} {qs : List (Int × Int)} (m : PlV H S ps qs) (s : Same H H') : PlV H' S ps qs := ⟨s _ _ m.top, m.len, fun i p q h1 h2 => s _ _ (m.at_ i p q h1 h2)⟩
noncomputable def spPlaces (K : W.Frag) : Sp := fun vs H Q _ => ∃ a b wd rows, vs = [.ref a] ∧ MaskV H a b wd rows ∧ GoodM wd rows ∧ ∀ S ps H', H S = none → Same H H' → PlV H' S ps (plM wd rows rows.length) → Q (.ref S) H'
section
variable {P : Program} {w : World} {K : W.Frag} {mg : Str → Option Value} {base : Heap} {cFE cBP cBC cBS cBM : Addr} {tS tC : Tok}
theorem sc_law_places : FnScope ["_law_mask_here", "_law_found", "_law_y", "_law_rest", "_law_x"] ["_law_mask_here"] (defScope s_law_places) := ⟨rfl, rfl, rfl, by decide +kernel, rfl, by decide +kernel, by decide +kernel⟩
theorem ok__law_places {f : Addr} {fd : FuncData} (F : FunD K "_law_places" "_law_places" s_law_places .none f fd) (T : Txt K mg cFE cBP cBC cBS cBM tS tC) : FnOk P w K mg base CX0 1 f fd ["_law_mask_here"] (spPlaces K) := by
 refine F.ok sc_law_places (fun vs H Q E h => ?_) (fun cdv A outer s H vs Q E hr h => ?_)
 ·obtain ⟨a, b, wd, rows, rfl, _⟩ := h; rfl
 ·obtain ⟨a, b, wd, rows, rfl, m, g, k⟩ := h
  have w24 := g.w24
  have h24 := g.h24
  refine ⟨_, (pss_cons (ps_set (i := 1) sc_law_places.nd rfl (by first | exact Or.inl rfl | exact Or.inr rfl) (pe_lst pa_nil))
    (pss_cons (ps_for PassesOwn.never rfl (pi_range1 rfl T.range (pa_cons (pe_callB (lenK K rfl) rfl T.len PySem.boot_len (pa_cons (pe_ix (ixTK K rfl) (pv 0) pe_int (fun _ _ => rfl)) pa_nil)) pa_nil)) (pg_name (i := 2) sc_law_places.nd rfl (by first | exact Or.inl rfl | exact Or.inr rfl)) (pss_cons (ps_set (i := 3) sc_law_places.nd rfl (by first | exact Or.inl rfl | exact Or.inr rfl) (pe_ix (ixTK K rfl) (pe_ix (ixTK K rfl) (pv 0) pe_int (fun _ _ => rfl)) (pv 2) (fun _ _ => rfl)))
    (pss_one (ps_for PassesOwn.never rfl (pi_range1 rfl T.range (pa_cons (pe_ix (ixTK K rfl) (pv 0) pe_int (fun _ _ => rfl)) pa_nil)) (pg_name (i := 4) sc_law_places.nd rfl (by first | exact Or.inl rfl | exact Or.inr rfl)) (pss_cons (ps_if (pt_cmpR op_eq (pe_op op_mod (pv 3) pe_int) pe_int (nomark _)) (pss_one (ps_expr (pe_bm PySem.F.plainAttrs_list PySem.F.slot_list_append PySem.F.type_list_append mt_append (pv 1) (pa_cons (pe_tup (pa_cons (pv 4) (pa_cons (pv 2) pa_nil))) pa_nil)))) pss_nil)
    (pss_one (ps_set (i := 3) sc_law_places.nd rfl (by first | exact Or.inl rfl | exact Or.inr rfl) (pe_op op_fdiv (pv 3) pe_int))))))))
    (pss_one (ps_ret (pv 1))))), ?_⟩
  refine ⟨Nat.zero_le _, fun S hS0 => ?_⟩
  have s1 : Same H (upd H S (.lst [])) := same_new hS0
  have m1 := m.mono s1
  refine ⟨_, rfl, a, _, _, .ref b, rfl, rfl, SqT.of m1.top, atI_nat (j := 1) rfl, b, _, rfl, .inr (SqT.of m1.row), _, rfl, by rw [nV_len]; omega, by rw [nV_len]; omega, ?_⟩
  rw [nV_len, Int.toNat_natCast]
  refine for_range (fun i σ H2 => Same H H2 ∧ ∃ ps, PlV H2 S ps (plM wd rows i) ∧ ∃ v2 v3 v4, σ = [some (.ref a), some (.ref S), v2, v3, v4]) ⟨s1, [], ⟨upd_same, rfl, fun _ _ _ h => nomatch h⟩, _, _, _, rfl⟩ ?_ ?_
  ·rintro i σ H2 hi2 ⟨s2, ps, pl, v2, v3, v4, rfl⟩
   have m2 := m.mono s2
   have er : rows[i]? = some (rows.getD i 0) := by simp [List.getD, List.getElem?_eq_getElem hi2]
   have ea : atI (nV rows) (0 + (i : Int)) = some (.int (rows.getD i 0 : Nat)) := by rw [Int.zero_add]; exact atI_nat (nV_at er)
   refine ⟨_, rfl, a, _, _, .ref b, rfl, rfl, SqT.of m2.top, atI_nat (j := 1) rfl, _, rfl, b, _, _, .int (rows.getD i 0 : Nat), rfl, rfl, SqT.of m2.row, ea, ?_⟩
   refine ⟨_, rfl, a, _, _, .int (wd : Int), rfl, rfl, SqT.of m2.top, atI_nat (j := 0) rfl, _, rfl, by omega, by omega, ?_⟩
   rw [Int.toNat_natCast]
   refine for_range (fun j σ H3 => Same H H3 ∧ ∃ ps, PlV H3 S ps (plM wd rows i ++ plR (rows.getD i 0) i j) ∧ ∃ v4, σ = [some (.ref a), some (.ref S), some (.int (0 + (i : Int))), some (.int (rows.getD i 0 / 2 ^ j : Nat)), v4]) ⟨s2, ps, ?_, v4, ?_⟩ ?_ ?_
   ·simpa [plR] using pl
   ·rw [Nat.pow_zero, Nat.div_one]; rfl
   ·rintro j σ H3 hj ⟨s3, ps3, pl3, v4, rfl⟩
    have eb : (rows.getD i 0).testBit j = decide (rows.getD i 0 / 2 ^ j % 2 = 1) := Nat.testBit_eq_decide_div_mod_eq
    have eh : ((rows.getD i 0 / 2 ^ j : Nat) : Int) / 2 = ((rows.getD i 0 / 2 ^ (j + 1) : Nat) : Int) := by
     rw [Nat.pow_succ, ← Nat.div_div_eq_div_mul]; omega
    refine ⟨_, rfl, _, _, rfl, rfl, (by show (0 : Int) < 2; decide), rfl, _, rfl, ite2 (fun hc => ?_) (fun hc => ?_)⟩
    ·have hc' : ((rows.getD i 0 / 2 ^ j : Nat) : Int) % 2 = 1 := by have := of_decide_eq_true hc; injection this
     have ht : (rows.getD i 0).testBit j = true := by rw [eb]; exact decide_eq_true (by omega)
     refine ⟨_, rfl, .inl ⟨rfl, _, SqL.of pl3.top⟩, _, rfl, _, rfl, sz2, fun p hp => ?_⟩
     have np := pl3.push (q := ((0 : Int) + (j : Int), (0 : Int) + (i : Int))) hp
     refine ⟨S, _, _, rfl, rfl, same_new hp _ _ pl3.top, ?_, _, rfl, _, _, rfl, rfl, ⟨by decide, by decide⟩, same_upd (s3.trans (same_new hp)) hS0, ps3 ++ [p], ?_, some (.int (0 + (j : Int))), ?_⟩
     ·rw [List.length_map, pl3.len, List.length_append]
      have := plM_len wd rows i
      have := plR_len (rows.getD i 0) i j
      have : i * wd ≤ 24 * 24 := Nat.mul_le_mul (by omega) (by omega)
      exact Nat.lt_of_le_of_lt (by omega : _ ≤ 24 * 24 + 24) (by decide)
     ·rw [plR_succ, if_pos ht, ← List.append_assoc]
      have eq : [((j : Int), (i : Int))] = [((0 : Int) + (j : Int), (0 : Int) + (i : Int))] := by rw [Int.zero_add, Int.zero_add]
      rw [List.map_append] at np
      rw [eq]
      exact np
     ·rw [← eh]; rfl
    ·have hc' : ¬ ((rows.getD i 0 / 2 ^ j : Nat) : Int) % 2 = 1 := fun z => hc (decide_eq_true (congrArg V.int z))
     have ht : ¬ (rows.getD i 0).testBit j = true := by rw [eb]; exact fun z => hc' (by have := of_decide_eq_true z; omega)
     refine ⟨_, rfl, _, _, rfl, rfl, ⟨by decide, by decide⟩, s3, ps3, ?_, some (.int (0 + (j : Int))), ?_⟩
     ·rw [plR_succ, if_neg ht, List.append_nil]; exact pl3
     ·rw [← eh]; rfl
   ·rintro σ H3 ⟨s3, ps3, pl3, v4, rfl⟩
    rw [← plM_succ] at pl3
    exact ⟨s3, ps3, pl3, _, _, _, rfl⟩
  ·rintro σ H2 ⟨s2, ps, pl, v2, v3, v4, rfl⟩
   exact ⟨_, rfl, k S ps H2 hS0 s2 pl⟩
end
noncomputable def msum (qs : List (Int × Int)) (y : Nat) : Nat := ((qs.filter fun q => decide (q.2 = (y : Int))).map fun q => 2 ^ q.1.toNat).sum
noncomputable def sumM (qs : List (Int × Int)) (hi : Nat) : List Nat := (List.range hi).map (msum qs)
theorem msum_snoc (l : List (Int × Int)) (q : Int × Int) (y : Nat) : msum (l ++ [q]) y = msum l y + if q.2 = (y : Int) then 2 ^ q.1.toNat else 0 := by
 unfold msum
 rw [List.filter_append, List.map_append, List.sum_append]
 congr 1
 by_cases h : q.2 = (y : Int)
 ·rw [if_pos h]; simp [List.filter, h]
 ·rw [if_neg h]; simp [List.filter, h]
theorem sumM_len (qs : List (Int × Int)) (hi : Nat) : (sumM qs hi).length = hi := by simp [sumM]
theorem sumM_snoc (l : List (Int × Int)) (q : Int × Int) (y hi : Nat) (hy : q.2 = (y : Int)) : (sumM l hi).set y (msum l y + 2 ^ q.1.toNat) = sumM (l ++ [q]) hi := by
 refine List.ext_getElem (by simp [sumM]) fun n h1 h2 => ?_
 rw [List.getElem_set]
 simp only [sumM, List.getElem_map, List.getElem_range]
 rw [msum_snoc]
 by_cases h : y = n
 ·subst h; rw [if_pos rfl, if_pos hy]
 ·rw [if_neg h, if_neg (by omega), Nat.add_zero]
theorem nV_set (rows : List Nat) (y v : Nat) : (nV rows).set y (.int (v : Int)) = nV (rows.set y v) := by unfold nV; rw [List.map_set]
noncomputable def spMaskBy (K : W.Frag) : Sp := fun vs H Q _ => ∃ S ps qs, ∃ wd hi : Nat, vs = [.ref S, .int wd, .int hi] ∧ PlV H S ps qs ∧ (∀ q ∈ qs, 0 ≤ q.1 ∧ q.1 ≤ 1000 ∧ 0 ≤ q.2 ∧ q.2 < hi) ∧ hi ≤ 24 ∧ ∀ p q H', Same H H' → MaskV H' p q wd (sumM qs hi) → Q (.ref p) H'
theorem ixN_nat {n j : Nat} (h : j < n) : ixN n (j : Int) = some j := by
 unfold ixN
 rw [if_pos (by omega), if_pos (by omega), Int.toNat_natCast]
theorem refAt {ps : List Addr} {i : Nat} {x : V} (h : (ps.map V.ref)[i]? = some x) : ∃ p, ps[i]? = some p ∧ x = .ref p := by
 rw [List.getElem?_map] at h
 cases e : ps[i]? with
 | none => rw [e] at h; cases h
 | some p => rw [e] at h; cases h; exact ⟨p, rfl, rfl⟩
theorem flat_rep (hi : Nat) : (List.replicate hi [V.int 0]).flatten = nV (sumM [] hi) := by
 have e1 : ∀ k, (List.replicate k [V.int 0]).flatten = List.replicate k (V.int 0) := fun k => by
  induction k with
  | zero => rfl
  | succ k ih => rw [List.replicate_succ, List.flatten_cons, ih, List.replicate_succ]; rfl
 rw [e1]
 unfold nV sumM
 rw [List.map_map]
 refine (List.eq_replicate_iff.mpr ⟨by simp, fun b hb => ?_⟩).symm
 obtain ⟨y, _, rfl⟩ := List.mem_map.mp hb
 rfl
section
variable {P : Program} {w : World} {K : W.Frag} {mg : Str → Option Value} {base : Heap} {cFE cBP cBC cBS cBM : Addr} {tS tC : Tok}
theorem sc_law_mask_by : FnScope ["_law_places_here", "_law_wide", "_law_high", "_law_rows", "_law_x", "_law_y"] ["_law_places_here", "_law_wide", "_law_high"] (defScope s_law_mask_by) := ⟨rfl, rfl, rfl, by decide +kernel, rfl, by decide +kernel, by decide +kernel⟩
theorem ok__law_mask_by {f : Addr} {fd : FuncData} (F : FunD K "_law_mask_by" "_law_mask_by" s_law_mask_by .none f fd) (T : Txt K mg cFE cBP cBC cBS cBM tS tC) (g__law_power : Def P w K mg base 1 "_law_power" ["_law_place"] [] spPower) : FnOk P w K mg base CX0 2 f fd ["_law_places_here", "_law_wide", "_law_high"] (spMaskBy K) := by
 refine F.ok sc_law_mask_by (fun vs H Q E h => ?_) (fun cdv A outer s H vs Q E hr h => ?_)
 ·obtain ⟨S, ps, qs, wd, hi, rfl, _⟩ := h; rfl
 ·obtain ⟨S, ps, qs, wd, hi, rfl, pl, hq, h24, k⟩ := h
  refine ⟨_, (pss_cons (ps_set (i := 3) sc_law_mask_by.nd rfl (by first | exact Or.inl rfl | exact Or.inr rfl) (pe_op op_rep (pe_lst (pa_cons pe_int pa_nil)) (pv 2)))
    (pss_cons (ps_for PassesOwn.never rfl (piK K rfl (pv 0)) (pg_tup rfl (pgs_cons (pg_name (i := 4) sc_law_mask_by.nd rfl (by first | exact Or.inl rfl | exact Or.inr rfl)) (pgs_cons (pg_name (i := 5) sc_law_mask_by.nd rfl (by first | exact Or.inl rfl | exact Or.inr rfl)) pgs_nil))) (pss_one (ps_asg (pe_op op_add (pe_ix (ixK K rfl) (pv 3) (pv 5) (fun _ _ => rfl)) (pe_callD g__law_power (hr.mono (by decide)) rfl (pa_cons (pv 4) pa_nil))) (pg_sub (pv 3) (pv 5) set_list))))
    (pss_one (ps_ret (pe_tup (pa_cons (pv 1) (pa_cons (pe_callTy call_tuple_of rfl T.tuple PyProof.Rows.boot_tuple (pa_cons (pv 3) pa_nil)) pa_nil))))))), ?_⟩
  refine ⟨sz1, fun L hL => ?_⟩
  refine ⟨_, rfl, L, _, _, rfl, rfl, upd_same, by omega, by omega, ?_, fun D hD => ?_⟩
  ·rw [Int.toNat_natCast]; exact Nat.le_trans (by show 1 * hi ≤ 24; omega) (by decide)
  have hD0 : H D = none := by
   cases e : H D with
   | none => rfl
   | some o => rw [same_new hL _ _ e] at hD; cases hD
  have s1 : Same H (upd (upd H L (.lst [.int 0])) D (.lst (List.replicate (hi : Int).toNat [V.int 0]).flatten)) := (same_new hL).trans (same_new hD)
  refine ⟨_, rfl, S, rfl, ⟨_, SqL.of (s1 _ _ pl.top)⟩, ?_⟩
  refine for_list (xs := ps.map V.ref) (fun i σ H2 => Same H H2 ∧ H2 D = some (.lst (nV (sumM (qs.take i) hi))) ∧ ∃ v4 v5, σ = [some (.ref S), some (.int wd), some (.int hi), some (.ref D), v4, v5]) ⟨s1, ?_, _, _, rfl⟩ (fun i σ H2 _ q => SqL.of (q.1 _ _ pl.top)) ?_ ?_
  ·rw [upd_same, Int.toNat_natCast]
   rw [flat_rep]; rfl
  ·rintro i x σ H2 hx ⟨s2, hD2, v4, v5, rfl⟩
   obtain ⟨p, hp, rfl⟩ := refAt hx
   have hi2 : i < qs.length := by rw [← pl.len]; exact (List.getElem?_eq_some_iff.mp hp).1
   have eq := List.getElem?_eq_getElem hi2
   have hpt := s2 _ _ (pl.at_ i p _ hp eq)
   have hb := hq _ (List.getElem_mem hi2)
   generalize hqq : qs[i] = q at eq hpt hb
   obtain ⟨qx, qy⟩ := q
   obtain ⟨b1, b2, b3, b4⟩ := hb
   obtain ⟨x, rfl⟩ := Int.eq_ofNat_of_zero_le b1
   obtain ⟨y, rfl⟩ := Int.eq_ofNat_of_zero_le b3
   have hyl : y < hi := by have : (y : Int) < hi := b4; omega
   have hxl : x ≤ 1000 := by have : (x : Int) ≤ 1000 := b2; omega
   have ge : (sumM (qs.take i) hi)[y]? = some (msum (qs.take i) y) := by
    unfold sumM; rw [List.getElem?_map, List.getElem?_range hyl]; rfl
   have hlen : y < (nV (sumM (qs.take i) hi)).length := by rw [nV_len, sumM_len]; exact hyl
   refine ⟨p, _, rfl, SqT.of hpt, rfl, ?_⟩
   refine ⟨_, _, rfl, _, _, rfl, ?_⟩
   refine ⟨rfl, _, rfl, _, rfl, D, _, _, _, rfl, rfl, SqL.of hD2, atI_nat (nV_at ge), _, rfl, x, rfl, hxl, _, _, rfl, rfl, _, rfl, _, rfl, D, _, _, y, rfl, rfl, hD2, ixN_nat hlen, same_upd s2 hD0, ?_, _, _, rfl⟩
   rw [upd_same, List.take_add_one, eq]
   have := sumM_snoc (qs.take i) ((x : Int), (y : Int)) y hi rfl
   show some (HO.lst ((nV (sumM (qs.take i) hi)).set y (.int ((msum (qs.take i) y : Int) + (2 ^ x : Nat))))) = some (HO.lst (nV (sumM (qs.take i ++ [((x : Int), (y : Int))]) hi)))
   rw [← this]
   have e : ((msum (qs.take i) y : Nat) : Int) + ((2 ^ x : Nat) : Int) = ((msum (qs.take i) y + 2 ^ x : Nat) : Int) := by omega
   rw [e, nV_set]; rfl
  ·rintro σ H2 ⟨s2, hD2, v4, v5, rfl⟩
   rw [List.length_map, pl.len, List.take_length] at hD2
   refine ⟨_, rfl, _, rfl, D, _, rfl, .inl ⟨SqL.of hD2, fun q hq => ⟨sz2, fun p hp => ?_⟩⟩⟩
   exact k p q _ (s2.trans ((same_new hq).trans (same_new hp))) ⟨upd_same, same_new hp _ _ upd_same⟩
end
theorem eq_mask {K : W.Frag} {H : Hp} {a b c d : Addr} {wd : Nat} {rows : List Nat} (h1 : MaskV H a b wd rows) (h2 : MaskV H c d wd rows) : EqL K H (EqD K H 1) a c true := by
 refine ⟨_, _, .inr ⟨.inr ⟨SqT.of h1.top, SqT.of h2.top⟩, rfl, fun _ => true, fun i x y e1 e2 => ?_, rfl⟩⟩
 match i, e1, e2 with
 | 0, e1, e2 => cases e1; cases e2; exact .inl (.inr ⟨rfl, rfl, by simp [eqV]⟩)
 | 1, e1, e2 =>
  cases e1; cases e2
  by_cases e : b = d
  ·subst e; exact .inl (.inl ⟨b, rfl, rfl, rfl⟩)
  ·exact .inr ⟨b, d, rfl, rfl, e, EqL.same (.inr ⟨SqT.of h1.row, SqT.of h2.row⟩) fun z hz => by
    obtain ⟨r, _, rfl⟩ := List.mem_map.mp hz
    exact .inl rfl⟩
 | i + 2, e1, e2 => cases e1
noncomputable def spSameM (K : W.Frag) : Sp := fun vs H Q _ => ∃ a b c d wd rows, vs = [.ref a, .ref c] ∧ MaskV H a b wd rows ∧ MaskV H c d wd rows ∧ GoodM wd rows ∧ ∀ H', Same H H' → Q (.bl true) H'
section
variable {P : Program} {w : World} {K : W.Frag} {mg : Str → Option Value} {base : Heap} {cFE cBP cBC cBS cBM : Addr} {tS tC : Tok}
theorem sc_law_same_mask : FnScope ["_law_found", "_law_due"] ["_law_found", "_law_due"] (defScope s_law_same_mask) := ⟨rfl, rfl, rfl, by decide +kernel, rfl, by decide +kernel, by decide +kernel⟩
theorem ok__law_same_mask {f : Addr} {fd : FuncData} (F : FunD K "_law_same_mask" "_law_same_mask" s_law_same_mask .none f fd) (T : Txt K mg cFE cBP cBC cBS cBM tS tC) (g__law_whole : Def P w K mg base 1 "_law_whole" ["_law_found"] [] spWhole) : FnOk P w K mg base CX0 4 f fd ["_law_found", "_law_due"] (spSameM K) := by
 refine F.ok sc_law_same_mask (fun vs H Q E h => ?_) (fun cdv A outer s H vs Q E hr h => ?_)
 ·obtain ⟨a, b, c, d, wd, rows, rfl, _⟩ := h; rfl
 ·obtain ⟨a, b, c, d, wd, rows, rfl, m1, m2, g, k⟩ := h
  have hu : _ + 64 < cLine := hr.units
  have h24 := g.h24
  refine ⟨_, (pss_cons (ps_if (PW.pt (pw_or (pt_not (pt_val (isiK K rfl (pv 0) rfl T.isinstance rfl T.tuple PyProof.Rows.boot_tuple))) (pw_or (pt_cmpR (neDK K rfl hu) (pv 0) (pv 1) (nomark _)) (pw_or1 (pt_not (pt_val (isiK K rfl (pe_ix (ixTK K rfl) (pv 0) pe_int (fun _ _ => rfl)) rfl T.isinstance rfl T.tuple PyProof.Rows.boot_tuple))))))) (pss_one (ps_ret pe_bl)) pss_nil)
    (pss_one (ps_ret (pe_and (pe_callD g__law_whole (hr.mono (by decide)) rfl (pa_cons (pe_ix (ixTK K rfl) (pv 0) pe_int (fun _ _ => rfl)) pa_nil)) (pe_one (pe_callB (allK K rfl rfl) rfl T.all PyProof.Rows.boot_all (pa_cons (pe_comp (N := ["_law_row"]) (src := [none]) rfl ⟨rfl, rfl, rfl, rfl, rfl, by decide +kernel⟩ (piTK K rfl (pe_ix (ixTK K rfl) (pv 0) pe_int (fun _ _ => rfl))) (fun s H C fp => pg_name (i := 0) (show (["_law_row"] : List Str).Nodup by decide +kernel) rfl (by first | exact Or.inl rfl | exact Or.inr rfl)) (fun s H C fp => pts_nil) (fun s H C fp => (pe_callD g__law_whole (hr.mono (by decide)) rfl (pa_cons (pv 0) pa_nil)))) pa_nil))))))), ?_⟩
  refine ⟨_, rfl, true, isTup_tup m1.top, _, rfl, ⟨_, rfl, _, rfl, 1, a, c, true, by decide, rfl, rfl, eq_mask m1 m2, _, rfl, ⟨_, rfl, a, _, _, .ref b, rfl, rfl, SqT.of m1.top, atI_nat (j := 1) rfl, true, isTup_tup m1.row, _, rfl, ?_⟩⟩⟩
  refine ⟨_, rfl, a, _, _, .int (wd : Int), rfl, rfl, SqT.of m1.top, atI_nat (j := 0) rfl, _, rfl, _, rfl, ⟨_, rfl, a, _, _, .ref b, rfl, rfl, SqT.of m1.top, atI_nat (j := 1) rfl, b, rfl, ⟨_, SqT.of m1.row⟩, fun D hD => ?_⟩⟩
  refine comp_fm (k := 0) (fun y => .bl true) (fun _ => true) (src_tup m1.row) (by rw [nV_len]; exact Nat.le_trans h24 (by decide)) hD (fun x _ H' Qb _ kk => kk H' (Same.refl _)) (fun y hy _ H' Q' sm kk => ?_) fun H1 s1 hD1 => ?_
  ·obtain ⟨r, _, rfl⟩ := List.mem_map.mp hy
   exact ⟨_, rfl, _, rfl, kk H' (Same.refl _)⟩
  ·refine ⟨D, (nV rows).map (fun _ => true), rfl, SqL.of (by rw [hD1, filter_t, List.map_map]; rfl), ?_⟩
   have e : ((nV rows).map fun _ => true).all id = true := by simp
   have k1 := k H1 s1
   rw [← e] at k1
   exact k1
end
end K8
namespace L2
open PySem
theorem catAK {X : Cx} (K : W.Frag) (h : X.K = K) : OpR X (binaryOp .Add) (rCatA K) := by subst h; exact op_catA
theorem repTK {X : Cx} (K : W.Frag) (h : X.K = K) : OpR X (binaryOp .Mult) (rRepT K) := by subst h; exact op_repT
theorem slTK {X : Cx} (K : W.Frag) (h : X.K = K) : SlR X (rSlT K) := by subst h; exact sl_tup
theorem catA_of {K : W.Frag} {H : Hp} {Q : VK} {a b : Addr} {xs ys : List V} (ha : H a = some (.tup xs)) (hb : H b = some (.tup ys)) (hz : xs.length + ys.length ≤ sizeLine)
  (h : ∀ c H2, Same H H2 → H2 c = some (.tup (xs ++ ys)) → Q (.ref c) H2) : rCatA K (.ref a) (.ref b) H Q := by
 refine ⟨a, b, xs, ys, rfl, rfl, SqT.of ha, SqT.of hb, hz, fun e => ?_, fun _ e => ?_, fun _ _ p hp => h p _ (same_new hp) upd_same⟩
 ·subst e; exact h b H (Same.refl H) hb
 ·subst e; exact h a H (Same.refl H) (by rw [List.append_nil]; exact ha)
end L2
namespace K8
open PySem L2 M4
structure It (K : W.Frag) (H : Hp) (x : V) : Prop where
 kd : Kd K H x
 it : ∀ ys, tupOf H x = some ys → ys.length ≤ 100000 ∧ ∀ y ∈ ys, Kd K H y
structure BadT (K : W.Frag) (H : Hp) (v : V) : Prop where
 tm : Tm K H v
 no : maskB H v = false
section
variable {K : W.Frag} {H H' : Hp}
theorem tupOf_mono {x : V} (k : Kd K H x) (s : Same H H') : tupOf H' x = tupOf H x := by
 cases k with
 | lst e => simp only [tupOf, e, s _ _ e]
 | tup e => simp only [tupOf, e, s _ _ e]
 | dict e => simp only [tupOf, e, s _ _ e]
 | _ => rfl
theorem maskB_mono {v : V} (t : Tm K H v) (s : Same H H') : maskB H' v = maskB H v := by
 unfold maskB
 rw [tupOf_mono t.kd s]
 cases h : tupOf H v with
 | none => rfl
 | some xs =>
  match xs, h with
  | [], _ => rfl
  | [_], _ => rfl
  | [w, r], h => dsimp only; rw [tupOf_mono (t.it _ h r (by simp)) s]
  | _ :: _ :: _ :: _, _ => rfl
theorem Tm.mono {v : V} (t : Tm K H v) (s : Same H H') : Tm K H' v := by
 refine ⟨t.kd.mono s, fun xs e x hx => ?_, fun xs e x hx ys e2 => ?_⟩
 ·rw [tupOf_mono t.kd s] at e
  exact (t.it xs e x hx).mono s
 ·rw [tupOf_mono t.kd s] at e
  rw [tupOf_mono (t.it xs e x hx) s] at e2
  have := t.it2 xs e x hx ys e2
  exact ⟨this.1, fun y hy => (this.2 y hy).mono s⟩
theorem BadT.mono {v : V} (b : BadT K H v) (s : Same H H') : BadT K H' v := ⟨b.tm.mono s, by rw [maskB_mono b.tm s]; exact b.no⟩
theorem it_leaf {x : V} (k : Kd K H x) (h : tupOf H x = none) : It K H x := ⟨k, fun ys e => by rw [h] at e; cases e⟩
theorem it_int (i : Int) : It K H (.int i) := it_leaf (.int i) rfl
theorem it_tup {a : Addr} {ys : List V} (e : H a = some (.tup ys)) (hl : ys.length ≤ 100000) (hk : ∀ y ∈ ys, Kd K H y) : It K H (.ref a) := ⟨.tup e, fun zs e2 => by rw [tupOf_tup e] at e2; cases e2; exact ⟨hl, hk⟩⟩
theorem it_rows {a b : Addr} {wd : Nat} {rows : List Nat} (m : MaskV H a b wd rows) (g : GoodM wd rows) : It K H (.ref b) := by
 have t := tm_mask (K := K) m g
 exact ⟨t.it _ (tupOf_tup m.top) _ (by simp), fun ys e => t.it2 _ (tupOf_tup m.top) _ (by simp) ys e⟩
theorem tm_tup {p : Addr} {xs : List V} (e : H p = some (.tup xs)) (hi : ∀ x ∈ xs, It K H x) : Tm K H (.ref p) := by
 refine ⟨.tup e, fun ys e2 x hx => ?_, fun ys e2 x hx zs e3 => ?_⟩
 ·rw [tupOf_tup e] at e2; cases e2; exact (hi x hx).kd
 ·rw [tupOf_tup e] at e2; cases e2; exact (hi x hx).it zs e3
theorem badL {v : V} (k : Kd K H v) (h : tupOf H v = none) : BadT K H v := ⟨⟨k, fun xs e => (by rw [h] at e; cases e), fun xs e => (by rw [h] at e; cases e)⟩, by unfold maskB; rw [h]⟩
theorem badN {p : Addr} {xs : List V} (e : H p = some (.tup xs)) (hi : ∀ x ∈ xs, It K H x) (hl : xs.length ≠ 2) : BadT K H (.ref p) := by
 refine ⟨tm_tup e hi, ?_⟩
 unfold maskB
 rw [tupOf_tup e]
 match xs, hl with
 | [], _ => rfl
 | [_], _ => rfl
 | [_, _], h => exact absurd rfl h
 | _ :: _ :: _ :: _, _ => rfl
theorem bad2 {p : Addr} {v r : V} (e : H p = some (.tup [v, r])) (iv : It K H v) (ir : It K H r) (hb : isWh 1 24 v = false ∨ tupOf H r = none ∨ ∃ ys, tupOf H r = some ys ∧ (isWh 1 24 (.int (ys.length : Int)) = false ∨ ys.all (isWh 0 (fullI v)) = false)) : BadT K H (.ref p) := by
 refine ⟨tm_tup e (fun x hx => ?_), ?_⟩
 ·simp only [List.mem_cons, List.not_mem_nil, or_false] at hx
  rcases hx with rfl | rfl
  ·exact iv
  ·exact ir
 ·unfold maskB
  rw [tupOf_tup e]
  dsimp only
  rcases hb with h | h | ⟨ys, h1, h | h⟩
  ·rw [h, Bool.false_and]
  ·rw [h, Bool.and_false]
  ·rw [h1]; dsimp only; rw [h, Bool.false_and, Bool.and_false]
  ·rw [h1]; dsimp only; rw [h, Bool.and_false, Bool.and_false]
noncomputable def BadL (K : W.Frag) (H : Hp) (vs : List V) : Prop := ∀ v ∈ vs, BadT K H v
theorem BadL.mono {vs : List V} (b : BadL K H vs) (s : Same H H') : BadL K H' vs := fun v hv => (b v hv).mono s
theorem BadL.snoc {vs : List V} {v : V} (b : BadL K H vs) (h : BadT K H v) : BadL K H (vs ++ [v]) := fun x hx => by
 rcases List.mem_append.mp hx with hx | hx
 ·exact b x hx
 ·rw [List.mem_singleton.mp hx]; exact h
theorem cutV_mem {xs : List V} {lo hi : Option Int} {y : V} (h : y ∈ cutV xs lo hi) : y ∈ xs := List.mem_of_mem_drop (List.mem_of_mem_take h)
theorem nV_kd {rows : List Nat} {y : V} (h : y ∈ nV rows) : Kd K H y := by
 obtain ⟨r, _, rfl⟩ := List.mem_map.mp h
 exact .int _
end
noncomputable def spWrong (K : W.Frag) : Sp := fun vs H Q _ => ∃ (n : Nat) (a b : Addr) (wd : Nat) (rows : List Nat), vs = [.int n, .ref a] ∧ MaskV H a b wd rows ∧ GoodM wd rows ∧ ∀ v H', Same H H' → BadT K H' v → Q v H'
open M5
theorem and_one (x : Int) : Builtin.bitAnd x 1 = x % 2 := W.kbt_mask x 1
theorem or_nat (a b : Nat) : Builtin.bitOr (a : Int) (b : Int) = ((a ||| b : Nat) : Int) := by
 unfold Builtin.bitOr Builtin.bitAnd Builtin.bitNot
 have h1 : decide (0 ≤ -(a : Int) - 1) = false := decide_eq_false (by omega)
 have h2 : decide (0 ≤ -(b : Int) - 1) = false := decide_eq_false (by omega)
 rw [h1, h2]
 dsimp only
 have e1 : (-(-(a : Int) - 1) - 1).toNat = a := by omega
 have e2 : (-(-(b : Int) - 1) - 1).toNat = b := by omega
 rw [e1, e2]
 omega
theorem and_nat (a b : Nat) : Builtin.bitAnd (a : Int) (b : Int) = ((a &&& b : Nat) : Int) := by
 unfold Builtin.bitAnd
 have h1 : decide (0 ≤ (a : Int)) = true := decide_eq_true (by omega)
 have h2 : decide (0 ≤ (b : Int)) = true := decide_eq_true (by omega)
 rw [h1, h2]
 rfl
theorem bit_val (n p : Nat) : decide (V.int (Builtin.bitAnd ((n : Int) / 2 ^ ((p : Int)).toNat) 1) = V.int 1) = n.testBit p := by
 rw [and_one, dec_int, Int.toNat_natCast]
 have e : ((n : Int) / 2 ^ p) % 2 = ((n / 2 ^ p % 2 : Nat) : Int) := by simp
 rw [e, Nat.testBit_eq_decide_div_mod_eq]
 generalize n / 2 ^ p % 2 = z
 by_cases h : z = 1
 ·subst h; rfl
 ·rw [decide_eq_false h]
  exact beq_eq_false_iff_ne.mpr (by omega)
noncomputable def spBitAt : Sp := fun vs H Q _ => ∃ n p : Nat, vs = [.int n, .int p] ∧ Q (.bl (n.testBit p)) H
section
variable {P : Program} {w : World} {K : W.Frag} {mg : Str → Option Value} {base : Heap} {cFE cBP cBC cBS cBM : Addr} {tS tC : Tok}
theorem sc_bit_at : FnScope ["number", "place"] ["number", "place"] (defScope s_bit_at) := ⟨rfl, rfl, rfl, by decide +kernel, rfl, by decide +kernel, by decide +kernel⟩
theorem ok_bit_at {f : Addr} {fd : FuncData} (F : FunD K "bit_at" "bit_at" s_bit_at .none f fd) : FnOk P w K mg base CX0 1 f fd ["number", "place"] spBitAt := by
 refine F.ok sc_bit_at (fun vs H Q E h => ?_) (fun cdv A outer s H vs Q E hr h => ?_)
 ·obtain ⟨n, p, rfl, _⟩ := h; rfl
 ·obtain ⟨n, p, rfl, k⟩ := h
  refine ⟨_, pss_one (ps_ret (pe_cmpR op_eq (pe_op op_and (pe_op op_shr (pv 0) (pv 1)) pe_int) pe_int (nomark _))), ?_⟩
  refine ⟨_, rfl, _, rfl, _, _, rfl, rfl, (by show (0 : Int) ≤ (p : Int); omega), _, _, rfl, rfl, rfl, ?_⟩
  show Q (.bl (decide (V.int (Builtin.bitAnd ((n : Int) / 2 ^ ((p : Int)).toNat) 1) = V.int 1))) H
  rw [bit_val]
  exact k
end
noncomputable def spLike (K : W.Frag) (cBS : Addr) : Sp := fun vs H Q E => ∃ (a b : Addr) (w1 h1 w2 h2 : Nat), vs = [.ref a, .ref b] ∧ H a = some (.tup [.int (w1 : Int), .int (h1 : Int)]) ∧ H b = some (.tup [.int (w2 : Int), .int (h2 : Int)]) ∧ (w1 = w2 ∧ h1 = h2 → Q .non H) ∧ (¬ (w1 = w2 ∧ h1 = h2) → E (.ref cBS) none H)
noncomputable def spSizeM (K : W.Frag) (cBM : Addr) : Sp := fun vs H Q E => ∃ v, vs = [v] ∧ ((∃ a b wd rows, v = .ref a ∧ MaskV H a b wd rows ∧ GoodM wd rows ∧ ∀ p H', Same H H' → H' p = some (.tup [.int (wd : Int), .int (rows.length : Int)]) → Q (.ref p) H') ∨ (Tm K H v ∧ maskB H v = false ∧ ∀ H', Same H H' → E (.ref cBM) none H'))
section
variable {P : Program} {w : World} {K : W.Frag} {mg : Str → Option Value} {base : Heap} {cFE cBP cBC cBS cBM : Addr} {tS tC : Tok}
theorem sc_need_like_sizes : FnScope ["one", "other"] ["one", "other"] (defScope s_need_like_sizes) := ⟨rfl, rfl, rfl, by decide +kernel, rfl, by decide +kernel, by decide +kernel⟩
theorem ok_need_like_sizes {f : Addr} {fd : FuncData} (F : FunD K "need_like_sizes" "need_like_sizes" s_need_like_sizes .none f fd) (T : Txt K mg cFE cBP cBC cBS cBM tS tC) : FnOk P w K mg base (CX1 P w) 1 f fd ["one", "other"] (spLike K cBS) := by
 refine F.okX sc_need_like_sizes (fun vs H Q E h => ?_) (fun cdv A outer s H vs Q E hr h => ?_)
 ·obtain ⟨a, b, w1, h1, w2, h2, rfl, _⟩ := h; rfl
 ·obtain ⟨a, b, w1, h1, w2, h2, rfl, ea, eb, kY, kN⟩ := h
  have hu : _ + 64 < cLine := hr.units
  refine ⟨_, (pss_one (ps_if (pt_cmpR (neDK K rfl hu) (pv 0) (pv 1) (nomark _)) (pss_one (ps_raise rfl raises1 rfl T.BadSize T.xBadSize (pa_cons pe_str pa_nil))) pss_nil)), ?_⟩
  have e1 : SqT K H a ([(w1 : Int), (h1 : Int)].map V.int) := SqT.of ea
  have e2 : SqT K H b ([(w2 : Int), (h2 : Int)].map V.int) := SqT.of eb
  refine ⟨_, rfl, _, rfl, 0, a, b, _, by decide, rfl, rfl, EqL.intsT e1 e2 rfl, _, rfl, ?_⟩
  by_cases hz : w1 = w2 ∧ h1 = h2
  ·obtain ⟨rfl, rfl⟩ := hz
   rw [decide_eq_true rfl]
   exact kY ⟨rfl, rfl⟩
  ·rw [decide_eq_false (fun z => hz (by simp only [List.cons.injEq] at z; omega))]
   exact ⟨sz1, kN hz⟩
theorem sc_mask_size : FnScope ["mask"] ["mask"] (defScope s_mask_size) := ⟨rfl, rfl, rfl, by decide +kernel, rfl, by decide +kernel, by decide +kernel⟩
theorem ok_mask_size {f : Addr} {fd : FuncData} (F : FunD K "mask_size" "mask_size" s_mask_size .none f fd) (T : Txt K mg cFE cBP cBC cBS cBM tS tC) (g_need_mask : DefX P w K mg base 5 "need_mask" ["mask"] [] (spNeedM K cBM)) : FnOk P w K mg base (CX1 P w) 6 f fd ["mask"] (spSizeM K cBM) := by
 refine F.okX sc_mask_size (fun vs H Q E h => ?_) (fun cdv A outer s H vs Q E hr h => ?_)
 ·obtain ⟨v, rfl, _⟩ := h; rfl
 ·obtain ⟨v, rfl, h⟩ := h
  refine ⟨_, (pss_cons (ps_expr (pe_callX g_need_mask (hr.mono (by decide)) passes1R rfl (pa_cons (pv 0) pa_nil)))
    (pss_one (ps_ret (pe_tup (pa_cons (pe_ix (ixTK K rfl) (pv 0) pe_int (fun _ _ => rfl)) (pa_cons (pe_callB (lenK K rfl) rfl T.len PySem.boot_len (pa_cons (pe_ix (ixTK K rfl) (pv 0) pe_int (fun _ _ => rfl)) pa_nil)) pa_nil)))))), ?_⟩
  rcases h with ⟨a, b, wd, rows, rfl, m, g, kY⟩ | ⟨tm, hb, kB⟩
  ·refine ⟨_, rfl, .ref a, rfl, tm_mask m g, fun _ H1 s1 => ?_, fun z => by rw [maskB_good m g] at z; cases z⟩
   have m1 := m.mono s1
   refine ⟨_, rfl, a, _, _, .int (wd : Int), rfl, rfl, SqT.of m1.top, atI_nat (j := 0) rfl, _, rfl, a, _, _, .ref b, rfl, rfl, SqT.of m1.top, atI_nat (j := 1) rfl, b, _, rfl, .inr (SqT.of m1.row), sz2, fun p hp => kY p _ (s1.trans (same_new hp)) ?_⟩
   rw [upd_same, nV_len]
  ·exact ⟨_, rfl, v, rfl, tm, fun z => (by rw [hb] at z; cases z), fun _ => kB⟩
end
noncomputable def natV : V → Nat
 | .int i => i.toNat
 | _ => 0
theorem natV_n (x : Nat) : natV (.int (x : Int)) = x := by show ((x : Int)).toNat = x; omega
noncomputable def spG (g : Nat → Nat → Nat) : Sp := fun vs H Q _ => ∃ a b : Nat, vs = [.int (a : Int), .int (b : Int)] ∧ Q (.int (g a b : Nat)) H
noncomputable def Join (K : W.Frag) (H : Hp) (v u : V) (g : Nat → Nat → Nat) (Y : Nat → List Nat → Prop) (NM NS : Prop) : Prop :=
 (∃ (a b c d : Addr) (wd : Nat) (rows rows2 : List Nat), v = .ref a ∧ u = .ref c ∧ MaskV H a b wd rows ∧ GoodM wd rows ∧ MaskV H c d wd rows2 ∧ GoodM wd rows2 ∧ rows2.length = rows.length ∧ Y wd (List.zipWith g rows rows2))
 ∨ (Tm K H v ∧ maskB H v = false ∧ NM)
 ∨ (∃ (a b : Addr) (wd : Nat) (rows : List Nat), v = .ref a ∧ MaskV H a b wd rows ∧ GoodM wd rows ∧ Tm K H u ∧ maskB H u = false ∧ NM)
 ∨ (∃ (a b c d : Addr) (wd wd2 : Nat) (rows rows2 : List Nat), v = .ref a ∧ u = .ref c ∧ MaskV H a b wd rows ∧ GoodM wd rows ∧ MaskV H c d wd2 rows2 ∧ GoodM wd2 rows2 ∧ ¬ (wd = wd2 ∧ rows.length = rows2.length) ∧ NS)
noncomputable def spRbR (P : Program) (w : World) (K : W.Frag) (mg : Str → Option Value) (base : Heap) (cBM cBS : Addr) : Sp := fun vs H Q E => ∃ (v u : V) (f : Addr) (L : LamV) (g : Nat → Nat → Nat), vs = [v, u, .ref f] ∧ H f = some (LamO f L) ∧ H L.c = some (CodeO L.c L.qual) ∧ LamP P w K mg base 2 L ["row", "beside"] (spG g) ∧
 Join K H v u g (fun wd r => ∀ p q H', Same H H' → MaskV H' p q wd r → Q (.ref p) H') (∀ H', Same H H' → E (.ref cBM) none H') (∀ H', Same H H' → E (.ref cBS) none H')
section
variable {P : Program} {w : World} {K : W.Frag} {mg : Str → Option Value} {base : Heap} {cFE cBP cBC cBS cBM : Addr} {tS tC : Tok}
theorem nV_get {rows : List Nat} {y : Nat} (h : y < rows.length) : (nV rows)[y]? = some (.int (rows.getD y 0 : Nat)) := by
 have e : rows[y]? = some (rows.getD y 0) := by simp [List.getD, h]
 exact nV_at e
theorem zip_range (g : Nat → Nat → Nat) {rows rows2 : List Nat} (h : rows2.length = rows.length) : List.zipWith g rows rows2 = (List.range rows.length).map fun y => g (rows.getD y 0) (rows2.getD y 0) := by
 apply List.ext_getElem
 ·simp [h]
 ·intro i h1 h2
  have hi : i < rows.length := by simp at h1; omega
  have hi2 : i < rows2.length := by omega
  simp [List.getD, hi, hi2]
theorem sc_row_by_row : FnScope ["one", "other", "joined"] ["one", "other", "joined"] (defScope s_row_by_row) := ⟨rfl, rfl, rfl, by decide +kernel, rfl, by decide +kernel, by decide +kernel⟩
theorem ok_row_by_row {f : Addr} {fd : FuncData} (F : FunD K "row_by_row" "row_by_row" s_row_by_row .none f fd) (T : Txt K mg cFE cBP cBC cBS cBM tS tC) (g_need_like_sizes : DefX P w K mg base 1 "need_like_sizes" ["one", "other"] [] (spLike K cBS)) (g_mask_size : DefX P w K mg base 6 "mask_size" ["mask"] [] (spSizeM K cBM)) : FnOk P w K mg base (CX1 P w) 7 f fd ["one", "other", "joined"] (spRbR P w K mg base cBM cBS) := by
 refine F.okX sc_row_by_row (fun vs H Q E h => ?_) (fun cdv A outer s H vs Q E hr h => ?_)
 ·obtain ⟨v, u, f, L, g, rfl, _⟩ := h; rfl
 ·obtain ⟨v, u, fl, L, g, rfl, hf, hc, LP, h⟩ := h
  refine ⟨_, (pss_cons (ps_expr (pe_callX g_need_like_sizes (hr.mono (by decide)) passes1R rfl (pa_cons (pe_callX g_mask_size (hr.mono (by decide)) passes1R rfl (pa_cons (pv 0) pa_nil)) (pa_cons (pe_callX g_mask_size (hr.mono (by decide)) passes1R rfl (pa_cons (pv 1) pa_nil)) pa_nil))))
    (pss_one (ps_ret (pe_tup (pa_cons (pe_ix (ixTK K rfl) (pv 0) pe_int (fun _ _ => rfl)) (pa_cons (pe_callTy call_tuple_of rfl T.tuple PyProof.Rows.boot_tuple (pa_cons (pe_comp (N := ["y", "row", "joined", "other"]) (src := [none, none, some 2, some 1]) rfl ⟨rfl, rfl, rfl, rfl, rfl, by decide +kernel⟩ (pi_enumT K rfl rfl T.enumerate (pa_cons (pe_ix (ixTK K rfl) (pv 0) pe_int (fun _ _ => rfl)) pa_nil)) (fun s H C fp => (pg_tupK (n := 2) K rfl rfl (pgs_cons (pg_name (i := 0) (show (["y", "row", "joined", "other"] : List Str).Nodup by decide +kernel) rfl (by first | exact Or.inl rfl | exact Or.inr rfl)) (pgs_cons (pg_name (i := 1) (show (["y", "row", "joined", "other"] : List Str).Nodup by decide +kernel) rfl (by first | exact Or.inl rfl | exact Or.inr rfl)) pgs_nil)))) (fun s H C fp => pts_nil) (fun s H C fp => (pe_callLK P w K mg base rfl rfl rfl rfl rfl 2 2 ["row", "beside"] (hr.mono (by decide)) (pa_cons (pv 1) (pa_cons (pe_ix (ixTK K rfl) (pe_ix (ixTK K rfl) (pv 3) pe_int (fun _ _ => rfl)) (pv 0) (fun _ _ => rfl)) pa_nil))))) pa_nil)) pa_nil)))))), ?_⟩
  rcases h with ⟨a, b, c, d, wd, rows, rows2, rfl, rfl, m1, g1, m2, g2, hl, kY⟩ | ⟨tm, hb, kM⟩ | ⟨a, b, wd, rows, rfl, m1, g1, tm, hb, kM⟩ | ⟨a, b, c, d, wd, wd2, rows, rows2, rfl, rfl, m1, g1, m2, g2, hne, kS⟩
  ·have h24 := g1.h24
   refine ⟨_, rfl, .ref a, rfl, .inl ⟨a, b, wd, rows, rfl, m1, g1, fun p1 H1 s1 e1 => ⟨_, rfl, .ref c, rfl, .inl ⟨c, d, wd, rows2, rfl, m2.mono s1, g2, fun p2 H2 s2 e2 => ?_⟩⟩⟩⟩
   refine ⟨p1, p2, wd, rows.length, wd, rows2.length, rfl, s2 _ _ e1, e2, fun _ => ?_, fun z => (z ⟨rfl, hl.symm⟩).elim⟩
   have s12 := s1.trans s2
   have m1 := m1.mono s12
   have m2 := m2.mono s12
   have hf := s12 _ _ hf
   have hc := s12 _ _ hc
   refine ⟨_, rfl, a, _, _, .int (wd : Int), rfl, rfl, SqT.of m1.top, atI_nat (j := 0) rfl, _, rfl, a, _, _, .ref b, rfl, rfl, SqT.of m1.top, atI_nat (j := 1) rfl, b, rfl, ⟨_, SqT.of m1.row⟩, fun D hD => ?_⟩
   refine comp2_fm (k1 := 0) (k2 := 1) (fun pr => .int (g (rows.getD (natV pr.1) 0) (rows2.getD (natV pr.1) 0) : Nat)) (fun _ => true) (src2_enumT (SqT.of m1.row)) (by rw [enumL_len, nV_len]; exact Nat.le_trans h24 (by decide)) hD (fun x _ H' Qb _ kb => kb H' (Same.refl _)) (fun pr hpr _ H' Q' sm kk => ?_) fun H3 s3 h3 => ?_
   ·obtain ⟨y, hy⟩ := List.mem_iff_getElem?.mp hpr
    obtain ⟨x, ex, rfl⟩ := enumL_at hy
    have hyl : y < rows.length := by
     have := (List.getElem?_eq_some_iff.mp ex).1
     rw [nV_len] at this; exact this
    rw [nV_get hyl] at ex; cases ex
    have m2' := m2.mono sm
    refine ⟨fl, L, spG g, rfl, sm _ _ hf, LP, _, rfl, _, rfl, c, _, _, .ref d, rfl, rfl, SqT.of m2'.top, atI_nat (j := 1) rfl, _, rfl, d, _, _, .int (rows2.getD y 0 : Nat), rfl, rfl, SqT.of m2'.row, atI_nat (nV_get (by omega)), sm _ _ hf, sm _ _ hc, rows.getD y 0, rows2.getD y 0, rfl, ?_⟩
    have tt := kk H' (Same.refl _)
    rw [natV_n] at tt
    exact tt
   ·refine ⟨D, _, rfl, .inl ⟨SqL.of h3, fun q hq => ⟨sz2, fun p hp => kY p q _ (s12.trans (s3.trans ((same_new hq).trans (same_new hp)))) ⟨upd_same, ?_⟩⟩⟩⟩
    rw [same_new hp _ _ upd_same, filter_t, zip_range g hl]
    congr 2
    unfold enumL nV
    rw [List.map_map, List.map_map, List.length_map]
    refine List.map_congr_left fun y _ => ?_
    show V.int (g (rows.getD (natV (.int (y : Int))) 0) (rows2.getD (natV (.int (y : Int))) 0) : Nat) = V.int (g (rows.getD y 0) (rows2.getD y 0) : Nat)
    rw [natV_n]
  ·exact ⟨_, rfl, v, rfl, .inr ⟨tm, hb, kM⟩⟩
  ·exact ⟨_, rfl, .ref a, rfl, .inl ⟨a, b, wd, rows, rfl, m1, g1, fun p1 H1 s1 e1 => ⟨_, rfl, u, rfl, .inr ⟨tm.mono s1, by rw [← hb]; exact maskB_mono tm s1, fun H' s' => kM H' (s1.trans s')⟩⟩⟩⟩
  ·refine ⟨_, rfl, .ref a, rfl, .inl ⟨a, b, wd, rows, rfl, m1, g1, fun p1 H1 s1 e1 => ⟨_, rfl, .ref c, rfl, .inl ⟨c, d, wd2, rows2, rfl, m2.mono s1, g2, fun p2 H2 s2 e2 => ?_⟩⟩⟩⟩
   exact ⟨p1, p2, wd, rows.length, wd2, rows2.length, rfl, s2 _ _ e1, e2, fun z => (hne z).elim, fun _ => kS _ (s1.trans s2)⟩
end
noncomputable def NT (H H' : Hp) : Prop := ∀ b o, (∀ ps, o ≠ .tbl ps) → H b = some o → H' b = some o
theorem NT.of {H H' : Hp} (s : Same H H') : NT H H' := fun b o _ e => s b o e
theorem NT.trans {H H1 H2 : Hp} (a : NT H H1) (b : NT H1 H2) : NT H H2 := fun c o n e => b c o n (a c o n e)
section
variable {K : W.Frag} {H H' : Hp}
theorem NT.tup {a : Addr} {xs : List V} (s : NT H H') (e : H a = some (.tup xs)) : H' a = some (.tup xs) := s _ _ (fun _ z => by cases z) e
theorem NT.lst {a : Addr} {xs : List V} (s : NT H H') (e : H a = some (.lst xs)) : H' a = some (.lst xs) := s _ _ (fun _ z => by cases z) e
theorem NT.dict {a : Addr} (s : NT H H') (e : H a = some (DictO a)) : H' a = some (DictO a) := s _ _ (fun _ z => by unfold DictO at z; cases z) e
theorem NT.mask {a b : Addr} {wd : Nat} {rows : List Nat} (s : NT H H') (m : MaskV H a b wd rows) : MaskV H' a b wd rows := ⟨s.tup m.top, s.tup m.row⟩
theorem NT.sq {a : Addr} {xs : List V} (s : NT H H') (h : SqL K H a xs) : SqL K H' a xs := by
 rcases h with (h | ⟨o, h⟩) | h
 ·exact .inl (.inl (s.lst h))
 ·exact .inl (.inr ⟨o, s _ _ (fun _ z => by cases z) h⟩)
 ·exact .inr h
theorem NT.kd {x : V} (s : NT H H') (k : Kd K H x) : Kd K H' x := by
 cases k with
 | non => exact .non
 | bl b => exact .bl b
 | int i => exact .int i
 | str y => exact .str y
 | lst e => exact .lst (s.lst e)
 | tup e => exact .tup (s.tup e)
 | dict e => exact .dict (s.dict e)
theorem NT.tupOf {x : V} (s : NT H H') (k : Kd K H x) : tupOf H' x = tupOf H x := by
 cases k with
 | lst e => simp only [K8.tupOf, e, s.lst e]
 | tup e => simp only [K8.tupOf, e, s.tup e]
 | dict e => simp only [K8.tupOf, e, s.dict e]
 | _ => rfl
theorem NT.maskB {v : V} (s : NT H H') (t : Tm K H v) : maskB H' v = maskB H v := by
 unfold K8.maskB
 rw [s.tupOf t.kd]
 cases h : K8.tupOf H v with
 | none => rfl
 | some xs =>
  match xs, h with
  | [], _ => rfl
  | [_], _ => rfl
  | [w, r], h => dsimp only; rw [s.tupOf (t.it _ h r (by simp))]
  | _ :: _ :: _ :: _, _ => rfl
theorem NT.tm {v : V} (s : NT H H') (t : Tm K H v) : Tm K H' v := by
 refine ⟨s.kd t.kd, fun xs e x hx => ?_, fun xs e x hx ys e2 => ?_⟩
 ·rw [s.tupOf t.kd] at e
  exact s.kd (t.it xs e x hx)
 ·rw [s.tupOf t.kd] at e
  rw [s.tupOf (t.it xs e x hx)] at e2
  have := t.it2 xs e x hx ys e2
  exact ⟨this.1, fun y hy => s.kd (this.2 y hy)⟩
theorem NT.join {v u : V} {g : Nat → Nat → Nat} {Y Y' : Nat → List Nat → Prop} {NM NS NM' NS' : Prop} (s : NT H H') (j : Join K H v u g Y NM NS) (hY : ∀ wd r, Y wd r → Y' wd r) (hM : NM → NM') (hS : NS → NS') : Join K H' v u g Y' NM' NS' := by
 rcases j with ⟨a, b, c, d, wd, rows, rows2, e1, e2, m1, g1, m2, g2, hl, y⟩ | ⟨tm, hb, kM⟩ | ⟨a, b, wd, rows, e1, m1, g1, tm, hb, kM⟩ | ⟨a, b, c, d, wd, wd2, rows, rows2, e1, e2, m1, g1, m2, g2, hne, kS⟩
 ·exact .inl ⟨a, b, c, d, wd, rows, rows2, e1, e2, s.mask m1, g1, s.mask m2, g2, hl, hY _ _ y⟩
 ·exact .inr (.inl ⟨s.tm tm, by rw [s.maskB tm]; exact hb, hM kM⟩)
 ·exact .inr (.inr (.inl ⟨a, b, wd, rows, e1, s.mask m1, g1, s.tm tm, by rw [s.maskB tm]; exact hb, hM kM⟩))
 ·exact .inr (.inr (.inr ⟨a, b, c, d, wd, wd2, rows, rows2, e1, e2, s.mask m1, g1, s.mask m2, g2, hne, hS kS⟩))
end
structure Mk where
 p : Addr
 pos : Pos
 qual : Str
noncomputable def AllT (ms : List Mk) (H : Hp) : Prop := ∀ m ∈ ms, TabSt (ms.map (·.p)) m.p m.pos m.qual H
theorem AllT.mono {ms : List Mk} {H H' : Hp} (a : AllT ms H) (s : Same H H') : AllT ms H' := fun m hm => (a m hm).mono s
theorem AllT.tbl {ms : List Mk} {H : Hp} (a : AllT ms H) {t : Addr} (h : t ∈ ms.map (·.p)) : ∃ ps, H t = some (.tbl ps) := by
 obtain ⟨m, hm, rfl⟩ := List.mem_map.mp h
 rcases a m hm with e | ⟨c, _, e, _⟩
 ·exact ⟨_, e⟩
 ·exact ⟨_, e⟩
theorem AllT.nt {ms : List Mk} {H H' : Hp} (a : AllT ms H) (b : ButL (ms.map (·.p)) H H') : NT H H' := fun c o n e => b c o (fun h => by
 obtain ⟨ps, e2⟩ := a.tbl h
 rw [e] at e2; cases e2
 exact n ps rfl) e
theorem AllT.step {ms : List Mk} (nd : (ms.map (·.p)).Nodup) {m : Mk} (hm : m ∈ ms) {H H' : Hp} (a : AllT ms H) (b : ButL (ms.map (·.p)) H H') (o : ∀ t ∈ ms.map (·.p), t ≠ m.p → H' t = H t) (t : TabSt (ms.map (·.p)) m.p m.pos m.qual H') : AllT ms H' := fun m' hm' => by
 by_cases e : m'.p = m.p
 ·have : m' = m := by
   obtain ⟨i, hi, ei⟩ := List.mem_iff_getElem.mp hm'
   obtain ⟨j, hj, ej⟩ := List.mem_iff_getElem.mp hm
   have : i = j := (List.getElem_inj (h₀ := by simpa using hi) (h₁ := by simpa using hj) nd).mp (by simp [ei, ej, e])
   subst this
   rw [← ei, ← ej]
  rw [this]; exact t
 ·have eq := o m'.p (List.mem_map.mpr ⟨m', hm', rfl⟩) e
  rcases a m' hm' with z | ⟨c, n, e1, e2⟩
  ·exact .inl (eq.trans z)
  ·exact .inr ⟨c, n, eq.trans e1, b _ _ n e2⟩
noncomputable def lamAt (st : Stmt) : Expr := match defBody st with
 | [.Return (some (.Call _ [_, _, l] _ _)) _] => l
 | _ => .Name "" ⟨0, 0, 0, 0⟩
noncomputable def lamPrm : Expr → Option Arguments
 | .Lambda p _ _ _ => some p
 | _ => none
noncomputable def lamBody : Expr → Expr
 | .Lambda _ b _ _ => b
 | e => e
noncomputable def lamSc (d : Scope) : Expr → Scope
 | .Lambda _ _ s _ => s
 | _ => d
noncomputable def lamPos : Expr → Pos
 | .Lambda _ _ _ p => p
 | _ => ⟨0, 0, 0, 0⟩
noncomputable def mkOf (p : Addr) (st : Stmt) (x : Str) : Mk := ⟨p, lamPos (lamAt st), (x ++ ".<locals>.") ++ "<lambda>"⟩
noncomputable def spJoin (K : W.Frag) (cBM cBS : Addr) (ms : List Mk) (g : Nat → Nat → Nat) : Sp := fun vs H Q E => ∃ v u, vs = [v, u] ∧ AllT ms H ∧
 Join K H v u g (fun wd r => ∀ p q H', NT H H' → AllT ms H' → MaskV H' p q wd r → Q (.ref p) H') (∀ H', NT H H' → AllT ms H' → E (.ref cBM) none H') (∀ H', NT H H' → AllT ms H' → E (.ref cBS) none H')
theorem or_xor_and : ∀ (n a b : Nat), a ≤ n → (a ||| b) = (a ^^^ b) + (a &&& b) := by
 intro n
 induction n with
 | zero =>
  intro a b h
  have : a = 0 := by omega
  subst this; simp
 | succ n ih =>
  intro a b h
  by_cases h0 : a = 0
  ·subst h0; simp
  ·have i := ih (a / 2) (b / 2) (by omega)
   have o1 : (a ||| b) / 2 = a / 2 ||| b / 2 := Nat.or_div_two
   have x1 : (a ^^^ b) / 2 = a / 2 ^^^ b / 2 := Nat.xor_div_two
   have n1 : (a &&& b) / 2 = a / 2 &&& b / 2 := Nat.and_div_two
   have o2 : (a ||| b) % 2 = (a % 2 ||| b % 2) := by simpa using Nat.or_mod_two_pow (a := a) (b := b) (n := 1)
   have x2 : (a ^^^ b) % 2 = (a % 2 ^^^ b % 2) := by simpa using Nat.xor_mod_two_pow (a := a) (b := b) (n := 1)
   have n2 : (a &&& b) % 2 = (a % 2 &&& b % 2) := by simpa using Nat.and_mod_two_pow (a := a) (b := b) (n := 1)
   have m : (a % 2 ||| b % 2) = (a % 2 ^^^ b % 2) + (a % 2 &&& b % 2) := by
    rcases Nat.mod_two_eq_zero_or_one a with ea | ea <;> rcases Nat.mod_two_eq_zero_or_one b with eb | eb <;> rw [ea, eb] <;> decide
   have d1 := Nat.div_add_mod (a ||| b) 2
   have d2 := Nat.div_add_mod (a ^^^ b) 2
   have d3 := Nat.div_add_mod (a &&& b) 2
   omega
theorem xor_nat (a b : Nat) : Builtin.bitXor (a : Int) (b : Int) = ((a ^^^ b : Nat) : Int) := by
 unfold Builtin.bitXor
 rw [or_nat, and_nat]
 have h : (a ||| b) = (a ^^^ b) + (a &&& b) := or_xor_and a a b (Nat.le_refl _)
 omega
section
variable {P : Program} {w : World} {K : W.Frag} {mg : Str → Option Value} {base : Heap} {cFE cBP cBC cBS cBM : Addr} {tS tC : Tok}
theorem scl_both_masks : FnScope ["row", "beside"] ["row", "beside"] (lamSc (defScope s_both_masks) (lamAt s_both_masks)) := ⟨rfl, rfl, rfl, by decide +kernel, rfl, by decide +kernel, by decide +kernel⟩
theorem lamP_both_masks {prm : Arguments} (hp : lamPrm (lamAt s_both_masks) = some prm) {c : Addr} : LamP P w K mg base 2 ⟨prm, lamBody (lamAt s_both_masks), lamSc (defScope s_both_masks) (lamAt s_both_masks), ("both_masks" ++ ".<locals>.") ++ "<lambda>", c⟩ ["row", "beside"] (spG (fun a b => a &&& b)) := by
 cases hp
 refine lam_of (k := 1) scl_both_masks (fun vs H Q E h => ?_) (fun pm ctv us hl => match us, hl with | [_, _], _ => rfl) fun f A outer s H vs Q E hr h => ?_
 ·obtain ⟨a, b, rfl, _⟩ := h; rfl
 ·obtain ⟨a, b, rfl, k⟩ := h
  refine ⟨_, (pe_op op_and (pv 0) (pv 1)), ?_⟩
  refine ⟨_, rfl, _, rfl, _, _, rfl, rfl, ?_⟩
  show Q (.int (Builtin.bitAnd (a : Int) (b : Int))) H
  rw [and_nat]; exact k
theorem sc_both_masks : FnScope ["one", "other"] ["one", "other"] (defScope s_both_masks) := ⟨rfl, rfl, rfl, by decide +kernel, rfl, by decide +kernel, by decide +kernel⟩
theorem ok_both_masks {f c p : Addr} {fd : FuncData} (F : FunD K "both_masks" "both_masks" s_both_masks .none f fd) (hfc : fd.code = .ref c) (hC : W.CodeHd base c p) (hB : BMain mg base) {ms : List Mk} (nd : (ms.map (·.p)).Nodup) (hm : mkOf p s_both_masks "both_masks" ∈ ms) (T : Txt K mg cFE cBP cBC cBS cBM tS tC) (g_row_by_row : DefX P w K mg base 7 "row_by_row" ["one", "other", "joined"] [] (spRbR P w K mg base cBM cBS)) : FnOk P w K mg base (CX1 P w) 8 f fd ["one", "other"] (spJoin K cBM cBS ms (fun a b => a &&& b)) := by
 refine F.okXT hfc sc_both_masks (fun vs H Q E h => ?_) (fun cdv hcdv A outer s H vs Q E hr h => ?_)
 ·obtain ⟨v, u, rfl, _⟩ := h; rfl
 ·obtain ⟨v, u, rfl, al, j⟩ := h
  refine ⟨_, (pss_one (ps_ret (pe_callX g_row_by_row (hr.mono (by decide)) passes1R rfl (pa_cons (pv 0) (pa_cons (pv 1) (pa_cons (pe_lam hcdv hC hB) pa_nil)))))), ?_⟩
  refine ⟨_, rfl, _, rfl, ?_⟩
  refine tLam_of (ts := ms.map (·.p)) (List.mem_map.mpr ⟨_, hm, rfl⟩) (fun t ht z => ?_) (al _ hm) fun fl cl H1 b1 o1 t1 hf hc => ?_
  ·obtain ⟨ps, e⟩ := al.tbl ht
   rw [z] at e; cases e
  have al1 := AllT.step nd hm al b1 o1 t1
  have n1 := al.nt b1
  refine ⟨v, u, fl, _, fun a b => a &&& b, rfl, hf, hc, lamP_both_masks rfl, n1.join j (fun wd r y p q H' s' m => y p q H' (n1.trans (NT.of s')) (al1.mono s') m) (fun y H' s' => y H' (n1.trans (NT.of s')) (al1.mono s')) (fun y H' s' => y H' (n1.trans (NT.of s')) (al1.mono s'))⟩
theorem scl_either_mask : FnScope ["row", "beside"] ["row", "beside"] (lamSc (defScope s_either_mask) (lamAt s_either_mask)) := ⟨rfl, rfl, rfl, by decide +kernel, rfl, by decide +kernel, by decide +kernel⟩
theorem lamP_either_mask {prm : Arguments} (hp : lamPrm (lamAt s_either_mask) = some prm) {c : Addr} : LamP P w K mg base 2 ⟨prm, lamBody (lamAt s_either_mask), lamSc (defScope s_either_mask) (lamAt s_either_mask), ("either_mask" ++ ".<locals>.") ++ "<lambda>", c⟩ ["row", "beside"] (spG (fun a b => a ||| b)) := by
 cases hp
 refine lam_of (k := 1) scl_either_mask (fun vs H Q E h => ?_) (fun pm ctv us hl => match us, hl with | [_, _], _ => rfl) fun f A outer s H vs Q E hr h => ?_
 ·obtain ⟨a, b, rfl, _⟩ := h; rfl
 ·obtain ⟨a, b, rfl, k⟩ := h
  refine ⟨_, (pe_op op_or (pv 0) (pv 1)), ?_⟩
  refine ⟨_, rfl, _, rfl, _, _, rfl, rfl, ?_⟩
  show Q (.int (Builtin.bitOr (a : Int) (b : Int))) H
  rw [or_nat]; exact k
theorem sc_either_mask : FnScope ["one", "other"] ["one", "other"] (defScope s_either_mask) := ⟨rfl, rfl, rfl, by decide +kernel, rfl, by decide +kernel, by decide +kernel⟩
theorem ok_either_mask {f c p : Addr} {fd : FuncData} (F : FunD K "either_mask" "either_mask" s_either_mask .none f fd) (hfc : fd.code = .ref c) (hC : W.CodeHd base c p) (hB : BMain mg base) {ms : List Mk} (nd : (ms.map (·.p)).Nodup) (hm : mkOf p s_either_mask "either_mask" ∈ ms) (T : Txt K mg cFE cBP cBC cBS cBM tS tC) (g_row_by_row : DefX P w K mg base 7 "row_by_row" ["one", "other", "joined"] [] (spRbR P w K mg base cBM cBS)) : FnOk P w K mg base (CX1 P w) 8 f fd ["one", "other"] (spJoin K cBM cBS ms (fun a b => a ||| b)) := by
 refine F.okXT hfc sc_either_mask (fun vs H Q E h => ?_) (fun cdv hcdv A outer s H vs Q E hr h => ?_)
 ·obtain ⟨v, u, rfl, _⟩ := h; rfl
 ·obtain ⟨v, u, rfl, al, j⟩ := h
  refine ⟨_, (pss_one (ps_ret (pe_callX g_row_by_row (hr.mono (by decide)) passes1R rfl (pa_cons (pv 0) (pa_cons (pv 1) (pa_cons (pe_lam hcdv hC hB) pa_nil)))))), ?_⟩
  refine ⟨_, rfl, _, rfl, ?_⟩
  refine tLam_of (ts := ms.map (·.p)) (List.mem_map.mpr ⟨_, hm, rfl⟩) (fun t ht z => ?_) (al _ hm) fun fl cl H1 b1 o1 t1 hf hc => ?_
  ·obtain ⟨ps, e⟩ := al.tbl ht
   rw [z] at e; cases e
  have al1 := AllT.step nd hm al b1 o1 t1
  have n1 := al.nt b1
  refine ⟨v, u, fl, _, fun a b => a ||| b, rfl, hf, hc, lamP_either_mask rfl, n1.join j (fun wd r y p q H' s' m => y p q H' (n1.trans (NT.of s')) (al1.mono s') m) (fun y H' s' => y H' (n1.trans (NT.of s')) (al1.mono s')) (fun y H' s' => y H' (n1.trans (NT.of s')) (al1.mono s'))⟩
end
noncomputable def One (K : W.Frag) (H : Hp) (v : V) (Y : Nat → List Nat → Prop) (NM : Prop) : Prop := (∃ (a b : Addr) (wd : Nat) (rows : List Nat), v = .ref a ∧ MaskV H a b wd rows ∧ GoodM wd rows ∧ Y wd rows) ∨ (Tm K H v ∧ maskB H v = false ∧ NM)
noncomputable def spOther (K : W.Frag) (cBM : Addr) : Sp := fun vs H Q E => ∃ v, vs = [v] ∧ One K H v (fun wd rows => ∀ p q H', Same H H' → MaskV H' p q wd (rows.map fun r => 2 ^ wd - 1 - r) → Q (.ref p) H') (∀ H', Same H H' → E (.ref cBM) none H')
theorem xor_full {wd r : Nat} (h : r < 2 ^ wd) : (2 ^ wd - 1) ^^^ r = 2 ^ wd - 1 - r := by
 apply Nat.eq_of_testBit_eq
 intro i
 rw [show 2 ^ wd - 1 - r = 2 ^ wd - (r + 1) by omega, Nat.testBit_xor, Nat.testBit_two_pow_sub_one, Nat.testBit_two_pow_sub_succ h]
 by_cases hi : i < wd
 ·simp [hi]
 ·have : r.testBit i = false := Nat.testBit_lt_two_pow (Nat.lt_of_lt_of_le h (Nat.pow_le_pow_right (by decide) (by omega)))
  simp [hi, this]
section
variable {P : Program} {w : World} {K : W.Frag} {mg : Str → Option Value} {base : Heap} {cFE cBP cBC cBS cBM : Addr} {tS tC : Tok}
theorem sc_other_mask : FnScope ["mask"] ["mask"] (defScope s_other_mask) := ⟨rfl, rfl, rfl, by decide +kernel, rfl, by decide +kernel, by decide +kernel⟩
theorem ok_other_mask {f : Addr} {fd : FuncData} (F : FunD K "other_mask" "other_mask" s_other_mask .none f fd) (T : Txt K mg cFE cBP cBC cBS cBM tS tC) (g_need_mask : DefX P w K mg base 5 "need_mask" ["mask"] [] (spNeedM K cBM)) (g_full_row : Def P w K mg base 1 "full_row" ["wide"] [] spFull) : FnOk P w K mg base (CX1 P w) 6 f fd ["mask"] (spOther K cBM) := by
 refine F.okX sc_other_mask (fun vs H Q E h => ?_) (fun cdv A outer s H vs Q E hr h => ?_)
 ·obtain ⟨v, rfl, _⟩ := h; rfl
 ·obtain ⟨v, rfl, h⟩ := h
  refine ⟨_, (pss_cons (ps_expr (pe_callX g_need_mask (hr.mono (by decide)) passes1R rfl (pa_cons (pv 0) pa_nil)))
    (pss_one (ps_ret (pe_tup (pa_cons (pe_ix (ixTK K rfl) (pv 0) pe_int (fun _ _ => rfl)) (pa_cons (pe_callTy call_tuple_of rfl T.tuple PyProof.Rows.boot_tuple (pa_cons (pe_comp (N := ["row", "mask"]) (src := [none, some 0]) rfl ⟨rfl, rfl, rfl, rfl, rfl, by decide +kernel⟩ (piTK K rfl (pe_ix (ixTK K rfl) (pv 0) pe_int (fun _ _ => rfl))) (fun s H C fp => pg_name (i := 0) (show (["row", "mask"] : List Str).Nodup by decide +kernel) rfl (by first | exact Or.inl rfl | exact Or.inr rfl)) (fun s H C fp => pts_nil) (fun s H C fp => (pe_op op_xor (pe_callD g_full_row (hr.mono (by decide)) rfl (pa_cons (pe_ix (ixTK K rfl) (pv 1) pe_int (fun _ _ => rfl)) pa_nil)) (pv 0)))) pa_nil)) pa_nil)))))), ?_⟩
  rcases h with ⟨a, b, wd, rows, rfl, m, g, kY⟩ | ⟨tm, hb, kB⟩
  ·refine ⟨_, rfl, .ref a, rfl, tm_mask m g, fun _ H1 s1 => ?_, fun z => by rw [maskB_good m g] at z; cases z⟩
   have m1 := m.mono s1
   have h24 := g.h24
   refine ⟨_, rfl, a, _, _, .int (wd : Int), rfl, rfl, SqT.of m1.top, atI_nat (j := 0) rfl, _, rfl, a, _, _, .ref b, rfl, rfl, SqT.of m1.top, atI_nat (j := 1) rfl, b, rfl, ⟨_, SqT.of m1.row⟩, fun D hD => ?_⟩
   refine comp_fm (k := 0) (fun v => .int ((2 ^ wd - 1 - natV v : Nat) : Int)) (fun _ => true) (src_tup m1.row) (by rw [nV_len]; exact Nat.le_trans h24 (by decide)) hD (fun x _ H' Qb _ kb => kb H' (Same.refl _)) (fun x hx _ H' Q' sm kk => ?_) fun H2 s2 h2 => ?_
   ·obtain ⟨r, hr1, rfl⟩ := List.mem_map.mp hx
    have m' := m1.mono sm
    have hlt := g.row r hr1
    refine ⟨_, rfl, a, _, _, .int (wd : Int), rfl, rfl, SqT.of m'.top, atI_nat (j := 0) rfl, wd, rfl, g.w24, _, rfl, _, _, rfl, rfl, ?_⟩
    have tt := kk H' (Same.refl _)
    rw [natV_n] at tt
    have pw : (2 : Int) ^ wd - 1 = ((2 ^ wd - 1 : Nat) : Int) := by
     have := Nat.two_pow_pos wd
     have hp : ((2 ^ wd : Nat) : Int) = (2 : Int) ^ wd := by push_cast; rfl
     omega
    show Q' (.int (Builtin.bitXor ((2 : Int) ^ wd - 1) (r : Int))) H'
    rw [pw, xor_nat, xor_full hlt]
    exact tt
   ·refine ⟨D, _, rfl, .inl ⟨SqL.of h2, fun q hq => ⟨sz2, fun p hp => kY p q _ (s1.trans (s2.trans ((same_new hq).trans (same_new hp)))) ⟨upd_same, ?_⟩⟩⟩⟩
    rw [same_new hp _ _ upd_same, filter_t]
    congr 2
    unfold nV
    rw [List.map_map, List.map_map]
    refine List.map_congr_left fun r _ => ?_
    show V.int ((2 ^ wd - 1 - natV (.int (r : Int)) : Nat) : Int) = V.int ((2 ^ wd - 1 - r : Nat) : Int)
    rw [natV_n]
  ·exact ⟨_, rfl, v, rfl, tm, fun z => (by rw [hb] at z; cases z), fun _ => kB⟩
end
theorem pi_enumK {X : Cx} {a : Expr} {ta : TA} {p pos : Pos} {elts : List Expr} {x1} {tpos : Pos} (K : W.Frag) (hK : X.K = K) (hg : Gl X "enumerate") (hm : X.mg "enumerate" = none) (ha : PA X [a] ta) (hs : starEach [a] X.env = [(false, eval a X.env)] := by rfl) :
  PI X (.Tuple elts x1 tpos) (.Call (.Name "enumerate" p) [a] [] pos) (iEnum K ta) := by subst hK; exact pi_enum hg hm ha hs
noncomputable def bitsN (ps : List Nat) : Nat := ps.foldl (fun b p => b ||| 2 ^ p) 0
theorem bits_on (ps : List Nat) : ∀ b q : Nat, (ps.foldl (fun b p => b ||| 2 ^ p) b).testBit q = (b.testBit q || decide (q ∈ ps)) := by
 induction ps with
 | nil => intro b q; simp
 | cons p ps ih =>
  intro b q
  rw [List.foldl_cons, ih, Nat.testBit_or, Nat.testBit_two_pow]
  by_cases h : p = q
  ·subst h; simp
  ·have h' : ¬ q = p := fun z => h z.symm
   simp [h, h', Bool.or_comm]
theorem bits_bit (ps : List Nat) (q : Nat) : (bitsN ps).testBit q = decide (q ∈ ps) := by
 unfold bitsN
 rw [bits_on, Nat.zero_testBit, Bool.false_or]
noncomputable def pdR (r : List Int) (n : Nat) (c : Int) : List Int := (List.range r.length).map fun i => if n.testBit i = true then c else r.getD i 0
noncomputable def chR (r s : List Int) (n : Nat) : List Int := (List.range r.length).map fun i => if n.testBit i = true then s.getD i 0 else r.getD i 0
noncomputable def spWB : Sp := fun vs H Q _ => ∃ n p : Nat, vs = [.int (n : Int), .int (p : Int), .bl true] ∧ p ≤ 1000 ∧ Q (.int ((n ||| 2 ^ p : Nat) : Int)) H
noncomputable def spBN (K : W.Frag) : Sp := fun vs H Q _ => ∃ (a : Addr) (ps : List Nat), vs = [.ref a] ∧ SqL K H a (ps.map fun p : Nat => V.int (p : Int)) ∧ (∀ p ∈ ps, p ≤ 1000) ∧ Q (.int (bitsN ps : Int)) H
noncomputable def spPdR (K : W.Frag) : Sp := fun vs H Q _ => ∃ (a : Addr) (r : List Int) (n : Nat) (c : Int), vs = [.ref a, .int (n : Int), .int c] ∧ SqL K H a (r.map V.int) ∧ r.length ≤ 1000 ∧ ∀ l H', Same H H' → H l = none → H' l = some (.lst ((pdR r n c).map V.int)) → Q (.ref l) H'
noncomputable def spChR (K : W.Frag) : Sp := fun vs H Q _ => ∃ (a b : Addr) (r s : List Int) (n : Nat), vs = [.ref a, .ref b, .int (n : Int)] ∧ SqL K H a (r.map V.int) ∧ SqL K H b (s.map V.int) ∧ s.length = r.length ∧ r.length ≤ 1000 ∧ ∀ l H', Same H H' → H l = none → H' l = some (.lst ((chR r s n).map V.int)) → Q (.ref l) H'
theorem enum_map {r : List Int} (f : V × V → V) (k : Nat → Int) (h : ∀ i, i < r.length → f (.int (i : Int), .int (r.getD i 0)) = .int (k i)) : (enumL (r.map V.int)).map f = ((List.range r.length).map k).map V.int := by
 unfold enumL
 rw [List.length_map, List.map_map, List.map_map]
 refine List.map_congr_left fun i hi => ?_
 have hi := List.mem_range.mp hi
 have e : (r.map V.int).getD i .non = .int (r.getD i 0) := by
  rw [List.getD_eq_getElem?_getD, List.getElem?_map, List.getD_eq_getElem?_getD, List.getElem?_eq_getElem hi]; rfl
 show f (.int (i : Int), (r.map V.int).getD i .non) = _
 rw [e, h i hi]; rfl
theorem enum_mem {r : List Int} {z : V × V} (hz : z ∈ enumL (r.map V.int)) : ∃ i, i < r.length ∧ z = (.int (i : Int), .int (r.getD i 0)) := by
 obtain ⟨i, hi⟩ := List.getElem?_of_mem hz
 obtain ⟨x, hx, rfl⟩ := enumL_at hi
 rw [List.getElem?_map] at hx
 have hl : i < r.length := by
  have := List.getElem?_eq_some_iff.mp hi |>.1
  rw [enumL_len, List.length_map] at this; exact this
 rw [List.getElem?_eq_getElem hl] at hx
 injection hx with hx
 refine ⟨i, hl, ?_⟩
 rw [← hx, List.getD_eq_getElem?_getD, List.getElem?_eq_getElem hl]; rfl
section
variable {P : Program} {w : World} {K : W.Frag} {mg : Str → Option Value} {base : Heap} {cFE cBP cBC cBS cBM : Addr} {tS tC : Tok}
theorem sc_with_bit : FnScope ["number", "place", "on", "bit"] ["number", "place", "on"] (defScope s_with_bit) := ⟨rfl, rfl, rfl, by decide +kernel, rfl, by decide +kernel, by decide +kernel⟩
theorem sc_bits_of_numbers : FnScope ["numbers", "bits", "number"] ["numbers"] (defScope s_bits_of_numbers) := ⟨rfl, rfl, rfl, by decide +kernel, rfl, by decide +kernel, by decide +kernel⟩
theorem ok_bits_of_numbers {f : Addr} {fd : FuncData} (F : FunD K "bits_of_numbers" "bits_of_numbers" s_bits_of_numbers .none f fd) (g_with_bit_d : Def P w K mg base 1 "with_bit" ["number", "place", "on"] [.bl true] spWB) : FnOk P w K mg base CX0 2 f fd ["numbers"] (spBN K) := by
 refine F.ok sc_bits_of_numbers (fun vs H Q E h => ?_) (fun cdv A outer s H vs Q E hr h => ?_)
 ·obtain ⟨a, ps, rfl, _⟩ := h; rfl
 ·obtain ⟨a, ps, rfl, hS, hp, k⟩ := h
  refine ⟨_, (pss_cons (ps_set (i := 1) sc_bits_of_numbers.nd rfl (by first | exact Or.inl rfl | exact Or.inr rfl) pe_int)
    (pss_cons (ps_for PassesOwn.never rfl (piK K rfl (pv 0)) (pg_name (i := 2) sc_bits_of_numbers.nd rfl (by first | exact Or.inl rfl | exact Or.inr rfl)) (pss_one (ps_set (i := 1) sc_bits_of_numbers.nd rfl (by first | exact Or.inl rfl | exact Or.inr rfl) (pe_callD g_with_bit_d (hr.mono (by decide)) rfl (pa_cons (pv 1) (pa_cons (pv 2) pa_nil))))))
    (pss_one (ps_ret (pv 1))))), ?_⟩
  refine ⟨_, rfl, a, rfl, ⟨_, hS⟩, ?_⟩
  refine for_list (xs := ps.map fun p : Nat => V.int (p : Int)) (fun i σ H3 => H3 = H ∧ ∃ v2 : Option V, σ = [some (.ref a), some (.int (bitsN (ps.take i) : Int)), v2]) ⟨rfl, none, rfl⟩ (fun i σ H3 _ p => by rw [p.1]; exact hS) ?_ ?_
  ·rintro i x σ H3 hx ⟨rfl, v2, rfl⟩
   rw [List.getElem?_map] at hx
   have hi : i < ps.length := by
    cases h : ps[i]? with
    | none => rw [h] at hx; cases hx
    | some q => exact List.getElem?_eq_some_iff.mp h |>.1
   rw [List.getElem?_eq_getElem hi] at hx
   injection hx with hx
   subst hx
   refine ⟨_, rfl, _, rfl, _, _, rfl, hp _ (List.getElem_mem hi), rfl, some (.int (ps[i] : Int)), ?_⟩
   have : bitsN (ps.take (i + 1)) = bitsN (ps.take i) ||| 2 ^ ps[i] := by
    unfold bitsN
    rw [List.take_succ, List.getElem?_eq_getElem hi, List.foldl_append]; rfl
   rw [this]; rfl
  ·rintro σ H3 ⟨rfl, v2, rfl⟩
   rw [List.take_of_length_le (by rw [List.length_map]; exact Nat.le_refl _)]
   exact ⟨_, rfl, k⟩
theorem sc_painted_row : FnScope ["row", "bits", "cell"] ["row", "bits", "cell"] (defScope s_painted_row) := ⟨rfl, rfl, rfl, by decide +kernel, rfl, by decide +kernel, by decide +kernel⟩
theorem ok_painted_row {f : Addr} {fd : FuncData} (F : FunD K "painted_row" "painted_row" s_painted_row .none f fd) (T : Txt K mg cFE cBP cBC cBS cBM tS tC) (g_bit_at : Def P w K mg base 1 "bit_at" ["number", "place"] [] (spBitAt)) : FnOk P w K mg base CX0 2 f fd ["row", "bits", "cell"] (spPdR K) := by
 refine F.ok sc_painted_row (fun vs H Q E h => ?_) (fun cdv A outer s H vs Q E hr h => ?_)
 ·obtain ⟨a, r, n, c, rfl, _⟩ := h; rfl
 ·obtain ⟨a, r, n, c, rfl, hS, hl, k⟩ := h
  refine ⟨_, (pss_one (ps_ret (pe_comp (N := ["x", "was", "bits", "cell"]) (src := [none, none, some 1, some 2]) rfl ⟨rfl, rfl, rfl, rfl, rfl, by decide +kernel⟩ (pi_enumK K rfl rfl T.enumerate (pa_cons (pv 0) pa_nil)) (fun s H C fp => (pg_tupK (n := 2) K rfl rfl (pgs_cons (pg_name (i := 0) (show (["x", "was", "bits", "cell"] : List Str).Nodup by decide +kernel) rfl (by first | exact Or.inl rfl | exact Or.inr rfl)) (pgs_cons (pg_name (i := 1) (show (["x", "was", "bits", "cell"] : List Str).Nodup by decide +kernel) rfl (by first | exact Or.inl rfl | exact Or.inr rfl)) pgs_nil)))) (fun s H C fp => pts_nil) (fun s H C fp => (pe_ifExp (pt_val (pe_callD g_bit_at (hr.mono (by decide)) rfl (pa_cons (pv 2) (pa_cons (pv 0) pa_nil)))) (pv 3) (pv 1)))))), ?_⟩
  refine ⟨_, rfl, a, rfl, ⟨_, hS⟩, fun D hD => ?_⟩
  refine comp2_fm (k1 := 0) (k2 := 1) (fun z => match z with | (.int i, .int w) => .int (if n.testBit i.toNat = true then c else w) | _ => .non) (fun _ => true) (src2_enum hS) (by rw [enumL_len, List.length_map]; exact Nat.le_trans (by omega : _ ≤ 2000) (by decide)) hD (fun z _ H' Qb _ kb => kb H' (Same.refl _)) (fun z hz _ H' Q' sm kk => ?_) fun H1 s1 hD1 => ?_
  ·obtain ⟨i, hi, rfl⟩ := enum_mem hz
   have tt : Q' (.int (if n.testBit i = true then c else r.getD i 0)) H' := kk H' (Same.refl _)
   refine ⟨_, rfl, _, rfl, n, i, rfl, _, rfl, iteB (fun h => ?_) (fun h => ?_)⟩
   ·rw [if_pos h] at tt; exact ⟨_, rfl, tt⟩
   ·rw [if_neg (by rw [h]; decide)] at tt; exact ⟨_, rfl, tt⟩
  ·refine k D H1 s1 hD ?_
   rw [hD1, List.filter_eq_self.mpr (fun _ _ => rfl)]
   congr 2
   exact enum_map _ _ fun i _ => rfl
theorem sc_chosen_row : FnScope ["row", "beside", "bits"] ["row", "beside", "bits"] (defScope s_chosen_row) := ⟨rfl, rfl, rfl, by decide +kernel, rfl, by decide +kernel, by decide +kernel⟩
theorem ok_chosen_row {f : Addr} {fd : FuncData} (F : FunD K "chosen_row" "chosen_row" s_chosen_row .none f fd) (T : Txt K mg cFE cBP cBC cBS cBM tS tC) (g_bit_at : Def P w K mg base 1 "bit_at" ["number", "place"] [] (spBitAt)) : FnOk P w K mg base CX0 2 f fd ["row", "beside", "bits"] (spChR K) := by
 refine F.ok sc_chosen_row (fun vs H Q E h => ?_) (fun cdv A outer s H vs Q E hr h => ?_)
 ·obtain ⟨a, b, r, s', n, rfl, _⟩ := h; rfl
 ·obtain ⟨a, b, r, t, n, rfl, hS, hT, ht, hl, k⟩ := h
  refine ⟨_, (pss_one (ps_ret (pe_comp (N := ["x", "cell", "bits", "beside"]) (src := [none, none, some 2, some 1]) rfl ⟨rfl, rfl, rfl, rfl, rfl, by decide +kernel⟩ (pi_enumK K rfl rfl T.enumerate (pa_cons (pv 0) pa_nil)) (fun s H C fp => (pg_tupK (n := 2) K rfl rfl (pgs_cons (pg_name (i := 0) (show (["x", "cell", "bits", "beside"] : List Str).Nodup by decide +kernel) rfl (by first | exact Or.inl rfl | exact Or.inr rfl)) (pgs_cons (pg_name (i := 1) (show (["x", "cell", "bits", "beside"] : List Str).Nodup by decide +kernel) rfl (by first | exact Or.inl rfl | exact Or.inr rfl)) pgs_nil)))) (fun s H C fp => pts_nil) (fun s H C fp => (pe_ifExp (pt_val (pe_callD g_bit_at (hr.mono (by decide)) rfl (pa_cons (pv 2) (pa_cons (pv 0) pa_nil)))) (pe_ix (ixK K rfl) (pv 3) (pv 0) (fun _ _ => rfl)) (pv 1)))))), ?_⟩
  refine ⟨_, rfl, a, rfl, ⟨_, hS⟩, fun D hD => ?_⟩
  refine comp2_fm (k1 := 0) (k2 := 1) (fun z => match z with | (.int i, .int w) => .int (if n.testBit i.toNat = true then t.getD i.toNat 0 else w) | _ => .non) (fun _ => true) (src2_enum hS) (by rw [enumL_len, List.length_map]; exact Nat.le_trans (by omega : _ ≤ 2000) (by decide)) hD (fun z _ H' Qb _ kb => kb H' (Same.refl _)) (fun z hz _ H' Q' sm kk => ?_) fun H1 s1 hD1 => ?_
  ·obtain ⟨i, hi, rfl⟩ := enum_mem hz
   have tt : Q' (.int (if n.testBit i = true then t.getD i 0 else r.getD i 0)) H' := kk H' (Same.refl _)
   refine ⟨_, rfl, _, rfl, n, i, rfl, _, rfl, iteB (fun h => ?_) (fun h => ?_)⟩
   ·rw [if_pos h] at tt
    have ai : atI (t.map V.int) (i : Int) = some (.int (t.getD i 0)) := atI_nat (by rw [List.getElem?_map, List.getElem?_eq_getElem (by omega : i < t.length), List.getD_eq_getElem?_getD, List.getElem?_eq_getElem (by omega : i < t.length)]; rfl)
    exact ⟨_, rfl, _, rfl, b, _, _, _, rfl, rfl, sm.seq hT, ai, tt⟩
   ·rw [if_neg (by rw [h]; decide)] at tt; exact ⟨_, rfl, tt⟩
  ·refine k D H1 s1 hD ?_
   rw [hD1, List.filter_eq_self.mpr (fun _ _ => rfl)]
   congr 2
   exact enum_map _ _ fun i _ => rfl
end
section
variable {K : W.Frag}
theorem Good.at {rows : List (List Int)} {wd : Nat} (g : Good rows wd) {i : Nat} {r : List V} (h : (ir rows)[i]? = some r) : ∃ (ns : List Int), r = ns.map V.int ∧ ns.length = wd ∧ (∀ c ∈ ns, 0 ≤ c ∧ c ≤ 15) ∧ ns ∈ rows := by
 unfold ir at h
 rw [List.getElem?_map] at h
 cases e : rows[i]? with
 | none => rw [e] at h; cases h
 | some ns =>
  rw [e] at h
  cases h
  have hm := List.mem_of_getElem? e
  exact ⟨ns, rfl, (g.row ns hm).1, (g.row ns hm).2, hm⟩
theorem Good.mem {H : Hp} {a q : Addr} {ps : List Addr} {rows : List (List Int)} {wd : Nat} (g : Good rows wd) (p : PicV H a ps (ir rows)) (hq : q ∈ ps) : ∃ (ns : List Int), H q = some (.lst (ns.map V.int)) ∧ ns.length = wd ∧ (∀ c ∈ ns, 0 ≤ c ∧ c ≤ 15) := by
 obtain ⟨i, hi⟩ := List.mem_iff_getElem?.mp hq
 obtain ⟨r, hr, e⟩ := p.at hi
 obtain ⟨ns, rfl, h1, h2, _⟩ := g.at hr
 exact ⟨ns, e, h1, h2⟩
theorem Good.first {H : Hp} {a : Addr} {ps : List Addr} {rows : List (List Int)} {wd : Nat} (g : Good rows wd) (p : PicV H a ps (ir rows)) : ∃ (q : Addr) (ns : List Int), (ps.map V.ref)[0]? = some (.ref q) ∧ H q = some (.lst (ns.map V.int)) ∧ ns.length = wd := by
 have hl : ps.length = rows.length := by have := p.len; unfold ir at this; rw [List.length_map] at this; exact this
 have h0 : 0 < ps.length := by have := g.ne; omega
 have e : ps[0]? = some ps[0] := by simp [h0]
 obtain ⟨ns, h1, h2, _⟩ := g.mem p (List.getElem_mem h0)
 exact ⟨ps[0], ns, by rw [List.getElem?_map, e]; rfl, h1, h2⟩
theorem ir_len (rows : List (List Int)) : (ir rows).length = rows.length := by unfold ir; rw [List.length_map]
theorem map_tt (xs : List V) : xs.map (fun _ => V.bl true) = (xs.map fun _ => true).map V.bl := by rw [List.map_map]; rfl
theorem all_rep (n : List V) : (n.map fun _ => true).all id = true := by
 induction n with
 | nil => rfl
 | cons x r ih => rw [List.map_cons, List.all_cons, ih]; rfl
end
noncomputable def spCopied (K : W.Frag) : Sp := fun vs H Q _ => ∃ a ps R, vs = [.ref a] ∧ H a = some (.lst (ps.map V.ref)) ∧ Paired (fun p r => H p = some (.lst r)) ps R ∧ R.length ≤ 1000 ∧ ∀ p qs H', Same H H' → H p = none → Fresh H qs → PicV H' p qs R → Q (.ref p) H'
theorem getElem?_ref {ps : List Addr} {i : Nat} {x : V} (h : (ps.map V.ref)[i]? = some x) : ∃ q, ps[i]? = some q ∧ x = .ref q := by
 rw [List.getElem?_map] at h
 cases e : ps[i]? with
 | none => rw [e] at h; cases h
 | some q => rw [e] at h; cases h; exact ⟨q, rfl, rfl⟩
noncomputable def cAt (rows : List (List Int)) (x y : Nat) : Int := (rows.getD y []).getD x 0
noncomputable def grid (wd hg : Nat) (f : Nat → Nat → Int) : List (List Int) := (List.range hg).map fun y => (List.range wd).map fun x => f x y
theorem getD_row {rows : List (List Int)} {y : Nat} (h : y < rows.length) : rows.getD y [] = rows[y] := by simp [List.getD, h]
theorem cAt_eq {rows : List (List Int)} {x y : Nat} (h : y < rows.length) (hx : x < rows[y].length) : cAt rows x y = rows[y][x] := by
 unfold cAt; rw [getD_row h]; simp [List.getD, hx]
theorem row_len {rows : List (List Int)} {wd y : Nat} (g : Good rows wd) (h : y < rows.length) : rows[y].length = wd := (g.row _ (List.getElem_mem h)).1
theorem ext_at {r1 r2 : List (List Int)} {wd : Nat} (h1 : ∀ r ∈ r1, r.length = wd) (h2 : ∀ r ∈ r2, r.length = wd) (hl : r1.length = r2.length) (h : ∀ x y, x < wd → y < r1.length → cAt r1 x y = cAt r2 x y) : r1 = r2 := by
 refine List.ext_getElem hl fun y a b => ?_
 have l1 := h1 _ (List.getElem_mem a)
 have l2 := h2 _ (List.getElem_mem b)
 refine List.ext_getElem (by rw [l1, l2]) fun x c d => ?_
 have := h x y (by omega) a
 rw [cAt_eq a c, cAt_eq b d] at this
 exact this
theorem Good.rows {rows : List (List Int)} {wd : Nat} (g : Good rows wd) : ∀ r ∈ rows, r.length = wd := fun r hr => (g.row r hr).1
theorem grid_len (wd hg : Nat) (f : Nat → Nat → Int) : (grid wd hg f).length = hg := by simp [grid]
theorem grid_row {wd hg : Nat} {f : Nat → Nat → Int} : ∀ r ∈ grid wd hg f, r.length = wd := fun r hr => by
 obtain ⟨y, _, rfl⟩ := List.mem_map.mp hr
 simp
theorem grid_at {wd hg : Nat} {f : Nat → Nat → Int} {x y : Nat} (hx : x < wd) (hy : y < hg) : cAt (grid wd hg f) x y = f x y := by
 unfold cAt grid
 simp [List.getD, hx, hy]
theorem cell_in {rows : List (List Int)} {wd x y : Nat} (g : Good rows wd) (hx : x < wd) (hy : y < rows.length) : 0 ≤ cAt rows x y ∧ cAt rows x y ≤ 15 := by
 have hx' : x < rows[y].length := by rw [row_len g hy]; exact hx
 rw [cAt_eq hy hx']
 exact (g.row _ (List.getElem_mem hy)).2 _ (List.getElem_mem hx')
theorem grid_good {wd hg : Nat} {f : Nat → Nat → Int} (w1 : 1 ≤ wd) (w24 : wd ≤ 24) (h1 : 1 ≤ hg) (h24 : hg ≤ 24) (hf : ∀ x y, x < wd → y < hg → 0 ≤ f x y ∧ f x y ≤ 15) : Good (grid wd hg f) wd := by
 refine ⟨by rw [grid_len]; exact h1, by rw [grid_len]; exact h24, w1, w24, fun r hr => ⟨grid_row r hr, fun c hc => ?_⟩⟩
 obtain ⟨y, hy, rfl⟩ := List.mem_map.mp hr
 obtain ⟨x, hx, rfl⟩ := List.mem_map.mp hc
 exact hf x y (List.mem_range.mp hx) (List.mem_range.mp hy)
theorem good_grid {rows : List (List Int)} {wd : Nat} (g : Good rows wd) : rows = grid wd rows.length (cAt rows) := by
 refine ext_at g.rows grid_row (grid_len ..).symm fun x y hx hy => ?_
 rw [grid_at hx hy]
theorem PicV.row_at {H : Hp} {a : Addr} {ps : List Addr} {rows : List (List Int)} {i : Nat} {r : List Int} (p : PicV H a ps (ir rows)) (h : rows[i]? = some r) : ∃ q, ps[i]? = some q ∧ H q = some (.lst (r.map V.int)) := by
 have hl : ps.length = rows.length := by rw [p.len, ir_len]
 have hi : i < ps.length := by rw [hl]; exact (List.getElem?_eq_some_iff.mp h).1
 have e : ps[i]? = some ps[i] := by simp [hi]
 obtain ⟨r', h1, h2⟩ := p.at e
 have e2 : (ir rows)[i]? = some (r.map V.int) := by unfold ir; rw [List.getElem?_map, h]; rfl
 rw [e2] at h1; cases h1
 exact ⟨_, e, h2⟩
theorem Good.get {rows : List (List Int)} {wd : Nat} (g : Good rows wd) {i : Nat} (h : i < rows.length) : ∃ r, rows[i]? = some r ∧ r.length = wd ∧ ∀ c ∈ r, 0 ≤ c ∧ c ≤ 15 := by
 have e : rows[i]? = some rows[i] := by simp [h]
 obtain ⟨h1, h2⟩ := g.row _ (List.getElem_mem h)
 exact ⟨_, e, h1, h2⟩
section
variable {K : W.Frag} {H : Hp} {a : Addr} {ps : List Addr} {rows : List (List Int)} {wd : Nat}
theorem th_good (p : PicV H a ps (ir rows)) (g : Good rows wd) : Th2 K H (.ref a) := by
 refine Th.pic p (by rw [ir_len]; exact Nat.le_trans g.le (by decide)) fun r hr => ?_
 obtain ⟨i, hi⟩ := List.mem_iff_getElem?.mp hr
 obtain ⟨ms, rfl, hw, _, _⟩ := g.at hi
 exact ⟨by rw [List.length_map, hw]; exact Nat.le_trans g.w24 (by decide), kd_ints⟩
theorem len_good (p : PicV H a ps (ir rows)) (g : Good rows wd) : ∀ x ∈ ps.map V.ref, lenOf H x = wd := fun x hx => by
 obtain ⟨q, hq, rfl⟩ := List.mem_map.mp hx
 obtain ⟨ns, e1, e2, _⟩ := g.mem p hq
 rw [lenOf_lst e1, List.length_map, e2]
theorem head_good (p : PicV H a ps (ir rows)) (g : Good rows wd) : lenOf H ((ps.map V.ref).headD .non) = wd := by
 obtain ⟨q, ns, e0, e1, e2⟩ := g.first p
 refine len_good p g _ ?_
 cases h : ps.map V.ref with
 | nil => rw [h] at e0; cases e0
 | cons z r => exact List.mem_cons_self
theorem picB_good (p : PicV H a ps (ir rows)) (g : Good rows wd) : picB H (.ref a) = true := by
 refine (picB_iff (rowOf_lst p.top)).mpr ⟨?_, fun x hx => ?_, fun x hx => by rw [len_good p g x hx, head_good p g]⟩
 ·rw [List.length_map, p.len, ir_len]; exact wh_len g.ne g.le
 ·obtain ⟨q, hq, rfl⟩ := List.mem_map.mp hx
  obtain ⟨ns, e1, e2, e3⟩ := g.mem p hq
  exact (rowQ_iff e1).mpr ⟨wh_cells e3, by rw [List.length_map, e2]; exact wh_len g.w1 g.w24⟩
theorem no_bad (p : PicV H a ps (ir rows)) (g : Good rows wd) (z : picB H (.ref a) = false) : False := by rw [picB_good p g] at z; cases z
end
noncomputable def gOf (H : Hp) : V → List V := fun v => match v with | .ref q => (match H q with | some (.lst r) => r | _ => []) | _ => []
theorem gOf_at {H : Hp} {q : Addr} {r : List V} (e : H q = some (.lst r)) : gOf H (.ref q) = r := by simp only [gOf, e]
theorem gOf_map {H : Hp} : ∀ {l : List Addr} {S : List (List V)}, Paired (fun p r => H p = some (.lst r)) l S → (l.map V.ref).map (gOf H) = S
 | _, _, .nil => rfl
 | _, _, .cons r t => by rw [List.map_cons, List.map_cons, gOf_map t, gOf_at r]
theorem getD_at {α : Type} {xs : List α} {j : Nat} {v d : α} (h : xs[j]? = some v) : xs.getD j d = v := by simp [List.getD, h]
theorem EqL.pic {K : W.Frag} {H : Hp} {a b : Addr} {ps qs : List Addr} {rows : List (List Int)} (pa : PicV H a ps (ir rows)) (pb : PicV H b qs (ir rows)) : EqL K H (EqD K H 1) a b true := by
 refine ⟨ps.map V.ref, qs.map V.ref, .inr ⟨.inl ⟨SqL.of pa.top, SqL.of pb.top⟩, by rw [List.length_map, List.length_map, pa.len, pb.len], fun _ => true, fun i x y h1 h2 => ?_, (range_all fun _ _ => rfl).symm⟩⟩
 obtain ⟨p, hp, rfl⟩ := getElem?_ref h1
 obtain ⟨q, hq, rfl⟩ := getElem?_ref h2
 by_cases e : p = q
 ·subst e; exact .inl (.inl ⟨p, rfl, rfl, rfl⟩)
 ·obtain ⟨r, hr, e1⟩ := pa.at hp
  obtain ⟨r', hr', e2⟩ := pb.at hq
  rw [hr] at hr'; cases hr'
  refine .inr ⟨p, q, rfl, rfl, e, EqL.same (.inl ⟨SqL.of e1, SqL.of e2⟩) fun z hz => ?_⟩
  unfold ir at hr
  rw [List.getElem?_map] at hr
  cases hg : rows[i]? with
  | none => rw [hg] at hr; cases hr
  | some ns =>
   rw [hg] at hr; cases hr
   obtain ⟨n, _, rfl⟩ := List.mem_map.mp hz
   exact .inl rfl
theorem PicV.push {H H3 : Hp} {S q : Addr} {qs : List Addr} {R : List (List V)} {r : List V} (pic : PicV H S qs R) (s : Same H H3) (hq : H q = none) (e : H3 q = some (.lst r)) : PicV (upd H3 S (.lst (qs.map V.ref ++ [.ref q]))) S (qs ++ [q]) (R ++ [r]) := by
 have nq : q ∉ qs := fun z => by
  obtain ⟨r', _, e'⟩ := pic.mem z
  rw [hq] at e'; cases e'
 have nS : S ≠ q := ne_of_none pic.top hq
 refine ⟨by rw [upd_same, List.map_append]; rfl, ?_, ?_, ?_⟩
 ·refine Paired.app (Paired.mapI pic.row fun c r hc e1 => ?_) (.cons ?_ .nil)
  ·rw [upd_ne (fun z => pic.out (by rw [← z]; exact hc))]
   exact s _ _ e1
  ·rw [upd_ne (Ne.symm nS)]; exact e
 ·rw [List.nodup_append]
  exact ⟨pic.nd, by simp, fun c hc d hd z => by
   cases List.mem_singleton.mp hd
   subst z
   exact nq hc⟩
 ·intro z
  rcases List.mem_append.mp z with z | z
  ·exact pic.out z
  ·exact nS (by simpa using z)
noncomputable def NewP (H : Hp) (Q : VK) (R : List (List Int)) : Prop := ∀ p qs H', Same H H' → H p = none → Fresh H qs → PicV H' p qs (ir R) → Q (.ref p) H'
theorem getD_int {r : List Int} {x : Nat} (h : x < r.length) : (r.map V.int)[x]? = some (.int (r.getD x 0)) := by simp [List.getD, h]
noncomputable def iV : V → Int
 | .int i => i
 | _ => 0
theorem iV_map (r : List Int) : (r.map V.int).map iV = r := by
 rw [List.map_map]
 conv => rhs; rw [← List.map_id r]
 exact List.map_congr_left fun i _ => rfl
noncomputable def mkRow (cs : List Nat) (r : List Int) : Nat := bitsN ((List.range r.length).filter fun i => decide ((r.getD i 0).toNat ∈ cs))
noncomputable def mkM (rows : List (List Int)) (cs : List Nat) : List Nat := rows.map (mkRow cs)
noncomputable def pdM (rows : List (List Int)) (rm : List Nat) (c : Int) : List (List Int) := (List.range rows.length).map fun y => pdR (rows.getD y []) (rm.getD y 0) c
noncomputable def chM (rows rows2 : List (List Int)) (rm : List Nat) : List (List Int) := (List.range rows.length).map fun y => chR (rows.getD y []) (rows2.getD y []) (rm.getD y 0)
theorem enum_filter {r : List Int} (p : V × V → Bool) (q : Nat → Bool) (h : ∀ i, i < r.length → p (.int (i : Int), .int (r.getD i 0)) = q i) : ((enumL (r.map V.int)).filter p).map (fun z => z.1) = ((List.range r.length).filter q).map fun i : Nat => V.int (i : Int) := by
 unfold enumL
 rw [List.length_map, List.filter_map, List.map_map]
 have e : (List.range r.length).filter (p ∘ fun (i : Nat) => (V.int (i : Int), (r.map V.int).getD i .non)) = (List.range r.length).filter q := by
  refine List.filter_congr fun i hi => ?_
  have hi := List.mem_range.mp hi
  have e : (r.map V.int).getD i .non = .int (r.getD i 0) := by
   rw [List.getD_eq_getElem?_getD, List.getElem?_map, List.getD_eq_getElem?_getD, List.getElem?_eq_getElem hi]; rfl
  show p (.int (i : Int), (r.map V.int).getD i .non) = _
  rw [e, h i hi]
 rw [e]
 exact List.map_congr_left fun i _ => rfl
theorem enum_mapG {β : Type} {ps : List Addr} (G : V × V → β) (k : Nat → β) (h : ∀ i v, i < ps.length → G (.int (i : Int), v) = k i) : (enumL (ps.map V.ref)).map G = (List.range ps.length).map k := by
 unfold enumL
 rw [List.length_map, List.map_map]
 exact List.map_congr_left fun i hi => h i _ (List.mem_range.mp hi)
theorem enum_ref {ps : List Addr} {z : V × V} (hz : z ∈ enumL (ps.map V.ref)) : ∃ i q, ps[i]? = some q ∧ z = (.int ((i : Nat) : Int), .ref q) := by
 obtain ⟨i, hi⟩ := List.getElem?_of_mem hz
 obtain ⟨x, hx, rfl⟩ := enumL_at hi
 obtain ⟨q, hq, rfl⟩ := getElem?_ref hx
 exact ⟨i, q, hq, rfl⟩
noncomputable def PicA (K : W.Frag) (H : Hp) (x : V) (Y : List (List Int) → Nat → Prop) (N : Prop) : Prop := (∃ (a : Addr) (ps : List Addr) (rows : List (List Int)) (wd : Nat), x = .ref a ∧ PicV H a ps (ir rows) ∧ Good rows wd ∧ Y rows wd) ∨ (Th K H x ∧ picB H x = false ∧ N)
noncomputable def BadC (K : W.Frag) (H : Hp) (y : V) : Prop := (∃ (b : Addr) (xs : List V), y = .ref b ∧ H b = some (.lst xs) ∧ xs.length ≤ 1000000 ∧ (∀ y ∈ xs, Kd K H y) ∧ xs.all (isWh 0 15) = false) ∨ (Kd K H y ∧ isL H y = false)
theorem BadC.mono {K : W.Frag} {H H' : Hp} {y : V} (b : BadC K H y) (s : Same H H') : BadC K H' y := by
 rcases b with ⟨b, xs, e, h, hl, kd, ha⟩ | ⟨kd, h⟩
 ·exact .inl ⟨b, xs, e, s _ _ h, hl, fun y hy => (kd y hy).mono s, ha⟩
 ·exact .inr ⟨kd.mono s, by rw [isL_mono kd s]; exact h⟩
noncomputable def FarP (K : W.Frag) (H : Hp) (u : V) (wd n : Nat) : Prop := Th K H u ∧ picB H u = true ∧ ∀ xs, rowOf H u = some xs → ¬ (wd = lenOf H (xs.headD .non) ∧ n = xs.length)
theorem FarP.mono {K : W.Frag} {H H' : Hp} {u : V} {wd n : Nat} (b : FarP K H u wd n) (s : Same H H') : FarP K H' u wd n := by
 obtain ⟨th, hp, hn⟩ := b
 refine ⟨th.mono s, by rw [picB_mono th s]; exact hp, fun xs e => ?_⟩
 rw [rowOf_mono th.kd s] at e
 have kh : Kd K H (xs.headD .non) := by
  cases xs with
  | nil => exact .non
  | cons x r => exact (th.it _ e x List.mem_cons_self).kd
 rw [lenOf_mono kh s]
 exact hn xs e
noncomputable def spMaskOf (K : W.Frag) (cBP cBC : Addr) : Sp := fun vs H Q E => ∃ x y, vs = [x, y] ∧ PicA K H x (fun rows wd =>
  (∃ (b : Addr) (cs : List Nat), y = .ref b ∧ H b = some (.lst (cs.map fun c : Nat => V.int (c : Int))) ∧ cs.length ≤ 1000 ∧ (∀ c ∈ cs, c ≤ 15) ∧ ∀ p q H', Same H H' → MaskV H' p q wd (mkM rows cs) → Q (.ref p) H')
  ∨ (BadC K H y ∧ ∀ H', Same H H' → E (.ref cBC) none H')) (∀ H', Same H H' → E (.ref cBP) none H')
noncomputable def spPainted (K : W.Frag) (cBP cBM cBS cBC : Addr) : Sp := fun vs H Q E => ∃ x m c, vs = [x, m, c] ∧ PicA K H x (fun rows wd => One K H m (fun wm rm =>
  (¬ (wd = wm ∧ rows.length = rm.length) ∧ ∀ H', Same H H' → E (.ref cBS) none H')
  ∨ ((wd = wm ∧ rows.length = rm.length) ∧ ((∃ i : Int, c = .int i ∧ 0 ≤ i ∧ i ≤ 15 ∧ NewP H Q (pdM rows rm i)) ∨ (Kd K H c ∧ isWh 0 15 c = false ∧ ∀ H', Same H H' → E (.ref cBC) none H'))))
  (∀ H', Same H H' → E (.ref cBM) none H')) (∀ H', Same H H' → E (.ref cBP) none H')
noncomputable def spChosen (K : W.Frag) (cBP cBM cBS : Addr) : Sp := fun vs H Q E => ∃ x u m, vs = [x, u, m] ∧ PicA K H x (fun rows wd => (FarP K H u wd rows.length ∧ One K H m (fun _ _ => ∀ H', Same H H' → E (.ref cBS) none H') (∀ H', Same H H' → E (.ref cBM) none H')) ∨ PicA K H u (fun rows2 wd2 => One K H m (fun wm rm =>
  (¬ ((wd = wd2 ∧ rows.length = rows2.length) ∧ (wd = wm ∧ rows.length = rm.length)) ∧ ∀ H', Same H H' → E (.ref cBS) none H')
  ∨ ((wd = wd2 ∧ rows.length = rows2.length) ∧ (wd = wm ∧ rows.length = rm.length) ∧ NewP H Q (chM rows rows2 rm)))
  (∀ H', Same H H' → E (.ref cBM) none H')) (∀ H', Same H H' → E (.ref cBP) none H')) (∀ H', Same H H' → E (.ref cBP) none H')
theorem int_cell {c : Int} (h0 : 0 ≤ c) (h1 : c ≤ 15) : isWh 0 15 (.int c) = true := by
 simp only [isWh, Bool.and_eq_true, decide_eq_true_eq]; exact ⟨h0, h1⟩
section
variable {P : Program} {w : World} {K : W.Frag} {mg : Str → Option Value} {base : Heap} {cFE cBP cBC cBS cBM : Addr} {tS tC : Tok}
theorem sc_is_list_of_cells : FnScope ["thing"] ["thing"] (defScope s_is_list_of_cells) := ⟨rfl, rfl, rfl, by decide +kernel, rfl, by decide +kernel, by decide +kernel⟩
theorem ok_is_list_of_cells {fC f : Addr} {fd : FuncData} (F : FunD K "is_list_of_cells" "is_list_of_cells" s_is_list_of_cells .none f fd) (hC : mg "is_cell" = some (.ref fC)) (g_is_list_of : Def P w K mg base 4 "is_list_of" ["thing", "is_one"] [] (spLocF K fC)) : FnOk P w K mg base CX0 5 f fd ["thing"] (spLoc K) := by
 refine F.ok sc_is_list_of_cells (fun vs H Q E h => ?_) (fun cdv A outer s H vs Q E hr h => ?_)
 ·obtain ⟨x, rfl, _⟩ := h; rfl
 ·obtain ⟨x, rfl, h⟩ := h
  refine ⟨_, (pss_one (ps_ret (pe_callD g_is_list_of (hr.mono (by decide)) rfl (pa_cons (pv 0) (pa_cons (pe_glob (v := .ref fC) rfl hC rfl) pa_nil))))), ?_⟩
  exact ⟨_, rfl, x, rfl, x, rfl, h⟩
theorem sc_mask_of : FnScope ["picture", "cells", "wanted", "rows"] ["picture", "cells"] (defScope s_mask_of) := ⟨rfl, rfl, rfl, by decide +kernel, rfl, by decide +kernel, by decide +kernel⟩
theorem ok_mask_of {f : Addr} {fd : FuncData} (F : FunD K "mask_of" "mask_of" s_mask_of .none f fd) (T : Txt K mg cFE cBP cBC cBS cBM tS tC) (g_need_picture : DefX P w K mg base 7 "need_picture" ["picture"] [] (spNeed K cBP)) (g_is_list_of_cells : Def P w K mg base 5 "is_list_of_cells" ["thing"] [] (spLoc K)) (g_bits_of_numbers : Def P w K mg base 2 "bits_of_numbers" ["numbers"] [] (spBN K)) (g_bit_at : Def P w K mg base 1 "bit_at" ["number", "place"] [] (spBitAt)) : FnOk P w K mg base (CX1 P w) 8 f fd ["picture", "cells"] (spMaskOf K cBP cBC) := by
 refine F.okX sc_mask_of (fun vs H Q E h => ?_) (fun cdv A outer s H vs Q E hr h => ?_)
 ·obtain ⟨x, y, rfl, _⟩ := h; rfl
 ·obtain ⟨x, y, rfl, h⟩ := h
  refine ⟨_, (pss_cons (ps_expr (pe_callX g_need_picture (hr.mono (by decide)) passes1R rfl (pa_cons (pv 0) pa_nil)))
    (pss_cons (ps_if (pt_not (pt_val (pe_callD g_is_list_of_cells (hr.mono (by decide)) rfl (pa_cons (pv 1) pa_nil)))) (pss_one (ps_raise rfl raises1 rfl T.BadCell T.xBadCell (pa_cons pe_str pa_nil))) pss_nil)
    (pss_cons (ps_set (i := 2) sc_mask_of.nd rfl (by first | exact Or.inl rfl | exact Or.inr rfl) (pe_callD g_bits_of_numbers (hr.mono (by decide)) rfl (pa_cons (pv 1) pa_nil)))
    (pss_cons (ps_setC (ix := 3) (N := ["row", "wanted"]) (src := [none, some 2]) sc_mask_of.nd rfl rfl rfl ⟨rfl, rfl, rfl, rfl, rfl, by decide +kernel⟩ (piK K rfl (pv 0)) (fun s H C fp => pg_name (i := 0) (show (["row", "wanted"] : List Str).Nodup by decide +kernel) rfl (by first | exact Or.inl rfl | exact Or.inr rfl)) (fun s H C fp => pts_nil) (fun s H C fp => (pe_callD g_bits_of_numbers (hr.mono (by decide)) rfl (pa_cons (pe_comp (N := ["x", "cell", "wanted"]) (src := [none, none, some 1]) rfl ⟨rfl, rfl, rfl, rfl, rfl, by decide +kernel⟩ (pi_enumK K rfl rfl T.enumerate (pa_cons (pv 0) pa_nil)) (fun s H C fp => (pg_tupK (n := 2) K rfl rfl (pgs_cons (pg_name (i := 0) (show (["x", "cell", "wanted"] : List Str).Nodup by decide +kernel) rfl (by first | exact Or.inl rfl | exact Or.inr rfl)) (pgs_cons (pg_name (i := 1) (show (["x", "cell", "wanted"] : List Str).Nodup by decide +kernel) rfl (by first | exact Or.inl rfl | exact Or.inr rfl)) pgs_nil)))) (fun s H C fp => (pts_one (pt_val (pe_callD g_bit_at (hr.mono (by decide)) rfl (pa_cons (pv 2) (pa_cons (pv 1) pa_nil)))))) (fun s H C fp => (pv 0))) pa_nil))))
    (pss_one (ps_ret (pe_tup (pa_cons (pe_callB (lenK K rfl) rfl T.len PySem.boot_len (pa_cons (pe_ix (ixK K rfl) (pv 0) pe_int (fun _ _ => rfl)) pa_nil)) (pa_cons (pe_callTy call_tuple_of rfl T.tuple PyProof.Rows.boot_tuple (pa_cons (pv 3) pa_nil)) pa_nil))))))))), ?_⟩
  rcases h with ⟨a, ps, rows, wd, rfl, pic, gd, h⟩ | ⟨th, hb, kB⟩
  ·refine ⟨_, rfl, .ref a, rfl, (th_good pic gd).1, fun _ H1 s1 => ?_, fun z => (no_bad pic gd z).elim⟩
   rcases h with ⟨b, cs, rfl, eb, lc, hc, k⟩ | ⟨bc, kC⟩
   ·have hcV : (cs.map fun c : Nat => V.int (c : Int)).all (isWh 0 15) = true := by
     rw [List.all_eq_true]
     intro v hv
     obtain ⟨c, hm, rfl⟩ := List.mem_map.mp hv
     exact int_cell (by omega) (by have := hc c hm; omega)
    refine ⟨_, rfl, .ref b, rfl, .inl ⟨b, _, rfl, s1 _ _ eb, by rw [List.length_map]; omega, fun v hv => ?_, fun H2 s2 => ⟨_, rfl, iteN (fun z => (by rw [hcV] at z; cases z)) (fun _ => ?_)⟩⟩⟩
    ·obtain ⟨c, _, rfl⟩ := List.mem_map.mp hv; exact .int _
    have s12 := s1.trans s2
    have pic2 := pic.mono s12
    refine ⟨_, rfl, b, cs, rfl, SqL.of (s12 _ _ eb), fun c hm => by have := hc c hm; omega, ?_⟩
    refine ⟨_, rfl, a, rfl, ⟨_, SqL.of pic2.top⟩, fun D hD => ?_⟩
    refine comp_fm (k := 0) (fun v => .int (mkRow cs ((gOf H v).map iV) : Nat)) (fun _ => true) (src_list (SqL.of pic2.top)) (by rw [List.length_map, pic.len, ir_len]; exact Nat.le_trans gd.le (by decide)) hD (fun x _ H' Qb _ kk => kk H' (Same.refl _)) (fun x hx _ H' Q' sm kk => ?_) fun H3 s3 h3 => ?_
    ·obtain ⟨q, hq, rfl⟩ := List.mem_map.mp hx
     obtain ⟨ns, e1, l1, c1⟩ := gd.mem pic hq
     have eq : H' q = some (.lst (ns.map V.int)) := sm _ _ (s12 _ _ e1)
     have tt : ∀ H'', Same H' H'' → Q' (.int (mkRow cs ns : Nat)) H'' := fun H'' s'' => by
      have := kk H'' s''
      rw [gOf_at e1, iV_map] at this
      exact this
     have w24 := gd.w24
     refine ⟨_, rfl, q, rfl, ⟨_, SqL.of eq⟩, fun D2 hD2 => ?_⟩
     refine comp2_fm (k1 := 0) (k2 := 1) (fun z => z.1) (fun z => match z with | (_, .int c) => decide (c.toNat ∈ cs) | _ => false) (src2_enum (SqL.of eq)) (by rw [enumL_len, List.length_map]; exact Nat.le_trans (by omega : _ ≤ 2000) (by decide)) hD2 (fun z hz H5 Qb s5 kb => ?_) (fun z hz _ H5 Q5 s5 k5 => ?_) fun H5 s5 h5 => ?_
     ·obtain ⟨i, hi, rfl⟩ := enum_mem hz
      have hci := c1 (ns.getD i 0) (by rw [List.getD_eq_getElem?_getD, List.getElem?_eq_getElem hi]; exact List.getElem_mem hi)
      have tb : Qb (decide ((ns.getD i 0).toNat ∈ cs)) H5 := kb H5 (Same.refl _)
      refine ⟨_, rfl, _, rfl, bitsN cs, (ns.getD i 0).toNat, ?_, _, rfl, ?_⟩
      ·rw [Int.toNat_of_nonneg hci.1]; rfl
      ·rw [bits_bit]; exact tb
     ·obtain ⟨i, hi, rfl⟩ := enum_mem hz
      exact ⟨_, rfl, k5 H5 (Same.refl _)⟩
     ·refine ⟨D2, (List.range ns.length).filter fun i => decide ((ns.getD i 0).toNat ∈ cs), rfl, SqL.of ?_, fun p hp => ?_, tt H5 s5⟩
      ·rw [h5]
       congr 2
       exact enum_filter _ _ fun i _ => rfl
      ·have := List.mem_range.mp (List.mem_filter.mp hp).1
       omega
    ·have s13 := s12.trans s3
     have pic3 := pic.mono s13
     obtain ⟨q, ns, e0, e1, e2⟩ := gd.first pic3
     refine ⟨_, rfl, a, _, _, _, rfl, rfl, SqL.of pic3.top, atI_nat (j := 0) e0, q, _, rfl, .inl (SqL.of e1), _, rfl, D, _, rfl, .inl ⟨SqL.of h3, fun q hq => ⟨sz2, fun p hp => k p q _ (s13.trans ((same_new hq).trans (same_new hp))) ⟨?_, ?_⟩⟩⟩⟩
     ·rw [upd_same, List.length_map, e2]
     ·rw [same_new hp _ _ upd_same, filter_t]
      congr 2
      have h := congrArg (List.map fun r => V.int (mkRow cs (r.map iV) : Nat)) (gOf_map pic.row)
      rw [List.map_map] at h
      refine Eq.trans h ?_
      unfold nV mkM ir
      rw [List.map_map, List.map_map]
      refine List.map_congr_left fun r _ => ?_
      show V.int (mkRow cs ((r.map V.int).map iV) : Nat) = V.int (mkRow cs r : Nat)
      rw [iV_map]
   ·rcases bc.mono s1 with ⟨b, xs, rfl, e, hl, kd, ha⟩ | ⟨kd, hL⟩
    ·exact ⟨_, rfl, .ref b, rfl, .inl ⟨b, xs, rfl, e, hl, kd, fun H2 s2 => ⟨_, rfl, iteN (fun _ => ⟨sz1, kC _ (s1.trans s2)⟩) (fun z => (by rw [ha] at z; cases z))⟩⟩⟩
    ·exact ⟨_, rfl, y, rfl, .inr ⟨kd, hL, _, rfl, iteT ⟨sz1, kC _ s1⟩⟩⟩
  ·exact ⟨_, rfl, x, rfl, th, fun z => (by rw [hb] at z; cases z), fun _ => kB⟩
theorem sc_painted : FnScope ["picture", "mask", "cell"] ["picture", "mask", "cell"] (defScope s_painted) := ⟨rfl, rfl, rfl, by decide +kernel, rfl, by decide +kernel, by decide +kernel⟩
theorem ok_painted {f : Addr} {fd : FuncData} (F : FunD K "painted" "painted" s_painted .none f fd) (T : Txt K mg cFE cBP cBC cBS cBM tS tC) (g_size_of : DefX P w K mg base 8 "size_of" ["picture"] [] (spSize K cBP)) (g_mask_size : DefX P w K mg base 6 "mask_size" ["mask"] [] (spSizeM K cBM)) (g_need_like_sizes : DefX P w K mg base 1 "need_like_sizes" ["one", "other"] [] (spLike K cBS)) (g_need_cell : DefX P w K mg base 4 "need_cell" ["cell"] [] (spNeedC K cBC)) (g_painted_row : Def P w K mg base 2 "painted_row" ["row", "bits", "cell"] [] (spPdR K)) : FnOk P w K mg base (CX1 P w) 9 f fd ["picture", "mask", "cell"] (spPainted K cBP cBM cBS cBC) := by
 refine F.okX sc_painted (fun vs H Q E h => ?_) (fun cdv A outer s H vs Q E hr h => ?_)
 ·obtain ⟨x, m, c, rfl, _⟩ := h; rfl
 ·obtain ⟨x, m, c, rfl, h⟩ := h
  refine ⟨_, (pss_cons (ps_expr (pe_callX g_need_like_sizes (hr.mono (by decide)) passes1R rfl (pa_cons (pe_callX g_size_of (hr.mono (by decide)) passes1R rfl (pa_cons (pv 0) pa_nil)) (pa_cons (pe_callX g_mask_size (hr.mono (by decide)) passes1R rfl (pa_cons (pv 1) pa_nil)) pa_nil))))
    (pss_cons (ps_expr (pe_callX g_need_cell (hr.mono (by decide)) passes1R rfl (pa_cons (pv 2) pa_nil)))
    (pss_one (ps_ret (pe_comp (N := ["y", "row", "mask", "cell"]) (src := [none, none, some 1, some 2]) rfl ⟨rfl, rfl, rfl, rfl, rfl, by decide +kernel⟩ (pi_enumK K rfl rfl T.enumerate (pa_cons (pv 0) pa_nil)) (fun s H C fp => (pg_tupK (n := 2) K rfl rfl (pgs_cons (pg_name (i := 0) (show (["y", "row", "mask", "cell"] : List Str).Nodup by decide +kernel) rfl (by first | exact Or.inl rfl | exact Or.inr rfl)) (pgs_cons (pg_name (i := 1) (show (["y", "row", "mask", "cell"] : List Str).Nodup by decide +kernel) rfl (by first | exact Or.inl rfl | exact Or.inr rfl)) pgs_nil)))) (fun s H C fp => pts_nil) (fun s H C fp => (pe_callD g_painted_row (hr.mono (by decide)) rfl (pa_cons (pv 1) (pa_cons (pe_ix (ixTK K rfl) (pe_ix (ixTK K rfl) (pv 2) pe_int (fun _ _ => rfl)) (pv 0) (fun _ _ => rfl)) (pa_cons (pv 3) pa_nil)))))))))), ?_⟩
  rcases h with ⟨a, ps, rows, wd, rfl, pic, gd, h⟩ | ⟨th, hb, kB⟩
  ·refine ⟨_, rfl, .ref a, rfl, (th_good pic gd).1, fun _ xs p1 H1 hx s1 _ e1 => ?_, fun z => (no_bad pic gd z).elim⟩
   rw [rowOf_lst pic.top] at hx; cases hx
   rw [head_good pic gd, List.length_map, pic.len, ir_len] at e1
   rcases h with ⟨b, b2, wm, rm, rfl, mv, gm, h⟩ | ⟨tm, hb, kB⟩
   ·refine ⟨_, rfl, .ref b, rfl, .inl ⟨b, b2, wm, rm, rfl, mv.mono s1, gm, fun p2 H2 s2 e2 => ?_⟩⟩
    have s12 := s1.trans s2
    rcases h with ⟨hne, kS⟩ | ⟨heq, h⟩
    ·exact ⟨p1, p2, wd, rows.length, wm, rm.length, rfl, s2 _ _ e1, e2, fun z => (hne z).elim, fun _ => kS _ s12⟩
    ·refine ⟨p1, p2, wd, rows.length, wm, rm.length, rfl, s2 _ _ e1, e2, fun _ => ?_, fun z => (z heq).elim⟩
     rcases h with ⟨i, rfl, i0, i15, k⟩ | ⟨kc, hcb, kC⟩
     ·refine ⟨_, rfl, .int i, rfl, .int i, fun _ => ?_, fun z => (by rw [int_cell i0 i15] at z; cases z)⟩
      have pic2 := pic.mono s12
      have mv2 := mv.mono s12
      refine ⟨_, rfl, a, rfl, ⟨_, SqL.of pic2.top⟩, fun D hD => ?_⟩
      have hpl : ps.length = rows.length := by rw [pic.len, ir_len]
      refine comp2_rows (k1 := 0) (k2 := 1) (fun z => match z with | (.int j, _) => (pdR (rows.getD j.toNat []) (rm.getD j.toNat 0) i).map V.int | _ => []) (src2_enum (SqL.of pic2.top)) (by rw [enumL_len, List.length_map, hpl]; exact Nat.le_trans gd.le (by decide)) hD (fun z hz H' Q' sm kk => ?_) fun qs H3 s3 fr pic3 => ?_
      ·obtain ⟨j, q, hq, rfl⟩ := enum_ref hz
       have hj : j < rows.length := by rw [← hpl]; exact (List.getElem?_eq_some_iff.mp hq).1
       obtain ⟨r, hr1, hr2, hr3⟩ := gd.get hj
       obtain ⟨q', hq', eq⟩ := PicV.row_at pic2 hr1
       rw [hq] at hq'; cases hq'
       have mv3 := mv2.mono sm
       have w24 := gd.w24
       have er : rows.getD j [] = r := getD_at hr1
       refine ⟨_, rfl, _, rfl, b, _, _, .ref b2, rfl, rfl, SqT.of mv3.top, atI_nat (j := 1) rfl, _, rfl, b2, _, _, .int (rm.getD j 0 : Nat), rfl, rfl, SqT.of mv3.row, atI_nat (nV_get (by rw [← heq.2]; exact hj)), _, rfl, q, r, rm.getD j 0, i, rfl, SqL.of (sm _ _ eq), by omega, fun l H4 s4 hl e4 => kk l H4 s4 hl ?_⟩
       rw [e4]
       show some (HO.lst ((pdR r (rm.getD j 0) i).map V.int)) = some (HO.lst ((pdR (rows.getD j []) (rm.getD j 0) i).map V.int))
       rw [er]
      ·refine k D qs H3 (s12.trans s3) (s12.free hD) (fun q hq => s12.free (fr q hq)) ?_
       have e : (enumL (ps.map V.ref)).map (fun z => match z with | (.int j, _) => (pdR (rows.getD j.toNat []) (rm.getD j.toNat 0) i).map V.int | _ => []) = ir (pdM rows rm i) := by
        rw [enum_mapG _ (fun j => (pdR (rows.getD j []) (rm.getD j 0) i).map V.int) (fun j v _ => rfl), hpl]
        unfold ir pdM
        rw [List.map_map]; rfl
       rw [e] at pic3
       exact pic3
     ·exact ⟨_, rfl, c, rfl, kc.mono s12, fun z => (by rw [hcb] at z; cases z), fun _ => kC _ s12⟩
   ·exact ⟨_, rfl, m, rfl, .inr ⟨tm.mono s1, by rw [maskB_mono tm s1]; exact hb, fun H' s' => kB _ (s1.trans s')⟩⟩
  ·exact ⟨_, rfl, x, rfl, th, fun z => (by rw [hb] at z; cases z), fun _ => kB⟩
theorem sc_chosen_cells : FnScope ["one", "other", "mask", "size", "beside", "chosen"] ["one", "other", "mask"] (defScope s_chosen_cells) := ⟨rfl, rfl, rfl, by decide +kernel, rfl, by decide +kernel, by decide +kernel⟩
theorem ok_chosen_cells {f : Addr} {fd : FuncData} (F : FunD K "chosen_cells" "chosen_cells" s_chosen_cells .none f fd) (T : Txt K mg cFE cBP cBC cBS cBM tS tC) (g_size_of : DefX P w K mg base 8 "size_of" ["picture"] [] (spSize K cBP)) (g_mask_size : DefX P w K mg base 6 "mask_size" ["mask"] [] (spSizeM K cBM)) (g_need_like_sizes : DefX P w K mg base 1 "need_like_sizes" ["one", "other"] [] (spLike K cBS)) (g_chosen_row : Def P w K mg base 2 "chosen_row" ["row", "beside", "bits"] [] (spChR K)) : FnOk P w K mg base (CX1 P w) 9 f fd ["one", "other", "mask"] (spChosen K cBP cBM cBS) := by
 refine F.okX sc_chosen_cells (fun vs H Q E h => ?_) (fun cdv A outer s H vs Q E hr h => ?_)
 ·obtain ⟨x, u, m, rfl, _⟩ := h; rfl
 ·obtain ⟨x, u, m, rfl, h⟩ := h
  refine ⟨_, (pss_cons (ps_set (i := 3) sc_chosen_cells.nd rfl (by first | exact Or.inl rfl | exact Or.inr rfl) (pe_callX g_size_of (hr.mono (by decide)) passes1R rfl (pa_cons (pv 0) pa_nil)))
    (pss_cons (ps_set (i := 4) sc_chosen_cells.nd rfl (by first | exact Or.inl rfl | exact Or.inr rfl) (pe_callX g_size_of (hr.mono (by decide)) passes1R rfl (pa_cons (pv 1) pa_nil)))
    (pss_cons (ps_set (i := 5) sc_chosen_cells.nd rfl (by first | exact Or.inl rfl | exact Or.inr rfl) (pe_callX g_mask_size (hr.mono (by decide)) passes1R rfl (pa_cons (pv 2) pa_nil)))
    (pss_cons (ps_expr (pe_callX g_need_like_sizes (hr.mono (by decide)) passes1R rfl (pa_cons (pv 3) (pa_cons (pv 4) pa_nil))))
    (pss_cons (ps_expr (pe_callX g_need_like_sizes (hr.mono (by decide)) passes1R rfl (pa_cons (pv 3) (pa_cons (pv 5) pa_nil))))
    (pss_one (ps_ret (pe_comp (N := ["y", "row", "other", "mask"]) (src := [none, none, some 1, some 2]) rfl ⟨rfl, rfl, rfl, rfl, rfl, by decide +kernel⟩ (pi_enumK K rfl rfl T.enumerate (pa_cons (pv 0) pa_nil)) (fun s H C fp => (pg_tupK (n := 2) K rfl rfl (pgs_cons (pg_name (i := 0) (show (["y", "row", "other", "mask"] : List Str).Nodup by decide +kernel) rfl (by first | exact Or.inl rfl | exact Or.inr rfl)) (pgs_cons (pg_name (i := 1) (show (["y", "row", "other", "mask"] : List Str).Nodup by decide +kernel) rfl (by first | exact Or.inl rfl | exact Or.inr rfl)) pgs_nil)))) (fun s H C fp => pts_nil) (fun s H C fp => (pe_callD g_chosen_row (hr.mono (by decide)) rfl (pa_cons (pv 1) (pa_cons (pe_ix (ixK K rfl) (pv 2) (pv 0) (fun _ _ => rfl)) (pa_cons (pe_ix (ixTK K rfl) (pe_ix (ixTK K rfl) (pv 3) pe_int (fun _ _ => rfl)) (pv 0) (fun _ _ => rfl)) pa_nil))))))))))))), ?_⟩
  rcases h with ⟨a, ps, rows, wd, rfl, pic, gd, h⟩ | ⟨th, hb, kB⟩
  ·refine ⟨_, rfl, .ref a, rfl, (th_good pic gd).1, fun _ xs p1 H1 hx s1 _ e1 => ?_, fun z => (no_bad pic gd z).elim⟩
   rw [rowOf_lst pic.top] at hx; cases hx
   rw [head_good pic gd, List.length_map, pic.len, ir_len] at e1
   rcases h with ⟨far, h⟩ | ⟨a2, ps2, rows2, wd2, rfl, pic2, gd2, h⟩ | ⟨th, hb, kB⟩
   ·obtain ⟨th1, hp1, hn1⟩ := far.mono s1
    refine ⟨_, rfl, u, rfl, th1, fun _ xs p2 H2 hx s2 _ e2 => ?_, fun z => (by rw [hp1] at z; cases z)⟩
    have s12 := s1.trans s2
    rcases h with ⟨b, b2, wm, rm, rfl, mv, gm, kS⟩ | ⟨tm, hb, kB⟩
    ·refine ⟨_, rfl, .ref b, rfl, .inl ⟨b, b2, wm, rm, rfl, mv.mono s12, gm, fun p3 H3 s3 e3 => ?_⟩⟩
     exact ⟨_, rfl, _, rfl, p1, p2, wd, rows.length, lenOf H1 (xs.headD .non), xs.length, rfl, (s2.trans s3) _ _ e1, s3 _ _ e2, fun z => (hn1 xs hx z).elim, fun _ => kS _ (s12.trans s3)⟩
    ·exact ⟨_, rfl, m, rfl, .inr ⟨tm.mono s12, by rw [maskB_mono tm s12]; exact hb, fun H' s' => kB _ (s12.trans s')⟩⟩
   ·have pic21 := pic2.mono s1
    refine ⟨_, rfl, .ref a2, rfl, (th_good pic21 gd2).1, fun _ xs p2 H2 hx s2 _ e2 => ?_, fun z => (no_bad pic21 gd2 z).elim⟩
    rw [rowOf_lst pic21.top] at hx; cases hx
    rw [head_good pic21 gd2, List.length_map, pic21.len, ir_len] at e2
    have s12 := s1.trans s2
    rcases h with ⟨b, b2, wm, rm, rfl, mv, gm, h⟩ | ⟨tm, hb, kB⟩
    ·refine ⟨_, rfl, .ref b, rfl, .inl ⟨b, b2, wm, rm, rfl, mv.mono s12, gm, fun p3 H3 s3 e3 => ?_⟩⟩
     have s13 := s12.trans s3
     have f1 := (s2.trans s3) _ _ e1
     have f2 := s3 _ _ e2
     rcases h with ⟨hne, kS⟩ | ⟨heq, heq2, k⟩
     ·refine ⟨_, rfl, _, rfl, p1, p2, wd, rows.length, wd2, rows2.length, rfl, f1, f2, fun z1 => ?_, fun _ => kS _ s13⟩
      exact ⟨_, rfl, _, rfl, p1, p3, wd, rows.length, wm, rm.length, rfl, f1, e3, fun z2 => (hne ⟨z1, z2⟩).elim, fun _ => kS _ s13⟩
     ·refine ⟨_, rfl, _, rfl, p1, p2, wd, rows.length, wd2, rows2.length, rfl, f1, f2, fun _ => ?_, fun z => (z heq).elim⟩
      refine ⟨_, rfl, _, rfl, p1, p3, wd, rows.length, wm, rm.length, rfl, f1, e3, fun _ => ?_, fun z => (z heq2).elim⟩
      have picA := pic.mono s13
      have picB2 := pic2.mono s13
      have mv2 := mv.mono s13
      refine ⟨_, rfl, a, rfl, ⟨_, SqL.of picA.top⟩, fun D hD => ?_⟩
      have hpl : ps.length = rows.length := by rw [pic.len, ir_len]
      refine comp2_rows (k1 := 0) (k2 := 1) (fun z => match z with | (.int j, _) => (chR (rows.getD j.toNat []) (rows2.getD j.toNat []) (rm.getD j.toNat 0)).map V.int | _ => []) (src2_enum (SqL.of picA.top)) (by rw [enumL_len, List.length_map, hpl]; exact Nat.le_trans gd.le (by decide)) hD (fun z hz H' Q' sm kk => ?_) fun qs H4 s4 fr pic4 => ?_
      ·obtain ⟨j, q, hq, rfl⟩ := enum_ref hz
       have hj : j < rows.length := by rw [← hpl]; exact (List.getElem?_eq_some_iff.mp hq).1
       obtain ⟨r, hr1, hr2, hr3⟩ := gd.get hj
       obtain ⟨q', hq', eq⟩ := PicV.row_at picA hr1
       rw [hq] at hq'; cases hq'
       obtain ⟨r2, hr21, hr22, hr23⟩ := gd2.get (by rw [← heq.2]; exact hj)
       obtain ⟨q2, hq2, eq2⟩ := PicV.row_at picB2 hr21
       have mv3 := mv2.mono sm
       have w24 := gd.w24
       have er : rows.getD j [] = r := getD_at hr1
       have er2 : rows2.getD j [] = r2 := getD_at hr21
       refine ⟨_, rfl, _, rfl, _, rfl, a2, _, _, .ref q2, rfl, rfl, SqL.of (sm _ _ picB2.top), atI_nat (by rw [List.getElem?_map, hq2]; rfl), _, rfl, b, _, _, .ref b2, rfl, rfl, SqT.of mv3.top, atI_nat (j := 1) rfl, _, rfl, b2, _, _, .int (rm.getD j 0 : Nat), rfl, rfl, SqT.of mv3.row, atI_nat (nV_get (by rw [← heq2.2]; exact hj)), q, q2, r, r2, rm.getD j 0, rfl, SqL.of (sm _ _ eq), SqL.of (sm _ _ eq2), by rw [hr22, hr2, heq.1], by omega, fun l H5 s5 hl e5 => kk l H5 s5 hl ?_⟩
       rw [e5]
       show some (HO.lst ((chR r r2 (rm.getD j 0)).map V.int)) = some (HO.lst ((chR (rows.getD j []) (rows2.getD j []) (rm.getD j 0)).map V.int))
       rw [er, er2]
      ·refine k D qs H4 (s13.trans s4) (s13.free hD) (fun q hq => s13.free (fr q hq)) ?_
       have e : (enumL (ps.map V.ref)).map (fun z => match z with | (.int j, _) => (chR (rows.getD j.toNat []) (rows2.getD j.toNat []) (rm.getD j.toNat 0)).map V.int | _ => []) = ir (chM rows rows2 rm) := by
        rw [enum_mapG _ (fun j => (chR (rows.getD j []) (rows2.getD j []) (rm.getD j 0)).map V.int) (fun j v _ => rfl), hpl]
        unfold ir chM
        rw [List.map_map]; rfl
       rw [e] at pic4
       exact pic4
    ·exact ⟨_, rfl, m, rfl, .inr ⟨tm.mono s12, by rw [maskB_mono tm s12]; exact hb, fun H' s' => kB _ (s12.trans s')⟩⟩
   ·exact ⟨_, rfl, u, rfl, th.mono s1, fun z => (by rw [picB_mono th s1, hb] at z; cases z), fun _ H' s' => kB _ (s1.trans s')⟩
  ·exact ⟨_, rfl, x, rfl, th, fun z => (by rw [hb] at z; cases z), fun _ => kB⟩
end
theorem atI_memN {xs : List V} {j : Nat} (h : j < xs.length) : ∃ v ∈ xs, atI xs (j : Int) = some v := ⟨xs[j], List.getElem_mem h, atI_nat (List.getElem?_eq_getElem h)⟩
section
variable {P : Program} {w : World} {K : W.Frag} {mg : Str → Option Value} {base : Heap} {cFE cBP cBC cBS cBM : Addr} {tS tC : Tok}
noncomputable abbrev nmwrongmask : List Str := ["_law_number", "_law_mask_here", "_law_wide", "_law_rows", "_law_y", "_law_full", "_law_odd", "_law_some_here"]
theorem sc_law_wrong_mask : FnScope ["_law_number", "_law_mask_here", "_law_wide", "_law_rows", "_law_y", "_law_full", "_law_odd", "_law_some_here"] ["_law_number", "_law_mask_here"] (defScope s_law_wrong_mask) := ⟨rfl, rfl, rfl, by decide +kernel, rfl, by decide +kernel, by decide +kernel⟩
theorem ok__law_wrong_mask {f : Addr} {fd : FuncData} (F : FunD K "_law_wrong_mask" "_law_wrong_mask" s_law_wrong_mask .none f fd) (T : Txt K mg cFE cBP cBC cBS cBM tS tC) (g__law_power : Def P w K mg base 1 "_law_power" ["_law_place"] [] spPower) : FnOk P w K mg base CX0 2 f fd ["_law_number", "_law_mask_here"] (spWrong K) := by
 refine F.ok sc_law_wrong_mask (fun vs H Q E h => ?_) (fun cdv A outer s H vs Q E hr h => ?_)
 ·obtain ⟨n, a, b, wd, rows, rfl, _⟩ := h; rfl
 ·obtain ⟨n, a, b, wd, rows, rfl, m, g, k⟩ := h
  have w1 := g.w1
  have w24 := g.w24
  have h1 := g.h1
  have h24 := g.h24
  obtain ⟨t6, r6, k6⟩ : ∃ tr, PSs ((cxOf CX0 P w K mg base nmwrongmask "_law_wrong_mask" (defScope s_law_wrong_mask) f cdv A outer s H E).nox) ((defBody s_law_wrong_mask).drop 6) tr ∧
    ∀ (xs : List V) (x0 : V) (L2 : Addr) (v4 v5 v6 : Option V) (H24 : Hp), xs.length = 11 → xs[0]? = some x0 → Same H H24 → MaskV H24 a b wd rows → BadL K H24 xs → H24 L2 = some (.lst xs) →
     tr { nx := fun _ H' => Q .non H', rt := Q } [some (.int (n : Int)), some (.ref a), some (.int (wd : Int)), some (.ref b), v4, v5, v6, some (.ref L2)] H24 := by
   refine ⟨_, (pss_cons (ps_set (i := 7) sc_law_wrong_mask.nd rfl (by first | exact Or.inl rfl | exact Or.inr rfl) (pe_op op_cat (pv 7) (pe_lst (pa_cons (pe_tup (pa_cons (pe_callTy call_str_int rfl T.str PyProof.Rows.boot_str (pa_cons (pv 2) pa_nil)) (pa_cons (pv 3) pa_nil))) (pa_cons pe_non (pa_cons (pe_tup pa_nil) (pa_cons pe_int (pa_cons pe_str (pa_cons pe_dict0 (pa_cons (pe_ix (ixK K rfl) (pv 7) pe_int (fun _ _ => rfl)) (pa_cons (pe_ix (ixK K rfl) (pv 7) pe_int (fun _ _ => rfl)) (pa_cons (pe_ix (ixK K rfl) (pv 7) pe_int (fun _ _ => rfl)) pa_nil))))))))))))
    (pss_one (ps_ret (pe_ix (ixK K rfl) (pv 7) (pe_op op_mod (pv 0) pe_int) (fun _ _ => rfl))))), ?_⟩
   intro xs x0 L2 v4 v5 v6 H24 lx hx s m bl en
   have eL := en
   refine ⟨_, rfl, _, rfl, _, rfl, (by show (wd : Int).natAbs.log2 < 1920; rw [Int.natAbs_natCast]; exact Nat.lt_of_le_of_lt (Nat.log2_le_self _) (by omega)), _, rfl, sz2, fun p11 hp11 => ?_⟩
   have sn := same_new (o := HO.tup [V.str (toString (wd : Int)), V.ref b]) hp11
   have m := m.mono sn
   have s := s.trans sn
   have bl := bl.mono sn
   have eL := sn _ _ eL
   have en : upd H24 p11 (HO.tup [V.str (toString (wd : Int)), V.ref b]) p11 = some (HO.tup [V.str (toString (wd : Int)), V.ref b]) := upd_same
   have bl := bl.snoc (bad2 en (it_leaf (.str _) rfl) (it_rows m g) (.inl rfl))
   generalize upd H24 p11 (HO.tup [V.str (toString (wd : Int)), V.ref b]) = H25 at s m bl eL en ⊢
   clear sn hp11
   refine ⟨Nat.zero_le _, fun p13 hp13 => ?_⟩
   have sn := same_new (o := HO.tup []) hp13
   have m := m.mono sn
   have s := s.trans sn
   have bl := bl.mono sn
   have eL := sn _ _ eL
   have en : upd H25 p13 (HO.tup []) p13 = some (HO.tup []) := upd_same
   have bl := bl.snoc (badN en (fun x hx => nomatch hx) (by decide))
   generalize upd H25 p13 (HO.tup []) = H26 at s m bl eL en ⊢
   clear sn hp13
   intro p16 hp16
   have sn := same_new (o := DictO p16) hp16
   have m := m.mono sn
   have s := s.trans sn
   have bl := bl.mono sn
   have eL := sn _ _ eL
   have en : upd H26 p16 (DictO p16) p16 = some (DictO p16) := upd_same
   have bl := bl.snoc (badL (.dict en) (by show (match upd H26 p16 (DictO p16) p16 with | some (HO.tup ys) => some ys | _ => none) = none; rw [en]; rfl))
   generalize upd H26 p16 (DictO p16) = H27 at s m bl eL en ⊢
   clear sn hp16
   refine ⟨_, rfl, L2, _, _, x0, rfl, rfl, SqL.of eL, atI_nat (j := 0) hx, _, rfl, L2, _, _, x0, rfl, rfl, SqL.of eL, atI_nat (j := 0) hx, _, rfl, L2, _, _, x0, rfl, rfl, SqL.of eL, atI_nat (j := 0) hx, sz9, fun L3 hL3 => ?_⟩
   have sn := same_new (o := HO.lst [V.ref p11, V.non, V.ref p13, V.int 5, V.str "mask", V.ref p16, x0, x0, x0]) hL3
   have m := m.mono sn
   have s := s.trans sn
   have bl := bl.mono sn
   have eL := sn _ _ eL
   have en : upd H27 L3 (HO.lst [V.ref p11, V.non, V.ref p13, V.int 5, V.str "mask", V.ref p16, x0, x0, x0]) L3 = some (HO.lst [V.ref p11, V.non, V.ref p13, V.int 5, V.str "mask", V.ref p16, x0, x0, x0]) := upd_same
   generalize upd H27 L3 (HO.lst [V.ref p11, V.non, V.ref p13, V.int 5, V.str "mask", V.ref p16, x0, x0, x0]) = H28 at s m bl eL en ⊢
   clear sn hL3
   refine ⟨L2, L3, _, _, rfl, rfl, eL, en, (by first | (rw [lx]; show 20 ≤ sizeLine; decide) | (rw [List.length_append, lx]; show 20 ≤ sizeLine; decide)), fun L4 hL4 => ?_⟩
   clear eL en
   have sn := same_new (o := HO.lst (xs ++ [V.ref p11, V.non, V.ref p13, V.int 5, V.str "mask", V.ref p16, x0, x0, x0])) hL4
   have m := m.mono sn
   have s := s.trans sn
   have bl := bl.mono sn
   have en : upd H28 L4 (HO.lst (xs ++ [V.ref p11, V.non, V.ref p13, V.int 5, V.str "mask", V.ref p16, x0, x0, x0])) L4 = some (HO.lst (xs ++ [V.ref p11, V.non, V.ref p13, V.int 5, V.str "mask", V.ref p16, x0, x0, x0])) := upd_same
   generalize upd H28 L4 (HO.lst (xs ++ [V.ref p11, V.non, V.ref p13, V.int 5, V.str "mask", V.ref p16, x0, x0, x0])) = H29 at s m bl  en ⊢
   clear sn hL4
   have bl := ((bl.snoc (badL .non rfl)).snoc (badL (.int 5) rfl)).snoc (badL (.str "mask") rfl)
   obtain ⟨v, hv, ev⟩ := atI_memN (xs := xs ++ [V.ref p11, V.non, V.ref p13, V.int 5, V.str "mask", V.ref p16, x0, x0, x0]) (j := n % 20) (by rw [List.length_append, lx]; show n % 20 < 20; omega)
   have en20 : (n : Int) % 20 = ((n % 20 : Nat) : Int) := by omega
   rw [← en20] at ev
   refine ⟨_, rfl, _, rfl, _, _, rfl, rfl, (by show (0 : Int) < 20; decide), L4, _, _, v, rfl, rfl, SqL.of en, ev, k v _ s (bl v ?_)⟩
   have h0 : x0 ∈ xs := List.mem_of_getElem? hx
   simp only [List.mem_append, List.mem_cons, List.not_mem_nil, or_false] at hv ⊢
   rcases hv with hv | rfl | rfl | rfl | rfl | rfl | rfl | rfl | rfl | rfl
   ·exact .inl (.inl (.inl (.inl (.inl (.inl hv)))))
   ·simp
   ·simp
   ·simp
   ·simp
   ·simp
   ·simp
   ·exact .inl (.inl (.inl (.inl (.inl (.inl h0)))))
   ·exact .inl (.inl (.inl (.inl (.inl (.inl h0)))))
   ·exact .inl (.inl (.inl (.inl (.inl (.inl h0)))))
  obtain ⟨t5, r5, k5⟩ : ∃ tr, PSs ((cxOf CX0 P w K mg base nmwrongmask "_law_wrong_mask" (defScope s_law_wrong_mask) f cdv A outer s H E).nox) ((defBody s_law_wrong_mask).drop 5) tr ∧
    ∀ (xs : List V) (x0 : V) (L0 : Addr) (v4 v5 v6 : Option V) (H12 : Hp), xs.length = 5 → xs[0]? = some x0 → Same H H12 → MaskV H12 a b wd rows → BadL K H12 xs → H12 L0 = some (.lst xs) →
     tr { nx := fun _ H' => Q .non H', rt := Q } [some (.int (n : Int)), some (.ref a), some (.int (wd : Int)), some (.ref b), v4, v5, v6, some (.ref L0)] H12 := by
   refine ⟨_, (pss_cons (ps_set (i := 7) sc_law_wrong_mask.nd rfl (by first | exact Or.inl rfl | exact Or.inr rfl) (pe_op op_cat (pv 7) (pe_lst (pa_cons (pe_tup (pa_cons pe_int (pa_cons (pv 3) pa_nil))) (pa_cons (pe_tup (pa_cons pe_int (pa_cons (pv 3) pa_nil))) (pa_cons (pe_tup (pa_cons pe_bl (pa_cons (pe_tup (pa_cons pe_int pa_nil)) pa_nil))) (pa_cons (pe_tup (pa_cons pe_non (pa_cons (pv 3) pa_nil))) (pa_cons (pe_tup (pa_cons (pv 2) (pa_cons (pe_tup pa_nil) pa_nil))) (pa_cons (pe_tup (pa_cons (pv 2) (pa_cons (pe_op (repTK K rfl) (pe_tup (pa_cons pe_int pa_nil)) pe_int) pa_nil))) pa_nil)))))))))
    (@r6)), ?_⟩
   intro xs x0 L0 v4 v5 v6 H12 lx hx s m bl en
   have eL := en
   refine ⟨_, rfl, _, rfl, sz2, fun p5 hp5 => ?_⟩
   have sn := same_new (o := HO.tup [V.int 0, V.ref b]) hp5
   have m := m.mono sn
   have s := s.trans sn
   have bl := bl.mono sn
   have eL := sn _ _ eL
   have en : upd H12 p5 (HO.tup [V.int 0, V.ref b]) p5 = some (HO.tup [V.int 0, V.ref b]) := upd_same
   have bl := bl.snoc (bad2 en (it_int _) (it_rows m g) (.inl rfl))
   generalize upd H12 p5 (HO.tup [V.int 0, V.ref b]) = H13 at s m bl eL en ⊢
   clear sn hp5
   refine ⟨_, rfl, sz2, fun p6 hp6 => ?_⟩
   have sn := same_new (o := HO.tup [V.int 25, V.ref b]) hp6
   have m := m.mono sn
   have s := s.trans sn
   have bl := bl.mono sn
   have eL := sn _ _ eL
   have en : upd H13 p6 (HO.tup [V.int 25, V.ref b]) p6 = some (HO.tup [V.int 25, V.ref b]) := upd_same
   have bl := bl.snoc (bad2 en (it_int _) (it_rows m g) (.inl rfl))
   generalize upd H13 p6 (HO.tup [V.int 25, V.ref b]) = H14 at s m bl eL en ⊢
   clear sn hp6
   refine ⟨sz1, fun q7 hq7 => ?_⟩
   have sn := same_new (o := HO.tup [V.int 0]) hq7
   have m := m.mono sn
   have s := s.trans sn
   have bl := bl.mono sn
   have eL := sn _ _ eL
   have en : upd H14 q7 (HO.tup [V.int 0]) q7 = some (HO.tup [V.int 0]) := upd_same
   generalize upd H14 q7 (HO.tup [V.int 0]) = H15 at s m bl eL en ⊢
   clear sn hq7
   have eq := en
   refine ⟨sz2, fun p7 hp7 => ?_⟩
   have sn := same_new (o := HO.tup [V.bl true, V.ref q7]) hp7
   have m := m.mono sn
   have s := s.trans sn
   have bl := bl.mono sn
   have eL := sn _ _ eL
   have eq := sn _ _ eq
   have en : upd H15 p7 (HO.tup [V.bl true, V.ref q7]) p7 = some (HO.tup [V.bl true, V.ref q7]) := upd_same
   have bl := bl.snoc (bad2 en (it_leaf (.bl _) rfl) (it_tup eq (by decide) (fun y hy => by rw [List.mem_singleton.mp hy]; exact .int _)) (.inl rfl))
   generalize upd H15 p7 (HO.tup [V.bl true, V.ref q7]) = H16 at s m bl eL eq en ⊢
   clear sn hp7
   clear eq
   refine ⟨_, rfl, sz2, fun p8 hp8 => ?_⟩
   have sn := same_new (o := HO.tup [V.non, V.ref b]) hp8
   have m := m.mono sn
   have s := s.trans sn
   have bl := bl.mono sn
   have eL := sn _ _ eL
   have en : upd H16 p8 (HO.tup [V.non, V.ref b]) p8 = some (HO.tup [V.non, V.ref b]) := upd_same
   have bl := bl.snoc (bad2 en (it_leaf .non rfl) (it_rows m g) (.inl rfl))
   generalize upd H16 p8 (HO.tup [V.non, V.ref b]) = H17 at s m bl eL en ⊢
   clear sn hp8
   refine ⟨_, rfl, Nat.zero_le _, fun q9 hq9 => ?_⟩
   have sn := same_new (o := HO.tup []) hq9
   have m := m.mono sn
   have s := s.trans sn
   have bl := bl.mono sn
   have eL := sn _ _ eL
   have en : upd H17 q9 (HO.tup []) q9 = some (HO.tup []) := upd_same
   generalize upd H17 q9 (HO.tup []) = H18 at s m bl eL en ⊢
   clear sn hq9
   have eq := en
   refine ⟨sz2, fun p9 hp9 => ?_⟩
   have sn := same_new (o := HO.tup [V.int (wd : Int), V.ref q9]) hp9
   have m := m.mono sn
   have s := s.trans sn
   have bl := bl.mono sn
   have eL := sn _ _ eL
   have eq := sn _ _ eq
   have en : upd H18 p9 (HO.tup [V.int (wd : Int), V.ref q9]) p9 = some (HO.tup [V.int (wd : Int), V.ref q9]) := upd_same
   have bl := bl.snoc (bad2 en (it_int _) (it_tup eq (by decide) (fun y hy => nomatch hy)) (.inr (.inr ⟨_, tupOf_tup eq, .inl rfl⟩)))
   generalize upd H18 p9 (HO.tup [V.int (wd : Int), V.ref q9]) = H19 at s m bl eL eq en ⊢
   clear sn hp9
   clear eq
   refine ⟨_, rfl, sz1, fun q10 hq10 => ?_⟩
   have sn := same_new (o := HO.tup [V.int 0]) hq10
   have m := m.mono sn
   have s := s.trans sn
   have bl := bl.mono sn
   have eL := sn _ _ eL
   have en : upd H19 q10 (HO.tup [V.int 0]) q10 = some (HO.tup [V.int 0]) := upd_same
   generalize upd H19 q10 (HO.tup [V.int 0]) = H20 at s m bl eL en ⊢
   clear sn hq10
   refine ⟨q10, _, _, rfl, rfl, SqT.of en, (fun z => nomatch z), by decide, by decide, by decide, fun r10 hr10 => ?_⟩
   have sn := same_new (o := HO.tup (List.replicate (25 : Int).toNat [V.int 0]).flatten) hr10
   have m := m.mono sn
   have s := s.trans sn
   have bl := bl.mono sn
   have eL := sn _ _ eL
   have en : upd H20 r10 (HO.tup (List.replicate (25 : Int).toNat [V.int 0]).flatten) r10 = some (HO.tup (List.replicate (25 : Int).toNat [V.int 0]).flatten) := upd_same
   generalize upd H20 r10 (HO.tup (List.replicate (25 : Int).toNat [V.int 0]).flatten) = H21 at s m bl eL en ⊢
   clear sn hr10
   have eq := en
   have e25 : (List.replicate (25 : Int).toNat [V.int 0]).flatten = List.replicate 25 (V.int 0) := rfl
   rw [e25] at eq
   refine ⟨sz2, fun p10 hp10 => ?_⟩
   have sn := same_new (o := HO.tup [V.int (wd : Int), V.ref r10]) hp10
   have m := m.mono sn
   have s := s.trans sn
   have bl := bl.mono sn
   have eL := sn _ _ eL
   have eq := sn _ _ eq
   have en : upd H21 p10 (HO.tup [V.int (wd : Int), V.ref r10]) p10 = some (HO.tup [V.int (wd : Int), V.ref r10]) := upd_same
   have bl := bl.snoc (bad2 en (it_int _) (it_tup eq (by rw [List.length_replicate]; decide) (fun y hy => by rw [(List.mem_replicate.mp hy).2]; exact .int _)) (.inr (.inr ⟨_, tupOf_tup eq, .inl (by rw [List.length_replicate]; rfl)⟩)))
   generalize upd H21 p10 (HO.tup [V.int (wd : Int), V.ref r10]) = H22 at s m bl eL eq en ⊢
   clear sn hp10
   clear eq
   refine ⟨sz6, fun L1 hL1 => ?_⟩
   have sn := same_new (o := HO.lst [V.ref p5, V.ref p6, V.ref p7, V.ref p8, V.ref p9, V.ref p10]) hL1
   have m := m.mono sn
   have s := s.trans sn
   have bl := bl.mono sn
   have eL := sn _ _ eL
   have en : upd H22 L1 (HO.lst [V.ref p5, V.ref p6, V.ref p7, V.ref p8, V.ref p9, V.ref p10]) L1 = some (HO.lst [V.ref p5, V.ref p6, V.ref p7, V.ref p8, V.ref p9, V.ref p10]) := upd_same
   generalize upd H22 L1 (HO.lst [V.ref p5, V.ref p6, V.ref p7, V.ref p8, V.ref p9, V.ref p10]) = H23 at s m bl eL en ⊢
   clear sn hL1
   refine ⟨L0, L1, _, _, rfl, rfl, eL, en, (by first | (rw [lx]; show 11 ≤ sizeLine; decide) | (rw [List.length_append, lx]; show 11 ≤ sizeLine; decide)), fun L2 hL2 => ?_⟩
   have sn := same_new (o := HO.lst (xs ++ [V.ref p5, V.ref p6, V.ref p7, V.ref p8, V.ref p9, V.ref p10])) hL2
   have m := m.mono sn
   have s := s.trans sn
   have bl := bl.mono sn
   have en : upd H23 L2 (HO.lst (xs ++ [V.ref p5, V.ref p6, V.ref p7, V.ref p8, V.ref p9, V.ref p10])) L2 = some (HO.lst (xs ++ [V.ref p5, V.ref p6, V.ref p7, V.ref p8, V.ref p9, V.ref p10])) := upd_same
   generalize upd H23 L2 (HO.lst (xs ++ [V.ref p5, V.ref p6, V.ref p7, V.ref p8, V.ref p9, V.ref p10])) = H24 at s m bl  en ⊢
   clear sn hL2
   simp only [List.append_assoc, List.cons_append, List.nil_append] at bl
   exact k6 (xs ++ [V.ref p5, V.ref p6, V.ref p7, V.ref p8, V.ref p9, V.ref p10]) x0 L2 _ _ _ _ (by rw [List.length_append, lx]; rfl) (by rw [List.getElem?_append_left (by rw [lx]; decide)]; exact hx) s m bl en
  obtain ⟨t4, r4, k4⟩ : ∃ tr, PSs ((cxOf CX0 P w K mg base nmwrongmask "_law_wrong_mask" (defScope s_law_wrong_mask) f cdv A outer s H E).nox) ((defBody s_law_wrong_mask).drop 4) tr ∧
    ∀ (y : Nat) (odd : V) (v5 : Option V) (H1 : Hp), y < rows.length → Same H H1 → MaskV H1 a b wd rows → Kd K H1 odd → isWh 0 (fullI (.int (wd : Int))) odd = false →
     tr { nx := fun _ H' => Q .non H', rt := Q } [some (.int (n : Int)), some (.ref a), some (.int (wd : Int)), some (.ref b), some (.int (y : Int)), v5, some odd, none] H1 := by
   refine ⟨_, (pss_cons (ps_set (i := 7) sc_law_wrong_mask.nd rfl (by first | exact Or.inl rfl | exact Or.inr rfl) (pe_lst (pa_cons (pe_tup (pa_cons (pv 2) (pa_cons (pe_op (catAK K rfl) (pe_op (catAK K rfl) (pe_slice (slTK K rfl) (pv 3) po_none (po_some (pv 4))) (pe_tup (pa_cons (pv 6) pa_nil))) (pe_slice (slTK K rfl) (pv 3) (po_some (pe_op op_add (pv 4) pe_int)) po_none)) pa_nil))) (pa_cons (pe_tup (pa_cons (pv 2) (pa_cons (pe_callTy (listK K rfl) rfl T.list PyProof.Rows.boot_list (pa_cons (pv 3) pa_nil)) pa_nil))) (pa_cons (pe_lst (pa_cons (pv 2) (pa_cons (pv 3) pa_nil))) (pa_cons (pe_tup (pa_cons (pv 2) pa_nil)) (pa_cons (pe_tup (pa_cons (pv 2) (pa_cons (pv 3) (pa_cons pe_int pa_nil)))) pa_nil)))))))
    (@r5)), ?_⟩
   intro y odd v5 H1 hy s m ko io
   have nw1 : ¬ (HT.sIx (nV rows).length 0 none = 0 ∧ HT.sIx (nV rows).length (nV rows).length (some (y : Int)) = (nV rows).length) := fun z => by
    have := z.2
    rw [HT.sIx_nat, nV_len] at this
    omega
   have nw2 : ¬ (HT.sIx (nV rows).length 0 (some ((y : Int) + 1)) = 0 ∧ HT.sIx (nV rows).length (nV rows).length none = (nV rows).length) := fun z => by
    have := z.1
    have e : (y : Int) + 1 = ((y + 1 : Nat) : Int) := by omega
    rw [e, HT.sIx_nat, nV_len] at this
    omega
   have c1l : (cutV (nV rows) none (some (y : Int))).length ≤ 24 := Nat.le_trans (cutV_length _ _ _) (by rw [nV_len]; exact h24)
   have c2l : (cutV (nV rows) (some ((y : Int) + 1)) none).length ≤ 24 := Nat.le_trans (cutV_length _ _ _) (by rw [nV_len]; exact h24)
   refine ⟨_, rfl, _, rfl, _, rfl, _, rfl, b, _, rfl, SqT.of m.row, nw1, fun c1 hc1 => ⟨_, rfl, sz1, fun c2 hc2 => catA_of (same_new hc2 _ _ upd_same) upd_same (by simp only [List.length_cons, List.length_nil]; exact Nat.le_trans (Nat.add_le_add_right c1l 1) (by decide)) fun c3 H3 s3 e3 => ?_⟩⟩
   have s13 := ((same_new hc1).trans (same_new hc2)).trans s3
   have m := m.mono s13
   have ko := ko.mono s13
   have s := s.trans s13
   clear s13 s3 hc2 hc1
   refine ⟨_, rfl, _, rfl, _, _, rfl, rfl, _, rfl, b, _, rfl, SqT.of m.row, nw2, fun c4 hc4 => catA_of (same_new hc4 _ _ e3) upd_same (by simp only [List.length_append, List.length_cons, List.length_nil]; exact Nat.le_trans (Nat.add_le_add (Nat.add_le_add_right c1l 1) c2l) (by decide)) fun c5 H5 s5 e5 => ?_⟩
   have s35 := (same_new hc4).trans s5
   have m := m.mono s35
   have ko := ko.mono s35
   have s := s.trans s35
   clear s35 s5 hc4 e3
   refine ⟨sz2, fun p0 hp0 => ?_⟩
   have i5 : It K H5 (.ref c5) := it_tup e5 (by simp only [List.length_append, List.length_cons, List.length_nil]; exact Nat.le_trans (Nat.add_le_add (Nat.add_le_add_right c1l 1) c2l) (by decide)) fun z hz => by
    simp only [List.mem_append, List.mem_singleton] at hz
    rcases hz with (hz | rfl) | hz
    ·exact nV_kd (cutV_mem hz)
    ·exact ko
    ·exact nV_kd (cutV_mem hz)
   have n5 : (cutV (nV rows) none (some (y : Int)) ++ [odd] ++ cutV (nV rows) (some ((y : Int) + 1)) none).all (isWh 0 (fullI (.int (wd : Int)))) = false := by
    rw [List.all_append, List.all_append]
    have : [odd].all (isWh 0 (fullI (.int (wd : Int)))) = false := by rw [List.all_cons, io, Bool.false_and]
    rw [this, Bool.and_false, Bool.false_and]
   have sn := same_new (o := HO.tup [V.int (wd : Int), V.ref c5]) hp0
   have i5 : It K (upd H5 p0 (.tup [V.int (wd : Int), V.ref c5])) (.ref c5) := ⟨i5.kd.mono sn, fun ys e => by
    rw [tupOf_mono i5.kd sn] at e
    have := i5.it ys e
    exact ⟨this.1, fun y hy => (this.2 y hy).mono sn⟩⟩
   have bl : BadL K (upd H5 p0 (.tup [V.int (wd : Int), V.ref c5])) [.ref p0] := fun v hv => by
    rw [List.mem_singleton.mp hv]
    exact bad2 upd_same (it_int _) i5 (.inr (.inr ⟨_, tupOf_tup (sn _ _ e5), .inr n5⟩))
   have m := m.mono sn
   have s := s.trans sn
   generalize upd H5 p0 (.tup [V.int (wd : Int), V.ref c5]) = H6 at s m bl ⊢
   clear sn i5 n5 e5 ko hp0
   refine ⟨_, rfl, _, rfl, b, _, rfl, .inr (SqT.of m.row), fun l1 hl1 => ?_⟩
   have sn := same_new (o := HO.lst (nV rows)) hl1
   have m := m.mono sn
   have s := s.trans sn
   have bl := bl.mono sn
   have en : upd H6 l1 (HO.lst (nV rows)) l1 = some (HO.lst (nV rows)) := upd_same
   generalize upd H6 l1 (HO.lst (nV rows)) = H7 at s m bl  en ⊢
   clear sn hl1
   have el := en
   refine ⟨sz2, fun p1 hp1 => ?_⟩
   have sn := same_new (o := HO.tup [V.int (wd : Int), V.ref l1]) hp1
   have m := m.mono sn
   have s := s.trans sn
   have bl := bl.mono sn
   have el := sn _ _ el
   have en : upd H7 p1 (HO.tup [V.int (wd : Int), V.ref l1]) p1 = some (HO.tup [V.int (wd : Int), V.ref l1]) := upd_same
   have bl := bl.snoc (bad2 en (it_int _) (it_leaf (.lst el) (by simp only [tupOf, el])) (.inr (.inl (by simp only [tupOf, el]))))
   generalize upd H7 p1 (HO.tup [V.int (wd : Int), V.ref l1]) = H8 at s m bl el en ⊢
   clear sn hp1
   refine ⟨_, rfl, _, rfl, sz2, fun p2 hp2 => ?_⟩
   have sn := same_new (o := HO.lst [V.int (wd : Int), V.ref b]) hp2
   have m := m.mono sn
   have s := s.trans sn
   have bl := bl.mono sn
   have en : upd H8 p2 (HO.lst [V.int (wd : Int), V.ref b]) p2 = some (HO.lst [V.int (wd : Int), V.ref b]) := upd_same
   have bl := bl.snoc (badL (.lst en) (by simp only [tupOf, en]))
   generalize upd H8 p2 (HO.lst [V.int (wd : Int), V.ref b]) = H9 at s m bl  en ⊢
   clear sn hp2
   refine ⟨_, rfl, sz1, fun p3 hp3 => ?_⟩
   have sn := same_new (o := HO.tup [V.int (wd : Int)]) hp3
   have m := m.mono sn
   have s := s.trans sn
   have bl := bl.mono sn
   have en : upd H9 p3 (HO.tup [V.int (wd : Int)]) p3 = some (HO.tup [V.int (wd : Int)]) := upd_same
   have bl := bl.snoc (badN en (fun x hx => by rw [List.mem_singleton.mp hx]; exact it_int _) (by simp))
   generalize upd H9 p3 (HO.tup [V.int (wd : Int)]) = H10 at s m bl  en ⊢
   clear sn hp3
   refine ⟨_, rfl, _, rfl, sz3, fun p4 hp4 => ?_⟩
   have sn := same_new (o := HO.tup [V.int (wd : Int), V.ref b, V.int 0]) hp4
   have m := m.mono sn
   have s := s.trans sn
   have bl := bl.mono sn
   have en : upd H10 p4 (HO.tup [V.int (wd : Int), V.ref b, V.int 0]) p4 = some (HO.tup [V.int (wd : Int), V.ref b, V.int 0]) := upd_same
   have bl := bl.snoc (badN en (fun x hx => by
    simp only [List.mem_cons, List.not_mem_nil, or_false] at hx
    rcases hx with rfl | rfl | rfl
    ·exact it_int _
    ·exact it_rows m g
    ·exact it_int _) (by simp))
   generalize upd H10 p4 (HO.tup [V.int (wd : Int), V.ref b, V.int 0]) = H11 at s m bl  en ⊢
   clear sn hp4
   refine ⟨sz5, fun L0 hL0 => ?_⟩
   have sn := same_new (o := HO.lst [V.ref p0, V.ref p1, V.ref p2, V.ref p3, V.ref p4]) hL0
   have m := m.mono sn
   have s := s.trans sn
   have bl := bl.mono sn
   have en : upd H11 L0 (HO.lst [V.ref p0, V.ref p1, V.ref p2, V.ref p3, V.ref p4]) L0 = some (HO.lst [V.ref p0, V.ref p1, V.ref p2, V.ref p3, V.ref p4]) := upd_same
   generalize upd H11 L0 (HO.lst [V.ref p0, V.ref p1, V.ref p2, V.ref p3, V.ref p4]) = H12 at s m bl  en ⊢
   clear sn hL0
   simp only [List.cons_append, List.nil_append] at bl
   exact k5 [V.ref p0, V.ref p1, V.ref p2, V.ref p3, V.ref p4] (.ref p0) L0 _ _ _ _ rfl rfl s m bl en
  refine ⟨_, (pss_cons (ps_asg (pv 1) (pg_tup rfl (pgs_cons (pg_name (i := 2) sc_law_wrong_mask.nd rfl (by first | exact Or.inl rfl | exact Or.inr rfl)) (pgs_cons (pg_name (i := 3) sc_law_wrong_mask.nd rfl (by first | exact Or.inl rfl | exact Or.inr rfl)) pgs_nil))))
    (pss_cons (ps_set (i := 4) sc_law_wrong_mask.nd rfl (by first | exact Or.inl rfl | exact Or.inr rfl) (pe_op op_mod (pe_op op_fdiv (pv 0) pe_int) (pe_callB (lenK K rfl) rfl T.len PySem.boot_len (pa_cons (pv 3) pa_nil))))
    (pss_cons (ps_set (i := 5) sc_law_wrong_mask.nd rfl (by first | exact Or.inl rfl | exact Or.inr rfl) (pe_callD g__law_power (hr.mono (by decide)) rfl (pa_cons (pv 2) pa_nil)))
    (pss_cons (ps_set (i := 6) sc_law_wrong_mask.nd rfl (by first | exact Or.inl rfl | exact Or.inr rfl) (pe_ix (ixK K rfl) (pe_lst (pa_cons (pv 5) (pa_cons (pe_un un_neg pe_int) (pa_cons pe_bl (pa_cons pe_non (pa_cons pe_str (pa_cons (pe_tup (pa_cons pe_int pa_nil)) (pa_cons (pe_op op_pow pe_int pe_int) (pa_cons pe_bl pa_nil))))))))) (pe_op op_mod (pe_op op_fdiv (pv 0) pe_int) pe_int) (fun _ _ => rfl)))
    (@r4))))), ?_⟩
  refine ⟨_, rfl, a, _, rfl, SqT.of m.top, rfl, _, _, rfl, _, _, rfl, rfl, ?_⟩
  have hl0 : (0 : Int) < ((nV rows).length : Int) := by rw [nV_len]; omega
  refine ⟨_, rfl, _, _, rfl, rfl, ⟨by decide, by decide⟩, _, rfl, b, _, rfl, .inr (SqT.of m.row), _, _, rfl, rfl, hl0, ?_⟩
  obtain ⟨y, hy, ey⟩ : ∃ y : Nat, y < rows.length ∧ (n : Int) / 20 % ((nV rows).length : Int) = (y : Int) := by
   have h1 := Int.emod_nonneg ((n : Int) / 20) (by omega : ((nV rows).length : Int) ≠ 0)
   have h2 := Int.emod_lt_of_pos ((n : Int) / 20) hl0
   refine ⟨((n : Int) / 20 % ((nV rows).length : Int)).toNat, ?_, by omega⟩
   have h3 := nV_len rows
   omega
  show gName 4 (.int ((n : Int) / 20 % ((nV rows).length : Int))) _ H _
  rw [ey]
  refine ⟨_, rfl, wd, rfl, by omega, ?_⟩
  refine ⟨_, rfl, _, rfl, sz1, fun t ht => ⟨_, _, rfl, rfl, ⟨by decide, by decide, by decide⟩, sz8, fun L hL => ?_⟩⟩
  have st : Same H (upd (upd H t (.tup [.int 0])) L (.lst [V.int ((2 ^ wd : Nat) : Int), V.int (-1), V.bl true, V.non, V.str "0", V.ref t, V.int (10 ^ (30 : Int).toNat), V.bl false])) := (same_new ht).trans (same_new hL)
  have ett : (upd (upd H t (.tup [.int 0])) L (.lst [V.int ((2 ^ wd : Nat) : Int), V.int (-1), V.bl true, V.non, V.str "0", V.ref t, V.int (10 ^ (30 : Int).toNat), V.bl false])) t = some (.tup [.int 0]) := same_new hL _ _ upd_same
  obtain ⟨odd, eo, ko, io⟩ : ∃ odd, atI [V.int ((2 ^ wd : Nat) : Int), V.int (-1), V.bl true, V.non, V.str "0", V.ref t, V.int (10 ^ (30 : Int).toNat), V.bl false] ((n : Int) / 500 % 8) = some odd ∧ Kd K (upd (upd H t (.tup [.int 0])) L (.lst [V.int ((2 ^ wd : Nat) : Int), V.int (-1), V.bl true, V.non, V.str "0", V.ref t, V.int (10 ^ (30 : Int).toNat), V.bl false])) odd ∧ isWh 0 (fullI (.int (wd : Int))) odd = false := by
   have ef : fullI (.int (wd : Int)) = 2 ^ wd - 1 := by show (2 : Int) ^ (wd : Int).toNat - 1 = _; rw [Int.toNat_natCast]
   have hp : ((2 ^ wd : Nat) : Int) = (2 : Int) ^ wd := by push_cast; rfl
   have hle : 2 ^ wd ≤ 2 ^ 24 := Nat.pow_le_pow_right (by decide) w24
   obtain ⟨j, hj, ej⟩ : ∃ j : Nat, j < 8 ∧ (n : Int) / 500 % 8 = (j : Int) := ⟨n / 500 % 8, by omega, by omega⟩
   rw [ej, ef, ← hp]
   match j, hj with
   | 0, _ => exact ⟨_, atI_nat rfl, .int _, by simp only [isWh]; simp; omega⟩
   | 1, _ => exact ⟨_, atI_nat rfl, .int _, by simp only [isWh]; simp⟩
   | 2, _ => exact ⟨_, atI_nat rfl, .bl _, rfl⟩
   | 3, _ => exact ⟨_, atI_nat rfl, .non, rfl⟩
   | 4, _ => exact ⟨_, atI_nat rfl, .str _, rfl⟩
   | 5, _ => exact ⟨_, atI_nat rfl, .tup ett, rfl⟩
   | 6, _ =>
    refine ⟨_, atI_nat rfl, .int _, ?_⟩
    have e30 : (10 : Int) ^ (30 : Int).toNat = 1000000000000000000000000000000 := by decide +kernel
    rw [e30]
    simp only [isWh, Bool.and_eq_false_iff, decide_eq_false_iff_not]
    right; omega
   | 7, _ => exact ⟨_, atI_nat rfl, .bl _, rfl⟩
  refine ⟨_, rfl, _, _, rfl, rfl, ⟨by decide, by decide⟩, _, _, rfl, rfl, (by show (0 : Int) < 8; decide), L, _, _, odd, rfl, rfl, SqL.of upd_same, eo, ?_⟩
  have s := st
  have m := m.mono st
  generalize upd (upd H t (.tup [.int 0])) L (.lst [V.int ((2 ^ wd : Nat) : Int), V.int (-1), V.bl true, V.non, V.str "0", V.ref t, V.int (10 ^ (30 : Int).toNat), V.bl false]) = H1 at s m ko ⊢
  clear st ett
  exact k4 y odd _ _ hy s m ko io
end
structure ClsT (K : W.Frag) (c cBP cBC cBS cBM cOP cBE cBR : Addr) (p q r m : Bool) : Prop where
 k : XCls K c
 v : W.kitOne K (.ref c) (.type "ValueError") = some true
 P : W.kitOne K (.ref c) (.ref cBP) = some p
 C : W.kitOne K (.ref c) (.ref cBC) = some q
 S : W.kitOne K (.ref c) (.ref cBS) = some r
 M : W.kitOne K (.ref c) (.ref cBM) = some m
 O : W.kitOne K (.ref c) (.ref cOP) = some false
 E : W.kitOne K (.ref c) (.ref cBE) = some false
 R : W.kitOne K (.ref c) (.ref cBR) = some false
structure TxtC (K : W.Frag) (mg : Str → Option Value) (cBP cBC cBS cBM cOP cBE cBR : Addr) : Prop where
 isinstance : mg "isinstance" = none
 int : mg "int" = none
 ValueError : mg "ValueError" = none
 BadPicture : mg "BadPicture" = some (.ref cBP)
 BadCell : mg "BadCell" = some (.ref cBC)
 BadSize : mg "BadSize" = some (.ref cBS)
 BadMask : mg "BadMask" = some (.ref cBM)
 OutOfPlace : mg "OutOfPlace" = some (.ref cOP)
 BadEdge : mg "BadEdge" = some (.ref cBE)
 BadRule : mg "BadRule" = some (.ref cBR)
 tP : ClsT K cBP cBP cBC cBS cBM cOP cBE cBR true false false false
 tC : ClsT K cBC cBP cBC cBS cBM cOP cBE cBR false true false false
 tS : ClsT K cBS cBP cBC cBS cBM cOP cBE cBR false false true false
 tM : ClsT K cBM cBP cBC cBS cBM cOP cBE cBR false false false true
inductive Wd (cBP cBC cBS cBM : Addr) : Addr → Str → Prop
 | p : Wd cBP cBC cBS cBM cBP "value picture"
 | c : Wd cBP cBC cBS cBM cBC "value cell"
 | s : Wd cBP cBC cBS cBM cBS "value size"
 | m : Wd cBP cBC cBS cBM cBM "value mask"
noncomputable def spClass (cBP cBC cBS cBM : Addr) : Addr → Sp := fun _ vs H Q _ => ∃ x c wd, vs = [.ref x] ∧ Wd cBP cBC cBS cBM c wd ∧ H x = some (ExcO x c) ∧ Q (.str wd) H
noncomputable def Ref (K : W.Frag) (H : Hp) (cBP cBC cBS cBM : Addr) (n : Nat) (x u m l : V) (c : Addr) : Prop :=
 (n = 0 ∧ PicA K H x (fun _ _ => BadC K H l ∧ c = cBC) (c = cBP))
 ∨ (n = 1 ∧ PicA K H x (fun rows wd => One K H m (fun wm rm => (¬ (wd = wm ∧ rows.length = rm.length) ∧ c = cBS) ∨ ((wd = wm ∧ rows.length = rm.length) ∧ Kd K H l ∧ isWh 0 15 l = false ∧ c = cBC)) (c = cBM)) (c = cBP))
 ∨ (n = 2 ∧ PicA K H x (fun rows wd => (FarP K H u wd rows.length ∧ One K H m (fun _ _ => c = cBS) (c = cBM)) ∨ PicA K H u (fun rows2 wd2 => One K H m (fun wm rm => ¬ ((wd = wd2 ∧ rows.length = rows2.length) ∧ (wd = wm ∧ rows.length = rm.length)) ∧ c = cBS) (c = cBM)) (c = cBP)) (c = cBP))
noncomputable def spWord (K : W.Frag) (cBP cBC cBS cBM : Addr) : Sp := fun vs H Q _ => ∃ (n : Nat) (x u m l : V) (c : Addr) (wd : Str), vs = [.int (n : Int), x, u, m, l] ∧ Wd cBP cBC cBS cBM c wd ∧ Ref K H cBP cBC cBS cBM n x u m l c ∧ ∀ H', Same H H' → Q (.str wd) H'
section
variable {P : Program} {w : World} {K : W.Frag} {mg : Str → Option Value} {base : Heap} {cFE cBP cBC cBS cBM : Addr} {tS tC : Tok}
theorem sc_law_class : FnScope ["_law_error", "_law_words"] ["_law_error"] (defScope s_law_class) := ⟨rfl, rfl, rfl, by decide +kernel, rfl, by decide +kernel, by decide +kernel⟩
theorem ok__law_class {cOP cBE cBR f : Addr} {fd : FuncData} (F : FunD K "_law_class" "_law_class" s_law_class .none f fd) (TC : TxtC K mg cBP cBC cBS cBM cOP cBE cBR) : FnOkM P w K mg base 1 f fd ["_law_error"] (spClass cBP cBC cBS cBM) := by
 have T := TC
 refine F.okM sc_law_class (fun ea vs H Q E h => ?_) (fun cdv A ea outer s H vs Q E hr h => ?_)
 ·obtain ⟨x, c, wd, rfl, _⟩ := h; rfl
 ·obtain ⟨x, c, wd, rfl, hw, hx, k⟩ := h
  refine ⟨_, (pss_cons (ps_set (i := 1) sc_law_class.nd rfl (by first | exact Or.inl rfl | exact Or.inr rfl) (pe_op op_mulS01 pe_str (pe_callTy call_int1 rfl T.int PyProof.Rows.boot_int (pa_cons (isiK K rfl (pv 0) rfl T.isinstance rfl T.ValueError boot_VE) pa_nil))))
    (pss_cons (ps_set (i := 1) sc_law_class.nd rfl (by first | exact Or.inl rfl | exact Or.inr rfl) (pe_op op_add_str (pe_op op_add_str (pv 1) (pe_op op_mulS01 pe_str (pe_callTy call_int1 rfl T.int PyProof.Rows.boot_int (pa_cons (isiCK K rfl (pv 0) rfl T.isinstance rfl T.BadPicture) pa_nil)))) (pe_op op_mulS01 pe_str (pe_callTy call_int1 rfl T.int PyProof.Rows.boot_int (pa_cons (isiCK K rfl (pv 0) rfl T.isinstance rfl T.BadCell) pa_nil)))))
    (pss_cons (ps_set (i := 1) sc_law_class.nd rfl (by first | exact Or.inl rfl | exact Or.inr rfl) (pe_op op_add_str (pe_op op_add_str (pv 1) (pe_op op_mulS01 pe_str (pe_callTy call_int1 rfl T.int PyProof.Rows.boot_int (pa_cons (isiCK K rfl (pv 0) rfl T.isinstance rfl T.BadSize) pa_nil)))) (pe_op op_mulS01 pe_str (pe_callTy call_int1 rfl T.int PyProof.Rows.boot_int (pa_cons (isiCK K rfl (pv 0) rfl T.isinstance rfl T.BadMask) pa_nil)))))
    (pss_cons (ps_set (i := 1) sc_law_class.nd rfl (by first | exact Or.inl rfl | exact Or.inr rfl) (pe_op op_add_str (pe_op op_add_str (pv 1) (pe_op op_mulS01 pe_str (pe_callTy call_int1 rfl T.int PyProof.Rows.boot_int (pa_cons (isiCK K rfl (pv 0) rfl T.isinstance rfl T.OutOfPlace) pa_nil)))) (pe_op op_mulS01 pe_str (pe_callTy call_int1 rfl T.int PyProof.Rows.boot_int (pa_cons (isiCK K rfl (pv 0) rfl T.isinstance rfl T.BadEdge) pa_nil)))))
    (pss_one (ps_ret (pe_op op_add_str (pv 1) (pe_op op_mulS01 pe_str (pe_callTy call_int1 rfl T.int PyProof.Rows.boot_int (pa_cons (isiCK K rfl (pv 0) rfl T.isinstance rfl T.BadRule) pa_nil)))))))))), ?_⟩
  cases hw
  ·have I : ∀ {z b}, W.kitOne K (.ref cBP) z = some b → IsX K H (.ref x) z b := fun h => ⟨_, .exc hx TC.tP.k, h⟩
   refine ⟨_, rfl, true, I TC.tP.v, .inr ⟨true, rfl, _, 1, rfl, rfl, .inr rfl, ?_⟩⟩
   refine ⟨_, rfl, _, rfl, true, I TC.tP.P, .inr ⟨true, rfl, _, 1, rfl, rfl, .inr rfl, _, _, rfl, rfl, by decide +kernel, _, rfl, false, I TC.tP.C, .inr ⟨false, rfl, _, 0, rfl, rfl, .inl rfl, _, _, rfl, rfl, by decide +kernel, ?_⟩⟩⟩
   refine ⟨_, rfl, _, rfl, false, I TC.tP.S, .inr ⟨false, rfl, _, 0, rfl, rfl, .inl rfl, _, _, rfl, rfl, by decide +kernel, _, rfl, false, I TC.tP.M, .inr ⟨false, rfl, _, 0, rfl, rfl, .inl rfl, _, _, rfl, rfl, by decide +kernel, ?_⟩⟩⟩
   refine ⟨_, rfl, _, rfl, false, I TC.tP.O, .inr ⟨false, rfl, _, 0, rfl, rfl, .inl rfl, _, _, rfl, rfl, by decide +kernel, _, rfl, false, I TC.tP.E, .inr ⟨false, rfl, _, 0, rfl, rfl, .inl rfl, _, _, rfl, rfl, by decide +kernel, ?_⟩⟩⟩
   refine ⟨_, rfl, _, rfl, false, I TC.tP.R, .inr ⟨false, rfl, _, 0, rfl, rfl, .inl rfl, _, _, rfl, rfl, by decide +kernel, ?_⟩⟩
   exact k
  ·have I : ∀ {z b}, W.kitOne K (.ref cBC) z = some b → IsX K H (.ref x) z b := fun h => ⟨_, .exc hx TC.tC.k, h⟩
   refine ⟨_, rfl, true, I TC.tC.v, .inr ⟨true, rfl, _, 1, rfl, rfl, .inr rfl, ?_⟩⟩
   refine ⟨_, rfl, _, rfl, false, I TC.tC.P, .inr ⟨false, rfl, _, 0, rfl, rfl, .inl rfl, _, _, rfl, rfl, by decide +kernel, _, rfl, true, I TC.tC.C, .inr ⟨true, rfl, _, 1, rfl, rfl, .inr rfl, _, _, rfl, rfl, by decide +kernel, ?_⟩⟩⟩
   refine ⟨_, rfl, _, rfl, false, I TC.tC.S, .inr ⟨false, rfl, _, 0, rfl, rfl, .inl rfl, _, _, rfl, rfl, by decide +kernel, _, rfl, false, I TC.tC.M, .inr ⟨false, rfl, _, 0, rfl, rfl, .inl rfl, _, _, rfl, rfl, by decide +kernel, ?_⟩⟩⟩
   refine ⟨_, rfl, _, rfl, false, I TC.tC.O, .inr ⟨false, rfl, _, 0, rfl, rfl, .inl rfl, _, _, rfl, rfl, by decide +kernel, _, rfl, false, I TC.tC.E, .inr ⟨false, rfl, _, 0, rfl, rfl, .inl rfl, _, _, rfl, rfl, by decide +kernel, ?_⟩⟩⟩
   refine ⟨_, rfl, _, rfl, false, I TC.tC.R, .inr ⟨false, rfl, _, 0, rfl, rfl, .inl rfl, _, _, rfl, rfl, by decide +kernel, ?_⟩⟩
   exact k
  ·have I : ∀ {z b}, W.kitOne K (.ref cBS) z = some b → IsX K H (.ref x) z b := fun h => ⟨_, .exc hx TC.tS.k, h⟩
   refine ⟨_, rfl, true, I TC.tS.v, .inr ⟨true, rfl, _, 1, rfl, rfl, .inr rfl, ?_⟩⟩
   refine ⟨_, rfl, _, rfl, false, I TC.tS.P, .inr ⟨false, rfl, _, 0, rfl, rfl, .inl rfl, _, _, rfl, rfl, by decide +kernel, _, rfl, false, I TC.tS.C, .inr ⟨false, rfl, _, 0, rfl, rfl, .inl rfl, _, _, rfl, rfl, by decide +kernel, ?_⟩⟩⟩
   refine ⟨_, rfl, _, rfl, true, I TC.tS.S, .inr ⟨true, rfl, _, 1, rfl, rfl, .inr rfl, _, _, rfl, rfl, by decide +kernel, _, rfl, false, I TC.tS.M, .inr ⟨false, rfl, _, 0, rfl, rfl, .inl rfl, _, _, rfl, rfl, by decide +kernel, ?_⟩⟩⟩
   refine ⟨_, rfl, _, rfl, false, I TC.tS.O, .inr ⟨false, rfl, _, 0, rfl, rfl, .inl rfl, _, _, rfl, rfl, by decide +kernel, _, rfl, false, I TC.tS.E, .inr ⟨false, rfl, _, 0, rfl, rfl, .inl rfl, _, _, rfl, rfl, by decide +kernel, ?_⟩⟩⟩
   refine ⟨_, rfl, _, rfl, false, I TC.tS.R, .inr ⟨false, rfl, _, 0, rfl, rfl, .inl rfl, _, _, rfl, rfl, by decide +kernel, ?_⟩⟩
   exact k
  ·have I : ∀ {z b}, W.kitOne K (.ref cBM) z = some b → IsX K H (.ref x) z b := fun h => ⟨_, .exc hx TC.tM.k, h⟩
   refine ⟨_, rfl, true, I TC.tM.v, .inr ⟨true, rfl, _, 1, rfl, rfl, .inr rfl, ?_⟩⟩
   refine ⟨_, rfl, _, rfl, false, I TC.tM.P, .inr ⟨false, rfl, _, 0, rfl, rfl, .inl rfl, _, _, rfl, rfl, by decide +kernel, _, rfl, false, I TC.tM.C, .inr ⟨false, rfl, _, 0, rfl, rfl, .inl rfl, _, _, rfl, rfl, by decide +kernel, ?_⟩⟩⟩
   refine ⟨_, rfl, _, rfl, false, I TC.tM.S, .inr ⟨false, rfl, _, 0, rfl, rfl, .inl rfl, _, _, rfl, rfl, by decide +kernel, _, rfl, true, I TC.tM.M, .inr ⟨true, rfl, _, 1, rfl, rfl, .inr rfl, _, _, rfl, rfl, by decide +kernel, ?_⟩⟩⟩
   refine ⟨_, rfl, _, rfl, false, I TC.tM.O, .inr ⟨false, rfl, _, 0, rfl, rfl, .inl rfl, _, _, rfl, rfl, by decide +kernel, _, rfl, false, I TC.tM.E, .inr ⟨false, rfl, _, 0, rfl, rfl, .inl rfl, _, _, rfl, rfl, by decide +kernel, ?_⟩⟩⟩
   refine ⟨_, rfl, _, rfl, false, I TC.tM.R, .inr ⟨false, rfl, _, 0, rfl, rfl, .inl rfl, _, _, rfl, rfl, by decide +kernel, ?_⟩⟩
   exact k
theorem Wd.ex {c : Addr} {wd : Str} (h : Wd cBP cBC cBS cBM c wd) (T : Txt K mg cFE cBP cBC cBS cBM tS tC) : W.exmOne K (.ref c) (.ref cFE) = some true := by
 cases h
 ·exact T.eP
 ·exact T.eC
 ·exact T.eS
 ·exact T.eM
theorem sc_law_word : FnScope ["_law_which", "_law_one", "_law_other", "_law_mask_here", "_law_last", "_law_error"] ["_law_which", "_law_one", "_law_other", "_law_mask_here", "_law_last"] (defScope s_law_word) := ⟨rfl, rfl, rfl, by decide +kernel, rfl, by decide +kernel, by decide +kernel⟩
theorem ok__law_word {f : Addr} {fd : FuncData} (F : FunD K "_law_word" "_law_word" s_law_word .none f fd) (T : Txt K mg cFE cBP cBC cBS cBM tS tC) (g_mask_of : DefX P w K mg base 8 "mask_of" ["picture", "cells"] [] (spMaskOf K cBP cBC)) (g_painted : DefX P w K mg base 9 "painted" ["picture", "mask", "cell"] [] (spPainted K cBP cBM cBS cBC)) (g_chosen_cells : DefX P w K mg base 9 "chosen_cells" ["one", "other", "mask"] [] (spChosen K cBP cBM cBS)) (g__law_class : DefM P w K mg base 1 "_law_class" ["_law_error"] [] (spClass cBP cBC cBS cBM)) : FnOk P w K mg base CX0 10 f fd ["_law_which", "_law_one", "_law_other", "_law_mask_here", "_law_last"] (spWord K cBP cBC cBS cBM) := by
 refine F.ok sc_law_word (fun vs H Q E h => ?_) (fun cdv A outer s H vs Q E hr h => ?_)
 ·obtain ⟨n, x, u, m, l, c, wd, rfl, _⟩ := h; rfl
 ·obtain ⟨n, x, u, m, l, c, wd, rfl, hw, h, k⟩ := h
  have hr1 : Room 1 _ := hr.mono (by decide)
  refine ⟨_, (pss_cons (ps_try2 (i := 5) sc_law_word.nd rfl rfl rfl T.FolioError rfl rfl (fun pn XE R hx => (pss_one (ps_if (pt_cmpR op_eq (pv 0) pe_int (nomark _)) (pss_one (ps_expr (pe_callX g_mask_of (hr.mono (by decide)) hx rfl (pa_cons (pv 1) (pa_cons (pv 4) pa_nil))))) (pss_one (ps_if (pt_cmpR op_eq (pv 0) pe_int (nomark _)) (pss_one (ps_expr (pe_callX g_painted (hr.mono (by decide)) hx rfl (pa_cons (pv 1) (pa_cons (pv 3) (pa_cons (pv 4) pa_nil)))))) (pss_one (ps_expr (pe_callX g_chosen_cells (hr.mono (by decide)) hx rfl (pa_cons (pv 1) (pa_cons (pv 2) (pa_cons (pv 3) pa_nil))))))))))) (fun ea => (pss_one (ps_ret (pe_callM g__law_class hr1 rfl (pa_cons (pv 5) pa_nil))))))
    (pss_one (ps_ret pe_str))), ?_⟩
  rcases h with ⟨rfl, h⟩ | ⟨rfl, h⟩ | ⟨rfl, h⟩
  ·refine ⟨_, rfl, rfl, _, rfl, iteT ⟨_, rfl, _, rfl, x, l, rfl, ?_⟩⟩
   rcases h with ⟨a, ps, rows, wd', e, pic, gd, bc, rfl⟩ | ⟨th, hb, rfl⟩
   ·exact .inl ⟨a, ps, rows, wd', e, pic, gd, .inr ⟨bc, fun H3 s3 => ⟨_, rfl, hw.ex T, fun ea hea => ⟨_, rfl, ea, _, _, rfl, hw, upd_same, k _ (s3.trans (same_new hea))⟩⟩⟩⟩
   ·exact .inr ⟨th, hb, fun H3 s3 => ⟨_, rfl, hw.ex T, fun ea hea => ⟨_, rfl, ea, _, _, rfl, hw, upd_same, k _ (s3.trans (same_new hea))⟩⟩⟩
  ·refine ⟨_, rfl, rfl, _, rfl, iteF ⟨_, rfl, rfl, _, rfl, iteT ⟨_, rfl, _, rfl, _, rfl, x, m, l, rfl, ?_⟩⟩⟩
   rcases h with ⟨a, ps, rows, wd', e, pic, gd, h⟩ | ⟨th, hb, rfl⟩
   ·refine .inl ⟨a, ps, rows, wd', e, pic, gd, ?_⟩
    rcases h with ⟨b, b2, wm, rm, e2, mv, gm, h⟩ | ⟨tm, hb, rfl⟩
    ·refine .inl ⟨b, b2, wm, rm, e2, mv, gm, ?_⟩
     rcases h with ⟨hne, rfl⟩ | ⟨heq, kl, hl, rfl⟩
     ·exact .inl ⟨hne, fun H3 s3 => ⟨_, rfl, hw.ex T, fun ea hea => ⟨_, rfl, ea, _, _, rfl, hw, upd_same, k _ (s3.trans (same_new hea))⟩⟩⟩
     ·exact .inr ⟨heq, .inr ⟨kl, hl, fun H3 s3 => ⟨_, rfl, hw.ex T, fun ea hea => ⟨_, rfl, ea, _, _, rfl, hw, upd_same, k _ (s3.trans (same_new hea))⟩⟩⟩⟩
    ·exact .inr ⟨tm, hb, fun H3 s3 => ⟨_, rfl, hw.ex T, fun ea hea => ⟨_, rfl, ea, _, _, rfl, hw, upd_same, k _ (s3.trans (same_new hea))⟩⟩⟩
   ·exact .inr ⟨th, hb, fun H3 s3 => ⟨_, rfl, hw.ex T, fun ea hea => ⟨_, rfl, ea, _, _, rfl, hw, upd_same, k _ (s3.trans (same_new hea))⟩⟩⟩
  ·refine ⟨_, rfl, rfl, _, rfl, iteF ⟨_, rfl, rfl, _, rfl, iteF ⟨_, rfl, _, rfl, _, rfl, x, u, m, rfl, ?_⟩⟩⟩
   rcases h with ⟨a, ps, rows, wd', e, pic, gd, h⟩ | ⟨th, hb, rfl⟩
   ·refine .inl ⟨a, ps, rows, wd', e, pic, gd, ?_⟩
    rcases h with ⟨far, h⟩ | ⟨a2, ps2, rows2, wd2, e', pic2, gd2, h⟩ | ⟨th, hb, rfl⟩
    ·refine .inl ⟨far, ?_⟩
     rcases h with ⟨b, b2, wm, rm, e2, mv, gm, rfl⟩ | ⟨tm, hb, rfl⟩
     ·exact .inl ⟨b, b2, wm, rm, e2, mv, gm, fun H3 s3 => ⟨_, rfl, hw.ex T, fun ea hea => ⟨_, rfl, ea, _, _, rfl, hw, upd_same, k _ (s3.trans (same_new hea))⟩⟩⟩
     ·exact .inr ⟨tm, hb, fun H3 s3 => ⟨_, rfl, hw.ex T, fun ea hea => ⟨_, rfl, ea, _, _, rfl, hw, upd_same, k _ (s3.trans (same_new hea))⟩⟩⟩
    ·refine .inr (.inl ⟨a2, ps2, rows2, wd2, e', pic2, gd2, ?_⟩)
     rcases h with ⟨b, b2, wm, rm, e2, mv, gm, hne, rfl⟩ | ⟨tm, hb, rfl⟩
     ·exact .inl ⟨b, b2, wm, rm, e2, mv, gm, .inl ⟨hne, fun H3 s3 => ⟨_, rfl, hw.ex T, fun ea hea => ⟨_, rfl, ea, _, _, rfl, hw, upd_same, k _ (s3.trans (same_new hea))⟩⟩⟩⟩
     ·exact .inr ⟨tm, hb, fun H3 s3 => ⟨_, rfl, hw.ex T, fun ea hea => ⟨_, rfl, ea, _, _, rfl, hw, upd_same, k _ (s3.trans (same_new hea))⟩⟩⟩
    ·exact .inr (.inr ⟨th, hb, fun H3 s3 => ⟨_, rfl, hw.ex T, fun ea hea => ⟨_, rfl, ea, _, _, rfl, hw, upd_same, k _ (s3.trans (same_new hea))⟩⟩⟩)
   ·exact .inr ⟨th, hb, fun H3 s3 => ⟨_, rfl, hw.ex T, fun ea hea => ⟨_, rfl, ea, _, _, rfl, hw, upd_same, k _ (s3.trans (same_new hea))⟩⟩⟩
end
noncomputable def drw (one many x : Int) : Int := one * (x * x + 3 * x + 7) % 1000003 / 11 % many
noncomputable def cel (n step d : Int) : Int := (n / 131 + d * step) % 16
theorem cel_in (n step d : Int) : 0 ≤ cel n step d ∧ cel n step d ≤ 15 := by
 unfold cel
 generalize n / 131 + d * step = z
 omega
noncomputable def lrow (n step one many : Int) (wd : Nat) : List Int := (List.range wd).map fun (x : Nat) => cel n step (drw one many (0 + (x : Int)))
theorem sq_le {j : Nat} (h : j ≤ 24) : 0 ≤ (0 + (j : Int)) * (0 + (j : Int)) ∧ (0 + (j : Int)) * (0 + (j : Int)) ≤ 576 := by
 have e : (0 + (j : Int)) * (0 + (j : Int)) = ((j * j : Nat) : Int) := by rw [Int.zero_add]; push_cast; rfl
 have h2 : j * j ≤ 24 * 24 := Nat.mul_le_mul h h
 rw [e]
 constructor
 ·exact Int.natCast_nonneg _
 ·exact_mod_cast h2
noncomputable def spLPicture (K : W.Frag) : Sp := fun vs H Q _ => ∃ (a : Addr) (ns : List Int) (at_ : Nat), vs = [.ref a, .int (at_ : Int), .int 6] ∧ SqL K H a (ns.map V.int) ∧ (∀ x ∈ ns, Builtin.Int.intBits x ≤ 2 ^ 20) ∧ at_ ≤ 100 ∧
 ∀ p ps rows wd H', Same H H' → H p = none → Fresh H ps → PicV H' p ps (ir rows) → Good rows wd → Q (.ref p) H'
section
variable {P : Program} {w : World} {K : W.Frag} {mg : Str → Option Value} {base : Heap} {cFE cBP cBC cBS cBM : Addr} {tS tC : Tok}
theorem sc_law_picture : FnScope ["_law_script", "_law_at", "_law_most", "_law_number", "_law_wide", "_law_high", "_law_many", "_law_step", "_law_rows", "_law_y", "_law_one", "_law_drawn"] ["_law_script", "_law_at", "_law_most"] (defScope s_law_picture) := ⟨rfl, rfl, rfl, by decide +kernel, rfl, by decide +kernel, by decide +kernel⟩
theorem ok__law_picture {f : Addr} {fd : FuncData} (F : FunD K "_law_picture" "_law_picture" s_law_picture .none f fd) (T : Txt K mg cFE cBP cBC cBS cBM tS tC) (g__law_mixed : Def P w K mg base 2 "_law_mixed" ["_law_script", "_law_k"] [] (spMixed K)) : FnOk P w K mg base CX0 3 f fd ["_law_script", "_law_at", "_law_most"] (spLPicture K) := by
 refine F.ok sc_law_picture (fun vs H Q E h => ?_) (fun cdv A outer s H vs Q E hr h => ?_)
 ·obtain ⟨a, ns, at_, rfl, _⟩ := h; rfl
 ·obtain ⟨a, ns, at_, rfl, hS, hB, hat, k⟩ := h
  obtain ⟨t5, r5, k5⟩ : ∃ tr, PSs ((cxOf CX0 P w K mg base ["_law_script", "_law_at", "_law_most", "_law_number", "_law_wide", "_law_high", "_law_many", "_law_step", "_law_rows", "_law_y", "_law_one", "_law_drawn"] "_law_picture" (defScope s_law_picture) f cdv A outer s H E).nox) ((defBody s_law_picture).drop 5) tr ∧ ∀ (n : Nat) (wi hi : Int) (H1 : Hp), Same H H1 → 1 ≤ wi → wi ≤ 24 → 1 ≤ hi → hi ≤ 24 → tr { nx := fun _ H' => Q .non H', rt := Q } [some (.ref a), some (.int (at_ : Int)), some (.int 6), some (.int (n : Int)), some (.int wi), some (.int hi), none, none, none, none, none, none] H1 := by
   refine ⟨_, (pss_cons (ps_set (i := 6) sc_law_picture.nd rfl (by first | exact Or.inl rfl | exact Or.inr rfl) (pe_ix (ixK K rfl) (pe_lst (pa_cons pe_int (pa_cons pe_int (pa_cons pe_int (pa_cons pe_int (pa_cons pe_int (pa_cons pe_int pa_nil))))))) (pe_op op_mod (pe_op op_fdiv (pv 3) pe_int) pe_int) (fun _ _ => rfl)))
    (pss_cons (ps_set (i := 7) sc_law_picture.nd rfl (by first | exact Or.inl rfl | exact Or.inr rfl) (pe_ix (ixK K rfl) (pe_lst (pa_cons pe_int (pa_cons pe_int (pa_cons pe_int (pa_cons pe_int (pa_cons pe_int (pa_cons pe_int (pa_cons pe_int (pa_cons pe_int pa_nil))))))))) (pe_op op_mod (pe_op op_fdiv (pv 3) pe_int) pe_int) (fun _ _ => rfl)))
    (pss_cons (ps_set (i := 8) sc_law_picture.nd rfl (by first | exact Or.inl rfl | exact Or.inr rfl) (pe_lst pa_nil))
    (pss_cons (ps_for PassesOwn.never rfl (pi_range1 rfl T.range (pa_cons (pv 5) pa_nil)) (pg_name (i := 9) sc_law_picture.nd rfl (by first | exact Or.inl rfl | exact Or.inr rfl)) (pss_cons (ps_set (i := 10) sc_law_picture.nd rfl (by first | exact Or.inl rfl | exact Or.inr rfl) (pe_op op_add (pe_callD g__law_mixed (hr.mono (by decide)) rfl (pa_cons (pv 0) (pa_cons (pe_op op_add (pe_op op_add (pv 1) pe_int) (pe_op op_mod (pv 9) pe_int)) pa_nil))) (pe_op op_mul (pe_op op_mul pe_int (pv 9)) (pv 9))))
    (pss_cons (ps_setC (ix := 11) (N := ["_law_x", "_law_one", "_law_many"]) (src := [none, some 10, some 6]) sc_law_picture.nd rfl rfl rfl ⟨rfl, rfl, rfl, rfl, rfl, by decide +kernel⟩ (pi_range1 rfl T.range (pa_cons (pv 4) pa_nil)) (fun s H C fp => pg_name (i := 0) (show (["_law_x", "_law_one", "_law_many"] : List Str).Nodup by decide +kernel) rfl (by first | exact Or.inl rfl | exact Or.inr rfl)) (fun s H C fp => pts_nil) (fun s H C fp => (pe_op op_mod (pe_op op_fdiv (pe_op op_mod (pe_op op_mul (pv 1) (pe_op op_add (pe_op op_add (pe_op op_mul (pv 0) (pv 0)) (pe_op op_mul pe_int (pv 0))) pe_int)) pe_int) pe_int) (pv 2))))
    (pss_one (ps_expr (pe_bm PySem.F.plainAttrs_list PySem.F.slot_list_append PySem.F.type_list_append mt_append (pv 8) (pa_cons (pe_comp (N := ["_law_cell_here", "_law_number", "_law_step"]) (src := [none, some 3, some 7]) rfl ⟨rfl, rfl, rfl, rfl, rfl, by decide +kernel⟩ (piK K rfl (pv 11)) (fun s H C fp => pg_name (i := 0) (show (["_law_cell_here", "_law_number", "_law_step"] : List Str).Nodup by decide +kernel) rfl (by first | exact Or.inl rfl | exact Or.inr rfl)) (fun s H C fp => pts_nil) (fun s H C fp => (pe_op op_mod (pe_op op_add (pe_op op_fdiv (pv 1) pe_int) (pe_op op_mul (pv 0) (pv 2))) pe_int))) pa_nil)))))))
    (pss_one (ps_ret (pv 8))))))), ?_⟩
   intro n wi hi H1 s1 w1 w24 h1 h24
   obtain ⟨wd, rfl⟩ : ∃ wd : Nat, wi = (wd : Int) := ⟨wi.toNat, by omega⟩
   obtain ⟨hg, rfl⟩ : ∃ hg : Nat, hi = (hg : Int) := ⟨hi.toNat, by omega⟩
   obtain ⟨mn, emn, mn1, mn2⟩ : ∃ z : Int, atI [V.int 2, V.int 3, V.int 2, V.int 16, V.int 1, V.int 2] ((n : Int) / 360000 % 6) = some (V.int z) ∧ 1 ≤ z ∧ z ≤ 16 := by
    obtain ⟨j, hj, ej⟩ : ∃ j : Nat, j < 6 ∧ (n : Int) / 360000 % 6 = (j : Int) := ⟨((n : Int) / 360000 % 6).toNat, by omega, by omega⟩
    rw [ej]
    match j, hj with
    | 0, _ => exact ⟨_, atI_nat rfl, by decide, by decide⟩
    | 1, _ => exact ⟨_, atI_nat rfl, by decide, by decide⟩
    | 2, _ => exact ⟨_, atI_nat rfl, by decide, by decide⟩
    | 3, _ => exact ⟨_, atI_nat rfl, by decide, by decide⟩
    | 4, _ => exact ⟨_, atI_nat rfl, by decide, by decide⟩
    | 5, _ => exact ⟨_, atI_nat rfl, by decide, by decide⟩
   obtain ⟨st, est, st1, st2⟩ : ∃ z : Int, atI [V.int 1, V.int 3, V.int 5, V.int 7, V.int 9, V.int 11, V.int 13, V.int 15] ((n : Int) / 17 % 8) = some (V.int z) ∧ 0 ≤ z ∧ z ≤ 15 := by
    obtain ⟨j, hj, ej⟩ : ∃ j : Nat, j < 8 ∧ (n : Int) / 17 % 8 = (j : Int) := ⟨((n : Int) / 17 % 8).toNat, by omega, by omega⟩
    rw [ej]
    match j, hj with
    | 0, _ => exact ⟨_, atI_nat rfl, by decide, by decide⟩
    | 1, _ => exact ⟨_, atI_nat rfl, by decide, by decide⟩
    | 2, _ => exact ⟨_, atI_nat rfl, by decide, by decide⟩
    | 3, _ => exact ⟨_, atI_nat rfl, by decide, by decide⟩
    | 4, _ => exact ⟨_, atI_nat rfl, by decide, by decide⟩
    | 5, _ => exact ⟨_, atI_nat rfl, by decide, by decide⟩
    | 6, _ => exact ⟨_, atI_nat rfl, by decide, by decide⟩
    | 7, _ => exact ⟨_, atI_nat rfl, by decide, by decide⟩
   refine ⟨sz6, fun L hL => ⟨_, rfl, _, _, rfl, rfl, ⟨by decide, by decide⟩, _, _, rfl, rfl, (by show (0 : Int) < 6; decide), L, _, _, .int mn, rfl, rfl, SqL.of upd_same, emn, ?_⟩⟩
   have s2 := s1.trans (same_new (o := HO.lst [V.int 2, V.int 3, V.int 2, V.int 16, V.int 1, V.int 2]) hL)
   generalize upd H1 L (HO.lst [V.int 2, V.int 3, V.int 2, V.int 16, V.int 1, V.int 2]) = H2 at s2 ⊢
   refine ⟨sz8, fun L2 hL2 => ⟨_, rfl, _, _, rfl, rfl, ⟨by decide, by decide⟩, _, _, rfl, rfl, (by show (0 : Int) < 8; decide), L2, _, _, .int st, rfl, rfl, SqL.of upd_same, est, ?_⟩⟩
   have s3 := s2.trans (same_new (o := HO.lst [V.int 1, V.int 3, V.int 5, V.int 7, V.int 9, V.int 11, V.int 13, V.int 15]) hL2)
   generalize upd H2 L2 (HO.lst [V.int 1, V.int 3, V.int 5, V.int 7, V.int 9, V.int 11, V.int 13, V.int 15]) = H3 at s3 ⊢
   refine ⟨Nat.zero_le _, fun S hS3 => ?_⟩
   have hS0 : H S = none := s3.free hS3
   have s4 := s3.trans (same_new (o := HO.lst []) hS3)
   refine ⟨_, rfl, _, rfl, by omega, by omega, ?_⟩
   rw [Int.toNat_natCast]
   refine for_range (fun i σ H4 => Same H H4 ∧ ∃ (rows : List (List Int)) (ps : List Addr), PicV H4 S ps (ir rows) ∧ Fresh H ps ∧ rows.length = i ∧ (∀ r ∈ rows, r.length = wd ∧ ∀ c ∈ r, 0 ≤ c ∧ c ≤ 15) ∧ ∃ v9 v10 v11, σ = [some (.ref a), some (.int (at_ : Int)), some (.int 6), some (.int (n : Int)), some (.int (wd : Int)), some (.int (hg : Int)), some (.int mn), some (.int st), some (.ref S), v9, v10, v11]) ⟨s4, [], [], ⟨upd_same, .nil, List.nodup_nil, by simp⟩, (fun q h => nomatch h), rfl, (fun r h => nomatch h), _, _, _, rfl⟩ ?_ ?_
   ·rintro i σ H4 hi' ⟨s4, rows, ps, pic, fr, hl, hrw, v9, v10, v11, rfl⟩
    have hS' := sqL_mono hS s4
    refine ⟨_, rfl, _, rfl, _, _, rfl, rfl, _, rfl, _, _, rfl, rfl, (by show (0 : Int) < 10; decide), _, _, rfl, rfl, a, ns, at_ + 1 + i % 10, ?_, hS', hB, by omega, fun m hm => ?_⟩
    ·have e : (at_ : Int) + 1 + (0 + (i : Int)) % 10 = ((at_ + 1 + i % 10 : Nat) : Int) := by omega
     show [V.ref a, V.int ((at_ : Int) + 1 + (0 + (i : Int)) % 10)] = _
     rw [e]
    ·refine ⟨_, rfl, _, _, rfl, rfl, .inl ⟨by decide, by decide⟩, _, rfl, _, _, rfl, rfl, .inr ⟨by show _; omega, by show _; omega⟩, _, _, rfl, rfl, ?_⟩
     show gName 10 (.int ((m : Int) + 611 * (0 + (i : Int)) * (0 + (i : Int)))) _ H4 _
     generalize (m : Int) + 611 * (0 + (i : Int)) * (0 + (i : Int)) = one
     refine ⟨_, rfl, _, rfl, by omega, by omega, fun D hD => ?_⟩
     rw [Int.toNat_natCast]
     refine comp_fm (k := 0) (fun v => .int (drw one mn (iV v))) (fun _ => true) src_range (by simp; exact Nat.le_trans (by omega : wd ≤ 24) (by decide)) hD (fun x _ H' Qb _ kk => kk H' (Same.refl _)) (fun x hx _ H' Q' sm kk => ?_) fun H5 s5 h5 => ?_
     ·obtain ⟨j, hj, rfl⟩ := List.mem_map.mp hx
      have hj' : j < wd := List.mem_range.mp hj
      have sq := sq_le (j := j) (by omega)
      refine ⟨_, rfl, _, rfl, _, rfl, _, _, rfl, rfl, .inl ⟨by show _; omega, by show _; omega⟩, _, rfl, _, _, rfl, rfl, .inl ⟨by decide, by decide⟩, _, _, rfl, rfl, _, _, rfl, rfl, _, _, rfl, rfl, .inr ⟨by show _; omega, by show _; omega⟩, _, _, rfl, rfl, (by show (0 : Int) < 1000003; decide), _, _, rfl, rfl, ⟨by decide, by decide⟩, _, rfl, _, _, rfl, rfl, (by show (0 : Int) < mn; omega), ?_⟩
      exact kk H' (Same.refl _)
     ·have h5' : H5 D = some (.lst ((List.range wd).map fun (j : Nat) => V.int (drw one mn (0 + (j : Int))))) := by rw [h5, filter_t, List.map_map]; rfl
      refine ⟨_, rfl, .inl ⟨rfl, _, SqL.of (s5 _ _ pic.top)⟩, _, rfl, D, rfl, ⟨_, SqL.of h5'⟩, fun D2 hD2 => ?_⟩
      refine comp_fm (k := 0) (fun v => .int (cel n st (iV v))) (fun _ => true) (src_list (SqL.of h5')) (by rw [List.length_map, List.length_range]; exact Nat.le_trans (by omega : wd ≤ 24) (by decide)) hD2 (fun x _ H' Qb _ kk => kk H' (Same.refl _)) (fun x hx _ H' Q' sm kk => ?_) fun H6 s6 h6 => ?_
      ·obtain ⟨j, hj, rfl⟩ := List.mem_map.mp hx
       refine ⟨_, rfl, _, _, rfl, rfl, ⟨by decide, by decide⟩, _, rfl, _, rfl, _, _, rfl, rfl, .inr ⟨by show _; omega, by show _; omega⟩, _, _, rfl, rfl, _, _, rfl, rfl, (by show (0 : Int) < 16; decide), ?_⟩
       exact kk H' (Same.refl _)
      ·have h6' : H6 D2 = some (.lst ((lrow n st one mn wd).map V.int)) := by
        rw [h6, filter_t, List.map_map]
        unfold lrow
        rw [List.map_map]; rfl
       have s46 := s5.trans s6
       have h24' : ps.length ≤ 24 := by rw [pic.len, ir_len]; omega
       refine ⟨S, _, _, rfl, rfl, s46 _ _ pic.top, ?_, same_upd (s4.trans s46) hS0, rows ++ [lrow n st one mn wd], ps ++ [D2], ?_, ?_, ?_, ?_, _, _, _, rfl⟩
       ·rw [List.length_map]; exact Nat.lt_of_le_of_lt h24' (by decide)
       ·have := PicV.push pic s46 (s5.free hD2) h6'
        have e : ir (rows ++ [lrow n st one mn wd]) = ir rows ++ [(lrow n st one mn wd).map V.int] := by unfold ir; rw [List.map_append]; rfl
        rw [e]; exact this
       ·intro q hq
        rcases List.mem_append.mp hq with hq | hq
        ·exact fr q hq
        ·rw [List.mem_singleton.mp hq]; exact s4.free (s5.free hD2)
       ·rw [List.length_append, hl]; rfl
       ·intro r hr
        rcases List.mem_append.mp hr with hr | hr
        ·exact hrw r hr
        ·rw [List.mem_singleton.mp hr]
         unfold lrow
         refine ⟨by rw [List.length_map, List.length_range], fun c hc => ?_⟩
         obtain ⟨x, _, rfl⟩ := List.mem_map.mp hc
         exact cel_in _ _ _
   ·rintro σ H4 ⟨s4, rows, ps, pic, fr, hl, hrw, v9, v10, v11, rfl⟩
    exact ⟨_, rfl, k S ps rows wd H4 s4 hS0 fr pic ⟨by omega, by omega, by omega, by omega, hrw⟩⟩
  obtain ⟨t4, r4, k4⟩ : ∃ tr, PSs ((cxOf CX0 P w K mg base ["_law_script", "_law_at", "_law_most", "_law_number", "_law_wide", "_law_high", "_law_many", "_law_step", "_law_rows", "_law_y", "_law_one", "_law_drawn"] "_law_picture" (defScope s_law_picture) f cdv A outer s H E).nox) ((defBody s_law_picture).drop 4) tr ∧ ∀ (n : Nat) (wi hi : Int) (H1 : Hp), Same H H1 → 1 ≤ wi → wi ≤ 24 → 1 ≤ hi → hi ≤ 24 → tr { nx := fun _ H' => Q .non H', rt := Q } [some (.ref a), some (.int (at_ : Int)), some (.int 6), some (.int (n : Int)), some (.int wi), some (.int hi), none, none, none, none, none, none] H1 := by
   refine ⟨_, (pss_cons (ps_if (pt_cmpR op_eq (pe_op op_mod (pe_op op_fdiv (pv 3) pe_int) pe_int) pe_int (nomark _)) (pss_one (ps_par (i := 4) (j := 5) rfl sc_law_picture.nd rfl rfl (by decide) rfl rfl (pa_cons (pe_callB (call_min2 rfl) rfl T.min PyProof.Rows.boot_min (pa_cons (pv 4) (pa_cons pe_int pa_nil))) (pa_cons (pe_op op_add pe_int (pe_op op_mod (pe_op op_fdiv (pv 3) pe_int) pe_int)) pa_nil)) rfl)) pss_nil)
    (@r5)), ?_⟩
   intro n wi hi H1 s1 w1 w24 h1 h24
   refine ⟨_, rfl, _, _, rfl, rfl, ⟨by decide, by decide⟩, _, _, rfl, rfl, (by show (0 : Int) < 16; decide), rfl, _, rfl, ite2 (fun _ => ?_) (fun _ => k5 n wi hi H1 s1 w1 w24 h1 h24)⟩
   refine ⟨_, rfl, _, _, rfl, _, rfl, _, _, rfl, rfl, ⟨by decide, by decide⟩, _, _, rfl, rfl, (by show (0 : Int) < 24; decide), _, _, rfl, rfl, _, _, rfl, k5 n _ _ _ s1 ?_ ?_ ?_ ?_⟩
   ·omega
   ·omega
   ·omega
   ·omega
  refine ⟨_, (pss_cons (ps_set (i := 3) sc_law_picture.nd rfl (by first | exact Or.inl rfl | exact Or.inr rfl) (pe_callD g__law_mixed (hr.mono (by decide)) rfl (pa_cons (pv 0) (pa_cons (pv 1) pa_nil))))
    (pss_cons (ps_set (i := 4) sc_law_picture.nd rfl (by first | exact Or.inl rfl | exact Or.inr rfl) (pe_op op_add pe_int (pe_op op_mod (pv 3) (pv 2))))
    (pss_cons (ps_set (i := 5) sc_law_picture.nd rfl (by first | exact Or.inl rfl | exact Or.inr rfl) (pe_op op_add pe_int (pe_op op_mod (pe_op op_fdiv (pv 3) pe_int) (pv 2))))
    (pss_cons (ps_if (pt_cmpR op_eq (pe_op op_mod (pe_op op_fdiv (pv 3) pe_int) pe_int) pe_int (nomark _)) (pss_one (ps_par (i := 4) (j := 5) rfl sc_law_picture.nd rfl rfl (by decide) rfl rfl (pa_cons (pe_op op_add pe_int (pe_op op_mod (pe_op op_fdiv (pv 3) pe_int) pe_int)) (pa_cons (pe_callB (call_min2 rfl) rfl T.min PyProof.Rows.boot_min (pa_cons (pv 5) (pa_cons pe_int pa_nil))) pa_nil)) rfl)) pss_nil)
    (@r4))))), ?_⟩
  refine ⟨_, rfl, _, rfl, a, ns, at_, rfl, hS, hB, by omega, fun n hn => ?_⟩
  refine ⟨_, rfl, _, rfl, _, _, rfl, rfl, (by show (0 : Int) < 6; decide), _, _, rfl, rfl, ?_⟩
  refine ⟨_, rfl, _, _, rfl, rfl, ⟨by decide, by decide⟩, _, rfl, _, _, rfl, rfl, (by show (0 : Int) < 6; decide), _, _, rfl, rfl, ?_⟩
  refine ⟨_, rfl, _, _, rfl, rfl, ⟨by decide, by decide⟩, _, _, rfl, rfl, (by show (0 : Int) < 16; decide), rfl, _, rfl, ite2 (fun _ => ?_) (fun _ => k4 n _ _ H (Same.refl H) (by omega) (by omega) (by omega) (by omega))⟩
  refine ⟨_, rfl, _, _, rfl, rfl, ⟨by decide, by decide⟩, _, _, rfl, rfl, (by show (0 : Int) < 24; decide), _, _, rfl, rfl, _, rfl, _, _, rfl, _, _, rfl, k4 n _ _ H (Same.refl H) ?_ ?_ ?_ ?_⟩
  ·omega
  ·omega
  ·omega
  ·omega
end
noncomputable def bsum (c : Nat → Bool) : Nat → Nat
 | 0 => 0
 | w + 1 => bsum c w + if c w = true then 2 ^ w else 0
theorem bsum_congr {c d : Nat → Bool} : ∀ {w : Nat}, (∀ x, x < w → c x = d x) → bsum c w = bsum d w
 | 0, _ => rfl
 | w + 1, h => by
  show bsum c w + _ = bsum d w + _
  rw [bsum_congr fun x hx => h x (by omega), h w (by omega)]
theorem bsum_bits {r : Nat} : ∀ {w : Nat}, r < 2 ^ w → bsum r.testBit w = r := by
 have step : ∀ w, bsum r.testBit w = r % 2 ^ w := by
  intro w
  induction w with
  | zero => simp [bsum, Nat.mod_one]
  | succ w ih =>
   show bsum r.testBit w + _ = _
   rw [ih, Nat.mod_pow_succ, Nat.testBit_eq_decide_div_mod_eq]
   rcases Nat.mod_two_eq_zero_or_one (r / 2 ^ w) with e | e
   ·rw [e]; simp
   ·rw [e]; simp
 intro w h
 rw [step, Nat.mod_eq_of_lt h]
theorem bsum_of {m w : Nat} {c : Nat → Bool} (hm : m < 2 ^ w) (h : ∀ x, x < w → c x = m.testBit x) : bsum c w = m := (bsum_congr h).trans (bsum_bits hm)
theorem msum_app (a b : List (Int × Int)) (y : Nat) : msum (a ++ b) y = msum a y + msum b y := by
 unfold msum
 rw [List.filter_append, List.map_append, List.sum_append]
theorem msum_row (f : Int × Int → Bool) (r y' y : Nat) : ∀ w, msum ((plR r y' w).filter f) y = if y' = y then bsum (fun x => r.testBit x && f ((x : Int), (y : Int))) w else 0
 | 0 => by
  show 0 = _
  split <;> rfl
 | w + 1 => by
  rw [plR_succ, List.filter_append, msum_app, msum_row f r y' y w]
  by_cases hy : y' = y
  ·subst hy
   rw [if_pos rfl, if_pos rfl]
   show _ = bsum _ w + _
   congr 1
   cases hb : r.testBit w with
   | false => simp [hb, msum]
   | true =>
    cases hf : f ((w : Int), (y' : Int)) with
    | false => simp [hb, hf, msum]
    | true => simp [hb, hf, msum]
  ·rw [if_neg hy, if_neg hy]
   have hi : ¬ ((y' : Int) = (y : Int)) := by omega
   cases hb : r.testBit w with
   | false => simp [hb, msum]
   | true =>
    cases hf : f ((w : Int), (y' : Int)) with
    | false => simp [hb, hf, msum]
    | true => simp [hb, hf, msum, hi]
theorem msum_mask (f : Int × Int → Bool) (wd : Nat) (rows : List Nat) (y : Nat) : ∀ n, msum ((plM wd rows n).filter f) y = if y < n then bsum (fun x => (rows.getD y 0).testBit x && f ((x : Int), (y : Int))) wd else 0
 | 0 => by simp [plM, msum]
 | n + 1 => by
  rw [plM_succ, List.filter_append, msum_app, msum_mask f wd rows y n, msum_row]
  by_cases h : y < n
  ·rw [if_pos h, if_neg (by omega), if_pos (by omega)]; omega
  ·rw [if_neg h]
   by_cases e : n = y
   ·subst e
    rw [if_pos rfl, if_pos (by omega)]; omega
   ·rw [if_neg e, if_neg (by omega)]
theorem mem_plM {wd n x y : Nat} {rows : List Nat} (hx : x < wd) (hy : y < n) : ((x : Int), (y : Int)) ∈ plM wd rows n ↔ (rows.getD y 0).testBit x = true := by
 unfold plM plR
 rw [List.mem_flatMap]
 constructor
 ·rintro ⟨y', hy', h⟩
  obtain ⟨x', hx', e⟩ := List.mem_map.mp h
  have e1 := congrArg Prod.fst e
  have e2 := congrArg Prod.snd e
  simp only at e1 e2
  have : x' = x := by omega
  have : y' = y := by omega
  subst x' y'
  exact (List.mem_filter.mp hx').2
 ·intro h
  exact ⟨y, List.mem_range.mpr hy, List.mem_map.mpr ⟨x, List.mem_filter.mpr ⟨List.mem_range.mpr hx, h⟩, rfl⟩⟩
theorem plM_in {wd n : Nat} {rows : List Nat} {q : Int × Int} (h : q ∈ plM wd rows n) : 0 ≤ q.1 ∧ q.1 < wd ∧ 0 ≤ q.2 ∧ q.2 < n := by
 unfold plM plR at h
 obtain ⟨y, hy, hq2⟩ := List.mem_flatMap.mp h
 obtain ⟨x, hx, rfl⟩ := List.mem_map.mp hq2
 have := List.mem_range.mp hy
 have := List.mem_range.mp (List.mem_filter.mp hx).1
 exact ⟨by show (0 : Int) ≤ (x : Int); omega, by show (x : Int) < (wd : Int); omega, by show (0 : Int) ≤ (y : Int); omega, by show (y : Int) < (n : Int); omega⟩
theorem other_good {wd : Nat} {rows : List Nat} (g : GoodM wd rows) : GoodM wd (rows.map fun r => 2 ^ wd - 1 - r) := ⟨g.w1, g.w24, by rw [List.length_map]; exact g.h1, by rw [List.length_map]; exact g.h24, fun r hr => by
 obtain ⟨r', _, rfl⟩ := List.mem_map.mp hr
 have := Nat.two_pow_pos wd; omega⟩
theorem mkRow_bit (cs : List Nat) (r : List Int) (x : Nat) : (mkRow cs r).testBit x = (decide (x < r.length) && decide ((r.getD x 0).toNat ∈ cs)) := by
 unfold mkRow
 rw [bits_bit, Bool.eq_iff_iff]
 simp only [decide_eq_true_eq, Bool.and_eq_true, List.mem_filter, List.mem_range]
theorem bitsN_lt {l : List Nat} {n : Nat} (h : ∀ x ∈ l, x < n) : bitsN l < 2 ^ n := by
 apply Nat.lt_pow_two_of_testBit
 intro i hi
 rw [bits_bit]
 exact decide_eq_false fun z => by have := h i z; omega
theorem mkRow_lt (cs : List Nat) (r : List Int) : mkRow cs r < 2 ^ r.length := bitsN_lt fun x hx => List.mem_range.mp (List.mem_filter.mp hx).1
theorem mkM_good {rows : List (List Int)} {wd : Nat} (g : Good rows wd) (cs : List Nat) : GoodM wd (mkM rows cs) := by
 refine ⟨g.w1, g.w24, by unfold mkM; rw [List.length_map]; exact g.ne, by unfold mkM; rw [List.length_map]; exact g.le, fun r hr => ?_⟩
 obtain ⟨q, hq, rfl⟩ := List.mem_map.mp hr
 rw [← (g.row q hq).1]
 exact mkRow_lt cs q
theorem mkM_len (rows : List (List Int)) (cs : List Nat) : (mkM rows cs).length = rows.length := List.length_map ..
theorem map_range {α : Type} (l : List α) (d : α) {β : Type} (f : α → β) : l.map f = (List.range l.length).map fun y => f (l.getD y d) := by
 apply List.ext_getElem
 ·simp
 ·intro i h1 h2
  have hi : i < l.length := by simpa using h1
  simp [List.getD, hi]
theorem sum_mk {rows : List (List Int)} {wd : Nat} (g : Good rows wd) (cs : List Nat) (f : Int × Int → Bool) (hf : ∀ x y : Nat, x < wd → y < rows.length → f ((x : Int), (y : Int)) = decide ((cAt rows x y).toNat ∈ cs)) :
  sumM ((plM wd (List.replicate rows.length (2 ^ wd - 1)) rows.length).filter f) rows.length = mkM rows cs := by
 unfold mkM
 rw [map_range rows [] (mkRow cs)]
 unfold sumM
 refine List.map_congr_left fun y hy => ?_
 have hy1 : y < rows.length := List.mem_range.mp hy
 rw [msum_mask, if_pos hy1]
 have ef : (List.replicate rows.length (2 ^ wd - 1)).getD y 0 = 2 ^ wd - 1 := by simp [List.getD, hy1]
 have er := getD_row hy1
 have el := row_len g hy1
 rw [ef]
 refine bsum_of ?_ fun x hx => ?_
 ·have := mkRow_lt cs (rows.getD y [])
  rw [er] at this ⊢
  rw [el] at this; exact this
 ·rw [hf x y hx hy1, mkRow_bit, Nat.testBit_two_pow_sub_one, er, el]
  unfold cAt
  rw [er]
theorem cell_mem {rows : List (List Int)} {wd : Nat} (g : Good rows wd) {r : List Int} (hr : r ∈ rows) {x : Nat} (hx : x < r.length) : 0 ≤ r.getD x 0 ∧ r.getD x 0 ≤ 15 := by
 have e : r.getD x 0 = r[x] := by simp [List.getD, hx]
 rw [e]; exact (g.row r hr).2 _ (List.getElem_mem hx)
theorem mk_lack {rows : List (List Int)} {wd : Nat} (g : Good rows wd) (cs ds : List Nat) (h : ∀ c, c ≤ 15 → (c ∈ ds ↔ ¬ c ∈ cs)) : mkM rows ds = (mkM rows cs).map fun r => 2 ^ wd - 1 - r := by
 unfold mkM
 rw [List.map_map]
 refine List.map_congr_left fun r hr => ?_
 have el := (g.row r hr).1
 have hl : mkRow cs r < 2 ^ wd := by rw [← el]; exact mkRow_lt cs r
 show mkRow ds r = 2 ^ wd - 1 - mkRow cs r
 rw [show 2 ^ wd - 1 - mkRow cs r = 2 ^ wd - (mkRow cs r + 1) by omega]
 apply Nat.eq_of_testBit_eq
 intro x
 rw [Nat.testBit_two_pow_sub_succ hl, mkRow_bit, mkRow_bit, el]
 by_cases hx : x < wd
 ·have hc := cell_mem g hr (x := x) (by omega)
  have := h (r.getD x 0).toNat (by omega)
  by_cases h2 : (r.getD x 0).toNat ∈ cs
  ·have h3 : ¬ (r.getD x 0).toNat ∈ ds := fun z => (this.mp z) h2
   rw [decide_eq_true hx, decide_eq_true h2, decide_eq_false h3]; rfl
  ·have h3 := this.mpr h2
   rw [decide_eq_true hx, decide_eq_false h2, decide_eq_true h3]; rfl
 ·simp [hx]
theorem lack_and {wd a b : Nat} (ha : a < 2 ^ wd) (hb : b < 2 ^ wd) : 2 ^ wd - 1 - (a ||| b) = (2 ^ wd - 1 - a) &&& (2 ^ wd - 1 - b) := by
 have hab := Nat.or_lt_two_pow ha hb
 rw [show 2 ^ wd - 1 - (a ||| b) = 2 ^ wd - ((a ||| b) + 1) by omega, show 2 ^ wd - 1 - a = 2 ^ wd - (a + 1) by omega, show 2 ^ wd - 1 - b = 2 ^ wd - (b + 1) by omega]
 apply Nat.eq_of_testBit_eq
 intro x
 rw [Nat.testBit_and, Nat.testBit_two_pow_sub_succ ha, Nat.testBit_two_pow_sub_succ hb, Nat.testBit_two_pow_sub_succ hab, Nat.testBit_or]
 cases a.testBit x <;> cases b.testBit x <;> simp
theorem lack_or {wd a b : Nat} (ha : a < 2 ^ wd) (hb : b < 2 ^ wd) : 2 ^ wd - 1 - (a &&& b) = (2 ^ wd - 1 - a) ||| (2 ^ wd - 1 - b) := by
 have hab : a &&& b < 2 ^ wd := Nat.and_lt_two_pow _ hb
 rw [show 2 ^ wd - 1 - (a &&& b) = 2 ^ wd - ((a &&& b) + 1) by omega, show 2 ^ wd - 1 - a = 2 ^ wd - (a + 1) by omega, show 2 ^ wd - 1 - b = 2 ^ wd - (b + 1) by omega]
 apply Nat.eq_of_testBit_eq
 intro x
 rw [Nat.testBit_or, Nat.testBit_two_pow_sub_succ ha, Nat.testBit_two_pow_sub_succ hb, Nat.testBit_two_pow_sub_succ hab, Nat.testBit_and]
 by_cases hx : x < wd <;> cases a.testBit x <;> cases b.testBit x <;> simp [hx]
theorem zip_lack {f g : Nat → Nat → Nat} {wd : Nat} (h : ∀ a b, a < 2 ^ wd → b < 2 ^ wd → 2 ^ wd - 1 - f a b = g (2 ^ wd - 1 - a) (2 ^ wd - 1 - b)) : ∀ {r s : List Nat}, (∀ a ∈ r, a < 2 ^ wd) → (∀ b ∈ s, b < 2 ^ wd) →
  (List.zipWith f r s).map (fun r => 2 ^ wd - 1 - r) = List.zipWith g (r.map fun r => 2 ^ wd - 1 - r) (s.map fun r => 2 ^ wd - 1 - r)
 | [], _, _, _ => by simp
 | _ :: _, [], _, _ => by simp
 | a :: r, b :: s, ha, hb => by
  rw [List.zipWith_cons_cons, List.map_cons, List.map_cons, List.map_cons, List.zipWith_cons_cons, h a b (ha a List.mem_cons_self) (hb b List.mem_cons_self), zip_lack h (fun x hx => ha x (List.mem_cons_of_mem _ hx)) (fun x hx => hb x (List.mem_cons_of_mem _ hx))]
theorem zip_goodM {f : Nat → Nat → Nat} {wd : Nat} {r s : List Nat} (hf : ∀ a b, a < 2 ^ wd → b < 2 ^ wd → f a b < 2 ^ wd) (g1 : GoodM wd r) (g2 : GoodM wd s) (hl : s.length = r.length) : GoodM wd (List.zipWith f r s) := by
 refine ⟨g1.w1, g1.w24, by rw [List.length_zipWith, hl, Nat.min_self]; exact g1.h1, by rw [List.length_zipWith, hl, Nat.min_self]; exact g1.h24, fun q hq => ?_⟩
 obtain ⟨i, hi, rfl⟩ := List.mem_iff_getElem.mp hq
 rw [List.getElem_zipWith]
 exact hf _ _ (g1.row _ (List.getElem_mem _)) (g2.row _ (List.getElem_mem _))
theorem chM_len (A B : List (List Int)) (m : List Nat) : (chM A B m).length = A.length := by simp [chM]
theorem chM_row {A B : List (List Int)} {m : List Nat} {wd : Nat} (g : Good A wd) : ∀ r ∈ chM A B m, r.length = wd := fun r hr => by
 unfold chM at hr
 obtain ⟨y, hy, rfl⟩ := List.mem_map.mp hr
 have hy := List.mem_range.mp hy
 unfold chR
 rw [List.length_map, List.length_range, getD_row hy, row_len g hy]
theorem chM_at {A B : List (List Int)} {m : List Nat} {wd : Nat} (g : Good A wd) {x y : Nat} (hx : x < wd) (hy : y < A.length) : cAt (chM A B m) x y = if (m.getD y 0).testBit x = true then cAt B x y else cAt A x y := by
 have h1 : (chM A B m).getD y [] = chR (A.getD y []) (B.getD y []) (m.getD y 0) := by unfold chM; simp [List.getD, hy]
 have hl : x < (A.getD y []).length := by rw [getD_row hy, row_len g hy]; exact hx
 unfold cAt
 rw [h1]
 unfold chR
 rw [List.getD_eq_getElem?_getD, List.getElem?_map, List.getElem?_range hl]
 rfl
theorem chM_grid {A B : List (List Int)} {m : List Nat} {wd : Nat} (g : Good A wd) : chM A B m = grid wd A.length fun x y => if (m.getD y 0).testBit x = true then cAt B x y else cAt A x y := by
 refine ext_at (chM_row g) grid_row (by rw [chM_len, grid_len]) fun x y hx hy => ?_
 rw [chM_len] at hy
 rw [chM_at g hx hy, grid_at hx hy]
theorem chM_good {A B : List (List Int)} {m : List Nat} {wd : Nat} (g : Good A wd) (g2 : Good B wd) (hl : B.length = A.length) : Good (chM A B m) wd := by
 rw [chM_grid g]
 refine grid_good g.w1 g.w24 g.ne g.le fun x y hx hy => ?_
 split
 ·exact cell_in g2 hx (by omega)
 ·exact cell_in g hx hy
theorem ch_back {A B : List (List Int)} {m : List Nat} {wd : Nat} (g : Good A wd) (g2 : Good B wd) (hl : B.length = A.length) : chM (chM A B m) A m = A := by
 have gc := chM_good (m := m) g g2 hl
 refine ext_at (chM_row gc) g.rows (by rw [chM_len, chM_len]) fun x y hx hy => ?_
 rw [chM_len, chM_len] at hy
 rw [chM_at gc hx (by rw [chM_len]; exact hy), chM_at g hx hy]
 split <;> rfl
theorem ch_lack {A B : List (List Int)} {m : List Nat} {wd : Nat} (g : Good A wd) (g2 : Good B wd) (hl : B.length = A.length) (gm : GoodM wd m) (hm : m.length = A.length) : chM B (chM A B m) (m.map fun r => 2 ^ wd - 1 - r) = chM B A (m.map fun r => 2 ^ wd - 1 - r) := by
 refine ext_at (chM_row g2) (chM_row g2) (by rw [chM_len, chM_len]) fun x y hx hy => ?_
 rw [chM_len] at hy
 rw [chM_at g2 hx hy, chM_at g2 hx hy]
 have e : (m.map fun r => 2 ^ wd - 1 - r).getD y 0 = 2 ^ wd - 1 - m.getD y 0 := by
  have : y < m.length := by omega
  simp [List.getD, this]
 have hlt : m.getD y 0 < 2 ^ wd := by
  have h : y < m.length := by omega
  have e : m.getD y 0 = m[y] := by simp [List.getD, h]
  rw [e]; exact gm.row _ (List.getElem_mem h)
 rw [e, show 2 ^ wd - 1 - m.getD y 0 = 2 ^ wd - (m.getD y 0 + 1) by omega, Nat.testBit_two_pow_sub_succ hlt, chM_at g hx (by omega)]
 cases hb : (m.getD y 0).testBit x <;> simp [hx]
theorem pdM_ch {A : List (List Int)} {m : List Nat} {wd : Nat} {c : Int} (g : Good A wd) : pdM A m c = chM A (List.replicate A.length (List.replicate wd c)) m := by
 unfold pdM chM
 refine List.map_congr_left fun y hy => ?_
 have hy := List.mem_range.mp hy
 unfold pdR chR
 refine List.map_congr_left fun x hx => ?_
 have hx := List.mem_range.mp hx
 rw [getD_row hy, row_len g hy] at hx
 have e : ((List.replicate A.length (List.replicate wd c)).getD y []).getD x 0 = c := by simp [List.getD, hy, hx]
 rw [e]
theorem rep_good {A : List (List Int)} {wd : Nat} {c : Int} (g : Good A wd) (h0 : 0 ≤ c) (h1 : c ≤ 15) : Good (List.replicate A.length (List.replicate wd c)) wd := by
 refine ⟨by rw [List.length_replicate]; exact g.ne, by rw [List.length_replicate]; exact g.le, g.w1, g.w24, fun r hr => ?_⟩
 rw [(List.mem_replicate.mp hr).2]
 exact ⟨List.length_replicate, fun z hz => by rw [(List.mem_replicate.mp hz).2]; exact ⟨h0, h1⟩⟩
noncomputable def gsel (wd : Nat) (A B : List (List Int)) (l : List (Int × Int)) : List (List Int) := grid wd A.length fun x y => if ((x : Int), (y : Int)) ∈ l then cAt B x y else cAt A x y
theorem gsel_nil {A B : List (List Int)} {wd : Nat} (g : Good A wd) : gsel wd A B [] = A := by
 unfold gsel
 conv => rhs; rw [good_grid g]
 refine ext_at grid_row grid_row (by rw [grid_len, grid_len]) fun x y hx hy => ?_
 rw [grid_len] at hy
 rw [grid_at hx hy, grid_at hx hy]
 simp
theorem gsel_all {A B : List (List Int)} {m : List Nat} {wd : Nat} (g : Good A wd) : gsel wd A B (plM wd m A.length) = chM A B m := by
 rw [chM_grid g]
 unfold gsel
 refine ext_at grid_row grid_row (by rw [grid_len, grid_len]) fun x y hx hy => ?_
 rw [grid_len] at hy
 rw [grid_at hx hy, grid_at hx hy]
 by_cases h : (m.getD y 0).testBit x = true
 ·rw [if_pos ((mem_plM hx hy).mpr h), if_pos h]
 ·rw [if_neg (fun z => h ((mem_plM hx hy).mp z)), if_neg h]
theorem gsel_set {A B : List (List Int)} {l : List (Int × Int)} {wd x y : Nat} (hx : x < wd) (hy : y < A.length) : (gsel wd A B l).set y (((gsel wd A B l).getD y []).set x (cAt B x y)) = gsel wd A B (l ++ [((x : Int), (y : Int))]) := by
 have hl : (gsel wd A B l).length = A.length := by unfold gsel; rw [grid_len]
 have hgy : y < (gsel wd A B l).length := by omega
 have rl : ∀ r ∈ gsel wd A B l, r.length = wd := grid_row
 have ry : ((gsel wd A B l).getD y []).length = wd := by rw [getD_row hgy]; exact rl _ (List.getElem_mem hgy)
 refine ext_at (wd := wd) (fun r hr => ?_) grid_row (by rw [List.length_set, hl]; unfold gsel; rw [grid_len]) fun x' y' hx' hy' => ?_
 ·rcases List.mem_or_eq_of_mem_set hr with h | rfl
  ·exact rl r h
  ·rw [List.length_set]; exact ry
 ·rw [List.length_set, hl] at hy'
  have er : cAt (gsel wd A B (l ++ [((x : Int), (y : Int))])) x' y' = if ((x' : Int), (y' : Int)) ∈ l ++ [((x : Int), (y : Int))] then cAt B x' y' else cAt A x' y' := grid_at hx' hy'
  have eo : cAt (gsel wd A B l) x' y' = if ((x' : Int), (y' : Int)) ∈ l then cAt B x' y' else cAt A x' y' := grid_at hx' hy'
  rw [er]
  have hm : ((x' : Int), (y' : Int)) ∈ l ++ [((x : Int), (y : Int))] ↔ (((x' : Int), (y' : Int)) ∈ l ∨ (x' = x ∧ y' = y)) := by
   rw [List.mem_append, List.mem_singleton, Prod.mk.injEq]
   constructor
   ·rintro (h | ⟨h1, h2⟩)
    ·exact .inl h
    ·exact .inr ⟨by omega, by omega⟩
   ·rintro (h | ⟨h1, h2⟩)
    ·exact .inl h
    ·exact .inr ⟨by omega, by omega⟩
  by_cases hyy : y' = y
  ·subst hyy
   have e1 : cAt ((gsel wd A B l).set y' (((gsel wd A B l).getD y' []).set x (cAt B x y'))) x' y' = ((((gsel wd A B l).getD y' []).set x (cAt B x y'))).getD x' 0 := by
    unfold cAt; simp [List.getD, hgy]
   rw [e1]
   by_cases hxx : x' = x
   ·subst hxx
    rw [if_pos (hm.mpr (.inr ⟨rfl, rfl⟩))]
    rw [List.getD_eq_getElem?_getD, List.getElem?_set_self (by rw [ry]; exact hx)]; rfl
   ·have e2 : ((((gsel wd A B l).getD y' []).set x (cAt B x y'))).getD x' 0 = cAt (gsel wd A B l) x' y' := by
     rw [List.getD_eq_getElem?_getD, List.getElem?_set_ne (Ne.symm hxx), ← List.getD_eq_getElem?_getD]; rfl
    rw [e2, eo]
    by_cases h : ((x' : Int), (y' : Int)) ∈ l
    ·rw [if_pos h, if_pos (hm.mpr (.inl h))]
    ·rw [if_neg h, if_neg (fun z => by rcases hm.mp z with z | z; exact h z; exact hxx z.1)]
  ·have e1 : cAt ((gsel wd A B l).set y (((gsel wd A B l).getD y []).set x (cAt B x y))) x' y' = cAt (gsel wd A B l) x' y' := by
    have e : ((gsel wd A B l).set y (((gsel wd A B l).getD y []).set x (cAt B x y))).getD y' [] = (gsel wd A B l).getD y' [] := by
     rw [List.getD_eq_getElem?_getD, List.getElem?_set_ne (Ne.symm hyy), ← List.getD_eq_getElem?_getD]
    show (((gsel wd A B l).set y (((gsel wd A B l).getD y []).set x (cAt B x y))).getD y' []).getD x' 0 = _
    rw [e]; rfl
   rw [e1, eo]
   by_cases h : ((x' : Int), (y' : Int)) ∈ l
   ·rw [if_pos h, if_pos (hm.mpr (.inl h))]
   ·rw [if_neg h, if_neg (fun z => by rcases hm.mp z with z | z; exact h z; exact hyy z.2)]
theorem nodup_at {ps : List Addr} (nd : ps.Nodup) {i j : Nat} {p : Addr} (h1 : ps[i]? = some p) (h2 : ps[j]? = some p) : i = j := by
 obtain ⟨a1, b1⟩ := List.getElem?_eq_some_iff.mp h1
 obtain ⟨a2, b2⟩ := List.getElem?_eq_some_iff.mp h2
 exact (List.getElem_inj nd).mp (b1.trans b2.symm)
theorem Paired.getMap {α β : Type} {F G : α → β → Prop} : ∀ {l1 : List α} {l2 : List β}, Paired F l1 l2 → (∀ (j : Nat) a b, l1[j]? = some a → F a b → G a b) → Paired G l1 l2
 | [], [], .nil, _ => .nil
 | a :: l1, b :: l2, .cons h t, k => .cons (k 0 a b rfl h) (Paired.getMap t fun j x y hx hf => k (j + 1) x y hx hf)
theorem Paired.setL {α β : Type} {F G : α → β → Prop} {r : β} : ∀ {l1 : List α} {l2 : List β} (i : Nat), Paired F l1 l2 → (∀ (j : Nat) a b, l1[j]? = some a → j ≠ i → F a b → G a b) → (∀ a, l1[i]? = some a → G a r) → Paired G l1 (l2.set i r)
 | [], [], i, .nil, _, _ => .nil
 | a :: l1, b :: l2, 0, .cons h t, h1, h2 => .cons (h2 a rfl) (Paired.getMap t fun j x y hx hf => h1 (j + 1) x y hx (by omega) hf)
 | a :: l1, b :: l2, i + 1, .cons h t, h1, h2 => .cons (h1 0 a b rfl (by omega) h) (Paired.setL i t (fun j x y hx hj hf => h1 (j + 1) x y hx (by omega) hf) fun x hx => h2 x hx)
theorem PicV.setRow {H : Hp} {a q : Addr} {ps : List Addr} {R : List (List V)} {i : Nat} {r : List V} (p : PicV H a ps R) (hq : ps[i]? = some q) : PicV (upd H q (.lst r)) a ps (R.set i r) := by
 have hm := List.mem_of_getElem? hq
 refine ⟨?_, Paired.setL i p.row (fun j c b hj hne e => ?_) (fun c hc => ?_), p.nd, p.out⟩
 ·rw [upd_ne (fun z => p.out (by rw [z]; exact hm))]; exact p.top
 ·rw [upd_ne (fun z => hne (nodup_at p.nd hj (by rw [z]; exact hq)))]; exact e
 ·rw [hq] at hc; cases hc
  exact upd_same
noncomputable def isC (v : V) : Prop := ∃ c : Nat, v = .int (c : Int) ∧ c ≤ 15
theorem cells_of : ∀ {xs : List V}, (∀ v ∈ xs, isC v) → ∃ cs : List Nat, xs = cs.map (fun c : Nat => V.int (c : Int)) ∧ ∀ c ∈ cs, c ≤ 15
 | [], _ => ⟨[], rfl, fun _ h => nomatch h⟩
 | x :: xs, h => by
  obtain ⟨c, rfl, hc⟩ := h x List.mem_cons_self
  obtain ⟨cs, rfl, hcs⟩ := cells_of fun v hv => h v (List.mem_cons_of_mem _ hv)
  exact ⟨c :: cs, rfl, fun z hz => by rcases List.mem_cons.mp hz with rfl | hz; exact hc; exact hcs z hz⟩
noncomputable def spSome (K : W.Frag) : Sp := fun vs H Q _ => ∃ (n : Nat) (a : Addr) (ps : List Addr) (rows : List (List Int)) (wd : Nat), vs = [.int (n : Int), .ref a] ∧ PicV H a ps (ir rows) ∧ Good rows wd ∧
 ∀ p (cs : List Nat) H', Same H H' → H p = none → H' p = some (.lst (cs.map fun c : Nat => V.int (c : Int))) → cs.length ≤ 20 → (∀ c ∈ cs, c ≤ 15) → Q (.ref p) H'
noncomputable def spWrongC (K : W.Frag) : Sp := fun vs H Q _ => ∃ n : Nat, vs = [.int (n : Int)] ∧ ∀ v H', Same H H' → Kd K H' v → isWh 0 15 v = false → Q v H'
noncomputable def spByC (K : W.Frag) : Sp := fun vs H Q _ => ∃ (a b S : Addr) (ps qs ts : List Addr) (A B : List (List Int)) (m : List Nat) (wd : Nat), vs = [.ref a, .ref b, .ref S] ∧ PicV H a ps (ir A) ∧ PicV H b qs (ir B) ∧ Good A wd ∧ Good B wd ∧ B.length = A.length ∧ PlV H S ts (plM wd m A.length) ∧ NewP H Q (chM A B m)
noncomputable def spSame (K : W.Frag) : Sp := fun vs H Q _ => ∃ (a b : Addr) (ps qs : List Addr) (A : List (List Int)) (wd : Nat), vs = [.ref a, .ref b] ∧ PicV H a ps (ir A) ∧ PicV H b qs (ir A) ∧ Good A wd ∧ ∀ H', (∀ c o, H c = some o → c ∉ ps → H' c = some o) → Q (.bl true) H'
theorem sq5 {j : Nat} (h : j ≤ 4) : 0 ≤ (0 + (j : Int)) * (0 + (j : Int)) ∧ (0 + (j : Int)) * (0 + (j : Int)) ≤ 576 := sq_le (by omega)
theorem mod_at {n d : Int} {k : Nat} (hk : 0 < k) : ∃ j : Nat, j < k ∧ n / d % (k : Int) = (j : Int) := by
 have h1 := Int.emod_nonneg (n / d) (by omega : (k : Int) ≠ 0)
 have h2 := Int.emod_lt_of_pos (n / d) (by omega : (0 : Int) < (k : Int))
 exact ⟨(n / d % (k : Int)).toNat, by omega, by omega⟩
section
variable {P : Program} {w : World} {K : W.Frag} {mg : Str → Option Value} {base : Heap} {cFE cBP cBC cBS cBM : Addr} {tS tC : Tok}
theorem sc_law_copied : FnScope ["_law_picture_here"] ["_law_picture_here"] (defScope s_law_copied) := ⟨rfl, rfl, rfl, by decide +kernel, rfl, by decide +kernel, by decide +kernel⟩
theorem ok__law_copied {f : Addr} {fd : FuncData} (F : FunD K "_law_copied" "_law_copied" s_law_copied .none f fd) (T : Txt K mg cFE cBP cBC cBS cBM tS tC) : FnOk P w K mg base CX0 2 f fd ["_law_picture_here"] (spCopied K) := by
 refine F.ok sc_law_copied (fun vs H Q E h => ?_) (fun cdv A outer s H vs Q E hr h => ?_)
 ·obtain ⟨a, ps, R, rfl, _⟩ := h; rfl
 ·obtain ⟨a, ps, R, rfl, top, row, hl, k⟩ := h
  refine ⟨_, (pss_one (ps_ret (pe_comp (N := ["_law_row"]) (src := [none]) rfl ⟨rfl, rfl, rfl, rfl, rfl, by decide +kernel⟩ (piK K rfl (pv 0)) (fun s H C fp => pg_name (i := 0) (show (["_law_row"] : List Str).Nodup by decide +kernel) rfl (by first | exact Or.inl rfl | exact Or.inr rfl)) (fun s H C fp => pts_nil) (fun s H C fp => (pe_callTy (listK K rfl) rfl T.list PyProof.Rows.boot_list (pa_cons (pv 0) pa_nil)))))), ?_⟩
  refine ⟨_, rfl, a, rfl, ⟨_, SqL.of top⟩, fun D hD => ?_⟩
  let g : V → List V := fun v => match v with | .ref q => (match H q with | some (.lst r) => r | _ => []) | _ => []
  have gR : (ps.map V.ref).map g = R := by
   rw [List.map_map]
   have : ∀ {l : List Addr} {S : List (List V)}, Paired (fun p r => H p = some (.lst r)) l S → l.map (g ∘ V.ref) = S := by
    intro l S h
    induction h with
    | nil => rfl
    | cons r t ih =>
     rw [List.map_cons, ih]
     simp only [Function.comp, g, r]
   exact this row
  refine comp_rows (k := 0) g (src_list (SqL.of top)) (by rw [List.length_map, Paired.length row]; exact Nat.le_trans hl (by decide)) hD (fun x hx H' Q' sm kk => ?_) fun qs H' sm fr pic' => k D qs H' sm hD fr (by rw [gR] at pic'; exact pic')
  obtain ⟨q, hq, rfl⟩ := List.mem_map.mp hx
  obtain ⟨r, e⟩ : ∃ r, H q = some (.lst r) := by
   obtain ⟨i, hi⟩ := List.mem_iff_getElem?.mp hq
   obtain ⟨r, _, e⟩ := Paired.getL row hi
   exact ⟨r, e⟩
  have ge : g (.ref q) = r := by simp only [g, e]
  refine ⟨_, rfl, q, r, rfl, .inl (SqL.of (sm _ _ e)), fun l hl => kk l _ (same_new hl) hl ?_⟩
  rw [upd_same, ge]
theorem sc_law_some : FnScope ["_law_number", "_law_picture_here", "_law_found", "_law_k", "_law_row"] ["_law_number", "_law_picture_here"] (defScope s_law_some) := ⟨rfl, rfl, rfl, by decide +kernel, rfl, by decide +kernel, by decide +kernel⟩
theorem ok__law_some {f : Addr} {fd : FuncData} (F : FunD K "_law_some" "_law_some" s_law_some .none f fd) (T : Txt K mg cFE cBP cBC cBS cBM tS tC) : FnOk P w K mg base CX0 1 f fd ["_law_number", "_law_picture_here"] (spSome K) := by
 refine F.ok sc_law_some (fun vs H Q E h => ?_) (fun cdv A outer s H vs Q E hr h => ?_)
 ·obtain ⟨n, a, ps, rows, wd, rfl, _⟩ := h; rfl
 ·obtain ⟨n, a, ps, rows, wd, rfl, pic, gd, k⟩ := h
  refine ⟨_, (pss_cons (ps_set (i := 2) sc_law_some.nd rfl (by first | exact Or.inl rfl | exact Or.inr rfl) (pe_lst pa_nil))
    (pss_cons (ps_for PassesOwn.never rfl (pi_range1 rfl T.range (pa_cons (pe_op op_mod (pv 0) pe_int) pa_nil)) (pg_name (i := 3) sc_law_some.nd rfl (by first | exact Or.inl rfl | exact Or.inr rfl)) (pss_cons (ps_set (i := 4) sc_law_some.nd rfl (by first | exact Or.inl rfl | exact Or.inr rfl) (pe_ix (ixK K rfl) (pv 1) (pe_op op_mod (pe_op op_fdiv (pv 0) (pe_op op_add pe_int (pe_op op_mul pe_int (pv 3)))) (pe_callB (lenK K rfl) rfl T.len PySem.boot_len (pa_cons (pv 1) pa_nil))) (fun _ _ => rfl)))
    (pss_one (ps_expr (pe_bm PySem.F.plainAttrs_list PySem.F.slot_list_append PySem.F.type_list_append mt_append (pv 2) (pa_cons (pe_ix (ixK K rfl) (pe_lst (pa_cons (pe_ix (ixK K rfl) (pv 4) (pe_op op_mod (pe_op op_fdiv (pv 0) (pe_op op_add pe_int (pv 3))) (pe_callB (lenK K rfl) rfl T.len PySem.boot_len (pa_cons (pv 4) pa_nil))) (fun _ _ => rfl)) (pa_cons (pe_op op_mod (pe_op op_fdiv (pv 0) (pe_op op_add pe_int (pv 3))) pe_int) pa_nil))) (pe_op op_fdiv (pe_op op_mod (pe_op op_fdiv (pv 0) (pe_op op_add pe_int (pe_op op_mul (pv 3) (pv 3)))) pe_int) pe_int) (fun _ _ => rfl)) pa_nil))))))
    (pss_one (ps_ret (pe_op op_cat (pv 2) (pe_slice (slK K rfl) (pv 2) po_none (po_some (pe_op op_mod (pe_op op_fdiv (pv 0) pe_int) pe_int)))))))), ?_⟩
  refine ⟨Nat.zero_le _, fun S hS0 => ?_⟩
  have s1 : Same H (upd H S (.lst [])) := same_new hS0
  obtain ⟨m, hm, em⟩ : ∃ m : Nat, m < 5 ∧ (n : Int) % 5 = (m : Int) := ⟨n % 5, by omega, by omega⟩
  refine ⟨_, rfl, _, _, rfl, rfl, (by show (0 : Int) < 5; decide), _, rfl, by show _; omega, by show _; omega, ?_⟩
  have em' : (((n : Int) % 5)).toNat = m := by omega
  rw [em']
  have hpl : ps.length = rows.length := by rw [pic.len, ir_len]
  have ne1 := gd.ne
  have w1 := gd.w1
  refine for_range (fun i σ H2 => Same H H2 ∧ (∃ xs : List V, H2 S = some (.lst xs) ∧ xs.length = i ∧ ∀ v ∈ xs, isC v) ∧ ∃ v3 v4, σ = [some (.int (n : Int)), some (.ref a), some (.ref S), v3, v4]) ⟨s1, ⟨[], upd_same, rfl, (fun _ h => nomatch h)⟩, _, _, rfl⟩ ?_ ?_
  ·rintro i σ H2 hi ⟨s2, ⟨xs, hx, hl, hc⟩, v3, v4, rfl⟩
   have pic2 := pic.mono s2
   have hpos : (0 : Int) < ((ps.map V.ref).length : Int) := by rw [List.length_map, hpl]; omega
   obtain ⟨y, hy, ey⟩ := mod_at (n := (n : Int)) (d := 5 + 7 * (0 + (i : Int))) (k := (ps.map V.ref).length) (by rw [List.length_map, hpl]; omega)
   have hy' : y < rows.length := by rw [List.length_map, hpl] at hy; exact hy
   obtain ⟨r, hr1, hr2, hr3⟩ := gd.get hy'
   obtain ⟨q, hq, eq⟩ := PicV.row_at pic2 hr1
   have aq : atI (ps.map V.ref) ((n : Int) / (5 + 7 * (0 + (i : Int))) % ((ps.map V.ref).length : Int)) = some (.ref q) := by rw [ey]; exact atI_nat (by rw [List.getElem?_map, hq]; rfl)
   refine ⟨_, rfl, _, rfl, _, rfl, _, _, rfl, rfl, .inl ⟨by decide, by decide⟩, _, _, rfl, rfl, _, _, rfl, rfl, ⟨by show _; omega, by show _; omega⟩, _, rfl, a, _, rfl, .inl (SqL.of pic2.top), _, _, rfl, rfl, hpos, a, _, _, .ref q, rfl, rfl, SqL.of pic2.top, aq, ?_⟩
   have hposr : (0 : Int) < ((r.map V.int).length : Int) := by rw [List.length_map]; omega
   obtain ⟨x, hx', ex⟩ := mod_at (n := (n : Int)) (d := 35 + (0 + (i : Int))) (k := (r.map V.int).length) (by rw [List.length_map]; omega)
   have hxr : x < r.length := by rw [List.length_map] at hx'; exact hx'
   have ax : atI (r.map V.int) ((n : Int) / (35 + (0 + (i : Int))) % ((r.map V.int).length : Int)) = some (.int (r.getD x 0)) := by rw [ex]; exact atI_nat (getD_int hxr)
   have cx := cell_mem gd (List.mem_of_getElem? hr1) hxr
   have sq := sq5 (j := i) (by omega)
   refine ⟨_, rfl, .inl ⟨rfl, _, SqL.of hx⟩, _, rfl, _, rfl, _, rfl, _, _, rfl, rfl, _, _, rfl, rfl, ⟨by show _; omega, by show _; omega⟩, _, rfl, q, _, rfl, .inl (SqL.of eq), _, _, rfl, rfl, hposr, q, _, _, .int (r.getD x 0), rfl, rfl, SqL.of eq, ax, _, rfl, _, rfl, _, _, rfl, rfl, _, _, rfl, rfl, ⟨by show _; omega, by show _; omega⟩, _, _, rfl, rfl, (by show (0 : Int) < 16; decide), sz2, fun L hL => ?_⟩
   obtain ⟨v, ev, cv⟩ : ∃ v, atI [V.int (r.getD x 0), V.int ((n : Int) / (60 + (0 + (i : Int))) % 16)] ((n : Int) / (9 + (0 + (i : Int)) * (0 + (i : Int))) % 3 / 2) = some v ∧ isC v := by
    obtain ⟨j, hj, ej⟩ : ∃ j : Nat, j < 2 ∧ (n : Int) / (9 + (0 + (i : Int)) * (0 + (i : Int))) % 3 / 2 = (j : Int) := ⟨((n : Int) / (9 + (0 + (i : Int)) * (0 + (i : Int))) % 3 / 2).toNat, by omega, by omega⟩
    rw [ej]
    match j, hj with
    | 0, _ => exact ⟨_, atI_nat rfl, (r.getD x 0).toNat, by rw [Int.toNat_of_nonneg cx.1], by omega⟩
    | 1, _ => exact ⟨_, atI_nat rfl, ((n : Int) / (60 + (0 + (i : Int))) % 16).toNat, by rw [Int.toNat_of_nonneg (by omega)], by omega⟩
   have hxL := same_new (o := HO.lst [V.int (r.getD x 0), V.int ((n : Int) / (60 + (0 + (i : Int))) % 16)]) hL _ _ hx
   refine ⟨_, rfl, _, rfl, _, rfl, _, _, rfl, rfl, .inl ⟨by show _; omega, by show _; omega⟩, _, _, rfl, rfl, _, _, rfl, rfl, ⟨by show _; omega, by show _; omega⟩, _, _, rfl, rfl, (by show (0 : Int) < 3; decide), _, _, rfl, rfl, ⟨by decide, by decide⟩, L, _, _, v, rfl, rfl, SqL.of upd_same, ev, S, _, _, rfl, rfl, hxL, ?_, same_upd (s2.trans (same_new hL)) hS0, ⟨xs ++ [v], upd_same, by rw [List.length_append, hl]; rfl, ?_⟩, _, _, rfl⟩
   ·exact Nat.lt_of_le_of_lt (by omega : xs.length ≤ 5) (by decide)
   ·intro z hz
    rcases List.mem_append.mp hz with hz | hz
    ·exact hc z hz
    ·rw [List.mem_singleton.mp hz]; exact cv
  ·rintro σ H2 ⟨s2, ⟨xs, hx, hl, hc⟩, v3, v4, rfl⟩
   have cl : (cutV xs none (some ((n : Int) / 11 % 2))).length ≤ xs.length := cutV_length _ _ _
   refine ⟨_, rfl, _, rfl, _, rfl, _, _, rfl, rfl, ⟨by decide, by decide⟩, _, _, rfl, rfl, (by show (0 : Int) < 2; decide), _, rfl, S, _, rfl, SqL.of hx, fun p hp => ?_⟩
   refine ⟨S, p, _, _, rfl, rfl, same_new hp _ _ hx, upd_same, Nat.le_trans (by omega : _ ≤ 20) (by decide), fun p2 hp2 => ?_⟩
   obtain ⟨cs, ecs, hcs⟩ := cells_of (xs := xs ++ cutV xs none (some ((n : Int) / 11 % 2))) fun v hv => by
    rcases List.mem_append.mp hv with hv | hv
    ·exact hc v hv
    ·exact hc v (cutV_mem hv)
   refine k p2 cs _ (s2.trans ((same_new hp).trans (same_new hp2))) ((s2.trans (same_new hp)).free hp2) ?_ ?_ hcs
   ·rw [upd_same, ecs]
   ·have := congrArg List.length ecs
    rw [List.length_append, List.length_map] at this
    omega
theorem sc_law_wrong_cell : FnScope ["_law_number"] ["_law_number"] (defScope s_law_wrong_cell) := ⟨rfl, rfl, rfl, by decide +kernel, rfl, by decide +kernel, by decide +kernel⟩
theorem ok__law_wrong_cell {f : Addr} {fd : FuncData} (F : FunD K "_law_wrong_cell" "_law_wrong_cell" s_law_wrong_cell .none f fd)  : FnOk P w K mg base CX0 1 f fd ["_law_number"] (spWrongC K) := by
 refine F.ok sc_law_wrong_cell (fun vs H Q E h => ?_) (fun cdv A outer s H vs Q E hr h => ?_)
 ·obtain ⟨n, rfl, _⟩ := h; rfl
 ·obtain ⟨n, rfl, k⟩ := h
  refine ⟨_, (pss_one (ps_ret (pe_ix (ixK K rfl) (pe_lst (pa_cons pe_int (pa_cons (pe_un un_neg pe_int) (pa_cons pe_bl (pa_cons pe_non (pa_cons pe_str (pa_cons (pe_lst (pa_cons pe_int pa_nil)) (pa_cons (pe_op op_pow pe_int pe_int) (pa_cons pe_bl (pa_cons (pe_tup (pa_cons pe_int pa_nil)) pa_nil)))))))))) (pe_op op_mod (pv 0) pe_int) (fun _ _ => rfl)))), ?_⟩
  refine ⟨_, rfl, sz1, fun t ht => ⟨_, _, rfl, rfl, ⟨by decide, by decide, by decide⟩, sz1, fun u hu => ⟨sz9, fun L hL => ?_⟩⟩⟩
  have st : Same H (upd (upd (upd H t (.lst [.int 0])) u (.tup [.int 0])) L (.lst [V.int 16, V.int (-1), V.bl true, V.non, V.str "0", V.ref t, V.int (10 ^ (20 : Int).toNat), V.bl false, V.ref u])) := ((same_new ht).trans (same_new hu)).trans (same_new hL)
  have et : upd (upd (upd H t (.lst [.int 0])) u (.tup [.int 0])) L (.lst [V.int 16, V.int (-1), V.bl true, V.non, V.str "0", V.ref t, V.int (10 ^ (20 : Int).toNat), V.bl false, V.ref u]) t = some (.lst [.int 0]) := ((same_new hu).trans (same_new hL)) _ _ upd_same
  have eu : upd (upd (upd H t (.lst [.int 0])) u (.tup [.int 0])) L (.lst [V.int 16, V.int (-1), V.bl true, V.non, V.str "0", V.ref t, V.int (10 ^ (20 : Int).toNat), V.bl false, V.ref u]) u = some (.tup [.int 0]) := same_new hL _ _ upd_same
  have eL : upd (upd (upd H t (.lst [.int 0])) u (.tup [.int 0])) L (.lst [V.int 16, V.int (-1), V.bl true, V.non, V.str "0", V.ref t, V.int (10 ^ (20 : Int).toNat), V.bl false, V.ref u]) L = some (.lst [V.int 16, V.int (-1), V.bl true, V.non, V.str "0", V.ref t, V.int (10 ^ (20 : Int).toNat), V.bl false, V.ref u]) := upd_same
  generalize upd (upd (upd H t (.lst [.int 0])) u (.tup [.int 0])) L (.lst [V.int 16, V.int (-1), V.bl true, V.non, V.str "0", V.ref t, V.int (10 ^ (20 : Int).toNat), V.bl false, V.ref u]) = G at st et eu eL ⊢
  obtain ⟨v, ev, kv, iv⟩ : ∃ v, atI [V.int 16, V.int (-1), V.bl true, V.non, V.str "0", V.ref t, V.int (10 ^ (20 : Int).toNat), V.bl false, V.ref u] ((n : Int) % 9) = some v ∧ Kd K G v ∧ isWh 0 15 v = false := by
   obtain ⟨j, hj, ej⟩ : ∃ j : Nat, j < 9 ∧ (n : Int) % 9 = (j : Int) := ⟨n % 9, by omega, by omega⟩
   rw [ej]
   match j, hj with
   | 0, _ => exact ⟨_, atI_nat rfl, .int _, rfl⟩
   | 1, _ => exact ⟨_, atI_nat rfl, .int _, rfl⟩
   | 2, _ => exact ⟨_, atI_nat rfl, .bl _, rfl⟩
   | 3, _ => exact ⟨_, atI_nat rfl, .non, rfl⟩
   | 4, _ => exact ⟨_, atI_nat rfl, .str _, rfl⟩
   | 5, _ => exact ⟨_, atI_nat rfl, .lst et, rfl⟩
   | 6, _ => exact ⟨_, atI_nat rfl, .int _, by decide +kernel⟩
   | 7, _ => exact ⟨_, atI_nat rfl, .bl _, rfl⟩
   | 8, _ => exact ⟨_, atI_nat rfl, .tup eu, rfl⟩
  exact ⟨_, rfl, _, _, rfl, rfl, (by show (0 : Int) < 9; decide), L, _, _, v, rfl, rfl, SqL.of eL, ev, k v G st kv iv⟩
theorem sc_law_by_cells : FnScope ["_law_one", "_law_other", "_law_places_here", "_law_found", "_law_x", "_law_y"] ["_law_one", "_law_other", "_law_places_here"] (defScope s_law_by_cells) := ⟨rfl, rfl, rfl, by decide +kernel, rfl, by decide +kernel, by decide +kernel⟩
theorem ok__law_by_cells {f : Addr} {fd : FuncData} (F : FunD K "_law_by_cells" "_law_by_cells" s_law_by_cells .none f fd) (T : Txt K mg cFE cBP cBC cBS cBM tS tC) (g__law_copied : Def P w K mg base 2 "_law_copied" ["_law_picture_here"] [] (spCopied K)) : FnOk P w K mg base CX0 3 f fd ["_law_one", "_law_other", "_law_places_here"] (spByC K) := by
 refine F.ok sc_law_by_cells (fun vs H Q E h => ?_) (fun cdv A outer s H vs Q E hr h => ?_)
 ·obtain ⟨a, b, S, ps, qs, ts, A, B, m, wd, rfl, _⟩ := h; rfl
 ·obtain ⟨a, b, S, ps, qs, ts, A, B, m, wd, rfl, pa, pb, ga, gb, hl, pv', k⟩ := h
  refine ⟨_, (pss_cons (ps_set (i := 3) sc_law_by_cells.nd rfl (by first | exact Or.inl rfl | exact Or.inr rfl) (pe_callD g__law_copied (hr.mono (by decide)) rfl (pa_cons (pv 0) pa_nil)))
    (pss_cons (ps_for PassesOwn.never rfl (piK K rfl (pv 2)) (pg_tup rfl (pgs_cons (pg_name (i := 4) sc_law_by_cells.nd rfl (by first | exact Or.inl rfl | exact Or.inr rfl)) (pgs_cons (pg_name (i := 5) sc_law_by_cells.nd rfl (by first | exact Or.inl rfl | exact Or.inr rfl)) pgs_nil))) (pss_one (ps_asg (pe_ix (ixK K rfl) (pe_ix (ixK K rfl) (pv 1) (pv 5) (fun _ _ => rfl)) (pv 4) (fun _ _ => rfl)) (pg_sub (pe_ix (ixK K rfl) (pv 3) (pv 5) (fun _ _ => rfl)) (pv 4) set_list))))
    (pss_one (ps_ret (pv 3))))), ?_⟩
  refine ⟨_, rfl, a, ps, ir A, rfl, pa.top, pa.row, by rw [ir_len]; exact Nat.le_trans ga.le (by decide), fun F fs H1 s1 hF fr pf => ?_⟩
  have kp0 : ∀ c o, H c = some o → H1 c = some o := fun c o e => s1 c o e
  have hpt : ts.length = (plM wd m A.length).length := pv'.len
  refine ⟨_, rfl, S, rfl, ⟨_, SqL.of (s1 _ _ pv'.top)⟩, ?_⟩
  refine for_list (xs := ts.map V.ref) (fun i σ H2 => Same H H2 ∧ PicV H2 F fs (ir (gsel wd A B ((plM wd m A.length).take i))) ∧ ∃ v4 v5, σ = [some (.ref a), some (.ref b), some (.ref S), some (.ref F), v4, v5]) ⟨s1, ?_, _, _, rfl⟩ (fun i σ H2 _ q => SqL.of (q.1 _ _ pv'.top)) ?_ ?_
  ·rw [List.take_zero, gsel_nil ga]; exact pf
  ·rintro i x σ H2 hx ⟨s2, pf2, v4, v5, rfl⟩
   obtain ⟨t, ht, rfl⟩ := getElem?_ref hx
   have hi : i < (plM wd m A.length).length := by rw [← hpt]; exact (List.getElem?_eq_some_iff.mp ht).1
   have eq : (plM wd m A.length)[i]? = some (plM wd m A.length)[i] := List.getElem?_eq_getElem hi
   have et := pv'.at_ i t _ ht eq
   obtain ⟨q1, q2, q3, q4⟩ := plM_in (List.getElem_mem hi)
   obtain ⟨x, y, exy, hx1, hy1⟩ : ∃ x y : Nat, (plM wd m A.length)[i] = ((x : Int), (y : Int)) ∧ x < wd ∧ y < A.length := by
    refine ⟨(plM wd m A.length)[i].1.toNat, (plM wd m A.length)[i].2.toNat, ?_, by omega, by omega⟩
    rw [Int.toNat_of_nonneg q1, Int.toNat_of_nonneg q3]
   rw [exy] at et
   have et2 : H2 t = some (.tup [.int (x : Int), .int (y : Int)]) := s2 _ _ et
   have pb2 := pb.mono s2
   obtain ⟨r, hr1, hr2, hr3⟩ := gb.get (by omega : y < B.length)
   obtain ⟨qb, hqb, eqb⟩ := PicV.row_at pb2 hr1
   have hgl : y < (gsel wd A B ((plM wd m A.length).take i)).length := by unfold gsel; rw [grid_len]; exact hy1
   have hr4 : (gsel wd A B ((plM wd m A.length).take i))[y]? = some (gsel wd A B ((plM wd m A.length).take i))[y] := List.getElem?_eq_getElem hgl
   have hrl : (gsel wd A B ((plM wd m A.length).take i))[y].length = wd := grid_row _ (List.getElem_mem hgl)
   obtain ⟨qf, hqf, eqf⟩ := PicV.row_at pf2 hr4
   have ev : cAt B x y = r.getD x 0 := by unfold cAt; rw [getD_at hr1]
   refine ⟨t, _, rfl, SqT.of et2, rfl, _, _, rfl, _, _, rfl, rfl, ?_⟩
   refine ⟨_, rfl, _, rfl, b, _, _, .ref qb, rfl, rfl, SqL.of pb2.top, atI_nat (by rw [List.getElem?_map, hqb]; rfl), _, rfl, qb, _, _, .int (r.getD x 0), rfl, rfl, SqL.of eqb, atI_nat (getD_int (by omega)), ?_⟩
   refine ⟨_, rfl, _, rfl, F, _, _, .ref qf, rfl, rfl, SqL.of pf2.top, atI_nat (by rw [List.getElem?_map, hqf]; rfl), _, rfl, qf, _, _, x, rfl, rfl, eqf, ixN_nat (by rw [List.length_map, hrl]; exact hx1), ?_, ?_, _, _, rfl⟩
   ·refine same_upd s2 (fr qf (List.mem_of_getElem? hqf))
   ·have := PicV.setRow (r := ((gsel wd A B ((plM wd m A.length).take i))[y].map V.int).set x (.int (r.getD x 0))) pf2 hqf
    have e : ir (gsel wd A B ((plM wd m A.length).take (i + 1))) = (ir (gsel wd A B ((plM wd m A.length).take i))).set y (((gsel wd A B ((plM wd m A.length).take i))[y].map V.int).set x (.int (r.getD x 0))) := by
     rw [List.take_succ_eq_append_getElem hi, exy, ← gsel_set hx1 hy1, getD_row hgl, ev]
     unfold ir
     rw [List.map_set, List.map_set]
    rw [e]; exact this
  ·rintro σ H2 ⟨s2, pf2, v4, v5, rfl⟩
   refine ⟨_, rfl, k F fs H2 s2 hF fr ?_⟩
   rw [List.length_map, hpt, List.take_length, gsel_all ga] at pf2
   exact pf2
theorem sc_law_same : FnScope ["_law_found", "_law_due", "_law_row", "_law_sizes"] ["_law_found", "_law_due"] (defScope s_law_same) := ⟨rfl, rfl, rfl, by decide +kernel, rfl, by decide +kernel, by decide +kernel⟩
theorem ok__law_same {f : Addr} {fd : FuncData} (F : FunD K "_law_same" "_law_same" s_law_same .none f fd) (T : Txt K mg cFE cBP cBC cBS cBM tS tC) (g__law_whole : Def P w K mg base 1 "_law_whole" ["_law_found"] [] (spWhole)) : FnOk P w K mg base CX0 2 f fd ["_law_found", "_law_due"] (spSame K) := by
 refine F.ok sc_law_same (fun vs H Q E h => ?_) (fun cdv A outer s H vs Q E hr h => ?_)
 ·obtain ⟨a, b, ps, qs, A, wd, rfl, _⟩ := h; rfl
 ·obtain ⟨a, b, ps, qs, A, wd, rfl, pa, pb, ga, k⟩ := h
  have hu : _ + 64 < cLine := hr.units
  have hpl : ps.length = A.length := by rw [pa.len, ir_len]
  have h24 := ga.le
  have w24 := ga.w24
  have lrow : ∀ {q H2}, Same H H2 → q ∈ ps → ∃ ns : List Int, H2 q = some (.lst (ns.map V.int)) ∧ ns.length = wd := fun {q H2} s2 hq => by
   obtain ⟨ns, e1, e2, _⟩ := ga.mem (pa.mono s2) hq
   exact ⟨ns, e1, e2⟩
  refine ⟨_, (pss_cons (ps_if (PW.pt (pw_or (pt_not (pt_val (isiK K rfl (pv 0) rfl T.isinstance rfl T.list PyProof.Rows.boot_list))) (pw_or1 (pt_cmpR (neDK K rfl hu) (pv 0) (pv 1) (nomark _))))) (pss_one (ps_ret pe_bl)) pss_nil)
    (pss_cons (ps_for PassesOwn.never rfl (piK K rfl (pv 0)) (pg_name (i := 2) sc_law_same.nd rfl (by first | exact Or.inl rfl | exact Or.inr rfl)) (pss_one (ps_if (PW.pt (pw_or (pt_not (pt_val (isiK K rfl (pv 2) rfl T.isinstance rfl T.list PyProof.Rows.boot_list))) (pw_or1 (pt_not (pt_val (pe_callB (allK K rfl rfl) rfl T.all PyProof.Rows.boot_all (pa_cons (pe_comp (N := ["_law_cell_here"]) (src := [none]) rfl ⟨rfl, rfl, rfl, rfl, rfl, by decide +kernel⟩ (piK K rfl (pv 2)) (fun s H C fp => pg_name (i := 0) (show (["_law_cell_here"] : List Str).Nodup by decide +kernel) rfl (by first | exact Or.inl rfl | exact Or.inr rfl)) (fun s H C fp => pts_nil) (fun s H C fp => (pe_callD g__law_whole (hr.mono (by decide)) rfl (pa_cons (pv 0) pa_nil)))) pa_nil))))))) (pss_one (ps_ret pe_bl)) pss_nil)))
    (pss_cons (ps_setC (ix := 3) (N := ["_law_row"]) (src := [none]) sc_law_same.nd rfl rfl rfl ⟨rfl, rfl, rfl, rfl, rfl, by decide +kernel⟩ (piK K rfl (pv 0)) (fun s H C fp => pg_name (i := 0) (show (["_law_row"] : List Str).Nodup by decide +kernel) rfl (by first | exact Or.inl rfl | exact Or.inr rfl)) (fun s H C fp => pts_nil) (fun s H C fp => (pe_callB (lenK K rfl) rfl T.len PySem.boot_len (pa_cons (pv 0) pa_nil))))
    (pss_cons (ps_for PassesOwn.never rfl (piK K rfl (pv 0)) (pg_name (i := 2) sc_law_same.nd rfl (by first | exact Or.inl rfl | exact Or.inr rfl)) (pss_one (ps_expr (pe_bm PySem.F.plainAttrs_list PySem.F.slot_list_append PySem.F.type_list_append mt_append (pv 2) (pa_cons pe_int pa_nil)))))
    (pss_one (ps_ret (pe_cmpR (eqDK K rfl hu) (pe_comp (N := ["_law_row"]) (src := [none]) rfl ⟨rfl, rfl, rfl, rfl, rfl, by decide +kernel⟩ (piK K rfl (pv 0)) (fun s H C fp => pg_name (i := 0) (show (["_law_row"] : List Str).Nodup by decide +kernel) rfl (by first | exact Or.inl rfl | exact Or.inr rfl)) (fun s H C fp => pts_nil) (fun s H C fp => (pe_callB (lenK K rfl) rfl T.len PySem.boot_len (pa_cons (pv 0) pa_nil)))) (pe_comp (N := ["_law_size"]) (src := [none]) rfl ⟨rfl, rfl, rfl, rfl, rfl, by decide +kernel⟩ (piK K rfl (pv 3)) (fun s H C fp => pg_name (i := 0) (show (["_law_size"] : List Str).Nodup by decide +kernel) rfl (by first | exact Or.inl rfl | exact Or.inr rfl)) (fun s H C fp => pts_nil) (fun s H C fp => (pe_op op_add (pv 0) pe_int))) (nomark _)))))))), ?_⟩
  refine ⟨_, rfl, true, isList_lst pa.top, _, rfl, ⟨_, rfl, _, rfl, 1, a, b, true, by decide, rfl, rfl, EqL.pic pa pb, _, rfl, ?_⟩⟩
  refine ⟨_, rfl, a, rfl, ⟨_, SqL.of pa.top⟩, ?_⟩
  refine for_list (xs := ps.map V.ref) (fun i σ H2 => Same H H2 ∧ ∃ v2, σ = [some (.ref a), some (.ref b), v2, none]) ⟨Same.refl H, _, rfl⟩ (fun i σ H2 _ q => SqL.of (q.1 _ _ pa.top)) ?_ ?_
  ·rintro i x σ H2 hx ⟨s2, v2, rfl⟩
   obtain ⟨q, hq, rfl⟩ := getElem?_ref hx
   obtain ⟨ns, e1, e2⟩ := lrow s2 (List.mem_of_getElem? hq)
   refine ⟨_, rfl, true, isList_lst e1, _, rfl, ⟨_, rfl, q, rfl, ⟨_, SqL.of e1⟩, fun D hD => ?_⟩⟩
   refine comp_fm (k := 0) (fun _ => .bl true) (fun _ => true) (src_list (SqL.of e1)) (by rw [List.length_map, e2]; exact Nat.le_trans w24 (by decide)) hD (fun x _ H' Qb _ kk => kk H' (Same.refl _)) (fun y hy _ H' Q' sm kk => ?_) fun H3 s3 h3 => ?_
   ·obtain ⟨n, _, rfl⟩ := List.mem_map.mp hy
    exact ⟨_, rfl, n, rfl, kk H' (Same.refl _)⟩
   ·refine ⟨D, (ns.map V.int).map (fun _ => true), rfl, SqL.of (by rw [h3, filter_t, map_tt]), _, rfl, ?_⟩
    rw [all_rep]
    exact ⟨s2.trans s3, _, rfl⟩
  ·rintro σ H2 ⟨s2, v2, rfl⟩
   have pa2 := pa.mono s2
   refine ⟨_, rfl, a, rfl, ⟨_, SqL.of pa2.top⟩, fun D hD => ?_⟩
   refine comp_fm (k := 0) (fun _ => .int (wd : Int)) (fun _ => true) (src_list (SqL.of pa2.top)) (by rw [List.length_map, hpl]; exact Nat.le_trans h24 (by decide)) hD (fun x _ H' Qb _ kk => kk H' (Same.refl _)) (fun y hy _ H' Q' sm kk => ?_) fun H3 s3 h3 => ?_
   ·obtain ⟨q, hq, rfl⟩ := List.mem_map.mp hy
    obtain ⟨ns, e1, e2⟩ := lrow (s2.trans sm) hq
    refine ⟨_, rfl, q, _, rfl, .inl (SqL.of e1), ?_⟩
    have := kk H' (Same.refl _)
    rw [← e2, ← List.length_map (f := V.int)] at this
    exact this
   ·have h3' : H3 D = some (.lst ((List.replicate A.length (wd : Int)).map V.int)) := by
     rw [h3, filter_t, List.map_const', List.length_map, hpl, List.map_replicate]
    have s23 := s2.trans s3
    have pa3 := pa.mono s23
    have hDp : D ∉ ps := fun z => by
     obtain ⟨ns, e1, _⟩ := lrow s2 z
     rw [hD] at e1; cases e1
    have kpa : ∀ {c o}, H c = some o → H3 c = some o := fun e => s23 _ _ e
    refine ⟨_, rfl, a, rfl, ⟨_, SqL.of pa3.top⟩, ?_⟩
    refine for_list (xs := ps.map V.ref) (fun i σ H4 => (∀ c o, H3 c = some o → c ∉ ps → H4 c = some o) ∧ (∀ (j : Nat) q, ps[j]? = some q → ∃ xs : List V, H4 q = some (.lst xs) ∧ xs.length = wd + (if j < i then 1 else 0)) ∧ ∃ v2, σ = [some (.ref a), some (.ref b), v2, some (.ref D)]) ⟨fun c o e _ => e, fun j q hq => ?_, _, rfl⟩ (fun i σ H4 _ q => SqL.of (q.1 _ _ pa3.top pa3.out)) ?_ ?_
    ·obtain ⟨ns, e1, e2⟩ := lrow s23 (List.mem_of_getElem? hq)
     exact ⟨_, e1, by rw [List.length_map, e2]; rfl⟩
    ·rintro i x σ H4 hx ⟨kp, rl, v2, rfl⟩
     obtain ⟨q, hq, rfl⟩ := getElem?_ref hx
     have hqm := List.mem_of_getElem? hq
     obtain ⟨xs, e1, e2⟩ := rl i q hq
     rw [if_neg (by omega)] at e2
     refine ⟨_, rfl, .inl ⟨rfl, _, SqL.of e1⟩, q, _, _, rfl, rfl, e1, Nat.lt_of_le_of_lt (by omega : xs.length ≤ 24) (by decide), fun c o e hc => ?_, fun j q' hq' => ?_, _, rfl⟩
     ·rw [upd_ne (fun z => hc (by rw [z]; exact hqm))]
      exact kp c o e hc
     ·by_cases z : q' = q
      ·subst z
       have := nodup_at pa.nd hq' hq
       subst this
       exact ⟨_, upd_same, by rw [List.length_append, e2, if_pos (by omega)]; rfl⟩
      ·obtain ⟨ys, f1, f2⟩ := rl j q' hq'
       refine ⟨ys, by rw [upd_ne z]; exact f1, ?_⟩
       rw [f2]
       have : j ≠ i := fun w => z (by subst w; rw [hq] at hq'; cases hq'; rfl)
       by_cases hj : j < i
       ·rw [if_pos hj, if_pos (by omega)]
       ·rw [if_neg hj, if_neg (by omega)]
    ·rintro σ H4 ⟨kp, rl, v2, rfl⟩
     rw [List.length_map] at rl
     have top4 := kp _ _ pa3.top pa3.out
     have eD4 := kp _ _ h3' hDp
     refine ⟨_, rfl, a, rfl, ⟨_, SqL.of top4⟩, fun D2 hD2 => ?_⟩
     refine comp_fm (k := 0) (fun _ => .int ((wd : Int) + 1)) (fun _ => true) (src_list (SqL.of top4)) (by rw [List.length_map, hpl]; exact Nat.le_trans h24 (by decide)) hD2 (fun x _ H' Qb _ kk => kk H' (Same.refl _)) (fun y hy _ H' Q' sm kk => ?_) fun H5 s5 h5 => ?_
     ·obtain ⟨q, hq, rfl⟩ := List.mem_map.mp hy
      obtain ⟨j, hj⟩ := List.mem_iff_getElem?.mp hq
      obtain ⟨xs, e1, e2⟩ := rl j q hj
      rw [if_pos (List.getElem?_eq_some_iff.mp hj).1] at e2
      refine ⟨_, rfl, q, _, rfl, .inl (SqL.of (sm _ _ e1)), ?_⟩
      have := kk H' (Same.refl _)
      have e : ((xs.length : Nat) : Int) = (wd : Int) + 1 := by rw [e2]; push_cast; rfl
      rw [e]; exact this
     ·have h5' : H5 D2 = some (.lst ((List.replicate A.length ((wd : Int) + 1)).map V.int)) := by
       rw [h5, filter_t, List.map_const', List.length_map, hpl, List.map_replicate]
      have eD5 := s5 _ _ eD4
      refine ⟨_, rfl, D, rfl, ⟨_, SqL.of eD5⟩, fun D3 hD3 => ?_⟩
      refine comp_fm (k := 0) (fun _ => .int ((wd : Int) + 1)) (fun _ => true) (src_list (SqL.of eD5)) (by rw [List.length_map, List.length_replicate]; exact Nat.le_trans h24 (by decide)) hD3 (fun x _ H' Qb _ kk => kk H' (Same.refl _)) (fun y hy _ H' Q' sm kk => ?_) fun H6 s6 h6 => ?_
      ·obtain ⟨z, hz, rfl⟩ := List.mem_map.mp hy
       rw [(List.mem_replicate.mp hz).2]
       exact ⟨_, rfl, _, _, rfl, rfl, kk H' (Same.refl _)⟩
      ·have h6' : H6 D3 = some (.lst ((List.replicate A.length ((wd : Int) + 1)).map V.int)) := by
        rw [h6, filter_t, List.map_const', List.length_map, List.length_replicate, List.map_replicate]
       refine ⟨0, D2, D3, _, by decide, rfl, rfl, EqL.ints (SqL.of (s6 _ _ h5')) (SqL.of h6'), ?_⟩
       rw [decide_eq_true rfl]
       exact k H6 fun c o e hc => s6 _ _ (s5 _ _ (kp c o (kpa e) hc))
end
end K8
namespace L2
open PySem
theorem len0 {us : List Value} (h : us.length = 0) : us = [] := List.eq_nil_of_length_eq_zero h
theorem lenS {us : List Value} {n : Nat} (h : us.length = n + 1) : ∃ a r, us = a :: r ∧ r.length = n := by
 cases us with
 | nil => exact absurd h (Nat.succ_ne_zero n).symm
 | cons a r => exact ⟨a, r, rfl, Nat.succ.inj h⟩
theorem len1 {us : List Value} (h : us.length = 1) : ∃ a, us = [a] := by
 obtain ⟨a, r, rfl, h2⟩ := lenS h; cases len0 h2; exact ⟨a, rfl⟩
theorem len2 {us : List Value} (h : us.length = 2) : ∃ a b, us = [a, b] := by
 obtain ⟨a, r, rfl, h2⟩ := lenS h; obtain ⟨b, rfl⟩ := len1 h2; exact ⟨a, b, rfl⟩
theorem len3 {us : List Value} (h : us.length = 3) : ∃ a b c, us = [a, b, c] := by
 obtain ⟨a, r, rfl, h2⟩ := lenS h; obtain ⟨b, c, rfl⟩ := len2 h2; exact ⟨a, b, c, rfl⟩
theorem len4 {us : List Value} (h : us.length = 4) : ∃ a b c d, us = [a, b, c, d] := by
 obtain ⟨a, r, rfl, h2⟩ := lenS h; obtain ⟨b, c, d, rfl⟩ := len3 h2; exact ⟨a, b, c, d, rfl⟩
theorem len5 {us : List Value} (h : us.length = 5) : ∃ a b c d e, us = [a, b, c, d, e] := by
 obtain ⟨a, r, rfl, h2⟩ := lenS h; obtain ⟨b, c, d, e, rfl⟩ := len4 h2; exact ⟨a, b, c, d, e, rfl⟩
end L2
namespace L2
open PySem PySem.Spec PyProof.Rows
structure ShE (X : Cx) (e : Expr) (t : TE) : Prop where
 pe : PE X e t
structure ShA (X : Cx) (es : List Expr) (t : TA) : Prop where
 pa : PA X es t
section
variable {X : Cx} {a b c e : Expr} {es : List Expr} {ta tb te : TE} {t : TA} {p pos : Pos}
theorem slTup {xs : List Expr} {k : Nat} : Sl (.Tuple xs k p) := fun _ _ => rfl
theorem slC {k : Const} {n : Nat} : Sl (.Constant k n p) := fun _ _ => rfl
theorem slN {x : Str} : Sl (.Name x p) := fun _ _ => rfl
theorem qpv (i : Nat) {x : Str} (hN : X.N[i]? = some x := by rfl) (hv : Vis X.env.scope x := by first | exact Or.inl rfl | exact Or.inr (Or.inl rfl) | exact Or.inr (Or.inr rfl)) (hd : (x == ("__debug__" : Str)) = false := by decide)
  (hcd : (x == ("__classdict__" : Str)) = false := by decide) : ShE X (.Name x pos) (tVar i) := ⟨pe_var hN hv hd hcd⟩
theorem qpe_int {i : Int} {j : Nat} : ShE X (.Constant (.int i) j pos) (tC (.int i)) := ⟨pe_int⟩
theorem qpe_str {x : Str} {j : Nat} : ShE X (.Constant (.str x) j pos) (tC (.str x)) := ⟨pe_str⟩
theorem qpa_nil : ShA X [] tNil := ⟨pa_nil⟩
theorem qpa_cons (ha : ShE X e te) (hs : Sl e) (hr : ShA X es t) : ShA X (e :: es) (tCons te t) := ⟨pa_cons ha.pe hr.pa (hs _ _)⟩
theorem qpe_tup {k : Nat} (h : ShA X es t) : ShE X (.Tuple es k pos) (tTup t) := ⟨pe_tup h.pa⟩
end
theorem fold_size (a : Array Nat) : ∀ (k : Nat) (acc : Array Nat), ((List.replicate k a).foldl (· ++ ·) acc).size = acc.size + k * a.size
 | 0, acc => by simp
 | k + 1, acc => by
  rw [List.replicate_succ, List.foldl_cons, fold_size a k, Array.size_append, Nat.succ_mul]; omega
theorem op_mulS {X : Cx} : OpR X (binaryOp .Mult) (fun x y H Q => ∃ a n, x = .str a ∧ y = .int n ∧ a.length = 1 ∧ (2 ≤ n ∧ n ≤ 10000) ∧ ∀ z : Str, z.length = n.toNat → Q (.str z) H) := by
 intro pins s σ H x y v u Q I rx ry h
 obtain ⟨a, n, rfl, rfl, ha, ⟨h0, h1⟩, q⟩ := h
 obtain ⟨t, rfl⟩ := rx
 obtain ⟨t2, rfl⟩ := ry
 have hz : ¬ n < 1 := by omega
 have hk : ¬ (n == 1 || a.length == 0) = true := by
  rw [ha]
  simp only [Bool.or_eq_true, beq_iff_eq]
  omega
 refine PySem.P.mul_str ?_ (fun _ _ => ?_) (fun _ _ => ?_) ?_
 ·rw [Bool.or_eq_false_iff]
  exact ⟨decide_eq_false (by omega), decide_eq_false (by omega)⟩
 ·rw [ha]
  have : (1 : Int) ≤ (2 ^ 63 - 1) / n := by
   rw [Int.le_ediv_iff_mul_le (by omega)]; omega
  omega
 ·rw [ha]
  unfold Builtin.Str.tooLong
  have hs : (10001 : Nat) ≤ sizeLine := by decide
  exact decide_eq_false (by omega)
 ·rw [if_neg hz, if_neg hk]
  refine ⟨?_, ⟨.str _, H, I.tok _, ⟨_, rfl⟩, q _ ?_⟩⟩
  ·show ((List.replicate n.toNat a.cps).foldl (· ++ ·) #[]).size ≤ sizeLine
   rw [fold_size]
   have e : a.cps.size = 1 := ha
   rw [e]
   have : (10001 : Nat) ≤ sizeLine := by decide
   simp; omega
  ·show ((List.replicate n.toNat a.cps).foldl (· ++ ·) #[]).size = n.toNat
   rw [fold_size]
   have e : a.cps.size = 1 := ha
   rw [e]; simp
end L2
namespace K8
open PySem L2 M4 M5
theorem op_mulS1 {X : Cx} : OpR X (binaryOp .Mult) (fun x y H Q => ∃ a n, x = .str a ∧ y = .int n ∧ a.length = 1 ∧ (1 ≤ n ∧ n ≤ 10000) ∧ ∀ z : Str, Q (.str z) H) := by
 intro pins s σ H x y v u Q I rx ry h
 obtain ⟨a, n, rfl, rfl, ha, ⟨h0, h1⟩, q⟩ := h
 by_cases hn : n = 1
 ·subst hn; exact op_mulS01 pins s σ H _ _ v u Q I rx ry ⟨a, 1, rfl, rfl, .inr rfl, q _⟩
 ·exact op_mulS pins s σ H _ _ v u Q I rx ry ⟨a, n, rfl, rfl, ha, ⟨by omega, h1⟩, fun z _ => q z⟩
structure BadP (K : W.Frag) (H : Hp) (v : V) : Prop where
 th : Th K H v
 no : picB H v = false
theorem BadP.mono {K : W.Frag} {H H' : Hp} {v : V} (b : BadP K H v) (s : Same H H') : BadP K H' v := ⟨b.th.mono s, by rw [picB_mono b.th s]; exact b.no⟩
noncomputable def spWrongP (K : W.Frag) : Sp := fun vs H Q _ => ∃ (n : Nat) (a : Addr) (ps : List Addr) (rows : List (List Int)) (wd : Nat), vs = [.int (n : Int), .ref a] ∧ PicV H a ps (ir rows) ∧ Good rows wd ∧ ∀ v H', Same H H' → BadP K H' v → Q v H'
section
variable {K : W.Frag} {H : Hp}
theorem bad_other {v : V} (k : Kd K H v) (h : rowOf H v = Option.none) : BadP K H v := ⟨⟨k, fun ys e => (by rw [h] at e; cases e), fun ys e => (by rw [h] at e; cases e)⟩, by unfold picB; rw [h]⟩
theorem bad_len {p : Addr} {xs : List V} (e : H p = some (.lst xs)) (hl : xs.length ≤ 1000) (hr : ∀ x ∈ xs, Rw K H x) (hw : isWh 1 24 (.int (xs.length : Int)) = false) : BadP K H (.ref p) :=
 ⟨(Th.lst e hl hr).1, by unfold picB; rw [rowOf_lst e]; dsimp only; rw [hw, Bool.false_and]⟩
theorem bad_row {p : Addr} {xs : List V} {v : V} (e : H p = some (.lst xs)) (hl : xs.length ≤ 1000) (hr : ∀ x ∈ xs, Rw K H x) (hv : v ∈ xs) (h : rowQ H v = false ∨ ∃ u ∈ xs, lenOf H u ≠ lenOf H v) : BadP K H (.ref p) := by
 refine ⟨(Th.lst e hl hr).1, ?_⟩
 cases hp : picB H (.ref p) with
 | false => rfl
 | true =>
  obtain ⟨_, h2, h3⟩ := (picB_iff (rowOf_lst e)).mp hp
  rcases h with h | ⟨u, hu, h⟩
  ·rw [h2 v hv] at h; cases h
  ·exact (h ((h3 u hu).trans (h3 v hv).symm)).elim
theorem rw_rows {a : Addr} {ps : List Addr} {rows : List (List Int)} {wd : Nat} (pic : PicV H a ps (ir rows)) (g : Good rows wd) : ∀ x ∈ ps.map V.ref, Rw K H x := fun x hx => by
 obtain ⟨q, hq, rfl⟩ := List.mem_map.mp hx
 obtain ⟨ns, e1, e2, _⟩ := g.mem pic hq
 exact Rw.lst e1 (by rw [List.length_map, e2]; exact Nat.le_trans g.w24 (by decide)) kd_ints
end
theorem cut_hi (xs : List V) (y : Nat) : cutV xs none (some (y : Int)) = xs.take y := by
 unfold cutV
 rw [HT.sIx_nat]
 show (xs.drop 0).take (min y xs.length - 0) = _
 rw [List.drop_zero, Nat.sub_zero]
 by_cases h : y ≤ xs.length
 ·rw [Nat.min_eq_left h]
 ·rw [Nat.min_eq_right (by omega), List.take_of_length_le (Nat.le_refl _), List.take_of_length_le (by omega)]
theorem cut_lo (xs : List V) (y : Nat) : cutV xs (some (y : Int)) none = xs.drop y := by
 unfold cutV
 rw [HT.sIx_nat]
 show (xs.drop (min y xs.length)).take (xs.length - min y xs.length) = _
 by_cases h : y ≤ xs.length
 ·rw [Nat.min_eq_left h, List.take_of_length_le (by rw [List.length_drop]; exact Nat.le_refl _)]
 ·rw [Nat.min_eq_right (by omega), Nat.sub_self, List.take_zero, List.drop_eq_nil_of_le (by omega)]
theorem in2 {m : Nat} : inV (.int (m : Int)) [V.int 7, V.int 11] = true ↔ (m = 7 ∨ m = 11) := by
 simp only [inV, List.any_cons, List.any_nil, eqV, Bool.or_false, Bool.or_eq_true]
 constructor
 ·rintro (h | h)
  ·left; have := eq_of_beq h; omega
  ·right; have := eq_of_beq h; omega
 ·rintro (rfl | rfl)
  ·exact .inl rfl
  ·exact .inr rfl
section
variable {P : Program} {w : World} {K : W.Frag} {mg : Str → Option Value} {base : Heap} {cFE cBP cBC cBS cBM : Addr} {tS tC : Tok}
noncomputable abbrev nmwrongpicture : List Str := ["_law_number", "_law_picture_here", "_law_y", "_law_x", "_law_odd", "_law_row", "_law_rows", "_law_which", "_law_spoilt"]
theorem sc_law_wrong_picture : FnScope ["_law_number", "_law_picture_here", "_law_y", "_law_x", "_law_odd", "_law_row", "_law_rows", "_law_which", "_law_spoilt"] ["_law_number", "_law_picture_here"] (defScope s_law_wrong_picture) := ⟨rfl, rfl, rfl, by decide +kernel, rfl, by decide +kernel, by decide +kernel⟩
theorem ok__law_wrong_picture {f : Addr} {fd : FuncData} (F : FunD K "_law_wrong_picture" "_law_wrong_picture" s_law_wrong_picture .none f fd) (T : Txt K mg cFE cBP cBC cBS cBM tS tC) : FnOk P w K mg base CX0 1 f fd ["_law_number", "_law_picture_here"] (spWrongP K) := by
 refine F.ok sc_law_wrong_picture (fun vs H Q E h => ?_) (fun cdv A outer s H vs Q E hr h => ?_)
 ·obtain ⟨n, a, ps, rows, wd, rfl, _⟩ := h; rfl
 ·obtain ⟨n, a, ps, rows, wd, rfl, pic, gd, k⟩ := h
  have hpl : ps.length = rows.length := by rw [pic.len, ir_len]
  have ne1 := gd.ne
  have w1 := gd.w1
  have h24 := gd.le
  have w24 := gd.w24
  obtain ⟨t7, r7, k7⟩ : ∃ tr, PSs ((cxOf CX0 P w K mg base nmwrongpicture "_law_wrong_picture" (defScope s_law_wrong_picture) f cdv A outer s H E).nox) ((defBody s_law_wrong_picture).drop 7) tr ∧ ∀ (m y : Nat) (L : Addr) (v0 v1 v2 v3 v4 v5 v6 : V) (xs : List V) (o3 o4 o5 : Option V) (G : Hp), m < 12 → y < rows.length → Same H G → G L = some (.lst xs) →
    (Rw K G v0 ∧ rowQ G v0 = false) → (Rw K G v1 ∧ lenOf G v1 ≠ wd) → (Rw K G v2 ∧ rowQ G v2 = false) → (Rw K G v6 ∧ lenOf G v6 ≠ wd) →
    (xs = [v0] ∨ (xs = [v0, v1, v2, v3, v4, v5, v6] ∧ 6 ≤ m ∧ (m = 7 ∨ m = 11 → rows.length ≠ 1))) →
    tr { nx := fun _ H' => Q .non H', rt := Q } [some (.int (n : Int)), some (.ref a), some (.int (y : Int)), o3, o4, o5, some (.ref L), some (.int (m : Int)), none] G := by
   obtain ⟨q1, q2, q3, q4, z1, z2, z3, z4, z5, z6, z7, z8, z9, z10, z11, j1, j2, j3, e1, e2, e3, e4, e5, e6, hsh, l1, l2, l3, l4, l5, l6⟩ : ∃ (q1 q2 q3 q4 z1 z2 z3 z4 z5 z6 z7 z8 z9 z10 z11 : Pos) (j1 j2 j3 : Nat) (e1 e2 e3 e4 e5 e6 : PySem.Expr), (defBody s_law_wrong_picture)[7]? = some (.If (.Compare (.Name "_law_which" z1) [.Eq] [(.Constant (.int 8) j1 z2)] z3) [.Return (some (.Subscript (.List [e1, e2, e3, e4, e5, e6, (.Call (.Name "tuple" z9) [(.Name "_law_picture_here" z10)] [] z11)] q1) (.BinOp (.BinOp (.Name "_law_number" z4) .FloorDiv (.Constant (.int 7200) j2 z5) z6) .Mod (.Constant (.int 7) j3 z7) z8) q2)) q3] [] q4) ∧ LitE e1 (L2.tC .non) ∧ LitE e2 (tLst tNil) ∧ LitE e3 (L2.tC (.str "0")) ∧ LitE e4 (L2.tC (.int 5)) ∧ LitE e5 tDict0 ∧ LitE e6 (tTup tNil) := ⟨_, _, _, _, _, _, _, _, _, _, _, _, _, _, _, _, _, _, _, _, _, _, _, _, rfl, lit_non, (lit_lst la_nil), lit_str, lit_int, lit_dict0, (lit_tup la_nil)⟩
   have hc : PT (cxOf CX0 P w K mg base nmwrongpicture "_law_wrong_picture" (defScope s_law_wrong_picture) f cdv A outer s H E).nox (.Compare (.Name "_law_which" z1) [.Eq] [(.Constant (.int 8) j1 z2)] z3) _ := (pt_cmpR op_eq (pv 7) pe_int (nomark _))
   have hx : PE (cxOf CX0 P w K mg base nmwrongpicture "_law_wrong_picture" (defScope s_law_wrong_picture) f cdv A outer s H E).nox (.BinOp (.BinOp (.Name "_law_number" z4) .FloorDiv (.Constant (.int 7200) j2 z5) z6) .Mod (.Constant (.int 7) j3 z7) z8) _ := (pe_op op_mod (pe_op op_fdiv (pv 0) pe_int) pe_int)
   have h7 : PE (cxOf CX0 P w K mg base nmwrongpicture "_law_wrong_picture" (defScope s_law_wrong_picture) f cdv A outer s H E).nox (.Call (.Name "tuple" z9) [(.Name "_law_picture_here" z10)] [] z11) _ := (pe_callTy call_tuple_of rfl T.tuple PyProof.Rows.boot_tuple (pa_cons (pv 1) pa_nil))
   have hh := ps_if (X := (cxOf CX0 P w K mg base nmwrongpicture "_law_wrong_picture" (defScope s_law_wrong_picture) f cdv A outer s H E).nox) (pos := q4) (@hc) (pss_one (ps_ret (pos := q3) (pe_ix (pos := q2) (ixK K rfl) (pe_lst (pos := q1) (pa_cons (l1.pe _) (pa_cons (l2.pe _) (pa_cons (l3.pe _) (pa_cons (l4.pe _) (pa_cons (l5.pe _) (pa_cons (l6.pe _) (pa_cons (@h7) pa_nil) (l6.sl _ _)) (l5.sl _ _)) (l4.sl _ _)) (l3.sl _ _)) (l2.sl _ _)) (l1.sl _ _))) (@hx) (fun _ _ => rfl)))) pss_nil
   obtain ⟨px, y1, y2, y3, y4, y5, y6, y7, y8, y9, y10, y11, y12, y13, i1, es, hs10, la10⟩ : ∃ (px y1 y2 y3 y4 y5 y6 y7 y8 y9 y10 y11 y12 y13 : Pos) (i1 : Nat) (es : List PySem.Expr), (defBody s_law_wrong_picture)[10]? = some (.Assign [.Name "_law_spoilt" px] (.Subscript (.Name "_law_rows" y1) (.Call (.Name "min" y2) [.BinOp (.Call (.Name "len" y3) [.Name "_law_rows" y4] [] y5) .Sub (.Constant (.int 1) i1 y6) y7, .Subscript (.List es y8) (.Name "_law_which" y9) y10] [] y11) y12) y13) ∧ LitA es (tCons (L2.tC (.int 0)) (tCons (L2.tC (.int 0)) (tCons (L2.tC (.int 0)) (tCons (L2.tC (.int 0)) (tCons (L2.tC (.int 0)) (tCons (L2.tC (.int 0)) (tCons (L2.tC (.int 2)) (tCons (L2.tC (.int 1)) (tCons (L2.tC (.int 0)) (tCons (L2.tC (.int 0)) (tCons (L2.tC (.int 0)) (tCons (L2.tC (.int 6)) tNil)))))))))))) := ⟨_, _, _, _, _, _, _, _, _, _, _, _, _, _, _, _, rfl, (la_cons lit_int (la_cons lit_int (la_cons lit_int (la_cons lit_int (la_cons lit_int (la_cons lit_int (la_cons lit_int (la_cons lit_int (la_cons lit_int (la_cons lit_int (la_cons lit_int (la_cons lit_int la_nil))))))))))))⟩
   have hn10 : PE ((cxOf CX0 P w K mg base nmwrongpicture "_law_wrong_picture" (defScope s_law_wrong_picture) f cdv A outer s H E).nox) (.Subscript (.List es y8) (.Name "_law_which" y9) y10) _ := pe_ix (ixK K rfl) (pe_lst (la10.pa _)) (pv 7) (fun _ _ => rfl)
   have hp10 : PS ((cxOf CX0 P w K mg base nmwrongpicture "_law_wrong_picture" (defScope s_law_wrong_picture) f cdv A outer s H E).nox) (.Assign [.Name "_law_spoilt" px] (.Subscript (.Name "_law_rows" y1) (.Call (.Name "min" y2) [.BinOp (.Call (.Name "len" y3) [.Name "_law_rows" y4] [] y5) .Sub (.Constant (.int 1) i1 y6) y7, .Subscript (.List es y8) (.Name "_law_which" y9) y10] [] y11) y12) y13) _ := ps_set (i := 8) sc_law_wrong_picture.nd rfl (by first | exact Or.inl rfl | exact Or.inr rfl) (pe_ix (ixK K rfl) (pv 6) (pe_callB (call_min2 rfl) rfl T.min PyProof.Rows.boot_min (pa_cons (pe_op op_sub (pe_callB (lenK K rfl) rfl T.len PySem.boot_len (pa_cons (pv 6) pa_nil)) pe_int) (pa_cons (@hn10) pa_nil))) (fun _ _ => rfl))
   have r10 : PSs ((cxOf CX0 P w K mg base nmwrongpicture "_law_wrong_picture" (defScope s_law_wrong_picture) f cdv A outer s H E).nox) ((defBody s_law_wrong_picture).drop 10) _ := pss_at 11 hs10 rfl (@hp10) (pss_one (ps_ret (pe_op op_cat (pe_op op_cat (pe_slice (slK K rfl) (pv 1) po_none (po_some (pv 2))) (pe_lst (pa_cons (pv 8) pa_nil))) (pe_slice (slK K rfl) (pv 1) (po_some (pe_op op_add (pv 2) pe_int)) po_none))))
   refine ⟨_, pss_at 8 hsh rfl (@hh) (pss_cons (ps_if (pt_cmpR op_eq (pv 7) pe_int (nomark _)) (pss_one (ps_ret (pe_slice (slK K rfl) (pe_op op_rep (pv 1) pe_int) po_none (po_some pe_int)))) pss_nil)
    (pss_cons (ps_if (pt_cmpR op_eq (pv 7) pe_int (nomark _)) (pss_one (ps_ret (pe_comp (N := ["_law_row"]) (src := [none]) rfl ⟨rfl, rfl, rfl, rfl, rfl, by decide +kernel⟩ (piK K rfl (pv 1)) (fun s H C fp => pg_name (i := 0) (show (["_law_row"] : List Str).Nodup by decide +kernel) rfl (by first | exact Or.inl rfl | exact Or.inr rfl)) (fun s H C fp => pts_nil) (fun s H C fp => (pe_op op_rep (pe_lst (pa_cons pe_int pa_nil)) pe_int))))) pss_nil)
    (@r10))), ?_⟩
   clear hh hc hx h7 hsh l1 l2 l3 l4 l5 l6 r10 hp10 hn10 la10 hs10
   intro m y L v0 v1 v2 v3 v4 v5 v6 xs o3 o4 o5 G hm hy s eL f0 f1 f2 f6 hxs
   have is : ∀ {i : Nat}, decide (V.int (m : Int) = V.int (i : Int)) = true → m = i := fun {i} z => by
    have := of_decide_eq_true z
    injection this with this
    omega
   have pic := pic.mono s
   refine ⟨_, rfl, rfl, _, rfl, ite2 (fun z8 => ?_) (fun z8 => ⟨_, rfl, rfl, _, rfl, ite2 (fun z9 => ?_) (fun z9 => ⟨_, rfl, rfl, _, rfl, ite2 (fun z10 => ?_) (fun z10 => ?_)⟩)⟩)⟩
   ·refine ⟨Nat.zero_le _, fun q1 hq1 => fun q2 hq2 => ⟨Nat.zero_le _, fun q3 hq3 => ⟨_, rfl, a, _, rfl, .inl ⟨SqL.of (((same_new hq1).trans (same_new hq2)).trans (same_new hq3) _ _ pic.top), fun q4 hq4 => ⟨sz7, fun L2 hL2 => ?_⟩⟩⟩⟩⟩
    have z1 := same_new (o := HO.lst []) hq1
    have z2 := same_new (o := DictO q2) hq2
    have z3 := same_new (o := HO.tup []) hq3
    have z4 := same_new (o := HO.tup (ps.map V.ref)) hq4
    have z5 := same_new (o := HO.lst [V.non, V.ref q1, V.str "0", V.int 5, V.ref q2, V.ref q3, V.ref q4]) hL2
    have zz := z1.trans (z2.trans (z3.trans (z4.trans z5)))
    have e1 := (z2.trans (z3.trans (z4.trans z5))) _ _ (upd_same (H := G) (a := q1) (o := HO.lst []))
    have e2 := (z3.trans (z4.trans z5)) _ _ (upd_same (H := upd G q1 (.lst [])) (a := q2) (o := DictO q2))
    have e3 := (z4.trans z5) _ _ (upd_same (H := upd (upd G q1 (.lst [])) q2 (DictO q2)) (a := q3) (o := HO.tup []))
    have e4 := z5 _ _ (upd_same (H := upd (upd (upd G q1 (.lst [])) q2 (DictO q2)) q3 (.tup [])) (a := q4) (o := HO.tup (ps.map V.ref)))
    have eL2 : upd (upd (upd (upd (upd G q1 (.lst [])) q2 (DictO q2)) q3 (.tup [])) q4 (.tup (ps.map V.ref))) L2 (.lst [V.non, V.ref q1, V.str "0", V.int 5, V.ref q2, V.ref q3, V.ref q4]) L2 = some (.lst [V.non, V.ref q1, V.str "0", V.int 5, V.ref q2, V.ref q3, V.ref q4]) := upd_same
    generalize upd (upd (upd (upd (upd G q1 (.lst [])) q2 (DictO q2)) q3 (.tup [])) q4 (.tup (ps.map V.ref))) L2 (.lst [V.non, V.ref q1, V.str "0", V.int 5, V.ref q2, V.ref q3, V.ref q4]) = G2 at zz e1 e2 e3 e4 eL2 ⊢
    obtain ⟨v, ev, bv⟩ : ∃ v, atI [V.non, V.ref q1, V.str "0", V.int 5, V.ref q2, V.ref q3, V.ref q4] ((n : Int) / 7200 % 7) = some v ∧ BadP K G2 v := by
     obtain ⟨j, hj, ej⟩ : ∃ j : Nat, j < 7 ∧ (n : Int) / 7200 % 7 = (j : Int) := ⟨((n : Int) / 7200 % 7).toNat, by omega, by omega⟩
     rw [ej]
     match j, hj with
     | 0, _ => exact ⟨_, atI_nat rfl, bad_other .non rfl⟩
     | 1, _ => exact ⟨_, atI_nat rfl, bad_len e1 (by decide) (fun x h => nomatch h) rfl⟩
     | 2, _ => exact ⟨_, atI_nat rfl, bad_other (.str _) rfl⟩
     | 3, _ => exact ⟨_, atI_nat rfl, bad_other (.int _) rfl⟩
     | 4, _ => exact ⟨_, atI_nat rfl, bad_other (.dict e2) (rowOf_dict e2)⟩
     | 5, _ => exact ⟨_, atI_nat rfl, bad_other (.tup e3) (by simp only [rowOf, e3])⟩
     | 6, _ => exact ⟨_, atI_nat rfl, bad_other (.tup e4) (by simp only [rowOf, e4])⟩
    exact ⟨_, rfl, _, _, rfl, rfl, ⟨by decide, by decide⟩, _, _, rfl, rfl, (by show (0 : Int) < 7; decide), L2, _, _, v, rfl, rfl, SqL.of eL2, ev, k v G2 (s.trans zz) bv⟩
   ·refine ⟨_, rfl, a, _, _, rfl, rfl, pic.top, by decide, by decide, ?_, fun p1 h1 => ⟨_, rfl, p1, _, rfl, SqL.of upd_same, fun p2 h2 => ?_⟩⟩
    ·rw [List.length_map, hpl]
     exact Nat.le_trans (Nat.mul_le_mul_right 25 h24) (by decide)
    ·rw [show (25 : Int) = ((25 : Nat) : Int) from rfl, cut_hi]
     have zz := (same_new (o := HO.lst (List.replicate (((25 : Nat) : Int)).toNat (ps.map V.ref)).flatten) h1).trans (same_new (o := HO.lst ((List.replicate (((25 : Nat) : Int)).toNat (ps.map V.ref)).flatten.take 25)) h2)
     have hlen : ((List.replicate (((25 : Nat) : Int)).toNat (ps.map V.ref)).flatten.take 25).length = 25 := by
      rw [List.length_take, len_rep, List.length_map, hpl]
      show min 25 (25 * rows.length) = 25
      omega
     refine k (.ref p2) _ (s.trans zz) (bad_len upd_same (by rw [hlen]; decide) (fun x hx => ?_) (by rw [hlen]; rfl))
     have hx := List.mem_of_mem_take hx
     obtain ⟨l, hl, hxl⟩ := List.mem_flatten.mp hx
     rw [(List.mem_replicate.mp hl).2] at hxl
     exact rw_rows (pic.mono zz) gd x hxl
   ·refine ⟨_, rfl, a, rfl, ⟨_, SqL.of pic.top⟩, fun D hD => ?_⟩
    refine comp_rows (k := 0) (fun _ => List.replicate 25 (V.int 0)) (src_list (SqL.of pic.top)) (by rw [List.length_map, hpl]; exact Nat.le_trans h24 (by decide)) hD (fun x hx H' Q' sm kk => ?_) fun qs H' sm fr pic' => ?_
    ·refine ⟨sz1, fun l hl => ⟨l, _, _, rfl, rfl, upd_same, by decide, by decide, by decide, fun p hp => kk p _ ((same_new hl).trans (same_new hp)) ((same_new (o := HO.lst [V.int 0]) hl).free hp) ?_⟩⟩
     rw [upd_same]; rfl
    ·have hlq : qs.length = rows.length := by rw [pic'.len, List.length_map, List.length_map, hpl]
     have row : ∀ {q}, q ∈ qs → H' q = some (.lst (List.replicate 25 (V.int 0))) := fun {q} hq => by
      obtain ⟨r, hr, e⟩ := pic'.mem hq
      obtain ⟨_, _, rfl⟩ := List.mem_map.mp hr
      exact e
     obtain ⟨q0, hq0⟩ : ∃ q0, q0 ∈ qs := by
      cases qs with
      | nil => simp at hlq; omega
      | cons q r => exact ⟨q, List.mem_cons_self⟩
     refine k (.ref D) H' (s.trans sm) (bad_row (v := .ref q0) pic'.top (by rw [List.length_map, hlq]; omega) (fun x hx => ?_) (List.mem_map.mpr ⟨q0, hq0, rfl⟩) (.inl ?_))
     ·obtain ⟨q, hq, rfl⟩ := List.mem_map.mp hx
      exact Rw.lst (row hq) (by rw [List.length_replicate]; decide) fun y hy => by rw [(List.mem_replicate.mp hy).2]; exact .int _
     ·unfold rowQ
      rw [rowOf_lst (row hq0)]
      rfl
   ·have n8 : m ≠ 8 := fun e => z8 (by rw [e]; exact decide_eq_true rfl)
    have n9 : m ≠ 9 := fun e => z9 (by rw [e]; exact decide_eq_true rfl)
    have n10 : m ≠ 10 := fun e => z10 (by rw [e]; exact decide_eq_true rfl)
    obtain ⟨kx, ekx, v, ev, fv⟩ : ∃ kx : Int, atI [V.int 0, V.int 0, V.int 0, V.int 0, V.int 0, V.int 0, V.int 2, V.int 1, V.int 0, V.int 0, V.int 0, V.int 6] (m : Int) = some (.int kx) ∧ ∃ v, atI xs (if kx < (xs.length : Int) - 1 then kx else (xs.length : Int) - 1) = some v ∧ (Rw K G v ∧ (rowQ G v = false ∨ (lenOf G v ≠ wd ∧ rows.length ≠ 1))) := by
     rcases hxs with rfl | ⟨rfl, h6, hne⟩
     ·obtain ⟨kx, hk0, ek⟩ : ∃ kx : Int, 0 ≤ kx ∧ atI [V.int 0, V.int 0, V.int 0, V.int 0, V.int 0, V.int 0, V.int 2, V.int 1, V.int 0, V.int 0, V.int 0, V.int 6] (m : Int) = some (.int kx) := by
       match m, hm with
       | 0, _ => exact ⟨_, by decide, atI_nat rfl⟩
       | 1, _ => exact ⟨_, by decide, atI_nat rfl⟩
       | 2, _ => exact ⟨_, by decide, atI_nat rfl⟩
       | 3, _ => exact ⟨_, by decide, atI_nat rfl⟩
       | 4, _ => exact ⟨_, by decide, atI_nat rfl⟩
       | 5, _ => exact ⟨_, by decide, atI_nat rfl⟩
       | 6, _ => exact ⟨_, by decide, atI_nat rfl⟩
       | 7, _ => exact ⟨_, by decide, atI_nat rfl⟩
       | 8, _ => exact ⟨_, by decide, atI_nat rfl⟩
       | 9, _ => exact ⟨_, by decide, atI_nat rfl⟩
       | 10, _ => exact ⟨_, by decide, atI_nat rfl⟩
       | 11, _ => exact ⟨_, by decide, atI_nat rfl⟩
      refine ⟨kx, ek, v0, ?_, f0.1, .inl f0.2⟩
      have e : (if kx < (([v0].length : Nat) : Int) - 1 then kx else (([v0].length : Nat) : Int) - 1) = ((0 : Nat) : Int) := by
       rw [if_neg (by show ¬ (kx < ((1 : Nat) : Int) - 1); omega)]; rfl
      rw [e]; exact atI_nat rfl
     ·match m, hm, h6, n8, n9, n10, hne with
      | 6, _, _, _, _, _, _ => exact ⟨2, atI_nat rfl, v2, atI_nat (j := 2) rfl, f2.1, .inl f2.2⟩
      | 7, _, _, _, _, _, hne => exact ⟨1, atI_nat rfl, v1, atI_nat (j := 1) rfl, f1.1, .inr ⟨f1.2, hne (.inl rfl)⟩⟩
      | 8, _, _, h, _, _, _ => exact (h rfl).elim
      | 9, _, _, _, h, _, _ => exact (h rfl).elim
      | 10, _, _, _, _, h, _ => exact (h rfl).elim
      | 11, _, _, _, _, _, hne => exact ⟨6, atI_nat rfl, v6, atI_nat (j := 6) rfl, f6.1, .inr ⟨f6.2, hne (.inr rfl)⟩⟩
    refine ⟨_, rfl, _, rfl, L, _, rfl, .inl (SqL.of eL), _, _, rfl, rfl, sz12, fun L2 hL2 => ?_⟩
    have sn := same_new (o := HO.lst [V.int 0, V.int 0, V.int 0, V.int 0, V.int 0, V.int 0, V.int 2, V.int 1, V.int 0, V.int 0, V.int 0, V.int 6]) hL2
    have eL2 : upd G L2 (HO.lst [V.int 0, V.int 0, V.int 0, V.int 0, V.int 0, V.int 0, V.int 2, V.int 1, V.int 0, V.int 0, V.int 0, V.int 6]) L2 = some (HO.lst [V.int 0, V.int 0, V.int 0, V.int 0, V.int 0, V.int 0, V.int 2, V.int 1, V.int 0, V.int 0, V.int 0, V.int 6]) := upd_same
    have eL := sn _ _ eL
    have pic := pic.mono sn
    have s := s.trans sn
    have fv : Rw K (upd G L2 (HO.lst [V.int 0, V.int 0, V.int 0, V.int 0, V.int 0, V.int 0, V.int 2, V.int 1, V.int 0, V.int 0, V.int 0, V.int 6])) v ∧ (rowQ (upd G L2 (HO.lst [V.int 0, V.int 0, V.int 0, V.int 0, V.int 0, V.int 0, V.int 2, V.int 1, V.int 0, V.int 0, V.int 0, V.int 6])) v = false ∨ (lenOf (upd G L2 (HO.lst [V.int 0, V.int 0, V.int 0, V.int 0, V.int 0, V.int 0, V.int 2, V.int 1, V.int 0, V.int 0, V.int 0, V.int 6])) v ≠ wd ∧ rows.length ≠ 1)) := ⟨fv.1.mono sn, by rw [rowQ_mono fv.1.kd sn, lenOf_mono fv.1.kd sn]; exact fv.2⟩
    generalize upd G L2 (HO.lst [V.int 0, V.int 0, V.int 0, V.int 0, V.int 0, V.int 0, V.int 2, V.int 1, V.int 0, V.int 0, V.int 0, V.int 6]) = G2 at s pic eL eL2 fv ⊢
    refine ⟨_, rfl, L2, _, _, .int kx, rfl, rfl, SqL.of eL2, ekx, _, _, rfl, L, _, _, v, rfl, rfl, SqL.of eL, ev, ?_⟩
    refine ⟨_, rfl, _, rfl, _, rfl, a, _, rfl, SqL.of pic.top, fun q1 g1 => ?_⟩
    rw [cut_hi]
    have z1 := same_new (o := HO.lst ((ps.map V.ref).take y)) g1
    refine ⟨_, rfl, sz1, fun q2 g2 => ?_⟩
    have z2 := same_new (o := HO.lst [v]) g2
    have lps : (ps.map V.ref).length = rows.length := by rw [List.length_map, hpl]
    refine ⟨q1, q2, _, _, rfl, rfl, z2 _ _ upd_same, upd_same, Nat.le_trans (by rw [List.length_take, List.length_singleton]; omega : _ ≤ 2000) (by decide), fun q3 g3 => ?_⟩
    have z3 := same_new (o := HO.lst ((ps.map V.ref).take y ++ [v])) g3
    have z13 := (z1.trans z2).trans z3
    refine ⟨_, rfl, _, rfl, _, _, rfl, rfl, _, rfl, a, _, rfl, SqL.of (z13 _ _ pic.top), fun q4 g4 => ?_⟩
    have ey : (y : Int) + 1 = ((y + 1 : Nat) : Int) := by omega
    rw [ey, cut_lo]
    have z4 := same_new (o := HO.lst ((ps.map V.ref).drop (y + 1))) g4
    refine ⟨q3, q4, _, _, rfl, rfl, z4 _ _ upd_same, upd_same, Nat.le_trans (by rw [List.length_append, List.length_take, List.length_drop, List.length_singleton]; omega : _ ≤ 5000) (by decide), fun q5 g5 => ?_⟩
    have zz := z13.trans (z4.trans (same_new (o := HO.lst (((ps.map V.ref).take y ++ [v]) ++ (ps.map V.ref).drop (y + 1))) g5))
    have picZ := pic.mono zz
    have rv := fv.1.mono zz
    refine k (.ref q5) _ (s.trans zz) (bad_row (v := v) upd_same ?_ (fun x hx => ?_) (by simp) ?_)
    ·rw [List.length_append, List.length_append, List.length_take, List.length_drop, List.length_singleton]; omega
    ·rcases List.mem_append.mp hx with hx | hx
     ·rcases List.mem_append.mp hx with hx | hx
      ·exact rw_rows picZ gd x (List.mem_of_mem_take hx)
      ·rw [List.mem_singleton.mp hx]; exact rv
     ·exact rw_rows picZ gd x (List.mem_of_mem_drop hx)
    ·rcases fv.2 with h | ⟨h, hne⟩
     ·left; rw [rowQ_mono fv.1.kd zz]; exact h
     ·right
      obtain ⟨u, hu⟩ : ∃ u, u ∈ (ps.map V.ref).take y ∨ u ∈ (ps.map V.ref).drop (y + 1) := by
       by_cases h0 : 0 < y
       ·exact ⟨(ps.map V.ref)[0], .inl (List.mem_take_iff_getElem.mpr ⟨0, by omega, rfl⟩)⟩
       ·refine ⟨(ps.map V.ref)[y + 1], .inr ?_⟩
        rw [List.drop_eq_getElem_cons (by omega)]; exact List.mem_cons_self
      have hum : u ∈ ps.map V.ref := by
       rcases hu with hu | hu
       ·exact List.mem_of_mem_take hu
       ·exact List.mem_of_mem_drop hu
      refine ⟨u, by rcases hu with hu | hu <;> simp [hu], ?_⟩
      rw [len_good picZ gd u hum, lenOf_mono fv.1.kd zz]
      exact Ne.symm h
  obtain ⟨t5, r5, k5⟩ : ∃ tr, PSs ((cxOf CX0 P w K mg base nmwrongpicture "_law_wrong_picture" (defScope s_law_wrong_picture) f cdv A outer s H E).nox) ((defBody s_law_wrong_picture).drop 5) tr ∧ ∀ (y : Nat) (L : Addr) (v0 v1 v2 v3 v4 v5 v6 : V) (o3 o4 o5 : Option V) (G : Hp), y < rows.length → Same H G → G L = some (.lst [v0, v1, v2, v3, v4, v5, v6]) →
    (Rw K G v0 ∧ rowQ G v0 = false) → (Rw K G v1 ∧ lenOf G v1 ≠ wd) → (Rw K G v2 ∧ rowQ G v2 = false) → (Rw K G v6 ∧ lenOf G v6 ≠ wd) →
    tr { nx := fun _ H' => Q .non H', rt := Q } [some (.int (n : Int)), some (.ref a), some (.int (y : Int)), o3, o4, o5, some (.ref L), none, none] G := by
   refine ⟨_, (pss_cons (ps_set (i := 7) sc_law_wrong_picture.nd rfl (by first | exact Or.inl rfl | exact Or.inr rfl) (pe_op op_mod (pv 0) pe_int))
    (pss_cons (ps_if (PW.pt (pw_or (pt_cmpR op_lt (pv 7) pe_int (nomark _)) (pw_or1 (PW.pt (pw_and (pt_cmpR op_eq (pe_callB (lenK K rfl) rfl T.len PySem.boot_len (pa_cons (pv 1) pa_nil)) pe_int (nomark _)) (pw_and1 (pt_cmpR op_in_seq (pv 7) (pe_tup (pa_cons pe_int (pa_cons pe_int pa_nil))) (by with_unfolding_all rfl)))))))) (pss_one (ps_set (i := 6) sc_law_wrong_picture.nd rfl (by first | exact Or.inl rfl | exact Or.inr rfl) (pe_slice (slK K rfl) (pv 6) po_none (po_some pe_int)))) pss_nil)
    (@r7))), ?_⟩
   intro y L v0 v1 v2 v3 v4 v5 v6 o3 o4 o5 G hy s eL f0 f1 f2 f6
   obtain ⟨m, hm, em⟩ : ∃ m : Nat, m < 12 ∧ (n : Int) % 12 = (m : Int) := ⟨n % 12, by omega, by omega⟩
   have pic := pic.mono s
   refine ⟨_, rfl, _, _, rfl, rfl, (by show (0 : Int) < 12; decide), ?_⟩
   show gName 7 (.int ((n : Int) % 12)) _ G _
   rw [em]
   have cut : ∀ {G2 : Hp}, Same G G2 → ∀ p, G2 p = none → t7 { nx := fun _ H' => Q .non H', rt := Q } [some (.int (n : Int)), some (.ref a), some (.int (y : Int)), o3, o4, o5, some (.ref p), some (.int (m : Int)), none] (upd G2 p (.lst (cutV [v0, v1, v2, v3, v4, v5, v6] none (some 1)))) := fun {G2} s2 p hp => by
    have zz := s2.trans (same_new (o := HO.lst (cutV [v0, v1, v2, v3, v4, v5, v6] none (some 1))) hp)
    exact k7 m y p v0 v1 v2 v3 v4 v5 v6 _ o3 o4 o5 _ hm hy (s.trans zz) upd_same ⟨f0.1.mono zz, by rw [rowQ_mono f0.1.kd zz]; exact f0.2⟩ ⟨f1.1.mono zz, by rw [lenOf_mono f1.1.kd zz]; exact f1.2⟩ ⟨f2.1.mono zz, by rw [rowQ_mono f2.1.kd zz]; exact f2.2⟩ ⟨f6.1.mono zz, by rw [lenOf_mono f6.1.kd zz]; exact f6.2⟩ (.inl rfl)
   have whole : ∀ {G2 : Hp}, Same G G2 → 6 ≤ m → (m = 7 ∨ m = 11 → rows.length ≠ 1) → t7 { nx := fun _ H' => Q .non H', rt := Q } [some (.int (n : Int)), some (.ref a), some (.int (y : Int)), o3, o4, o5, some (.ref L), some (.int (m : Int)), none] G2 := fun {G2} zz h6 hne =>
    k7 m y L v0 v1 v2 v3 v4 v5 v6 _ o3 o4 o5 _ hm hy (s.trans zz) (zz _ _ eL) ⟨f0.1.mono zz, by rw [rowQ_mono f0.1.kd zz]; exact f0.2⟩ ⟨f1.1.mono zz, by rw [lenOf_mono f1.1.kd zz]; exact f1.2⟩ ⟨f2.1.mono zz, by rw [rowQ_mono f2.1.kd zz]; exact f2.2⟩ ⟨f6.1.mono zz, by rw [lenOf_mono f6.1.kd zz]; exact f6.2⟩ (.inr ⟨rfl, h6, hne⟩)
   refine ⟨_, rfl, _, _, rfl, rfl, _, rfl, ite2 (fun z => ?_) (fun z6 => ⟨_, rfl, a, _, rfl, .inl (SqL.of pic.top), rfl, _, rfl, ite2 (fun z1 => ?_) (fun z1 => ?_)⟩)⟩
   ·exact ⟨_, rfl, _, rfl, L, _, rfl, SqL.of eL, fun p hp => cut (Same.refl G) p hp⟩
   ·have h6 : 6 ≤ m := by
     have : ¬ (m : Int) < 6 := fun w => z6 (decide_eq_true w)
     omega
    refine ⟨_, rfl, sz2, fun t ht => ⟨t, _, rfl, .inr (SqT.of upd_same), rfl, rfl, _, rfl, iteB (fun z2 => ?_) (fun z2 => ?_)⟩⟩
    ·have sn := same_new (o := HO.tup [V.int 7, V.int 11]) ht
     exact ⟨_, rfl, _, rfl, L, _, rfl, SqL.of (sn _ _ eL), fun p hp => cut sn p hp⟩
    ·have sn := same_new (o := HO.tup [V.int 7, V.int 11]) ht
     refine whole sn h6 fun w => ?_
     have := in2.mpr w
     have z3 : inV (.int (m : Int)) [V.int 7, V.int 11] = false := z2
     rw [this] at z3; cases z3
   ·have h6 : 6 ≤ m := by
     have : ¬ (m : Int) < 6 := fun w => z6 (decide_eq_true w)
     omega
    refine whole (Same.refl G) h6 fun _ e => z1 ?_
    refine decide_eq_true ?_
    rw [List.length_map, hpl, e]; rfl
  obtain ⟨t3, r3, k3⟩ : ∃ tr, PSs ((cxOf CX0 P w K mg base nmwrongpicture "_law_wrong_picture" (defScope s_law_wrong_picture) f cdv A outer s H E).nox) ((defBody s_law_wrong_picture).drop 3) tr ∧ ∀ (x y : Nat) (odd : V) (G : Hp), x < wd → y < rows.length → Same H G → Kd K G odd → isWh 0 15 odd = false →
    tr { nx := fun _ H' => Q .non H', rt := Q } [some (.int (n : Int)), some (.ref a), some (.int (y : Int)), some (.int (x : Int)), some odd, none, none, none, none] G := by
   refine ⟨_, (pss_cons (ps_set (i := 5) sc_law_wrong_picture.nd rfl (by first | exact Or.inl rfl | exact Or.inr rfl) (pe_ix (ixK K rfl) (pv 1) (pv 2) (fun _ _ => rfl)))
    (pss_cons (ps_set (i := 6) sc_law_wrong_picture.nd rfl (by first | exact Or.inl rfl | exact Or.inr rfl) (pe_lst (pa_cons (pe_op op_cat (pe_op op_cat (pe_slice (slK K rfl) (pv 5) po_none (po_some (pv 3))) (pe_lst (pa_cons (pv 4) pa_nil))) (pe_slice (slK K rfl) (pv 5) (po_some (pe_op op_add (pv 3) pe_int)) po_none)) (pa_cons (pe_op op_cat (pv 5) (pe_lst (pa_cons pe_int pa_nil))) (pa_cons (pe_callTy call_tuple_of rfl T.tuple PyProof.Rows.boot_tuple (pa_cons (pv 5) pa_nil)) (pa_cons pe_non (pa_cons (pe_op op_mulS1 pe_str (pe_callB (lenK K rfl) rfl T.len PySem.boot_len (pa_cons (pv 5) pa_nil))) (pa_cons (pe_lst pa_nil) (pa_cons (pe_slice (slK K rfl) (pv 5) po_none (po_some (pv 3))) pa_nil)))))))))
    (@r5))), ?_⟩
   intro x y odd G hx hy s ko io
   have pic := pic.mono s
   obtain ⟨r, hr1, hr2, hr3⟩ := gd.get hy
   obtain ⟨q, hq, eq⟩ := PicV.row_at pic hr1
   have lr : (r.map V.int).length = wd := by rw [List.length_map, hr2]
   refine ⟨_, rfl, _, rfl, a, _, _, .ref q, rfl, rfl, SqL.of pic.top, atI_nat (by rw [List.getElem?_map, hq]; rfl), ?_⟩
   refine ⟨_, rfl, _, rfl, _, rfl, q, _, rfl, SqL.of eq, fun p1 g1 => ?_⟩
   rw [cut_hi]
   have z1 := same_new (o := HO.lst ((r.map V.int).take x)) g1
   refine ⟨_, rfl, sz1, fun p2 g2 => ?_⟩
   have z2 := same_new (o := HO.lst [odd]) g2
   have z12 := z1.trans z2
   refine ⟨p1, p2, _, _, rfl, rfl, z2 _ _ upd_same, upd_same, Nat.le_trans (by rw [List.length_take, List.length_singleton]; omega : _ ≤ 2000) (by decide), fun p3 g3 => ?_⟩
   have z3 := same_new (o := HO.lst ((r.map V.int).take x ++ [odd])) g3
   have z13 := z12.trans z3
   refine ⟨_, rfl, _, rfl, _, _, rfl, rfl, _, rfl, q, _, rfl, SqL.of (z13 _ _ eq), fun p4 g4 => ?_⟩
   have ex : (x : Int) + 1 = ((x + 1 : Nat) : Int) := by omega
   rw [ex, cut_lo]
   have z4 := same_new (o := HO.lst ((r.map V.int).drop (x + 1))) g4
   refine ⟨p3, p4, _, _, rfl, rfl, z4 _ _ upd_same, upd_same, Nat.le_trans (by rw [List.length_append, List.length_take, List.length_drop, List.length_singleton]; omega : _ ≤ 5000) (by decide), fun p5 g5 => ?_⟩
   have zz := z13.trans (z4.trans (same_new (o := HO.lst (((r.map V.int).take x ++ [odd]) ++ (r.map V.int).drop (x + 1))) g5))
   have e5 : upd (upd (upd (upd (upd G p1 (HO.lst ((r.map V.int).take x))) p2 (HO.lst [odd])) p3 (HO.lst ((r.map V.int).take x ++ [odd]))) p4 (HO.lst ((r.map V.int).drop (x + 1)))) p5 (HO.lst (((r.map V.int).take x ++ [odd]) ++ (r.map V.int).drop (x + 1))) p5 = some (HO.lst (((r.map V.int).take x ++ [odd]) ++ (r.map V.int).drop (x + 1))) := upd_same
   have s := s.trans zz
   have eq := zz _ _ eq
   have ko := ko.mono zz
   generalize upd (upd (upd (upd (upd G p1 (HO.lst ((r.map V.int).take x))) p2 (HO.lst [odd])) p3 (HO.lst ((r.map V.int).take x ++ [odd]))) p4 (HO.lst ((r.map V.int).drop (x + 1)))) p5 (HO.lst (((r.map V.int).take x ++ [odd]) ++ (r.map V.int).drop (x + 1))) = G5 at s eq ko e5 ⊢
   have r5' : Rw K G5 (.ref p5) := Rw.lst e5 (by rw [List.length_append, List.length_append, List.length_take, List.length_drop, List.length_singleton]; omega) fun y hy => by
    rcases List.mem_append.mp hy with hy | hy
    ·rcases List.mem_append.mp hy with hy | hy
     ·exact kd_ints y (List.mem_of_mem_take hy)
     ·rw [List.mem_singleton.mp hy]; exact ko
    ·exact kd_ints y (List.mem_of_mem_drop hy)
   have q5 : rowQ G5 (.ref p5) = false := by
    unfold rowQ
    rw [rowOf_lst e5]
    unfold rowB
    dsimp only
    rw [List.all_append, List.all_append]
    have : [odd].all (isWh 0 15) = false := by rw [List.all_cons, io, Bool.false_and]
    rw [this, Bool.and_false, Bool.false_and, Bool.false_and]
   clear e5 z1 z2 z3 z4 z12 z13 zz g1 g2 g3 g4 g5 ko
   refine ⟨_, rfl, sz1, fun p6 g6 => ?_⟩
   have z6 := same_new (o := HO.lst [V.int 0]) g6
   refine ⟨q, p6, _, _, rfl, rfl, z6 _ _ eq, upd_same, Nat.le_trans (by rw [List.length_singleton]; omega : _ ≤ 2000) (by decide), fun p7 g7 => ?_⟩
   have z67 := z6.trans (same_new (o := HO.lst (r.map V.int ++ [V.int 0])) g7)
   have e7 : upd (upd G5 p6 (HO.lst [V.int 0])) p7 (HO.lst (r.map V.int ++ [V.int 0])) p7 = some (HO.lst (r.map V.int ++ [V.int 0])) := upd_same
   have s := s.trans z67
   have eq := z67 _ _ eq
   have q5 := (rowQ_mono r5'.kd z67).trans q5
   have r5' := r5'.mono z67
   generalize upd (upd G5 p6 (HO.lst [V.int 0])) p7 (HO.lst (r.map V.int ++ [V.int 0])) = G7 at s eq q5 r5' e7 ⊢
   have r7' : Rw K G7 (.ref p7) := Rw.lst e7 (by rw [List.length_append, List.length_singleton]; omega) fun y hy => by
    rcases List.mem_append.mp hy with hy | hy
    ·exact kd_ints y hy
    ·rw [List.mem_singleton.mp hy]; exact .int 0
   have l7 : lenOf G7 (.ref p7) ≠ wd := by rw [lenOf_lst e7, List.length_append, List.length_singleton, lr]; omega
   clear e7 z67 z6 g6 g7
   refine ⟨_, rfl, q, _, rfl, .inl ⟨SqL.of eq, fun p8 g8 => ?_⟩⟩
   have z8 := same_new (o := HO.tup (r.map V.int)) g8
   have e8 : upd G7 p8 (HO.tup (r.map V.int)) p8 = some (HO.tup (r.map V.int)) := upd_same
   have s := s.trans z8
   have eq := z8 _ _ eq
   have q5 := (rowQ_mono r5'.kd z8).trans q5
   have r5' := r5'.mono z8
   have l7 : lenOf (upd G7 p8 (HO.tup (r.map V.int))) (.ref p7) ≠ wd := by rw [lenOf_mono r7'.kd z8]; exact l7
   have r7' := r7'.mono z8
   generalize upd G7 p8 (HO.tup (r.map V.int)) = G8 at s eq q5 r5' l7 r7' e8 ⊢
   have r8' : Rw K G8 (.ref p8) := Rw.tup e8
   have q8 : rowQ G8 (.ref p8) = false := by
    have : rowOf G8 (.ref p8) = none := by simp only [rowOf, e8]
    unfold rowQ; rw [this]
   clear e8 z8 g8
   refine ⟨_, rfl, q, _, rfl, .inl (SqL.of eq), _, _, rfl, rfl, rfl, ⟨by show (1 : Int) ≤ ((r.map V.int).length : Int); omega, by show ((r.map V.int).length : Int) ≤ 10000; omega⟩, fun zs => ?_⟩
   refine ⟨Nat.zero_le _, fun p9 g9 => ?_⟩
   have z9 := same_new (o := HO.lst []) g9
   refine ⟨_, rfl, _, rfl, _, rfl, q, _, rfl, SqL.of (z9 _ _ eq), fun p10 g10 => ?_⟩
   rw [cut_hi]
   have z10 := same_new (o := HO.lst ((r.map V.int).take x)) g10
   have e10 : upd (upd G8 p9 (HO.lst [])) p10 (HO.lst ((r.map V.int).take x)) p10 = some (HO.lst ((r.map V.int).take x)) := upd_same
   refine ⟨sz7, fun L hL => ?_⟩
   have zL := same_new (o := HO.lst [V.ref p5, V.ref p7, V.ref p8, V.non, V.str zs, V.ref p9, V.ref p10]) hL
   have zA := (z9.trans z10).trans zL
   have e10' := zL _ _ e10
   have r10 := Rw.lst (K := K) e10' (by rw [List.length_take]; omega) fun y hy => kd_ints y (List.mem_of_mem_take hy)
   refine k5 y L (.ref p5) (.ref p7) (.ref p8) .non (.str zs) (.ref p9) (.ref p10) _ _ _ _ hy (s.trans zA) upd_same ⟨r5'.mono zA, by rw [rowQ_mono r5'.kd zA]; exact q5⟩ ⟨r7'.mono zA, by rw [lenOf_mono r7'.kd zA]; exact l7⟩ ⟨r8'.mono zA, by rw [rowQ_mono r8'.kd zA]; exact q8⟩ ⟨r10, by rw [lenOf_lst e10', List.length_take]; omega⟩
  refine ⟨_, (pss_cons (ps_set (i := 2) sc_law_wrong_picture.nd rfl (by first | exact Or.inl rfl | exact Or.inr rfl) (pe_op op_mod (pe_op op_fdiv (pv 0) pe_int) (pe_callB (lenK K rfl) rfl T.len PySem.boot_len (pa_cons (pv 1) pa_nil))))
    (pss_cons (ps_set (i := 3) sc_law_wrong_picture.nd rfl (by first | exact Or.inl rfl | exact Or.inr rfl) (pe_op op_mod (pe_op op_fdiv (pv 0) pe_int) (pe_callB (lenK K rfl) rfl T.len PySem.boot_len (pa_cons (pe_ix (ixK K rfl) (pv 1) pe_int (fun _ _ => rfl)) pa_nil))))
    (pss_cons (ps_set (i := 4) sc_law_wrong_picture.nd rfl (by first | exact Or.inl rfl | exact Or.inr rfl) (pe_ix (ixK K rfl) (pe_lst (pa_cons pe_int (pa_cons (pe_un un_neg pe_int) (pa_cons pe_bl (pa_cons pe_non (pa_cons pe_str (pa_cons (pe_lst (pa_cons pe_int pa_nil)) (pa_cons (pe_op op_pow pe_int pe_int) (pa_cons pe_bl pa_nil))))))))) (pe_op op_mod (pe_op op_fdiv (pv 0) pe_int) pe_int) (fun _ _ => rfl)))
    (@r3)))), ?_⟩
  have hpos : (0 : Int) < ((ps.map V.ref).length : Int) := by rw [List.length_map, hpl]; omega
  obtain ⟨y, hy, ey⟩ := mod_at (n := (n : Int)) (d := 12) (k := (ps.map V.ref).length) (by omega)
  refine ⟨_, rfl, _, _, rfl, rfl, ⟨by decide, by decide⟩, _, rfl, a, _, rfl, .inl (SqL.of pic.top), _, _, rfl, rfl, hpos, ?_⟩
  show gName 2 (.int ((n : Int) / 12 % ((ps.map V.ref).length : Int))) _ H _
  rw [ey]
  obtain ⟨q0, ns, e0, e1, e2⟩ := gd.first pic
  have hposr : (0 : Int) < ((ns.map V.int).length : Int) := by rw [List.length_map, e2]; omega
  obtain ⟨x, hx, ex⟩ := mod_at (n := (n : Int)) (d := 300) (k := (ns.map V.int).length) (by omega)
  refine ⟨_, rfl, _, _, rfl, rfl, ⟨by decide, by decide⟩, _, rfl, a, _, _, _, rfl, rfl, SqL.of pic.top, atI_nat (j := 0) e0, q0, _, rfl, .inl (SqL.of e1), _, _, rfl, rfl, hposr, ?_⟩
  show gName 3 (.int ((n : Int) / 300 % ((ns.map V.int).length : Int))) _ H _
  rw [ex]
  refine ⟨_, rfl, sz1, fun t ht => ⟨_, _, rfl, rfl, ⟨by decide, by decide, by decide⟩, sz8, fun L hL => ?_⟩⟩
  have st := (same_new (o := HO.lst [V.int 0]) ht).trans (same_new (o := HO.lst [V.int 16, V.int (-1), V.bl true, V.non, V.str "0", V.ref t, V.int (10 ^ (20 : Int).toNat), V.bl false]) hL)
  have et : upd (upd H t (HO.lst [V.int 0])) L (HO.lst [V.int 16, V.int (-1), V.bl true, V.non, V.str "0", V.ref t, V.int (10 ^ (20 : Int).toNat), V.bl false]) t = some (HO.lst [V.int 0]) := same_new hL _ _ upd_same
  have eL : upd (upd H t (HO.lst [V.int 0])) L (HO.lst [V.int 16, V.int (-1), V.bl true, V.non, V.str "0", V.ref t, V.int (10 ^ (20 : Int).toNat), V.bl false]) L = some (HO.lst [V.int 16, V.int (-1), V.bl true, V.non, V.str "0", V.ref t, V.int (10 ^ (20 : Int).toNat), V.bl false]) := upd_same
  generalize upd (upd H t (HO.lst [V.int 0])) L (HO.lst [V.int 16, V.int (-1), V.bl true, V.non, V.str "0", V.ref t, V.int (10 ^ (20 : Int).toNat), V.bl false]) = G at st et eL ⊢
  obtain ⟨odd, eo, ko, io⟩ : ∃ odd, atI [V.int 16, V.int (-1), V.bl true, V.non, V.str "0", V.ref t, V.int (10 ^ (20 : Int).toNat), V.bl false] ((n : Int) / 7200 % 8) = some odd ∧ Kd K G odd ∧ isWh 0 15 odd = false := by
   obtain ⟨j, hj, ej⟩ : ∃ j : Nat, j < 8 ∧ (n : Int) / 7200 % 8 = (j : Int) := ⟨((n : Int) / 7200 % 8).toNat, by omega, by omega⟩
   rw [ej]
   match j, hj with
   | 0, _ => exact ⟨_, atI_nat rfl, .int _, rfl⟩
   | 1, _ => exact ⟨_, atI_nat rfl, .int _, rfl⟩
   | 2, _ => exact ⟨_, atI_nat rfl, .bl _, rfl⟩
   | 3, _ => exact ⟨_, atI_nat rfl, .non, rfl⟩
   | 4, _ => exact ⟨_, atI_nat rfl, .str _, rfl⟩
   | 5, _ => exact ⟨_, atI_nat rfl, .lst et, rfl⟩
   | 6, _ => exact ⟨_, atI_nat rfl, .int _, by decide +kernel⟩
   | 7, _ => exact ⟨_, atI_nat rfl, .bl _, rfl⟩
  refine ⟨_, rfl, _, _, rfl, rfl, ⟨by decide, by decide⟩, _, _, rfl, rfl, (by show (0 : Int) < 8; decide), L, _, _, odd, rfl, rfl, SqL.of eL, eo, ?_⟩
  exact k3 x y odd G (by rw [List.length_map, e2] at hx; exact hx) (by rw [List.length_map, hpl] at hy; exact hy) st ko io
end
theorem PicA.mono {K : W.Frag} {H H' : Hp} {x : V} {Y Y' : List (List Int) → Nat → Prop} {N N' : Prop} (s : Same H H') (h : PicA K H x Y N) (hY : ∀ r w, Y r w → Y' r w) (hN : N → N') : PicA K H' x Y' N' := by
 rcases h with ⟨a, ps, rows, wd, e, pic, gd, y⟩ | ⟨th, hb, n⟩
 ·exact .inl ⟨a, ps, rows, wd, e, pic.mono s, gd, hY _ _ y⟩
 ·exact .inr ⟨th.mono s, by rw [picB_mono th s]; exact hb, hN n⟩
theorem One.mono {K : W.Frag} {H H' : Hp} {x : V} {Y Y' : Nat → List Nat → Prop} {N N' : Prop} (s : Same H H') (h : One K H x Y N) (hY : ∀ w r, Y w r → Y' w r) (hN : N → N') : One K H' x Y' N' := by
 rcases h with ⟨a, b, wd, rows, e, mv, gd, y⟩ | ⟨tm, hb, n⟩
 ·exact .inl ⟨a, b, wd, rows, e, mv.mono s, gd, hY _ _ y⟩
 ·exact .inr ⟨tm.mono s, by rw [maskB_mono tm s]; exact hb, hN n⟩
theorem Ref.mono {K : W.Frag} {H H' : Hp} {cBP cBC cBS cBM : Addr} {n : Nat} {x u m l : V} {c : Addr} (s : Same H H') (h : Ref K H cBP cBC cBS cBM n x u m l c) : Ref K H' cBP cBC cBS cBM n x u m l c := by
 rcases h with ⟨e, h⟩ | ⟨e, h⟩ | ⟨e, h⟩
 ·exact .inl ⟨e, h.mono s (fun _ _ y => ⟨y.1.mono s, y.2⟩) id⟩
 ·refine .inr (.inl ⟨e, h.mono s (fun _ _ y => One.mono s y (fun _ _ z => ?_) id) id⟩)
  rcases z with z | ⟨z1, z2, z3⟩
  ·exact .inl z
  ·exact .inr ⟨z1, z2.mono s, z3⟩
 ·refine .inr (.inr ⟨e, h.mono s (fun _ _ y => ?_) id⟩)
  rcases y with ⟨f, y⟩ | y
  ·exact .inl ⟨f.mono s, One.mono s y (fun _ _ z => z) id⟩
  ·exact .inr (y.mono s (fun _ _ y2 => One.mono s y2 (fun _ _ z => z) id) id)
noncomputable def Ask (K : W.Frag) (G : Hp) (cBP cBC cBS cBM : Addr) (v : V) : Prop := ∃ (p : Addr) (n : Nat) (x u mm l : V) (due : Str) (c : Addr) (wd : Str), v = .ref p ∧ G p = some (.tup [.int (n : Int), x, u, mm, l, .str due]) ∧ Wd cBP cBC cBS cBM c wd ∧ ("value " : Str) ++ due = wd ∧ due.length ≤ 100 ∧ Ref K G cBP cBC cBS cBM n x u mm l c
theorem Ask.mono {K : W.Frag} {G G' : Hp} {cBP cBC cBS cBM : Addr} {v : V} (s : Same G G') (h : Ask K G cBP cBC cBS cBM v) : Ask K G' cBP cBC cBS cBM v := by
 obtain ⟨p, n, x, u, mm, l, due, c, wd, e, h1, hw, hd, hl, r⟩ := h
 exact ⟨p, n, x, u, mm, l, due, c, wd, e, s _ _ h1, hw, hd, hl, r.mono s⟩
noncomputable def OM (G : Hp) (w : Addr) (wd h : Nat) : Prop := ∃ w2 ww rw, MaskV G w w2 ww rw ∧ GoodM ww rw ∧ ¬ (wd = ww ∧ h = rw.length)
theorem OM.mono {G G' : Hp} {w : Addr} {wd h : Nat} (o : OM G w wd h) (s : Same G G') : OM G' w wd h := by
 obtain ⟨w2, ww, rw', m, g, n⟩ := o
 exact ⟨w2, ww, rw', m.mono s, g, n⟩
structure RF0 (K : W.Frag) (G : Hp) (a b m : Addr) (wd h : Nat) (vb vm : V) : Prop where
 one : ∃ ps A, PicV G a ps (ir A) ∧ Good A wd ∧ A.length = h
 two : ∃ qs B, PicV G b qs (ir B) ∧ Good B wd ∧ B.length = h
 msk : ∃ m2 rm, MaskV G m m2 wd rm ∧ GoodM wd rm ∧ rm.length = h
 bad : BadP K G vb
 nom : BadT K G vm
theorem RF0.mono {K : W.Frag} {G G' : Hp} {a b m : Addr} {wd h : Nat} {vb vm : V} (r : RF0 K G a b m wd h vb vm) (s : Same G G') : RF0 K G' a b m wd h vb vm := by
 obtain ⟨⟨ps, A, p1, g1, l1⟩, ⟨qs, B, p2, g2, l2⟩, ⟨m2, rm, m1, g3, l3⟩, b1, n1⟩ := r
 exact ⟨⟨ps, A, p1.mono s, g1, l1⟩, ⟨qs, B, p2.mono s, g2, l2⟩, ⟨m2, rm, m1.mono s, g3, l3⟩, b1.mono s, n1.mono s⟩
structure RF (K : W.Frag) (G : Hp) (a b m : Addr) (wd h : Nat) (vb vm vf : V) (w t l : Addr) (vc vl : V) : Prop where
 r0 : RF0 K G a b m wd h vb vm
 far : FarP K G vf wd h
 wide : OM G w wd h
 tall : OM G t wd h
 low : OM G l wd h
 noc : Kd K G vc ∧ isWh 0 15 vc = false
 lst : BadC K G vl
theorem RF.mono {K : W.Frag} {G G' : Hp} {a b m : Addr} {wd h : Nat} {vb vm vf : V} {w t l : Addr} {vc vl : V} (r : RF K G a b m wd h vb vm vf w t l vc vl) (s : Same G G') : RF K G' a b m wd h vb vm vf w t l vc vl :=
 ⟨r.r0.mono s, r.far.mono s, r.wide.mono s, r.tall.mono s, r.low.mono s, ⟨r.noc.1.mono s, r.noc.2⟩, r.lst.mono s⟩
section
variable {K : W.Frag} {G : Hp} {a b m : Addr} {wd h : Nat} {vb vm vf : V} {w t l : Addr} {vc vl : V} {cBP cBC cBS cBM : Addr}
theorem RF.bad0 (r : RF K G a b m wd h vb vm vf w t l vc vl) {n : Nat} {u mm ll : V} (hn : n ≤ 2) : Ref K G cBP cBC cBS cBM n vb u mm ll cBP := by
 match n, hn with
 | 0, _ => exact .inl ⟨rfl, .inr ⟨r.r0.bad.th, r.r0.bad.no, rfl⟩⟩
 | 1, _ => exact .inr (.inl ⟨rfl, .inr ⟨r.r0.bad.th, r.r0.bad.no, rfl⟩⟩)
 | 2, _ => exact .inr (.inr ⟨rfl, .inr ⟨r.r0.bad.th, r.r0.bad.no, rfl⟩⟩)
theorem RF.cell0 (r : RF K G a b m wd h vb vm vf w t l vc vl) {u mm : V} : Ref K G cBP cBC cBS cBM 0 (.ref a) u mm vl cBC := by
 obtain ⟨ps, A, p1, g1, l1⟩ := r.r0.one
 exact .inl ⟨rfl, .inl ⟨a, ps, A, wd, rfl, p1, g1, r.lst, rfl⟩⟩
theorem RF.mask1 (r : RF K G a b m wd h vb vm vf w t l vc vl) {u ll : V} : Ref K G cBP cBC cBS cBM 1 (.ref a) u vm ll cBM := by
 obtain ⟨ps, A, p1, g1, l1⟩ := r.r0.one
 exact .inr (.inl ⟨rfl, .inl ⟨a, ps, A, wd, rfl, p1, g1, .inr ⟨r.r0.nom.tm, r.r0.nom.no, rfl⟩⟩⟩)
theorem RF.size1 (r : RF K G a b m wd h vb vm vf w t l vc vl) {q : Addr} (o : OM G q wd h) {u ll : V} : Ref K G cBP cBC cBS cBM 1 (.ref a) u (.ref q) ll cBS := by
 obtain ⟨ps, A, p1, g1, l1⟩ := r.r0.one
 obtain ⟨w2, ww, rw', mw, gw, nw⟩ := o
 exact .inr (.inl ⟨rfl, .inl ⟨a, ps, A, wd, rfl, p1, g1, .inl ⟨q, w2, ww, rw', rfl, mw, gw, .inl ⟨by rw [l1]; exact nw, rfl⟩⟩⟩⟩)
theorem RF.cell1 (r : RF K G a b m wd h vb vm vf w t l vc vl) {u : V} : Ref K G cBP cBC cBS cBM 1 (.ref a) u (.ref m) vc cBC := by
 obtain ⟨ps, A, p1, g1, l1⟩ := r.r0.one
 obtain ⟨m2, rm, m1, g3, l3⟩ := r.r0.msk
 exact .inr (.inl ⟨rfl, .inl ⟨a, ps, A, wd, rfl, p1, g1, .inl ⟨m, m2, wd, rm, rfl, m1, g3, .inr ⟨⟨rfl, by rw [l1, l3]⟩, r.noc.1, r.noc.2, rfl⟩⟩⟩⟩)
theorem RF.pic2 (r : RF K G a b m wd h vb vm vf w t l vc vl) {mm ll : V} : Ref K G cBP cBC cBS cBM 2 (.ref a) vb mm ll cBP := by
 obtain ⟨ps, A, p1, g1, l1⟩ := r.r0.one
 exact .inr (.inr ⟨rfl, .inl ⟨a, ps, A, wd, rfl, p1, g1, .inr (.inr ⟨r.r0.bad.th, r.r0.bad.no, rfl⟩)⟩⟩)
theorem RF.farM (r : RF K G a b m wd h vb vm vf w t l vc vl) {ll : V} : Ref K G cBP cBC cBS cBM 2 (.ref a) vf vm ll cBM := by
 obtain ⟨ps, A, p1, g1, l1⟩ := r.r0.one
 exact .inr (.inr ⟨rfl, .inl ⟨a, ps, A, wd, rfl, p1, g1, .inl ⟨by rw [l1]; exact r.far, .inr ⟨r.r0.nom.tm, r.r0.nom.no, rfl⟩⟩⟩⟩)
theorem RF.farS (r : RF K G a b m wd h vb vm vf w t l vc vl) {ll : V} : Ref K G cBP cBC cBS cBM 2 (.ref a) vf (.ref m) ll cBS := by
 obtain ⟨ps, A, p1, g1, l1⟩ := r.r0.one
 obtain ⟨m2, rm, m1, g3, l3⟩ := r.r0.msk
 exact .inr (.inr ⟨rfl, .inl ⟨a, ps, A, wd, rfl, p1, g1, .inl ⟨by rw [l1]; exact r.far, .inl ⟨m, m2, wd, rm, rfl, m1, g3, rfl⟩⟩⟩⟩)
theorem RF.size2 (r : RF K G a b m wd h vb vm vf w t l vc vl) {q : Addr} (o : OM G q wd h) {ll : V} : Ref K G cBP cBC cBS cBM 2 (.ref a) (.ref b) (.ref q) ll cBS := by
 obtain ⟨ps, A, p1, g1, l1⟩ := r.r0.one
 obtain ⟨qs, B, p2, g2, l2⟩ := r.r0.two
 obtain ⟨w2, ww, rw', mw, gw, nw⟩ := o
 exact .inr (.inr ⟨rfl, .inl ⟨a, ps, A, wd, rfl, p1, g1, .inr (.inl ⟨b, qs, B, wd, rfl, p2, g2, .inl ⟨q, w2, ww, rw', rfl, mw, gw, fun z => nw (by rw [← l1]; exact z.2), rfl⟩⟩)⟩⟩)
theorem far_good {u : Addr} {qs : List Addr} {R : List (List Int)} {w2 : Nat} (p : PicV G u qs (ir R)) (g : Good R w2) (hn : ¬ (wd = w2 ∧ h = R.length)) : FarP K G (.ref u) wd h := by
 refine ⟨(th_good p g).1, picB_good p g, fun xs e => ?_⟩
 rw [rowOf_lst p.top] at e; cases e
 rw [head_good p g, List.length_map, p.len, ir_len]
 exact hn
end
noncomputable def spRefused (K : W.Frag) : Sp := fun vs H Q _ => ∃ (a b m m2 : Addr) (ps qs : List Addr) (A B : List (List Int)) (wd : Nat) (rm : List Nat) (n : Nat), vs = [.ref a, .ref b, .ref m, .int (n : Int)] ∧ PicV H a ps (ir A) ∧ Good A wd ∧ PicV H b qs (ir B) ∧ Good B wd ∧ B.length = A.length ∧ MaskV H m m2 wd rm ∧ GoodM wd rm ∧ rm.length = A.length ∧ ∀ H', Same H H' → Q (.bl true) H'
section
variable {P : Program} {w : World} {K : W.Frag} {mg : Str → Option Value} {base : Heap} {cFE cBP cBC cBS cBM : Addr} {tS tC : Tok}
noncomputable abbrev nmrefused : List Str := ["_law_one", "_law_other", "_law_mask_here", "_law_number", "_law_bad", "_law_no_mask", "_law_far", "_law_wide", "_law_tall", "_law_low", "_law_no_cell", "_law_lists", "_law_asked", "_law_which", "_law_first", "_law_second", "_law_third", "_law_last", "_law_due"]
theorem sc_law_refused : FnScope ["_law_one", "_law_other", "_law_mask_here", "_law_number", "_law_bad", "_law_no_mask", "_law_far", "_law_wide", "_law_tall", "_law_low", "_law_no_cell", "_law_lists", "_law_asked", "_law_which", "_law_first", "_law_second", "_law_third", "_law_last", "_law_due"] ["_law_one", "_law_other", "_law_mask_here", "_law_number"] (defScope s_law_refused) := ⟨rfl, rfl, rfl, by decide +kernel, rfl, by decide +kernel, by decide +kernel⟩
theorem ok__law_refused {f : Addr} {fd : FuncData} (F : FunD K "_law_refused" "_law_refused" s_law_refused .none f fd) (T : Txt K mg cFE cBP cBC cBS cBM tS tC) (g__law_wrong_picture : Def P w K mg base 1 "_law_wrong_picture" ["_law_number", "_law_picture_here"] [] (spWrongP K)) (g__law_wrong_mask : Def P w K mg base 2 "_law_wrong_mask" ["_law_number", "_law_mask_here"] [] (spWrong K)) (g__law_wrong_cell : Def P w K mg base 1 "_law_wrong_cell" ["_law_number"] [] (spWrongC K)) (g__law_word : Def P w K mg base 10 "_law_word" ["_law_which", "_law_one", "_law_other", "_law_mask_here", "_law_last"] [] (spWord K cBP cBC cBS cBM)) : FnOk P w K mg base CX0 11 f fd ["_law_one", "_law_other", "_law_mask_here", "_law_number"] (spRefused K) := by
 refine F.ok sc_law_refused (fun vs H Q E h => ?_) (fun cdv A outer s H vs Q E hr h => ?_)
 ·obtain ⟨a, b, m, m2, ps, qs, PA, B, wd, rm, n, rfl, _⟩ := h; rfl
 ·obtain ⟨a, b, m, m2, ps, qs, PA, B, wd, rm, n, rfl, po, ga, pb, gb, hl, mv, gm, hm, k⟩ := h
  obtain ⟨t17, r17, k17⟩ : ∃ tr, PSs ((cxOf CX0 P w K mg base nmrefused "_law_refused" (defScope s_law_refused) f cdv A outer s H E).nox) ((defBody s_law_refused).drop 17) tr ∧ ∀ (vb vm vf vc vl : V) (w t l : Addr) (G : Hp) (L : Addr) (xs : List V), RF K G a b m wd PA.length vb vm vf w t l vc vl → Same H G → G L = some (.lst xs) → xs.length ≤ 16 → (∀ v ∈ xs, Ask K G cBP cBC cBS cBM v) → tr { nx := fun _ H' => Q .non H', rt := Q } [some (.ref a), some (.ref b), some (.ref m), some (.int (n : Int)), some vb, some vm, some vf, some (.ref w), some (.ref t), some (.ref l), some vc, some vl, some (.ref L), none, none, none, none, none, none] G := by
   refine ⟨_, (pss_cons (ps_for PassesOwn.never rfl (piK K rfl (pv 12)) (pg_tup rfl (pgs_cons (pg_name (i := 13) sc_law_refused.nd rfl (by first | exact Or.inl rfl | exact Or.inr rfl)) (pgs_cons (pg_name (i := 14) sc_law_refused.nd rfl (by first | exact Or.inl rfl | exact Or.inr rfl)) (pgs_cons (pg_name (i := 15) sc_law_refused.nd rfl (by first | exact Or.inl rfl | exact Or.inr rfl)) (pgs_cons (pg_name (i := 16) sc_law_refused.nd rfl (by first | exact Or.inl rfl | exact Or.inr rfl)) (pgs_cons (pg_name (i := 17) sc_law_refused.nd rfl (by first | exact Or.inl rfl | exact Or.inr rfl)) (pgs_cons (pg_name (i := 18) sc_law_refused.nd rfl (by first | exact Or.inl rfl | exact Or.inr rfl)) pgs_nil))))))) (pss_one (ps_if (pt_cmpR op_ne (pe_callD g__law_word (hr.mono (by decide)) rfl (pa_cons (pv 13) (pa_cons (pv 14) (pa_cons (pv 15) (pa_cons (pv 16) (pa_cons (pv 17) pa_nil)))))) (pe_op op_add_str pe_str (pv 18)) (nomark _)) (pss_one (ps_ret pe_bl)) pss_nil)))
    (pss_one (ps_ret pe_bl))), ?_⟩
   intro vb vm vf vc vl w t l G L xs r s eL lx ask
   refine ⟨_, rfl, L, rfl, ⟨_, SqL.of eL⟩, ?_⟩
   refine for_list (xs := xs) (fun i σ G2 => Same G G2 ∧ ∃ v13 v14 v15 v16 v17 v18, σ = [some (.ref a), some (.ref b), some (.ref m), some (.int (n : Int)), some vb, some vm, some vf, some (.ref w), some (.ref t), some (.ref l), some vc, some vl, some (.ref L), v13, v14, v15, v16, v17, v18]) ⟨Same.refl G, _, _, _, _, _, _, rfl⟩ (fun i σ G2 _ q => SqL.of (q.1 _ _ eL)) ?_ ?_
   ·rintro i x σ G2 hx ⟨s2, v13, v14, v15, v16, v17, v18, rfl⟩
    obtain ⟨p, nn, x1, u1, mm, l1, due, c, wdd, rfl, ep, hw, hd, hdl, rf⟩ := (ask x (List.mem_of_getElem? hx)).mono s2
    refine ⟨p, _, rfl, SqT.of ep, rfl, _, _, rfl, _, _, rfl, _, _, rfl, _, _, rfl, _, _, rfl, _, _, rfl, rfl, ?_⟩
    refine ⟨_, rfl, _, rfl, _, rfl, _, rfl, _, rfl, nn, x1, u1, mm, l1, c, wdd, rfl, hw, rf, fun G3 s3 => ?_⟩
    refine ⟨_, rfl, _, _, rfl, rfl, ?_, rfl, _, rfl, ?_⟩
    ·exact Nat.le_trans (Nat.add_le_add_left hdl _) (by decide +kernel)
    ·rw [hd, decide_eq_true rfl]
     exact ⟨s2.trans s3, _, _, _, _, _, _, rfl⟩
   ·rintro σ G2 ⟨s2, v13, v14, v15, v16, v17, v18, rfl⟩
    exact k G2 (s.trans s2)
  obtain ⟨t16, r16, k16⟩ : ∃ tr, PSs ((cxOf CX0 P w K mg base nmrefused "_law_refused" (defScope s_law_refused) f cdv A outer s H E).nox) ((defBody s_law_refused).drop 16) tr ∧ ∀ (vb vm vf vc vl : V) (w t l : Addr) (G : Hp) (L : Addr) (xs : List V), RF K G a b m wd PA.length vb vm vf w t l vc vl → Same H G → G L = some (.lst xs) → xs.length ≤ 14 → (∀ v ∈ xs, Ask K G cBP cBC cBS cBM v) → tr { nx := fun _ H' => Q .non H', rt := Q } [some (.ref a), some (.ref b), some (.ref m), some (.int (n : Int)), some vb, some vm, some vf, some (.ref w), some (.ref t), some (.ref l), some vc, some vl, some (.ref L), none, none, none, none, none, none] G := by
   obtain ⟨px, q1, q2, z1, z2, t1, t2, hs, h1, s1, h2, s2⟩ : ∃ (px q1 q2 z1 z2 : Pos) (t1 t2 : PySem.Expr), (defBody s_law_refused)[16]? = some (.Assign [.Name "_law_asked" px] (.BinOp (.Name "_law_asked" z1) .Add (.List [t1, t2] q1) z2) q2) ∧ PE ((cxOf CX0 P w K mg base nmrefused "_law_refused" (defScope s_law_refused) f cdv A outer s H E).nox) t1 (tTup (tCons (L2.tC (.int 2)) (tCons (tVar 0) (tCons (tVar 1) (tCons (tVar 9) (tCons (L2.tC (.int 0)) (tCons (L2.tC (.str "size")) tNil))))))) ∧ Sl t1 ∧ PE ((cxOf CX0 P w K mg base nmrefused "_law_refused" (defScope s_law_refused) f cdv A outer s H E).nox) t2 (tTup (tCons (L2.tC (.int 2)) (tCons (tVar 4) (tCons (tVar 1) (tCons (tVar 2) (tCons (L2.tC (.int 0)) (tCons (L2.tC (.str "picture")) tNil))))))) ∧ Sl t2 := ⟨_, _, _, _, _, _, _, rfl, (ShE.pe (qpe_tup (qpa_cons qpe_int slC (qpa_cons (qpv 0) slN (qpa_cons (qpv 1) slN (qpa_cons (qpv 9) slN (qpa_cons qpe_int slC (qpa_cons qpe_str slC qpa_nil)))))))), slTup, (ShE.pe (qpe_tup (qpa_cons qpe_int slC (qpa_cons (qpv 4) slN (qpa_cons (qpv 1) slN (qpa_cons (qpv 2) slN (qpa_cons qpe_int slC (qpa_cons qpe_str slC qpa_nil)))))))), slTup⟩
   have hp : PS ((cxOf CX0 P w K mg base nmrefused "_law_refused" (defScope s_law_refused) f cdv A outer s H E).nox) (.Assign [.Name "_law_asked" px] (.BinOp (.Name "_law_asked" z1) .Add (.List [t1, t2] q1) z2) q2) _ := ps_set (i := 12) sc_law_refused.nd rfl (by first | exact Or.inl rfl | exact Or.inr rfl) (pe_op op_cat (pv 12) (pe_lst (pa_cons (@h1) (pa_cons (@h2) pa_nil (s2 _ _)) (s1 _ _))))
   refine ⟨_, pss_at 17 hs rfl (@hp) (@r17), ?_⟩
   clear hp h1 h2 s1 s2 hs
   intro vb vm vf vc vl w t l G L xs r s eL lx ask
   refine ⟨_, rfl, _, rfl, _, rfl, _, rfl, sz6, fun p1 g1 => ⟨_, rfl, _, rfl, _, rfl, sz6, fun p2 g2 => ⟨sz2, fun L1 g3 => ?_⟩⟩⟩
   have z1 := same_new (o := HO.tup [V.int 2, V.ref a, V.ref b, V.ref l, V.int 0, V.str "size"]) g1
   have z2 := same_new (o := HO.tup [V.int 2, vb, V.ref b, V.ref m, V.int 0, V.str "picture"]) g2
   have z3 := same_new (o := HO.lst [V.ref p1, V.ref p2]) g3
   have zz := z1.trans (z2.trans z3)
   have e1 : (upd (upd (upd G p1 (HO.tup [V.int 2, V.ref a, V.ref b, V.ref l, V.int 0, V.str "size"])) p2 (HO.tup [V.int 2, vb, V.ref b, V.ref m, V.int 0, V.str "picture"])) L1 (HO.lst [V.ref p1, V.ref p2])) p1 = some (HO.tup [V.int 2, V.ref a, V.ref b, V.ref l, V.int 0, V.str "size"]) := (z2.trans z3) _ _ upd_same
   have e2 : (upd (upd (upd G p1 (HO.tup [V.int 2, V.ref a, V.ref b, V.ref l, V.int 0, V.str "size"])) p2 (HO.tup [V.int 2, vb, V.ref b, V.ref m, V.int 0, V.str "picture"])) L1 (HO.lst [V.ref p1, V.ref p2])) p2 = some (HO.tup [V.int 2, vb, V.ref b, V.ref m, V.int 0, V.str "picture"]) := z3 _ _ upd_same
   have e3 : (upd (upd (upd G p1 (HO.tup [V.int 2, V.ref a, V.ref b, V.ref l, V.int 0, V.str "size"])) p2 (HO.tup [V.int 2, vb, V.ref b, V.ref m, V.int 0, V.str "picture"])) L1 (HO.lst [V.ref p1, V.ref p2])) L1 = some (HO.lst [V.ref p1, V.ref p2]) := upd_same
   have r := r.mono zz
   have s := s.trans zz
   have eL := zz _ _ eL
   have ask : ∀ v ∈ xs, Ask K (upd (upd (upd G p1 (HO.tup [V.int 2, V.ref a, V.ref b, V.ref l, V.int 0, V.str "size"])) p2 (HO.tup [V.int 2, vb, V.ref b, V.ref m, V.int 0, V.str "picture"])) L1 (HO.lst [V.ref p1, V.ref p2])) cBP cBC cBS cBM v := fun v hv => (ask v hv).mono zz
   generalize upd (upd (upd G p1 (HO.tup [V.int 2, V.ref a, V.ref b, V.ref l, V.int 0, V.str "size"])) p2 (HO.tup [V.int 2, vb, V.ref b, V.ref m, V.int 0, V.str "picture"])) L1 (HO.lst [V.ref p1, V.ref p2]) = G3 at r s e1 e2 e3 eL ask ⊢
   clear zz z1 z2 z3 g1 g2 g3
   have a1 : ∀ v ∈ [V.ref p1, V.ref p2], Ask K G3 cBP cBC cBS cBM v := fun v hv => by
    simp only [List.mem_cons, List.not_mem_nil, or_false] at hv
    rcases hv with rfl | rfl
    ·exact ⟨p1, 2, _, _, _, _, _, _, _, rfl, e1, .s, by decide +kernel, by decide +kernel, r.size2 r.low⟩
    ·exact ⟨p2, 2, _, _, _, _, _, _, _, rfl, e2, .p, by decide +kernel, by decide +kernel, r.bad0 (by decide)⟩
   refine ⟨L, L1, _, _, rfl, rfl, eL, e3, Nat.le_trans (by simp only [List.length_cons, List.length_nil]; omega : _ ≤ 2000) (by decide), fun L2 g4 => ?_⟩
   have z4 := same_new (o := HO.lst (xs ++ [V.ref p1, V.ref p2])) g4
   refine k17 vb vm vf vc vl w t l _ L2 _ (r.mono z4) (s.trans z4) upd_same (by rw [List.length_append]; simp only [List.length_cons, List.length_nil]; omega) fun v hv => ?_
   rcases List.mem_append.mp hv with hv | hv
   ·exact (ask v hv).mono z4
   ·exact (a1 v hv).mono z4
  obtain ⟨t15, r15, k15⟩ : ∃ tr, PSs ((cxOf CX0 P w K mg base nmrefused "_law_refused" (defScope s_law_refused) f cdv A outer s H E).nox) ((defBody s_law_refused).drop 15) tr ∧ ∀ (vb vm vf vc vl : V) (w t l : Addr) (G : Hp) (L : Addr) (xs : List V), RF K G a b m wd PA.length vb vm vf w t l vc vl → Same H G → G L = some (.lst xs) → xs.length ≤ 12 → (∀ v ∈ xs, Ask K G cBP cBC cBS cBM v) → tr { nx := fun _ H' => Q .non H', rt := Q } [some (.ref a), some (.ref b), some (.ref m), some (.int (n : Int)), some vb, some vm, some vf, some (.ref w), some (.ref t), some (.ref l), some vc, some vl, some (.ref L), none, none, none, none, none, none] G := by
   obtain ⟨px, q1, q2, z1, z2, t1, t2, hs, h1, s1, h2, s2⟩ : ∃ (px q1 q2 z1 z2 : Pos) (t1 t2 : PySem.Expr), (defBody s_law_refused)[15]? = some (.Assign [.Name "_law_asked" px] (.BinOp (.Name "_law_asked" z1) .Add (.List [t1, t2] q1) z2) q2) ∧ PE ((cxOf CX0 P w K mg base nmrefused "_law_refused" (defScope s_law_refused) f cdv A outer s H E).nox) t1 (tTup (tCons (L2.tC (.int 1)) (tCons (tVar 0) (tCons (tVar 0) (tCons (tVar 9) (tCons (tVar 10) (tCons (L2.tC (.str "size")) tNil))))))) ∧ Sl t1 ∧ PE ((cxOf CX0 P w K mg base nmrefused "_law_refused" (defScope s_law_refused) f cdv A outer s H E).nox) t2 (tTup (tCons (L2.tC (.int 2)) (tCons (tVar 0) (tCons (tVar 1) (tCons (tVar 8) (tCons (L2.tC (.int 0)) (tCons (L2.tC (.str "size")) tNil))))))) ∧ Sl t2 := ⟨_, _, _, _, _, _, _, rfl, (ShE.pe (qpe_tup (qpa_cons qpe_int slC (qpa_cons (qpv 0) slN (qpa_cons (qpv 0) slN (qpa_cons (qpv 9) slN (qpa_cons (qpv 10) slN (qpa_cons qpe_str slC qpa_nil)))))))), slTup, (ShE.pe (qpe_tup (qpa_cons qpe_int slC (qpa_cons (qpv 0) slN (qpa_cons (qpv 1) slN (qpa_cons (qpv 8) slN (qpa_cons qpe_int slC (qpa_cons qpe_str slC qpa_nil)))))))), slTup⟩
   have hp : PS ((cxOf CX0 P w K mg base nmrefused "_law_refused" (defScope s_law_refused) f cdv A outer s H E).nox) (.Assign [.Name "_law_asked" px] (.BinOp (.Name "_law_asked" z1) .Add (.List [t1, t2] q1) z2) q2) _ := ps_set (i := 12) sc_law_refused.nd rfl (by first | exact Or.inl rfl | exact Or.inr rfl) (pe_op op_cat (pv 12) (pe_lst (pa_cons (@h1) (pa_cons (@h2) pa_nil (s2 _ _)) (s1 _ _))))
   refine ⟨_, pss_at 16 hs rfl (@hp) (@r16), ?_⟩
   clear hp h1 h2 s1 s2 hs
   intro vb vm vf vc vl w t l G L xs r s eL lx ask
   refine ⟨_, rfl, _, rfl, _, rfl, _, rfl, _, rfl, sz6, fun p1 g1 => ⟨_, rfl, _, rfl, _, rfl, sz6, fun p2 g2 => ⟨sz2, fun L1 g3 => ?_⟩⟩⟩
   have z1 := same_new (o := HO.tup [V.int 1, V.ref a, V.ref a, V.ref l, vc, V.str "size"]) g1
   have z2 := same_new (o := HO.tup [V.int 2, V.ref a, V.ref b, V.ref t, V.int 0, V.str "size"]) g2
   have z3 := same_new (o := HO.lst [V.ref p1, V.ref p2]) g3
   have zz := z1.trans (z2.trans z3)
   have e1 : (upd (upd (upd G p1 (HO.tup [V.int 1, V.ref a, V.ref a, V.ref l, vc, V.str "size"])) p2 (HO.tup [V.int 2, V.ref a, V.ref b, V.ref t, V.int 0, V.str "size"])) L1 (HO.lst [V.ref p1, V.ref p2])) p1 = some (HO.tup [V.int 1, V.ref a, V.ref a, V.ref l, vc, V.str "size"]) := (z2.trans z3) _ _ upd_same
   have e2 : (upd (upd (upd G p1 (HO.tup [V.int 1, V.ref a, V.ref a, V.ref l, vc, V.str "size"])) p2 (HO.tup [V.int 2, V.ref a, V.ref b, V.ref t, V.int 0, V.str "size"])) L1 (HO.lst [V.ref p1, V.ref p2])) p2 = some (HO.tup [V.int 2, V.ref a, V.ref b, V.ref t, V.int 0, V.str "size"]) := z3 _ _ upd_same
   have e3 : (upd (upd (upd G p1 (HO.tup [V.int 1, V.ref a, V.ref a, V.ref l, vc, V.str "size"])) p2 (HO.tup [V.int 2, V.ref a, V.ref b, V.ref t, V.int 0, V.str "size"])) L1 (HO.lst [V.ref p1, V.ref p2])) L1 = some (HO.lst [V.ref p1, V.ref p2]) := upd_same
   have r := r.mono zz
   have s := s.trans zz
   have eL := zz _ _ eL
   have ask : ∀ v ∈ xs, Ask K (upd (upd (upd G p1 (HO.tup [V.int 1, V.ref a, V.ref a, V.ref l, vc, V.str "size"])) p2 (HO.tup [V.int 2, V.ref a, V.ref b, V.ref t, V.int 0, V.str "size"])) L1 (HO.lst [V.ref p1, V.ref p2])) cBP cBC cBS cBM v := fun v hv => (ask v hv).mono zz
   generalize upd (upd (upd G p1 (HO.tup [V.int 1, V.ref a, V.ref a, V.ref l, vc, V.str "size"])) p2 (HO.tup [V.int 2, V.ref a, V.ref b, V.ref t, V.int 0, V.str "size"])) L1 (HO.lst [V.ref p1, V.ref p2]) = G3 at r s e1 e2 e3 eL ask ⊢
   clear zz z1 z2 z3 g1 g2 g3
   have a1 : ∀ v ∈ [V.ref p1, V.ref p2], Ask K G3 cBP cBC cBS cBM v := fun v hv => by
    simp only [List.mem_cons, List.not_mem_nil, or_false] at hv
    rcases hv with rfl | rfl
    ·exact ⟨p1, 1, _, _, _, _, _, _, _, rfl, e1, .s, by decide +kernel, by decide +kernel, r.size1 r.low⟩
    ·exact ⟨p2, 2, _, _, _, _, _, _, _, rfl, e2, .s, by decide +kernel, by decide +kernel, r.size2 r.tall⟩
   refine ⟨L, L1, _, _, rfl, rfl, eL, e3, Nat.le_trans (by simp only [List.length_cons, List.length_nil]; omega : _ ≤ 2000) (by decide), fun L2 g4 => ?_⟩
   have z4 := same_new (o := HO.lst (xs ++ [V.ref p1, V.ref p2])) g4
   refine k16 vb vm vf vc vl w t l _ L2 _ (r.mono z4) (s.trans z4) upd_same (by rw [List.length_append]; simp only [List.length_cons, List.length_nil]; omega) fun v hv => ?_
   rcases List.mem_append.mp hv with hv | hv
   ·exact (ask v hv).mono z4
   ·exact (a1 v hv).mono z4
  obtain ⟨t14, r14, k14⟩ : ∃ tr, PSs ((cxOf CX0 P w K mg base nmrefused "_law_refused" (defScope s_law_refused) f cdv A outer s H E).nox) ((defBody s_law_refused).drop 14) tr ∧ ∀ (vb vm vf vc vl : V) (w t l : Addr) (G : Hp) (L : Addr) (xs : List V), RF K G a b m wd PA.length vb vm vf w t l vc vl → Same H G → G L = some (.lst xs) → xs.length ≤ 10 → (∀ v ∈ xs, Ask K G cBP cBC cBS cBM v) → tr { nx := fun _ H' => Q .non H', rt := Q } [some (.ref a), some (.ref b), some (.ref m), some (.int (n : Int)), some vb, some vm, some vf, some (.ref w), some (.ref t), some (.ref l), some vc, some vl, some (.ref L), none, none, none, none, none, none] G := by
   obtain ⟨px, q1, q2, z1, z2, t1, t2, hs, h1, s1, h2, s2⟩ : ∃ (px q1 q2 z1 z2 : Pos) (t1 t2 : PySem.Expr), (defBody s_law_refused)[14]? = some (.Assign [.Name "_law_asked" px] (.BinOp (.Name "_law_asked" z1) .Add (.List [t1, t2] q1) z2) q2) ∧ PE ((cxOf CX0 P w K mg base nmrefused "_law_refused" (defScope s_law_refused) f cdv A outer s H E).nox) t1 (tTup (tCons (L2.tC (.int 2)) (tCons (tVar 0) (tCons (tVar 1) (tCons (tVar 7) (tCons (L2.tC (.int 0)) (tCons (L2.tC (.str "size")) tNil))))))) ∧ Sl t1 ∧ PE ((cxOf CX0 P w K mg base nmrefused "_law_refused" (defScope s_law_refused) f cdv A outer s H E).nox) t2 (tTup (tCons (L2.tC (.int 1)) (tCons (tVar 0) (tCons (tVar 0) (tCons (tVar 8) (tCons (tVar 10) (tCons (L2.tC (.str "size")) tNil))))))) ∧ Sl t2 := ⟨_, _, _, _, _, _, _, rfl, (ShE.pe (qpe_tup (qpa_cons qpe_int slC (qpa_cons (qpv 0) slN (qpa_cons (qpv 1) slN (qpa_cons (qpv 7) slN (qpa_cons qpe_int slC (qpa_cons qpe_str slC qpa_nil)))))))), slTup, (ShE.pe (qpe_tup (qpa_cons qpe_int slC (qpa_cons (qpv 0) slN (qpa_cons (qpv 0) slN (qpa_cons (qpv 8) slN (qpa_cons (qpv 10) slN (qpa_cons qpe_str slC qpa_nil)))))))), slTup⟩
   have hp : PS ((cxOf CX0 P w K mg base nmrefused "_law_refused" (defScope s_law_refused) f cdv A outer s H E).nox) (.Assign [.Name "_law_asked" px] (.BinOp (.Name "_law_asked" z1) .Add (.List [t1, t2] q1) z2) q2) _ := ps_set (i := 12) sc_law_refused.nd rfl (by first | exact Or.inl rfl | exact Or.inr rfl) (pe_op op_cat (pv 12) (pe_lst (pa_cons (@h1) (pa_cons (@h2) pa_nil (s2 _ _)) (s1 _ _))))
   refine ⟨_, pss_at 15 hs rfl (@hp) (@r15), ?_⟩
   clear hp h1 h2 s1 s2 hs
   intro vb vm vf vc vl w t l G L xs r s eL lx ask
   refine ⟨_, rfl, _, rfl, _, rfl, _, rfl, sz6, fun p1 g1 => ⟨_, rfl, _, rfl, _, rfl, _, rfl, sz6, fun p2 g2 => ⟨sz2, fun L1 g3 => ?_⟩⟩⟩
   have z1 := same_new (o := HO.tup [V.int 2, V.ref a, V.ref b, V.ref w, V.int 0, V.str "size"]) g1
   have z2 := same_new (o := HO.tup [V.int 1, V.ref a, V.ref a, V.ref t, vc, V.str "size"]) g2
   have z3 := same_new (o := HO.lst [V.ref p1, V.ref p2]) g3
   have zz := z1.trans (z2.trans z3)
   have e1 : (upd (upd (upd G p1 (HO.tup [V.int 2, V.ref a, V.ref b, V.ref w, V.int 0, V.str "size"])) p2 (HO.tup [V.int 1, V.ref a, V.ref a, V.ref t, vc, V.str "size"])) L1 (HO.lst [V.ref p1, V.ref p2])) p1 = some (HO.tup [V.int 2, V.ref a, V.ref b, V.ref w, V.int 0, V.str "size"]) := (z2.trans z3) _ _ upd_same
   have e2 : (upd (upd (upd G p1 (HO.tup [V.int 2, V.ref a, V.ref b, V.ref w, V.int 0, V.str "size"])) p2 (HO.tup [V.int 1, V.ref a, V.ref a, V.ref t, vc, V.str "size"])) L1 (HO.lst [V.ref p1, V.ref p2])) p2 = some (HO.tup [V.int 1, V.ref a, V.ref a, V.ref t, vc, V.str "size"]) := z3 _ _ upd_same
   have e3 : (upd (upd (upd G p1 (HO.tup [V.int 2, V.ref a, V.ref b, V.ref w, V.int 0, V.str "size"])) p2 (HO.tup [V.int 1, V.ref a, V.ref a, V.ref t, vc, V.str "size"])) L1 (HO.lst [V.ref p1, V.ref p2])) L1 = some (HO.lst [V.ref p1, V.ref p2]) := upd_same
   have r := r.mono zz
   have s := s.trans zz
   have eL := zz _ _ eL
   have ask : ∀ v ∈ xs, Ask K (upd (upd (upd G p1 (HO.tup [V.int 2, V.ref a, V.ref b, V.ref w, V.int 0, V.str "size"])) p2 (HO.tup [V.int 1, V.ref a, V.ref a, V.ref t, vc, V.str "size"])) L1 (HO.lst [V.ref p1, V.ref p2])) cBP cBC cBS cBM v := fun v hv => (ask v hv).mono zz
   generalize upd (upd (upd G p1 (HO.tup [V.int 2, V.ref a, V.ref b, V.ref w, V.int 0, V.str "size"])) p2 (HO.tup [V.int 1, V.ref a, V.ref a, V.ref t, vc, V.str "size"])) L1 (HO.lst [V.ref p1, V.ref p2]) = G3 at r s e1 e2 e3 eL ask ⊢
   clear zz z1 z2 z3 g1 g2 g3
   have a1 : ∀ v ∈ [V.ref p1, V.ref p2], Ask K G3 cBP cBC cBS cBM v := fun v hv => by
    simp only [List.mem_cons, List.not_mem_nil, or_false] at hv
    rcases hv with rfl | rfl
    ·exact ⟨p1, 2, _, _, _, _, _, _, _, rfl, e1, .s, by decide +kernel, by decide +kernel, r.size2 r.wide⟩
    ·exact ⟨p2, 1, _, _, _, _, _, _, _, rfl, e2, .s, by decide +kernel, by decide +kernel, r.size1 r.tall⟩
   refine ⟨L, L1, _, _, rfl, rfl, eL, e3, Nat.le_trans (by simp only [List.length_cons, List.length_nil]; omega : _ ≤ 2000) (by decide), fun L2 g4 => ?_⟩
   have z4 := same_new (o := HO.lst (xs ++ [V.ref p1, V.ref p2])) g4
   refine k15 vb vm vf vc vl w t l _ L2 _ (r.mono z4) (s.trans z4) upd_same (by rw [List.length_append]; simp only [List.length_cons, List.length_nil]; omega) fun v hv => ?_
   rcases List.mem_append.mp hv with hv | hv
   ·exact (ask v hv).mono z4
   ·exact (a1 v hv).mono z4
  obtain ⟨t13, r13, k13⟩ : ∃ tr, PSs ((cxOf CX0 P w K mg base nmrefused "_law_refused" (defScope s_law_refused) f cdv A outer s H E).nox) ((defBody s_law_refused).drop 13) tr ∧ ∀ (vb vm vf vc vl : V) (w t l : Addr) (G : Hp) (L : Addr) (xs : List V), RF K G a b m wd PA.length vb vm vf w t l vc vl → Same H G → G L = some (.lst xs) → xs.length ≤ 8 → (∀ v ∈ xs, Ask K G cBP cBC cBS cBM v) → tr { nx := fun _ H' => Q .non H', rt := Q } [some (.ref a), some (.ref b), some (.ref m), some (.int (n : Int)), some vb, some vm, some vf, some (.ref w), some (.ref t), some (.ref l), some vc, some vl, some (.ref L), none, none, none, none, none, none] G := by
   obtain ⟨px, q1, q2, z1, z2, t1, t2, hs, h1, s1, h2, s2⟩ : ∃ (px q1 q2 z1 z2 : Pos) (t1 t2 : PySem.Expr), (defBody s_law_refused)[13]? = some (.Assign [.Name "_law_asked" px] (.BinOp (.Name "_law_asked" z1) .Add (.List [t1, t2] q1) z2) q2) ∧ PE ((cxOf CX0 P w K mg base nmrefused "_law_refused" (defScope s_law_refused) f cdv A outer s H E).nox) t1 (tTup (tCons (L2.tC (.int 2)) (tCons (tVar 0) (tCons (tVar 6) (tCons (tVar 5) (tCons (L2.tC (.int 0)) (tCons (L2.tC (.str "mask")) tNil))))))) ∧ Sl t1 ∧ PE ((cxOf CX0 P w K mg base nmrefused "_law_refused" (defScope s_law_refused) f cdv A outer s H E).nox) t2 (tTup (tCons (L2.tC (.int 2)) (tCons (tVar 0) (tCons (tVar 6) (tCons (tVar 2) (tCons (L2.tC (.int 0)) (tCons (L2.tC (.str "size")) tNil))))))) ∧ Sl t2 := ⟨_, _, _, _, _, _, _, rfl, (ShE.pe (qpe_tup (qpa_cons qpe_int slC (qpa_cons (qpv 0) slN (qpa_cons (qpv 6) slN (qpa_cons (qpv 5) slN (qpa_cons qpe_int slC (qpa_cons qpe_str slC qpa_nil)))))))), slTup, (ShE.pe (qpe_tup (qpa_cons qpe_int slC (qpa_cons (qpv 0) slN (qpa_cons (qpv 6) slN (qpa_cons (qpv 2) slN (qpa_cons qpe_int slC (qpa_cons qpe_str slC qpa_nil)))))))), slTup⟩
   have hp : PS ((cxOf CX0 P w K mg base nmrefused "_law_refused" (defScope s_law_refused) f cdv A outer s H E).nox) (.Assign [.Name "_law_asked" px] (.BinOp (.Name "_law_asked" z1) .Add (.List [t1, t2] q1) z2) q2) _ := ps_set (i := 12) sc_law_refused.nd rfl (by first | exact Or.inl rfl | exact Or.inr rfl) (pe_op op_cat (pv 12) (pe_lst (pa_cons (@h1) (pa_cons (@h2) pa_nil (s2 _ _)) (s1 _ _))))
   refine ⟨_, pss_at 14 hs rfl (@hp) (@r14), ?_⟩
   clear hp h1 h2 s1 s2 hs
   intro vb vm vf vc vl w t l G L xs r s eL lx ask
   refine ⟨_, rfl, _, rfl, _, rfl, _, rfl, sz6, fun p1 g1 => ⟨_, rfl, _, rfl, _, rfl, sz6, fun p2 g2 => ⟨sz2, fun L1 g3 => ?_⟩⟩⟩
   have z1 := same_new (o := HO.tup [V.int 2, V.ref a, vf, vm, V.int 0, V.str "mask"]) g1
   have z2 := same_new (o := HO.tup [V.int 2, V.ref a, vf, V.ref m, V.int 0, V.str "size"]) g2
   have z3 := same_new (o := HO.lst [V.ref p1, V.ref p2]) g3
   have zz := z1.trans (z2.trans z3)
   have e1 : (upd (upd (upd G p1 (HO.tup [V.int 2, V.ref a, vf, vm, V.int 0, V.str "mask"])) p2 (HO.tup [V.int 2, V.ref a, vf, V.ref m, V.int 0, V.str "size"])) L1 (HO.lst [V.ref p1, V.ref p2])) p1 = some (HO.tup [V.int 2, V.ref a, vf, vm, V.int 0, V.str "mask"]) := (z2.trans z3) _ _ upd_same
   have e2 : (upd (upd (upd G p1 (HO.tup [V.int 2, V.ref a, vf, vm, V.int 0, V.str "mask"])) p2 (HO.tup [V.int 2, V.ref a, vf, V.ref m, V.int 0, V.str "size"])) L1 (HO.lst [V.ref p1, V.ref p2])) p2 = some (HO.tup [V.int 2, V.ref a, vf, V.ref m, V.int 0, V.str "size"]) := z3 _ _ upd_same
   have e3 : (upd (upd (upd G p1 (HO.tup [V.int 2, V.ref a, vf, vm, V.int 0, V.str "mask"])) p2 (HO.tup [V.int 2, V.ref a, vf, V.ref m, V.int 0, V.str "size"])) L1 (HO.lst [V.ref p1, V.ref p2])) L1 = some (HO.lst [V.ref p1, V.ref p2]) := upd_same
   have r := r.mono zz
   have s := s.trans zz
   have eL := zz _ _ eL
   have ask : ∀ v ∈ xs, Ask K (upd (upd (upd G p1 (HO.tup [V.int 2, V.ref a, vf, vm, V.int 0, V.str "mask"])) p2 (HO.tup [V.int 2, V.ref a, vf, V.ref m, V.int 0, V.str "size"])) L1 (HO.lst [V.ref p1, V.ref p2])) cBP cBC cBS cBM v := fun v hv => (ask v hv).mono zz
   generalize upd (upd (upd G p1 (HO.tup [V.int 2, V.ref a, vf, vm, V.int 0, V.str "mask"])) p2 (HO.tup [V.int 2, V.ref a, vf, V.ref m, V.int 0, V.str "size"])) L1 (HO.lst [V.ref p1, V.ref p2]) = G3 at r s e1 e2 e3 eL ask ⊢
   clear zz z1 z2 z3 g1 g2 g3
   have a1 : ∀ v ∈ [V.ref p1, V.ref p2], Ask K G3 cBP cBC cBS cBM v := fun v hv => by
    simp only [List.mem_cons, List.not_mem_nil, or_false] at hv
    rcases hv with rfl | rfl
    ·exact ⟨p1, 2, _, _, _, _, _, _, _, rfl, e1, .m, by decide +kernel, by decide +kernel, r.farM⟩
    ·exact ⟨p2, 2, _, _, _, _, _, _, _, rfl, e2, .s, by decide +kernel, by decide +kernel, r.farS⟩
   refine ⟨L, L1, _, _, rfl, rfl, eL, e3, Nat.le_trans (by simp only [List.length_cons, List.length_nil]; omega : _ ≤ 2000) (by decide), fun L2 g4 => ?_⟩
   have z4 := same_new (o := HO.lst (xs ++ [V.ref p1, V.ref p2])) g4
   refine k14 vb vm vf vc vl w t l _ L2 _ (r.mono z4) (s.trans z4) upd_same (by rw [List.length_append]; simp only [List.length_cons, List.length_nil]; omega) fun v hv => ?_
   rcases List.mem_append.mp hv with hv | hv
   ·exact (ask v hv).mono z4
   ·exact (a1 v hv).mono z4
  obtain ⟨t12, r12, k12⟩ : ∃ tr, PSs ((cxOf CX0 P w K mg base nmrefused "_law_refused" (defScope s_law_refused) f cdv A outer s H E).nox) ((defBody s_law_refused).drop 12) tr ∧ ∀ (vb vm vf vc vl : V) (w t l : Addr) (G : Hp) (L : Addr) (xs : List V), RF K G a b m wd PA.length vb vm vf w t l vc vl → Same H G → G L = some (.lst xs) → xs.length ≤ 6 → (∀ v ∈ xs, Ask K G cBP cBC cBS cBM v) → tr { nx := fun _ H' => Q .non H', rt := Q } [some (.ref a), some (.ref b), some (.ref m), some (.int (n : Int)), some vb, some vm, some vf, some (.ref w), some (.ref t), some (.ref l), some vc, some vl, some (.ref L), none, none, none, none, none, none] G := by
   obtain ⟨px, q1, q2, z1, z2, t1, t2, hs, h1, s1, h2, s2⟩ : ∃ (px q1 q2 z1 z2 : Pos) (t1 t2 : PySem.Expr), (defBody s_law_refused)[12]? = some (.Assign [.Name "_law_asked" px] (.BinOp (.Name "_law_asked" z1) .Add (.List [t1, t2] q1) z2) q2) ∧ PE ((cxOf CX0 P w K mg base nmrefused "_law_refused" (defScope s_law_refused) f cdv A outer s H E).nox) t1 (tTup (tCons (L2.tC (.int 2)) (tCons (tVar 4) (tCons (tVar 4) (tCons (tVar 5) (tCons (L2.tC (.int 0)) (tCons (L2.tC (.str "picture")) tNil))))))) ∧ Sl t1 ∧ PE ((cxOf CX0 P w K mg base nmrefused "_law_refused" (defScope s_law_refused) f cdv A outer s H E).nox) t2 (tTup (tCons (L2.tC (.int 2)) (tCons (tVar 0) (tCons (tVar 4) (tCons (tVar 5) (tCons (L2.tC (.int 0)) (tCons (L2.tC (.str "picture")) tNil))))))) ∧ Sl t2 := ⟨_, _, _, _, _, _, _, rfl, (ShE.pe (qpe_tup (qpa_cons qpe_int slC (qpa_cons (qpv 4) slN (qpa_cons (qpv 4) slN (qpa_cons (qpv 5) slN (qpa_cons qpe_int slC (qpa_cons qpe_str slC qpa_nil)))))))), slTup, (ShE.pe (qpe_tup (qpa_cons qpe_int slC (qpa_cons (qpv 0) slN (qpa_cons (qpv 4) slN (qpa_cons (qpv 5) slN (qpa_cons qpe_int slC (qpa_cons qpe_str slC qpa_nil)))))))), slTup⟩
   have hp : PS ((cxOf CX0 P w K mg base nmrefused "_law_refused" (defScope s_law_refused) f cdv A outer s H E).nox) (.Assign [.Name "_law_asked" px] (.BinOp (.Name "_law_asked" z1) .Add (.List [t1, t2] q1) z2) q2) _ := ps_set (i := 12) sc_law_refused.nd rfl (by first | exact Or.inl rfl | exact Or.inr rfl) (pe_op op_cat (pv 12) (pe_lst (pa_cons (@h1) (pa_cons (@h2) pa_nil (s2 _ _)) (s1 _ _))))
   refine ⟨_, pss_at 13 hs rfl (@hp) (@r13), ?_⟩
   clear hp h1 h2 s1 s2 hs
   intro vb vm vf vc vl w t l G L xs r s eL lx ask
   refine ⟨_, rfl, _, rfl, _, rfl, _, rfl, sz6, fun p1 g1 => ⟨_, rfl, _, rfl, _, rfl, sz6, fun p2 g2 => ⟨sz2, fun L1 g3 => ?_⟩⟩⟩
   have z1 := same_new (o := HO.tup [V.int 2, vb, vb, vm, V.int 0, V.str "picture"]) g1
   have z2 := same_new (o := HO.tup [V.int 2, V.ref a, vb, vm, V.int 0, V.str "picture"]) g2
   have z3 := same_new (o := HO.lst [V.ref p1, V.ref p2]) g3
   have zz := z1.trans (z2.trans z3)
   have e1 : (upd (upd (upd G p1 (HO.tup [V.int 2, vb, vb, vm, V.int 0, V.str "picture"])) p2 (HO.tup [V.int 2, V.ref a, vb, vm, V.int 0, V.str "picture"])) L1 (HO.lst [V.ref p1, V.ref p2])) p1 = some (HO.tup [V.int 2, vb, vb, vm, V.int 0, V.str "picture"]) := (z2.trans z3) _ _ upd_same
   have e2 : (upd (upd (upd G p1 (HO.tup [V.int 2, vb, vb, vm, V.int 0, V.str "picture"])) p2 (HO.tup [V.int 2, V.ref a, vb, vm, V.int 0, V.str "picture"])) L1 (HO.lst [V.ref p1, V.ref p2])) p2 = some (HO.tup [V.int 2, V.ref a, vb, vm, V.int 0, V.str "picture"]) := z3 _ _ upd_same
   have e3 : (upd (upd (upd G p1 (HO.tup [V.int 2, vb, vb, vm, V.int 0, V.str "picture"])) p2 (HO.tup [V.int 2, V.ref a, vb, vm, V.int 0, V.str "picture"])) L1 (HO.lst [V.ref p1, V.ref p2])) L1 = some (HO.lst [V.ref p1, V.ref p2]) := upd_same
   have r := r.mono zz
   have s := s.trans zz
   have eL := zz _ _ eL
   have ask : ∀ v ∈ xs, Ask K (upd (upd (upd G p1 (HO.tup [V.int 2, vb, vb, vm, V.int 0, V.str "picture"])) p2 (HO.tup [V.int 2, V.ref a, vb, vm, V.int 0, V.str "picture"])) L1 (HO.lst [V.ref p1, V.ref p2])) cBP cBC cBS cBM v := fun v hv => (ask v hv).mono zz
   generalize upd (upd (upd G p1 (HO.tup [V.int 2, vb, vb, vm, V.int 0, V.str "picture"])) p2 (HO.tup [V.int 2, V.ref a, vb, vm, V.int 0, V.str "picture"])) L1 (HO.lst [V.ref p1, V.ref p2]) = G3 at r s e1 e2 e3 eL ask ⊢
   clear zz z1 z2 z3 g1 g2 g3
   have a1 : ∀ v ∈ [V.ref p1, V.ref p2], Ask K G3 cBP cBC cBS cBM v := fun v hv => by
    simp only [List.mem_cons, List.not_mem_nil, or_false] at hv
    rcases hv with rfl | rfl
    ·exact ⟨p1, 2, _, _, _, _, _, _, _, rfl, e1, .p, by decide +kernel, by decide +kernel, r.bad0 (by decide)⟩
    ·exact ⟨p2, 2, _, _, _, _, _, _, _, rfl, e2, .p, by decide +kernel, by decide +kernel, r.pic2⟩
   refine ⟨L, L1, _, _, rfl, rfl, eL, e3, Nat.le_trans (by simp only [List.length_cons, List.length_nil]; omega : _ ≤ 2000) (by decide), fun L2 g4 => ?_⟩
   have z4 := same_new (o := HO.lst (xs ++ [V.ref p1, V.ref p2])) g4
   refine k13 vb vm vf vc vl w t l _ L2 _ (r.mono z4) (s.trans z4) upd_same (by rw [List.length_append]; simp only [List.length_cons, List.length_nil]; omega) fun v hv => ?_
   rcases List.mem_append.mp hv with hv | hv
   ·exact (ask v hv).mono z4
   ·exact (a1 v hv).mono z4
  obtain ⟨t11, r11, k11⟩ : ∃ tr, PSs ((cxOf CX0 P w K mg base nmrefused "_law_refused" (defScope s_law_refused) f cdv A outer s H E).nox) ((defBody s_law_refused).drop 11) tr ∧ ∀ (vb vm vf vc vl : V) (w t l : Addr) (G : Hp) (L : Addr) (xs : List V), RF K G a b m wd PA.length vb vm vf w t l vc vl → Same H G → G L = some (.lst xs) → xs.length ≤ 4 → (∀ v ∈ xs, Ask K G cBP cBC cBS cBM v) → tr { nx := fun _ H' => Q .non H', rt := Q } [some (.ref a), some (.ref b), some (.ref m), some (.int (n : Int)), some vb, some vm, some vf, some (.ref w), some (.ref t), some (.ref l), some vc, some vl, some (.ref L), none, none, none, none, none, none] G := by
   obtain ⟨px, q1, q2, z1, z2, t1, t2, hs, h1, s1, h2, s2⟩ : ∃ (px q1 q2 z1 z2 : Pos) (t1 t2 : PySem.Expr), (defBody s_law_refused)[11]? = some (.Assign [.Name "_law_asked" px] (.BinOp (.Name "_law_asked" z1) .Add (.List [t1, t2] q1) z2) q2) ∧ PE ((cxOf CX0 P w K mg base nmrefused "_law_refused" (defScope s_law_refused) f cdv A outer s H E).nox) t1 (tTup (tCons (L2.tC (.int 1)) (tCons (tVar 0) (tCons (tVar 0) (tCons (tVar 7) (tCons (tVar 10) (tCons (L2.tC (.str "size")) tNil))))))) ∧ Sl t1 ∧ PE ((cxOf CX0 P w K mg base nmrefused "_law_refused" (defScope s_law_refused) f cdv A outer s H E).nox) t2 (tTup (tCons (L2.tC (.int 1)) (tCons (tVar 0) (tCons (tVar 0) (tCons (tVar 2) (tCons (tVar 10) (tCons (L2.tC (.str "cell")) tNil))))))) ∧ Sl t2 := ⟨_, _, _, _, _, _, _, rfl, (ShE.pe (qpe_tup (qpa_cons qpe_int slC (qpa_cons (qpv 0) slN (qpa_cons (qpv 0) slN (qpa_cons (qpv 7) slN (qpa_cons (qpv 10) slN (qpa_cons qpe_str slC qpa_nil)))))))), slTup, (ShE.pe (qpe_tup (qpa_cons qpe_int slC (qpa_cons (qpv 0) slN (qpa_cons (qpv 0) slN (qpa_cons (qpv 2) slN (qpa_cons (qpv 10) slN (qpa_cons qpe_str slC qpa_nil)))))))), slTup⟩
   have hp : PS ((cxOf CX0 P w K mg base nmrefused "_law_refused" (defScope s_law_refused) f cdv A outer s H E).nox) (.Assign [.Name "_law_asked" px] (.BinOp (.Name "_law_asked" z1) .Add (.List [t1, t2] q1) z2) q2) _ := ps_set (i := 12) sc_law_refused.nd rfl (by first | exact Or.inl rfl | exact Or.inr rfl) (pe_op op_cat (pv 12) (pe_lst (pa_cons (@h1) (pa_cons (@h2) pa_nil (s2 _ _)) (s1 _ _))))
   refine ⟨_, pss_at 12 hs rfl (@hp) (@r12), ?_⟩
   clear hp h1 h2 s1 s2 hs
   intro vb vm vf vc vl w t l G L xs r s eL lx ask
   refine ⟨_, rfl, _, rfl, _, rfl, _, rfl, _, rfl, sz6, fun p1 g1 => ⟨_, rfl, _, rfl, _, rfl, _, rfl, sz6, fun p2 g2 => ⟨sz2, fun L1 g3 => ?_⟩⟩⟩
   have z1 := same_new (o := HO.tup [V.int 1, V.ref a, V.ref a, V.ref w, vc, V.str "size"]) g1
   have z2 := same_new (o := HO.tup [V.int 1, V.ref a, V.ref a, V.ref m, vc, V.str "cell"]) g2
   have z3 := same_new (o := HO.lst [V.ref p1, V.ref p2]) g3
   have zz := z1.trans (z2.trans z3)
   have e1 : (upd (upd (upd G p1 (HO.tup [V.int 1, V.ref a, V.ref a, V.ref w, vc, V.str "size"])) p2 (HO.tup [V.int 1, V.ref a, V.ref a, V.ref m, vc, V.str "cell"])) L1 (HO.lst [V.ref p1, V.ref p2])) p1 = some (HO.tup [V.int 1, V.ref a, V.ref a, V.ref w, vc, V.str "size"]) := (z2.trans z3) _ _ upd_same
   have e2 : (upd (upd (upd G p1 (HO.tup [V.int 1, V.ref a, V.ref a, V.ref w, vc, V.str "size"])) p2 (HO.tup [V.int 1, V.ref a, V.ref a, V.ref m, vc, V.str "cell"])) L1 (HO.lst [V.ref p1, V.ref p2])) p2 = some (HO.tup [V.int 1, V.ref a, V.ref a, V.ref m, vc, V.str "cell"]) := z3 _ _ upd_same
   have e3 : (upd (upd (upd G p1 (HO.tup [V.int 1, V.ref a, V.ref a, V.ref w, vc, V.str "size"])) p2 (HO.tup [V.int 1, V.ref a, V.ref a, V.ref m, vc, V.str "cell"])) L1 (HO.lst [V.ref p1, V.ref p2])) L1 = some (HO.lst [V.ref p1, V.ref p2]) := upd_same
   have r := r.mono zz
   have s := s.trans zz
   have eL := zz _ _ eL
   have ask : ∀ v ∈ xs, Ask K (upd (upd (upd G p1 (HO.tup [V.int 1, V.ref a, V.ref a, V.ref w, vc, V.str "size"])) p2 (HO.tup [V.int 1, V.ref a, V.ref a, V.ref m, vc, V.str "cell"])) L1 (HO.lst [V.ref p1, V.ref p2])) cBP cBC cBS cBM v := fun v hv => (ask v hv).mono zz
   generalize upd (upd (upd G p1 (HO.tup [V.int 1, V.ref a, V.ref a, V.ref w, vc, V.str "size"])) p2 (HO.tup [V.int 1, V.ref a, V.ref a, V.ref m, vc, V.str "cell"])) L1 (HO.lst [V.ref p1, V.ref p2]) = G3 at r s e1 e2 e3 eL ask ⊢
   clear zz z1 z2 z3 g1 g2 g3
   have a1 : ∀ v ∈ [V.ref p1, V.ref p2], Ask K G3 cBP cBC cBS cBM v := fun v hv => by
    simp only [List.mem_cons, List.not_mem_nil, or_false] at hv
    rcases hv with rfl | rfl
    ·exact ⟨p1, 1, _, _, _, _, _, _, _, rfl, e1, .s, by decide +kernel, by decide +kernel, r.size1 r.wide⟩
    ·exact ⟨p2, 1, _, _, _, _, _, _, _, rfl, e2, .c, by decide +kernel, by decide +kernel, r.cell1⟩
   refine ⟨L, L1, _, _, rfl, rfl, eL, e3, Nat.le_trans (by simp only [List.length_cons, List.length_nil]; omega : _ ≤ 2000) (by decide), fun L2 g4 => ?_⟩
   have z4 := same_new (o := HO.lst (xs ++ [V.ref p1, V.ref p2])) g4
   refine k12 vb vm vf vc vl w t l _ L2 _ (r.mono z4) (s.trans z4) upd_same (by rw [List.length_append]; simp only [List.length_cons, List.length_nil]; omega) fun v hv => ?_
   rcases List.mem_append.mp hv with hv | hv
   ·exact (ask v hv).mono z4
   ·exact (a1 v hv).mono z4
  obtain ⟨t10, r10, k10⟩ : ∃ tr, PSs ((cxOf CX0 P w K mg base nmrefused "_law_refused" (defScope s_law_refused) f cdv A outer s H E).nox) ((defBody s_law_refused).drop 10) tr ∧ ∀ (vb vm vf vc vl : V) (w t l : Addr) (G : Hp) (L : Addr) (xs : List V), RF K G a b m wd PA.length vb vm vf w t l vc vl → Same H G → G L = some (.lst xs) → xs.length ≤ 2 → (∀ v ∈ xs, Ask K G cBP cBC cBS cBM v) → tr { nx := fun _ H' => Q .non H', rt := Q } [some (.ref a), some (.ref b), some (.ref m), some (.int (n : Int)), some vb, some vm, some vf, some (.ref w), some (.ref t), some (.ref l), some vc, some vl, some (.ref L), none, none, none, none, none, none] G := by
   obtain ⟨px, q1, q2, z1, z2, t1, t2, hs, h1, s1, h2, s2⟩ : ∃ (px q1 q2 z1 z2 : Pos) (t1 t2 : PySem.Expr), (defBody s_law_refused)[10]? = some (.Assign [.Name "_law_asked" px] (.BinOp (.Name "_law_asked" z1) .Add (.List [t1, t2] q1) z2) q2) ∧ PE ((cxOf CX0 P w K mg base nmrefused "_law_refused" (defScope s_law_refused) f cdv A outer s H E).nox) t1 (tTup (tCons (L2.tC (.int 1)) (tCons (tVar 4) (tCons (tVar 0) (tCons (tVar 5) (tCons (tVar 10) (tCons (L2.tC (.str "picture")) tNil))))))) ∧ Sl t1 ∧ PE ((cxOf CX0 P w K mg base nmrefused "_law_refused" (defScope s_law_refused) f cdv A outer s H E).nox) t2 (tTup (tCons (L2.tC (.int 1)) (tCons (tVar 0) (tCons (tVar 0) (tCons (tVar 5) (tCons (tVar 10) (tCons (L2.tC (.str "mask")) tNil))))))) ∧ Sl t2 := ⟨_, _, _, _, _, _, _, rfl, (ShE.pe (qpe_tup (qpa_cons qpe_int slC (qpa_cons (qpv 4) slN (qpa_cons (qpv 0) slN (qpa_cons (qpv 5) slN (qpa_cons (qpv 10) slN (qpa_cons qpe_str slC qpa_nil)))))))), slTup, (ShE.pe (qpe_tup (qpa_cons qpe_int slC (qpa_cons (qpv 0) slN (qpa_cons (qpv 0) slN (qpa_cons (qpv 5) slN (qpa_cons (qpv 10) slN (qpa_cons qpe_str slC qpa_nil)))))))), slTup⟩
   have hp : PS ((cxOf CX0 P w K mg base nmrefused "_law_refused" (defScope s_law_refused) f cdv A outer s H E).nox) (.Assign [.Name "_law_asked" px] (.BinOp (.Name "_law_asked" z1) .Add (.List [t1, t2] q1) z2) q2) _ := ps_set (i := 12) sc_law_refused.nd rfl (by first | exact Or.inl rfl | exact Or.inr rfl) (pe_op op_cat (pv 12) (pe_lst (pa_cons (@h1) (pa_cons (@h2) pa_nil (s2 _ _)) (s1 _ _))))
   refine ⟨_, pss_at 11 hs rfl (@hp) (@r11), ?_⟩
   clear hp h1 h2 s1 s2 hs
   intro vb vm vf vc vl w t l G L xs r s eL lx ask
   refine ⟨_, rfl, _, rfl, _, rfl, _, rfl, _, rfl, sz6, fun p1 g1 => ⟨_, rfl, _, rfl, _, rfl, _, rfl, sz6, fun p2 g2 => ⟨sz2, fun L1 g3 => ?_⟩⟩⟩
   have z1 := same_new (o := HO.tup [V.int 1, vb, V.ref a, vm, vc, V.str "picture"]) g1
   have z2 := same_new (o := HO.tup [V.int 1, V.ref a, V.ref a, vm, vc, V.str "mask"]) g2
   have z3 := same_new (o := HO.lst [V.ref p1, V.ref p2]) g3
   have zz := z1.trans (z2.trans z3)
   have e1 : (upd (upd (upd G p1 (HO.tup [V.int 1, vb, V.ref a, vm, vc, V.str "picture"])) p2 (HO.tup [V.int 1, V.ref a, V.ref a, vm, vc, V.str "mask"])) L1 (HO.lst [V.ref p1, V.ref p2])) p1 = some (HO.tup [V.int 1, vb, V.ref a, vm, vc, V.str "picture"]) := (z2.trans z3) _ _ upd_same
   have e2 : (upd (upd (upd G p1 (HO.tup [V.int 1, vb, V.ref a, vm, vc, V.str "picture"])) p2 (HO.tup [V.int 1, V.ref a, V.ref a, vm, vc, V.str "mask"])) L1 (HO.lst [V.ref p1, V.ref p2])) p2 = some (HO.tup [V.int 1, V.ref a, V.ref a, vm, vc, V.str "mask"]) := z3 _ _ upd_same
   have e3 : (upd (upd (upd G p1 (HO.tup [V.int 1, vb, V.ref a, vm, vc, V.str "picture"])) p2 (HO.tup [V.int 1, V.ref a, V.ref a, vm, vc, V.str "mask"])) L1 (HO.lst [V.ref p1, V.ref p2])) L1 = some (HO.lst [V.ref p1, V.ref p2]) := upd_same
   have r := r.mono zz
   have s := s.trans zz
   have eL := zz _ _ eL
   have ask : ∀ v ∈ xs, Ask K (upd (upd (upd G p1 (HO.tup [V.int 1, vb, V.ref a, vm, vc, V.str "picture"])) p2 (HO.tup [V.int 1, V.ref a, V.ref a, vm, vc, V.str "mask"])) L1 (HO.lst [V.ref p1, V.ref p2])) cBP cBC cBS cBM v := fun v hv => (ask v hv).mono zz
   generalize upd (upd (upd G p1 (HO.tup [V.int 1, vb, V.ref a, vm, vc, V.str "picture"])) p2 (HO.tup [V.int 1, V.ref a, V.ref a, vm, vc, V.str "mask"])) L1 (HO.lst [V.ref p1, V.ref p2]) = G3 at r s e1 e2 e3 eL ask ⊢
   clear zz z1 z2 z3 g1 g2 g3
   have a1 : ∀ v ∈ [V.ref p1, V.ref p2], Ask K G3 cBP cBC cBS cBM v := fun v hv => by
    simp only [List.mem_cons, List.not_mem_nil, or_false] at hv
    rcases hv with rfl | rfl
    ·exact ⟨p1, 1, _, _, _, _, _, _, _, rfl, e1, .p, by decide +kernel, by decide +kernel, r.bad0 (by decide)⟩
    ·exact ⟨p2, 1, _, _, _, _, _, _, _, rfl, e2, .m, by decide +kernel, by decide +kernel, r.mask1⟩
   refine ⟨L, L1, _, _, rfl, rfl, eL, e3, Nat.le_trans (by simp only [List.length_cons, List.length_nil]; omega : _ ≤ 2000) (by decide), fun L2 g4 => ?_⟩
   have z4 := same_new (o := HO.lst (xs ++ [V.ref p1, V.ref p2])) g4
   refine k11 vb vm vf vc vl w t l _ L2 _ (r.mono z4) (s.trans z4) upd_same (by rw [List.length_append]; simp only [List.length_cons, List.length_nil]; omega) fun v hv => ?_
   rcases List.mem_append.mp hv with hv | hv
   ·exact (ask v hv).mono z4
   ·exact (a1 v hv).mono z4
  obtain ⟨t9, r9, k9⟩ : ∃ tr, PSs ((cxOf CX0 P w K mg base nmrefused "_law_refused" (defScope s_law_refused) f cdv A outer s H E).nox) ((defBody s_law_refused).drop 9) tr ∧ ∀ (vb vm vf vc vl : V) (w t l : Addr) (G : Hp), RF K G a b m wd PA.length vb vm vf w t l vc vl → Same H G → tr { nx := fun _ H' => Q .non H', rt := Q } [some (.ref a), some (.ref b), some (.ref m), some (.int (n : Int)), some vb, some vm, some vf, some (.ref w), some (.ref t), some (.ref l), some vc, some vl, none, none, none, none, none, none, none] G := by
   obtain ⟨px, q1, q2, t1, t2, hs, h1, s1, h2, s2⟩ : ∃ (px q1 q2 : Pos) (t1 t2 : PySem.Expr), (defBody s_law_refused)[9]? = some (.Assign [.Name "_law_asked" px] (.List [t1, t2] q1) q2) ∧ PE ((cxOf CX0 P w K mg base nmrefused "_law_refused" (defScope s_law_refused) f cdv A outer s H E).nox) t1 (tTup (tCons (L2.tC (.int 0)) (tCons (tVar 4) (tCons (tVar 0) (tCons (tVar 2) (tCons (tVar 11) (tCons (L2.tC (.str "picture")) tNil))))))) ∧ Sl t1 ∧ PE ((cxOf CX0 P w K mg base nmrefused "_law_refused" (defScope s_law_refused) f cdv A outer s H E).nox) t2 (tTup (tCons (L2.tC (.int 0)) (tCons (tVar 0) (tCons (tVar 0) (tCons (tVar 2) (tCons (tVar 11) (tCons (L2.tC (.str "cell")) tNil))))))) ∧ Sl t2 := ⟨_, _, _, _, _, rfl, (ShE.pe (qpe_tup (qpa_cons qpe_int slC (qpa_cons (qpv 4) slN (qpa_cons (qpv 0) slN (qpa_cons (qpv 2) slN (qpa_cons (qpv 11) slN (qpa_cons qpe_str slC qpa_nil)))))))), slTup, (ShE.pe (qpe_tup (qpa_cons qpe_int slC (qpa_cons (qpv 0) slN (qpa_cons (qpv 0) slN (qpa_cons (qpv 2) slN (qpa_cons (qpv 11) slN (qpa_cons qpe_str slC qpa_nil)))))))), slTup⟩
   have hp : PS ((cxOf CX0 P w K mg base nmrefused "_law_refused" (defScope s_law_refused) f cdv A outer s H E).nox) (.Assign [.Name "_law_asked" px] (.List [t1, t2] q1) q2) _ := ps_set (i := 12) sc_law_refused.nd rfl (by first | exact Or.inl rfl | exact Or.inr rfl) (pe_lst (pa_cons (@h1) (pa_cons (@h2) pa_nil (s2 _ _)) (s1 _ _)))
   refine ⟨_, pss_at 10 hs rfl (@hp) (@r10), ?_⟩
   clear hp h1 h2 s1 s2 hs
   intro vb vm vf vc vl w t l G r s
   refine ⟨_, rfl, _, rfl, _, rfl, _, rfl, sz6, fun p1 g1 => ⟨_, rfl, _, rfl, _, rfl, _, rfl, sz6, fun p2 g2 => ⟨sz2, fun L1 g3 => ?_⟩⟩⟩
   have z1 := same_new (o := HO.tup [V.int 0, vb, V.ref a, V.ref m, vl, V.str "picture"]) g1
   have z2 := same_new (o := HO.tup [V.int 0, V.ref a, V.ref a, V.ref m, vl, V.str "cell"]) g2
   have z3 := same_new (o := HO.lst [V.ref p1, V.ref p2]) g3
   have zz := z1.trans (z2.trans z3)
   have e1 : (upd (upd (upd G p1 (HO.tup [V.int 0, vb, V.ref a, V.ref m, vl, V.str "picture"])) p2 (HO.tup [V.int 0, V.ref a, V.ref a, V.ref m, vl, V.str "cell"])) L1 (HO.lst [V.ref p1, V.ref p2])) p1 = some (HO.tup [V.int 0, vb, V.ref a, V.ref m, vl, V.str "picture"]) := (z2.trans z3) _ _ upd_same
   have e2 : (upd (upd (upd G p1 (HO.tup [V.int 0, vb, V.ref a, V.ref m, vl, V.str "picture"])) p2 (HO.tup [V.int 0, V.ref a, V.ref a, V.ref m, vl, V.str "cell"])) L1 (HO.lst [V.ref p1, V.ref p2])) p2 = some (HO.tup [V.int 0, V.ref a, V.ref a, V.ref m, vl, V.str "cell"]) := z3 _ _ upd_same
   have e3 : (upd (upd (upd G p1 (HO.tup [V.int 0, vb, V.ref a, V.ref m, vl, V.str "picture"])) p2 (HO.tup [V.int 0, V.ref a, V.ref a, V.ref m, vl, V.str "cell"])) L1 (HO.lst [V.ref p1, V.ref p2])) L1 = some (HO.lst [V.ref p1, V.ref p2]) := upd_same
   have r := r.mono zz
   have s := s.trans zz
   generalize upd (upd (upd G p1 (HO.tup [V.int 0, vb, V.ref a, V.ref m, vl, V.str "picture"])) p2 (HO.tup [V.int 0, V.ref a, V.ref a, V.ref m, vl, V.str "cell"])) L1 (HO.lst [V.ref p1, V.ref p2]) = G3 at r s e1 e2 e3 ⊢
   clear zz z1 z2 z3 g1 g2 g3
   have a1 : ∀ v ∈ [V.ref p1, V.ref p2], Ask K G3 cBP cBC cBS cBM v := fun v hv => by
    simp only [List.mem_cons, List.not_mem_nil, or_false] at hv
    rcases hv with rfl | rfl
    ·exact ⟨p1, 0, _, _, _, _, _, _, _, rfl, e1, .p, by decide +kernel, by decide +kernel, r.bad0 (by decide)⟩
    ·exact ⟨p2, 0, _, _, _, _, _, _, _, rfl, e2, .c, by decide +kernel, by decide +kernel, r.cell0⟩
   exact k10 vb vm vf vc vl w t l G3 L1 _ r s e3 (Nat.le_refl _) a1
  obtain ⟨t7, r7, k7⟩ : ∃ tr, PSs ((cxOf CX0 P w K mg base nmrefused "_law_refused" (defScope s_law_refused) f cdv A outer s H E).nox) ((defBody s_law_refused).drop 7) tr ∧ ∀ (vb vm vf : V) (w t l : Addr) (G : Hp), RF0 K G a b m wd PA.length vb vm → Same H G → FarP K G vf wd PA.length → OM G w wd PA.length → OM G t wd PA.length → OM G l wd PA.length → tr { nx := fun _ H' => Q .non H', rt := Q } [some (.ref a), some (.ref b), some (.ref m), some (.int (n : Int)), some vb, some vm, some vf, some (.ref w), some (.ref t), some (.ref l), none, none, none, none, none, none, none, none, none] G := by
   obtain ⟨px, q1, q2, q3, z1, z2, z3, z4, z5, z6, z7, z8, z9, z10, z11, z12, z13, z14, j1, j2, j3, j4, e1, e5, e6, e7, hsh, l1, l5, l6, l7⟩ : ∃ (px q1 q2 q3 z1 z2 z3 z4 z5 z6 z7 z8 z9 z10 z11 z12 z13 z14 : Pos) (j1 j2 j3 j4 : Nat) (e1 e5 e6 e7 : PySem.Expr), (defBody s_law_refused)[8]? = some (.Assign [.Name "_law_lists" px] (.Subscript (.List [e1, (.Call (.Name "tuple" z6) [(.List [(.Constant (.int 1) j3 z7)] z8)] [] z9), (.List [(.Name "_law_no_cell" z10)] z11), (.List [(.Constant (.int 0) j4 z12), (.Name "_law_no_cell" z13)] z14), e5, e6, e7] q1) (.BinOp (.BinOp (.Name "_law_number" z1) .FloorDiv (.Constant (.int 45) j1 z2) z3) .Mod (.Constant (.int 7) j2 z4) z5) q2) q3) ∧ LitE e1 (L2.tC .non) ∧ LitE e5 (L2.tC (.str "01")) ∧ LitE e6 (L2.tC (.int 5)) ∧ LitE e7 tDict0 := ⟨_, _, _, _, _, _, _, _, _, _, _, _, _, _, _, _, _, _, _, _, _, _, _, _, _, _, rfl, lit_non, lit_str, lit_int, lit_dict0⟩
   have hx : PE (cxOf CX0 P w K mg base nmrefused "_law_refused" (defScope s_law_refused) f cdv A outer s H E).nox (.BinOp (.BinOp (.Name "_law_number" z1) .FloorDiv (.Constant (.int 45) j1 z2) z3) .Mod (.Constant (.int 7) j2 z4) z5) _ := (pe_op op_mod (pe_op op_fdiv (pv 3) pe_int) pe_int)
   have h4 : PE (cxOf CX0 P w K mg base nmrefused "_law_refused" (defScope s_law_refused) f cdv A outer s H E).nox (.List [(.Constant (.int 0) j4 z12), (.Name "_law_no_cell" z13)] z14) _ := (pe_lst (pa_cons pe_int (pa_cons (pv 10) pa_nil)))
   have h3 : PE (cxOf CX0 P w K mg base nmrefused "_law_refused" (defScope s_law_refused) f cdv A outer s H E).nox (.List [(.Name "_law_no_cell" z10)] z11) _ := (pe_lst (pa_cons (pv 10) pa_nil))
   have h2 : PE (cxOf CX0 P w K mg base nmrefused "_law_refused" (defScope s_law_refused) f cdv A outer s H E).nox (.Call (.Name "tuple" z6) [(.List [(.Constant (.int 1) j3 z7)] z8)] [] z9) _ := (pe_callTy call_tuple_of rfl T.tuple PyProof.Rows.boot_tuple (pa_cons (pe_lst (pa_cons pe_int pa_nil)) pa_nil))
   have hp8 : PS (cxOf CX0 P w K mg base nmrefused "_law_refused" (defScope s_law_refused) f cdv A outer s H E).nox (.Assign [.Name "_law_lists" px] (.Subscript (.List [e1, (.Call (.Name "tuple" z6) [(.List [(.Constant (.int 1) j3 z7)] z8)] [] z9), (.List [(.Name "_law_no_cell" z10)] z11), (.List [(.Constant (.int 0) j4 z12), (.Name "_law_no_cell" z13)] z14), e5, e6, e7] q1) (.BinOp (.BinOp (.Name "_law_number" z1) .FloorDiv (.Constant (.int 45) j1 z2) z3) .Mod (.Constant (.int 7) j2 z4) z5) q2) q3) _ := ps_set (i := 11) sc_law_refused.nd rfl (by first | exact Or.inl rfl | exact Or.inr rfl) (pe_ix (ixK K rfl) (pe_lst (pa_cons (l1.pe _) (pa_cons (@h2) (pa_cons (@h3) (pa_cons (@h4) (pa_cons (l5.pe _) (pa_cons (l6.pe _) (pa_cons (l7.pe _) pa_nil (l7.sl _ _)) (l6.sl _ _)) (l5.sl _ _))))) (l1.sl _ _))) (@hx) (fun _ _ => rfl))
   have r8 : PSs ((cxOf CX0 P w K mg base nmrefused "_law_refused" (defScope s_law_refused) f cdv A outer s H E).nox) ((defBody s_law_refused).drop 8) _ := pss_at 9 hsh rfl (@hp8) (@r9)
   refine ⟨_, (pss_cons (ps_set (i := 10) sc_law_refused.nd rfl (by first | exact Or.inl rfl | exact Or.inr rfl) (pe_callD g__law_wrong_cell (hr.mono (by decide)) rfl (pa_cons (pe_op op_fdiv (pv 3) pe_int) pa_nil)))
    (@r8)), ?_⟩
   clear r8 hp8 hx h2 h3 h4 hsh l1 l5 l6 l7
   intro vb vm vf w t l G r0 s far ow ot ol
   refine ⟨_, rfl, _, _, rfl, rfl, ⟨by decide, by decide⟩, n / 5, ?_, fun vc G1 s1 kc ic => ?_⟩
   ·show [V.int ((n : Int) / 5)] = [V.int ((n / 5 : Nat) : Int)]
    rw [show (n : Int) / 5 = ((n / 5 : Nat) : Int) by omega]
   have r0 := r0.mono s1
   have s := s.trans s1
   have far := far.mono s1
   have ow := ow.mono s1
   have ot := ot.mono s1
   have ol := ol.mono s1
   refine ⟨sz1, fun y1 g1 => ⟨y1, _, rfl, .inl ⟨SqL.of upd_same, fun y2 g2 => ⟨_, rfl, sz1, fun y3 g3 => ⟨_, rfl, sz2, fun y4 g4 => fun y5 g5 => ⟨sz7, fun L gL => ?_⟩⟩⟩⟩⟩⟩
   have z1 := same_new (o := HO.lst [V.int 1]) g1
   have z2 := same_new (o := HO.tup [V.int 1]) g2
   have z3 := same_new (o := HO.lst [vc]) g3
   have z4 := same_new (o := HO.lst [V.int 0, vc]) g4
   have z5 := same_new (o := DictO y5) g5
   have zL := same_new (o := HO.lst [V.non, V.ref y2, V.ref y3, V.ref y4, V.str "01", V.int 5, V.ref y5]) gL
   have zz := z1.trans (z2.trans (z3.trans (z4.trans (z5.trans zL))))
   have e2 : (upd (upd (upd (upd (upd (upd G1 y1 (HO.lst [V.int 1])) y2 (HO.tup [V.int 1])) y3 (HO.lst [vc])) y4 (HO.lst [V.int 0, vc])) y5 (DictO y5)) L (HO.lst [V.non, V.ref y2, V.ref y3, V.ref y4, V.str "01", V.int 5, V.ref y5])) y2 = some (HO.tup [V.int 1]) := (z3.trans (z4.trans (z5.trans zL))) _ _ upd_same
   have e3 : (upd (upd (upd (upd (upd (upd G1 y1 (HO.lst [V.int 1])) y2 (HO.tup [V.int 1])) y3 (HO.lst [vc])) y4 (HO.lst [V.int 0, vc])) y5 (DictO y5)) L (HO.lst [V.non, V.ref y2, V.ref y3, V.ref y4, V.str "01", V.int 5, V.ref y5])) y3 = some (HO.lst [vc]) := (z4.trans (z5.trans zL)) _ _ upd_same
   have e4 : (upd (upd (upd (upd (upd (upd G1 y1 (HO.lst [V.int 1])) y2 (HO.tup [V.int 1])) y3 (HO.lst [vc])) y4 (HO.lst [V.int 0, vc])) y5 (DictO y5)) L (HO.lst [V.non, V.ref y2, V.ref y3, V.ref y4, V.str "01", V.int 5, V.ref y5])) y4 = some (HO.lst [V.int 0, vc]) := (z5.trans zL) _ _ upd_same
   have e5 : (upd (upd (upd (upd (upd (upd G1 y1 (HO.lst [V.int 1])) y2 (HO.tup [V.int 1])) y3 (HO.lst [vc])) y4 (HO.lst [V.int 0, vc])) y5 (DictO y5)) L (HO.lst [V.non, V.ref y2, V.ref y3, V.ref y4, V.str "01", V.int 5, V.ref y5])) y5 = some (DictO y5) := zL _ _ upd_same
   have eL : (upd (upd (upd (upd (upd (upd G1 y1 (HO.lst [V.int 1])) y2 (HO.tup [V.int 1])) y3 (HO.lst [vc])) y4 (HO.lst [V.int 0, vc])) y5 (DictO y5)) L (HO.lst [V.non, V.ref y2, V.ref y3, V.ref y4, V.str "01", V.int 5, V.ref y5])) L = some (HO.lst [V.non, V.ref y2, V.ref y3, V.ref y4, V.str "01", V.int 5, V.ref y5]) := upd_same
   have r0 := r0.mono zz
   have s := s.trans zz
   have far := far.mono zz
   have ow := ow.mono zz
   have ot := ot.mono zz
   have ol := ol.mono zz
   have kc := kc.mono zz
   generalize (upd (upd (upd (upd (upd (upd G1 y1 (HO.lst [V.int 1])) y2 (HO.tup [V.int 1])) y3 (HO.lst [vc])) y4 (HO.lst [V.int 0, vc])) y5 (DictO y5)) L (HO.lst [V.non, V.ref y2, V.ref y3, V.ref y4, V.str "01", V.int 5, V.ref y5])) = G2 at r0 s far ow ot ol kc e2 e3 e4 e5 eL ⊢
   obtain ⟨vl, ev, bc⟩ : ∃ v, atI [V.non, V.ref y2, V.ref y3, V.ref y4, V.str "01", V.int 5, V.ref y5] ((n : Int) / 45 % 7) = some v ∧ BadC K G2 v := by
    obtain ⟨j, hj, ej⟩ : ∃ j : Nat, j < 7 ∧ (n : Int) / 45 % 7 = (j : Int) := ⟨((n : Int) / 45 % 7).toNat, by omega, by omega⟩
    rw [ej]
    match j, hj with
    | 0, _ => exact ⟨_, atI_nat rfl, .inr ⟨.non, rfl⟩⟩
    | 1, _ => exact ⟨_, atI_nat rfl, .inr ⟨.tup e2, by simp only [isL, e2]⟩⟩
    | 2, _ => exact ⟨_, atI_nat rfl, .inl ⟨y3, [vc], rfl, e3, by simp, fun y hy => by rw [List.mem_singleton.mp hy]; exact kc, by rw [List.all_cons, ic, Bool.false_and]⟩⟩
    | 3, _ => exact ⟨_, atI_nat rfl, .inl ⟨y4, [V.int 0, vc], rfl, e4, by simp, fun y hy => by
      simp only [List.mem_cons, List.not_mem_nil, or_false] at hy
      rcases hy with rfl | rfl
      ·exact .int 0
      ·exact kc, by rw [List.all_cons, List.all_cons, ic, Bool.false_and, Bool.and_false]⟩⟩
    | 4, _ => exact ⟨_, atI_nat rfl, .inr ⟨.str _, rfl⟩⟩
    | 5, _ => exact ⟨_, atI_nat rfl, .inr ⟨.int _, rfl⟩⟩
    | 6, _ => exact ⟨_, atI_nat rfl, .inr ⟨.dict e5, by simp only [isL, e5, DictO]⟩⟩
   refine ⟨_, rfl, _, _, rfl, rfl, ⟨by decide, by decide⟩, _, _, rfl, rfl, (by show (0 : Int) < 7; decide), L, _, _, vl, rfl, rfl, SqL.of eL, ev, ?_⟩
   exact k9 vb vm vf vc vl w t l G2 ⟨r0, far, ow, ot, ol, ⟨kc, ic⟩, bc⟩ s
  obtain ⟨t6, r6, k6⟩ : ∃ tr, PSs ((cxOf CX0 P w K mg base nmrefused "_law_refused" (defScope s_law_refused) f cdv A outer s H E).nox) ((defBody s_law_refused).drop 6) tr ∧ ∀ (vb vm vf : V) (w t : Addr) (G : Hp), RF0 K G a b m wd PA.length vb vm → Same H G → FarP K G vf wd PA.length → OM G w wd PA.length → OM G t wd PA.length → tr { nx := fun _ H' => Q .non H', rt := Q } [some (.ref a), some (.ref b), some (.ref m), some (.int (n : Int)), some vb, some vm, some vf, some (.ref w), some (.ref t), none, none, none, none, none, none, none, none, none, none] G := by
   refine ⟨_, (pss_cons (ps_set (i := 9) sc_law_refused.nd rfl (by first | exact Or.inl rfl | exact Or.inr rfl) (pe_tup (pa_cons (pe_ix (ixTK K rfl) (pv 2) pe_int (fun _ _ => rfl)) (pa_cons (pe_ifExp (pt_cmpR op_gt (pe_callB (lenK K rfl) rfl T.len PySem.boot_len (pa_cons (pe_ix (ixTK K rfl) (pv 2) pe_int (fun _ _ => rfl)) pa_nil)) pe_int (nomark _)) (pe_slice (slTK K rfl) (pe_ix (ixTK K rfl) (pv 2) pe_int (fun _ _ => rfl)) (po_some pe_int) po_none) (pe_op (repTK K rfl) (pe_ix (ixTK K rfl) (pv 2) pe_int (fun _ _ => rfl)) pe_int)) pa_nil))))
    (@r7)), ?_⟩
   intro vb vm vf w t G r0 s far ow ot
   obtain ⟨m2, rm, mv, gm, hm⟩ := r0.msk
   have h1 := gm.h1
   have h24 := gm.h24
   have fin : ∀ {G2 : Hp} {q : Addr} {rr : List Nat}, Same G G2 → G2 q = some (.tup (nV rr)) → GoodM wd rr → rr.length ≠ PA.length → ∀ p, G2 p = none → t7 { nx := fun _ H' => Q .non H', rt := Q } [some (.ref a), some (.ref b), some (.ref m), some (.int (n : Int)), some vb, some vm, some vf, some (.ref w), some (.ref t), some (.ref p), none, none, none, none, none, none, none, none, none] (upd G2 p (.tup [V.int (wd : Int), V.ref q])) := fun {G2 q rr} s2 eq gr nr p hp => by
    have zz := s2.trans (same_new (o := HO.tup [V.int (wd : Int), V.ref q]) hp)
    exact k7 vb vm vf w t p _ (r0.mono zz) (s.trans zz) (far.mono zz) (ow.mono zz) (ot.mono zz) ⟨q, wd, rr, ⟨upd_same, same_new hp _ _ eq⟩, gr, fun z => nr z.2.symm⟩
   refine ⟨_, rfl, m, _, _, .int (wd : Int), rfl, rfl, SqT.of mv.top, atI_nat (j := 0) rfl, _, rfl, m, _, _, .ref m2, rfl, rfl, SqT.of mv.top, atI_nat (j := 1) rfl, m2, _, rfl, .inr (SqT.of mv.row), _, _, rfl, rfl, _, rfl, ?_⟩
   rw [nV_len]
   refine ite2 (fun z => ?_) (fun z => ?_)
   ·have hl : 1 < rm.length := by have := of_decide_eq_true z; omega
    have nw : ¬ (HT.sIx (nV rm).length 0 (some (1 : Int)) = 0 ∧ HT.sIx (nV rm).length (nV rm).length none = (nV rm).length) := fun z => by
     have := z.1
     rw [show (1 : Int) = ((1 : Nat) : Int) from rfl, HT.sIx_nat, nV_len] at this
     omega
    refine ⟨_, rfl, m, _, _, .ref m2, rfl, rfl, SqT.of mv.top, atI_nat (j := 1) rfl, _, rfl, m2, _, rfl, SqT.of mv.row, nw, fun q hq => ⟨sz2, fun p hp => ?_⟩⟩
    have e : cutV (nV rm) (some (1 : Int)) none = nV (rm.drop 1) := by
     rw [show (1 : Int) = ((1 : Nat) : Int) from rfl, cut_lo]; unfold nV; rw [List.map_drop]
    refine fin (q := q) (rr := rm.drop 1) (same_new hq) (by rw [upd_same, e]) ⟨gm.w1, gm.w24, by rw [List.length_drop]; omega, by rw [List.length_drop]; omega, fun r hr => gm.row r (List.mem_of_mem_drop hr)⟩ (by rw [List.length_drop]; omega) p hp
   ·have hl : rm.length = 1 := by
     have : ¬ (1 : Int) < (rm.length : Int) := fun w => z (decide_eq_true w)
     omega
    refine ⟨_, rfl, m, _, _, .ref m2, rfl, rfl, SqT.of mv.top, atI_nat (j := 1) rfl, m2, _, _, rfl, rfl, SqT.of mv.row, (fun z => by have := congrArg List.length z; rw [nV_len, hl] at this; cases this), by decide, by decide, (by rw [nV_len, hl]; decide), fun q hq => ⟨sz2, fun p hp => ?_⟩⟩
    have e : (List.replicate (3 : Int).toNat (nV rm)).flatten = nV (rm ++ (rm ++ rm)) := by
     show nV rm ++ (nV rm ++ (nV rm ++ [])) = _
     unfold nV
     rw [List.append_nil, List.map_append, List.map_append]
    refine fin (q := q) (rr := rm ++ (rm ++ rm)) (same_new hq) (by rw [upd_same, e]) ⟨gm.w1, gm.w24, by simp only [List.length_append]; omega, by simp only [List.length_append]; omega, fun r hr => gm.row r (by simp only [List.mem_append, or_self] at hr; exact hr)⟩ (by simp only [List.length_append]; omega) p hp
  obtain ⟨t5, r5, k5⟩ : ∃ tr, PSs ((cxOf CX0 P w K mg base nmrefused "_law_refused" (defScope s_law_refused) f cdv A outer s H E).nox) ((defBody s_law_refused).drop 5) tr ∧ ∀ (vb vm vf : V) (w : Addr) (G : Hp), RF0 K G a b m wd PA.length vb vm → Same H G → FarP K G vf wd PA.length → OM G w wd PA.length → tr { nx := fun _ H' => Q .non H', rt := Q } [some (.ref a), some (.ref b), some (.ref m), some (.int (n : Int)), some vb, some vm, some vf, some (.ref w), none, none, none, none, none, none, none, none, none, none, none] G := by
   refine ⟨_, (pss_cons (ps_set (i := 8) sc_law_refused.nd rfl (by first | exact Or.inl rfl | exact Or.inr rfl) (pe_tup (pa_cons (pe_ix (ixTK K rfl) (pv 2) pe_int (fun _ _ => rfl)) (pa_cons (pe_ifExp (pt_cmpR op_lt (pe_callB (lenK K rfl) rfl T.len PySem.boot_len (pa_cons (pe_ix (ixTK K rfl) (pv 2) pe_int (fun _ _ => rfl)) pa_nil)) pe_int (nomark _)) (pe_op (catAK K rfl) (pe_ix (ixTK K rfl) (pv 2) pe_int (fun _ _ => rfl)) (pe_tup (pa_cons pe_int pa_nil))) (pe_slice (slTK K rfl) (pe_ix (ixTK K rfl) (pv 2) pe_int (fun _ _ => rfl)) po_none (po_some pe_int))) pa_nil))))
    (@r6)), ?_⟩
   intro vb vm vf w G r0 s far ow
   obtain ⟨m2, rm, mv, gm, hm⟩ := r0.msk
   have h1 := gm.h1
   have h24 := gm.h24
   have fin : ∀ {G2 : Hp} {q : Addr} {rr : List Nat}, Same G G2 → G2 q = some (.tup (nV rr)) → GoodM wd rr → rr.length ≠ PA.length → ∀ p, G2 p = none → t6 { nx := fun _ H' => Q .non H', rt := Q } [some (.ref a), some (.ref b), some (.ref m), some (.int (n : Int)), some vb, some vm, some vf, some (.ref w), some (.ref p), none, none, none, none, none, none, none, none, none, none] (upd G2 p (.tup [V.int (wd : Int), V.ref q])) := fun {G2 q rr} s2 eq gr nr p hp => by
    have zz := s2.trans (same_new (o := HO.tup [V.int (wd : Int), V.ref q]) hp)
    exact k6 vb vm vf w p _ (r0.mono zz) (s.trans zz) (far.mono zz) (ow.mono zz) ⟨q, wd, rr, ⟨upd_same, same_new hp _ _ eq⟩, gr, fun z => nr z.2.symm⟩
   refine ⟨_, rfl, m, _, _, .int (wd : Int), rfl, rfl, SqT.of mv.top, atI_nat (j := 0) rfl, _, rfl, m, _, _, .ref m2, rfl, rfl, SqT.of mv.top, atI_nat (j := 1) rfl, m2, _, rfl, .inr (SqT.of mv.row), _, _, rfl, rfl, _, rfl, ?_⟩
   rw [nV_len]
   refine ite2 (fun z => ?_) (fun z => ?_)
   ·have hl : rm.length < 24 := by have := of_decide_eq_true z; omega
    refine ⟨_, rfl, m, _, _, .ref m2, rfl, rfl, SqT.of mv.top, atI_nat (j := 1) rfl, sz1, fun c2 hc2 => catA_of (same_new hc2 _ _ mv.row) upd_same (by rw [nV_len]; exact Nat.le_trans (Nat.add_le_add_right h24 _) (by decide)) fun q G3 s3 e3 => ⟨sz2, fun p hp => ?_⟩⟩
    have e : nV rm ++ [V.int 0] = nV (rm ++ [0]) := by unfold nV; rw [List.map_append]; rfl
    rw [e] at e3
    refine fin (q := q) (rr := rm ++ [0]) ((same_new hc2).trans s3) e3 ⟨gm.w1, gm.w24, by simp only [List.length_append]; omega, by simp only [List.length_append, List.length_cons, List.length_nil]; omega, fun r hr => ?_⟩ (by simp only [List.length_append, List.length_cons, List.length_nil]; omega) p hp
    rcases List.mem_append.mp hr with hr | hr
    ·exact gm.row r hr
    ·rw [List.mem_singleton.mp hr]; exact Nat.two_pow_pos wd
   ·have hl : rm.length = 24 := by
     have : ¬ (rm.length : Int) < (24 : Int) := fun w => z (decide_eq_true w)
     omega
    have nw : ¬ (HT.sIx (nV rm).length 0 none = 0 ∧ HT.sIx (nV rm).length (nV rm).length (some (23 : Int)) = (nV rm).length) := fun z => by
     have := z.2
     rw [show (23 : Int) = ((23 : Nat) : Int) from rfl, HT.sIx_nat, nV_len] at this
     omega
    refine ⟨_, rfl, m, _, _, .ref m2, rfl, rfl, SqT.of mv.top, atI_nat (j := 1) rfl, _, rfl, m2, _, rfl, SqT.of mv.row, nw, fun q hq => ⟨sz2, fun p hp => ?_⟩⟩
    have e : cutV (nV rm) none (some (23 : Int)) = nV (rm.take 23) := by
     rw [show (23 : Int) = ((23 : Nat) : Int) from rfl, cut_hi]; unfold nV; rw [List.map_take]
    refine fin (q := q) (rr := rm.take 23) (same_new hq) (by rw [upd_same, e]) ⟨gm.w1, gm.w24, by rw [List.length_take]; omega, by rw [List.length_take]; omega, fun r hr => gm.row r (List.mem_of_mem_take hr)⟩ (by rw [List.length_take]; omega) p hp
  obtain ⟨t4, r4, k4⟩ : ∃ tr, PSs ((cxOf CX0 P w K mg base nmrefused "_law_refused" (defScope s_law_refused) f cdv A outer s H E).nox) ((defBody s_law_refused).drop 4) tr ∧ ∀ (vb vm vf : V) (G : Hp), RF0 K G a b m wd PA.length vb vm → Same H G → FarP K G vf wd PA.length → tr { nx := fun _ H' => Q .non H', rt := Q } [some (.ref a), some (.ref b), some (.ref m), some (.int (n : Int)), some vb, some vm, some vf, none, none, none, none, none, none, none, none, none, none, none, none] G := by
   refine ⟨_, (pss_cons (ps_set (i := 7) sc_law_refused.nd rfl (by first | exact Or.inl rfl | exact Or.inr rfl) (pe_tup (pa_cons (pe_op op_add (pe_op op_mod (pe_ix (ixTK K rfl) (pv 2) pe_int (fun _ _ => rfl)) pe_int) pe_int) (pa_cons (pe_callTy call_tuple_of rfl T.tuple PyProof.Rows.boot_tuple (pa_cons (pe_comp (N := ["_law_row"]) (src := [none]) rfl ⟨rfl, rfl, rfl, rfl, rfl, by decide +kernel⟩ (piTK K rfl (pe_ix (ixTK K rfl) (pv 2) pe_int (fun _ _ => rfl))) (fun s H C fp => pg_name (i := 0) (show (["_law_row"] : List Str).Nodup by decide +kernel) rfl (by first | exact Or.inl rfl | exact Or.inr rfl)) (fun s H C fp => pts_nil) (fun s H C fp => (pe_op op_mod (pv 0) pe_int))) pa_nil)) pa_nil))))
    (@r5)), ?_⟩
   intro vb vm vf G r0 s far
   obtain ⟨m2, rm, mv, gm, hm⟩ := r0.msk
   have w1 := gm.w1
   have w24 := gm.w24
   refine ⟨_, rfl, m, _, _, .int (wd : Int), rfl, rfl, SqT.of mv.top, atI_nat (j := 0) rfl, _, _, rfl, rfl, (by show (0 : Int) < 24; decide), _, _, rfl, rfl, _, rfl, m, _, _, .ref m2, rfl, rfl, SqT.of mv.top, atI_nat (j := 1) rfl, m2, rfl, ⟨_, SqT.of mv.row⟩, fun D hD => ?_⟩
   refine comp_fm (k := 0) (fun v => .int ((natV v % 2 : Nat) : Int)) (fun _ => true) (src_tup mv.row) (by rw [nV_len]; exact Nat.le_trans gm.h24 (by decide)) hD (fun x _ H' Qb _ kb => kb H' (Same.refl _)) (fun x hx _ H' Q' sm kk => ?_) fun G2 s2 h2 => ?_
   ·obtain ⟨r, hr1, rfl⟩ := List.mem_map.mp hx
    refine ⟨_, rfl, _, _, rfl, rfl, (by show (0 : Int) < 2; decide), ?_⟩
    have tt := kk H' (Same.refl _)
    rw [natV_n] at tt
    have e : (r : Int) % 2 = ((r % 2 : Nat) : Int) := by omega
    show Q' (.int ((r : Int) % 2)) H'
    rw [e]; exact tt
   ·refine ⟨D, _, rfl, .inl ⟨SqL.of h2, fun q hq => ⟨sz2, fun p hp => ?_⟩⟩⟩
    have eq : ((nV rm).filter (fun _ => true)).map (fun v => V.int ((natV v % 2 : Nat) : Int)) = nV (rm.map fun r => r % 2) := by
     rw [filter_t]
     unfold nV
     rw [List.map_map, List.map_map]
     refine List.map_congr_left fun r _ => ?_
     show V.int ((natV (.int (r : Int)) % 2 : Nat) : Int) = V.int ((r % 2 : Nat) : Int)
     rw [natV_n]
    have ew : (wd : Int) % 24 + 1 = ((wd % 24 + 1 : Nat) : Int) := by omega
    have zz := s2.trans ((same_new (o := HO.tup (((nV rm).filter (fun _ => true)).map (fun v => V.int ((natV v % 2 : Nat) : Int)))) hq).trans (same_new (o := HO.tup [V.int ((wd : Int) % 24 + 1), V.ref q]) hp))
    refine k5 vb vm vf p _ (r0.mono zz) (s.trans zz) (far.mono zz) ⟨q, wd % 24 + 1, rm.map (fun r => r % 2), ⟨?_, ?_⟩, ⟨by omega, by omega, by rw [List.length_map]; exact gm.h1, by rw [List.length_map]; exact gm.h24, fun r hr => ?_⟩, fun z => ?_⟩
    ·show upd _ p (HO.tup [V.int ((wd : Int) % 24 + 1), V.ref q]) p = _
     rw [upd_same, ew]
    ·rw [← eq]; exact same_new hp _ _ upd_same
    ·obtain ⟨r', _, rfl⟩ := List.mem_map.mp hr
     have : 2 ^ 1 ≤ 2 ^ (wd % 24 + 1) := Nat.pow_le_pow_right (by decide) (by omega)
     omega
    ·have := z.1; omega
  obtain ⟨t3, r3, k3⟩ : ∃ tr, PSs ((cxOf CX0 P w K mg base nmrefused "_law_refused" (defScope s_law_refused) f cdv A outer s H E).nox) ((defBody s_law_refused).drop 3) tr ∧ ∀ (vb vm vf : V) (G : Hp), RF0 K G a b m wd PA.length vb vm → Same H G → (¬ (wd = 24 ∧ PA.length = 24) → FarP K G vf wd PA.length) → tr { nx := fun _ H' => Q .non H', rt := Q } [some (.ref a), some (.ref b), some (.ref m), some (.int (n : Int)), some vb, some vm, some vf, none, none, none, none, none, none, none, none, none, none, none, none] G := by
   refine ⟨_, (pss_cons (ps_if (PW.pt (pw_and (pt_cmpR op_eq (pe_callB (lenK K rfl) rfl T.len PySem.boot_len (pa_cons (pe_ix (ixK K rfl) (pv 1) pe_int (fun _ _ => rfl)) pa_nil)) pe_int (nomark _)) (pw_and1 (pt_cmpR op_eq (pe_callB (lenK K rfl) rfl T.len PySem.boot_len (pa_cons (pv 1) pa_nil)) pe_int (nomark _))))) (pss_one (ps_set (i := 6) sc_law_refused.nd rfl (by first | exact Or.inl rfl | exact Or.inr rfl) (pe_lst (pa_cons (pe_lst (pa_cons pe_int pa_nil)) pa_nil)))) pss_nil)
    (@r4)), ?_⟩
   intro vb vm vf G r0 s far
   obtain ⟨qs, B, pb, gb, hb⟩ := r0.two
   obtain ⟨q0, ns, e0, e1, e2⟩ := gb.first pb
   refine ⟨_, rfl, b, _, _, _, rfl, rfl, SqL.of pb.top, atI_nat (j := 0) e0, q0, _, rfl, .inl (SqL.of e1), rfl, _, rfl, ite2 (fun z1 => ⟨_, rfl, b, _, rfl, .inl (SqL.of pb.top), rfl, _, rfl, ite2 (fun z2 => ?_) (fun z2 => ?_)⟩) (fun z1 => ?_)⟩
   ·have h1 : wd = 24 := by
     have := of_decide_eq_true z1
     injection this with this
     rw [List.length_map, e2] at this
     omega
    refine ⟨sz1, fun y1 g1 => ⟨sz1, fun y2 g2 => ?_⟩⟩
    have zz := (same_new (o := HO.lst [V.int 0]) g1).trans (same_new (o := HO.lst [V.ref y1]) g2)
    have ne : y2 ≠ y1 := fun z => by
     rw [z, upd_same] at g2; cases g2
    have p1 : PicV (upd (upd G y1 (HO.lst [V.int 0])) y2 (HO.lst [V.ref y1])) y2 [y1] (ir [[0]]) := ⟨upd_same, .cons (same_new g2 _ _ upd_same) .nil, by simp, by simpa using ne⟩
    exact k4 vb vm (.ref y2) _ (r0.mono zz) (s.trans zz) (far_good (w2 := 1) p1 ⟨by decide, by decide, by decide, by decide, fun r hr => by rw [List.mem_singleton.mp hr]; exact ⟨rfl, fun c hc => by rw [List.mem_singleton.mp hc]; decide⟩⟩ (fun z => by have := z.1; omega))
   ·refine k4 vb vm vf G r0 s (far fun z => z2 ?_)
    rw [List.length_map, pb.len, ir_len, hb, z.2]; exact decide_eq_true rfl
   ·refine k4 vb vm vf G r0 s (far fun z => z1 ?_)
    rw [List.length_map, e2, z.1]; exact decide_eq_true rfl
  refine ⟨_, (pss_cons (ps_set (i := 4) sc_law_refused.nd rfl (by first | exact Or.inl rfl | exact Or.inr rfl) (pe_callD g__law_wrong_picture (hr.mono (by decide)) rfl (pa_cons (pv 3) (pa_cons (pv 0) pa_nil))))
    (pss_cons (ps_set (i := 5) sc_law_refused.nd rfl (by first | exact Or.inl rfl | exact Or.inr rfl) (pe_callD g__law_wrong_mask (hr.mono (by decide)) rfl (pa_cons (pe_op op_fdiv (pv 3) pe_int) (pa_cons (pv 2) pa_nil))))
    (pss_cons (ps_set (i := 6) sc_law_refused.nd rfl (by first | exact Or.inl rfl | exact Or.inr rfl) (pe_ifExp (pt_cmpR op_lt (pe_callB (lenK K rfl) rfl T.len PySem.boot_len (pa_cons (pe_ix (ixK K rfl) (pv 1) pe_int (fun _ _ => rfl)) pa_nil)) pe_int (nomark _)) (pe_comp (N := ["_law_row"]) (src := [none]) rfl ⟨rfl, rfl, rfl, rfl, rfl, by decide +kernel⟩ (piK K rfl (pv 1)) (fun s H C fp => pg_name (i := 0) (show (["_law_row"] : List Str).Nodup by decide +kernel) rfl (by first | exact Or.inl rfl | exact Or.inr rfl)) (fun s H C fp => pts_nil) (fun s H C fp => (pe_op op_cat (pv 0) (pe_lst (pa_cons pe_int pa_nil))))) (pe_op op_cat (pe_slice (slK K rfl) (pv 1) (po_some pe_int) po_none) (pe_op op_rep (pe_slice (slK K rfl) (pv 1) po_none (po_some pe_int)) pe_int))))
    (@r3)))), ?_⟩
  refine ⟨_, rfl, _, rfl, n, a, ps, PA, wd, rfl, po, ga, fun vb H1 s1 bad => ?_⟩
  refine ⟨_, rfl, _, _, rfl, rfl, ⟨by decide, by decide⟩, _, rfl, n / 7, m, m2, wd, rm, ?_, mv.mono s1, gm, fun vm H2 s2 nom => ?_⟩
  ·show [V.int ((n : Int) / 7), V.ref m] = [V.int ((n / 7 : Nat) : Int), V.ref m]
   rw [show (n : Int) / 7 = ((n / 7 : Nat) : Int) by omega]
  have s12 := s1.trans s2
  have r0 : RF0 K H2 a b m wd PA.length vb vm := ⟨⟨ps, PA, po.mono s12, ga, rfl⟩, ⟨qs, B, pb.mono s12, gb, hl⟩, ⟨m2, rm, mv.mono s12, gm, hm⟩, bad.mono s2, nom⟩
  have pb2 := pb.mono s12
  obtain ⟨q0, ns, e0, e1, e2⟩ := gb.first pb2
  have hpl : qs.length = B.length := by rw [pb.len, ir_len]
  have bne := gb.ne
  have b24 := gb.le
  have w24 := gb.w24
  refine ⟨_, rfl, b, _, _, _, rfl, rfl, SqL.of pb2.top, atI_nat (j := 0) e0, q0, _, rfl, .inl (SqL.of e1), _, _, rfl, rfl, _, rfl, ?_⟩
  rw [List.length_map, e2]
  refine ite2 (fun z => ?_) (fun z => ?_)
  ·have hw : wd < 24 := by have := of_decide_eq_true z; omega
   refine ⟨_, rfl, b, rfl, ⟨_, SqL.of pb2.top⟩, fun D hD => ?_⟩
   refine comp_rows (k := 0) (fun v => gOf H2 v ++ [V.int 0]) (src_list (SqL.of pb2.top)) (by rw [List.length_map, hpl]; exact Nat.le_trans b24 (by decide)) hD (fun x hx H' Q' sm kk => ?_) fun ys H3 s3 fr pic' => ?_
   ·obtain ⟨q, hq, rfl⟩ := List.mem_map.mp hx
    obtain ⟨rs, f1, f2, _⟩ := gb.mem pb2 hq
    refine ⟨_, rfl, sz1, fun y1 g1 => ⟨q, y1, _, _, rfl, rfl, same_new g1 _ _ (sm _ _ f1), upd_same, Nat.le_trans (by rw [List.length_map, List.length_singleton]; omega : _ ≤ 2000) (by decide), fun p hp => kk p _ ((same_new g1).trans (same_new hp)) ((same_new (o := HO.lst [V.int 0]) g1).free hp) ?_⟩⟩
    rw [upd_same, gOf_at f1]
   ·have e : ((qs.map V.ref).map fun v => gOf H2 v ++ [V.int 0]) = ir (B.map fun r => r ++ [0]) := by
     have h := congrArg (List.map fun r => r ++ [V.int 0]) (gOf_map pb2.row)
     rw [List.map_map] at h
     refine Eq.trans h ?_
     unfold ir
     rw [List.map_map, List.map_map]
     refine List.map_congr_left fun r _ => ?_
     show r.map V.int ++ [V.int 0] = (r ++ [0]).map V.int
     rw [List.map_append]; rfl
    rw [e] at pic'
    have gB : Good (B.map fun r => r ++ [0]) (wd + 1) := ⟨by rw [List.length_map]; exact bne, by rw [List.length_map]; exact b24, by omega, by omega, fun r hr => by
     obtain ⟨r', hr', rfl⟩ := List.mem_map.mp hr
     refine ⟨by rw [List.length_append, (gb.row r' hr').1]; rfl, fun c hc => ?_⟩
     rcases List.mem_append.mp hc with hc | hc
     ·exact (gb.row r' hr').2 c hc
     ·rw [List.mem_singleton.mp hc]; decide⟩
    exact k3 vb vm (.ref D) H3 (r0.mono s3) (s12.trans s3) fun _ => far_good pic' gB (fun z => by have := z.1; omega)
  ·have hw : wd = 24 := by
    have : ¬ (wd : Int) < (24 : Int) := fun w => z (decide_eq_true w)
    omega
   refine ⟨_, rfl, _, rfl, b, _, rfl, SqL.of pb2.top, fun y1 g1 => ?_⟩
   rw [show (1 : Int) = ((1 : Nat) : Int) from rfl, cut_lo]
   have z1 := same_new (o := HO.lst ((qs.map V.ref).drop 1)) g1
   refine ⟨_, rfl, _, rfl, b, _, rfl, SqL.of (z1 _ _ pb2.top), fun y2 g2 => ?_⟩
   rw [cut_hi]
   have z2 := same_new (o := HO.lst ((qs.map V.ref).take 1)) g2
   refine ⟨y2, _, _, rfl, rfl, upd_same, by decide, by decide, Nat.le_trans (by rw [List.length_take]; show _ * 2 ≤ 2000; omega) (by decide), fun y3 g3 => ?_⟩
   have z3 := same_new (o := HO.lst (List.replicate (2 : Int).toNat ((qs.map V.ref).take 1)).flatten) g3
   have lr : (List.replicate (2 : Int).toNat ((qs.map V.ref).take 1)).flatten = (qs.map V.ref).take 1 ++ ((qs.map V.ref).take 1 ++ []) := rfl
   have lq : (qs.map V.ref).length = B.length := by rw [List.length_map, hpl]
   have l1 : ((qs.map V.ref).take 1).length = 1 := by rw [List.length_take]; omega
   refine ⟨y1, y3, _, _, rfl, rfl, (z2.trans z3) _ _ upd_same, upd_same, Nat.le_trans (by rw [lr]; simp only [List.length_append, List.length_drop, List.length_nil, l1]; omega : _ ≤ 2000) (by decide), fun y4 g4 => ?_⟩
   have z4 := same_new (o := HO.lst ((qs.map V.ref).drop 1 ++ (List.replicate (2 : Int).toNat ((qs.map V.ref).take 1)).flatten)) g4
   have zz := z1.trans (z2.trans (z3.trans z4))
   have pbz := pb2.mono zz
   have mem : ∀ {x}, x ∈ (qs.map V.ref).drop 1 ++ (List.replicate (2 : Int).toNat ((qs.map V.ref).take 1)).flatten → x ∈ qs.map V.ref := fun {x} hx => by
    rw [lr] at hx
    simp only [List.mem_append, List.append_nil] at hx
    rcases hx with hx | hx | hx
    ·exact List.mem_of_mem_drop hx
    ·exact List.mem_of_mem_take hx
    ·exact List.mem_of_mem_take hx
   have len4 : ((qs.map V.ref).drop 1 ++ (List.replicate (2 : Int).toNat ((qs.map V.ref).take 1)).flatten).length = B.length + 1 := by
    rw [lr]; simp only [List.length_append, List.length_drop, List.length_nil, l1]; omega
   refine k3 vb vm (.ref y4) _ (r0.mono zz) (s12.trans zz) fun hno => ?_
   have hB : B.length < 24 := by
    have : PA.length ≠ 24 := fun e => hno ⟨hw, e⟩
    omega
   refine ⟨(Th.lst upd_same (by rw [len4]; omega) fun x hx => rw_rows pbz gb x (mem hx)).1, (picB_iff (rowOf_lst upd_same)).mpr ⟨?_, fun x hx => ?_, fun x hx => ?_⟩, fun xs e => ?_⟩
   ·rw [len4]; exact wh_len (by omega) (by omega)
   ·exact ((picB_iff (rowOf_lst pbz.top)).mp (picB_good pbz gb)).2.1 x (mem hx)
   ·rw [len_good pbz gb x (mem hx), len_good pbz gb _ (mem (by
     cases hh : (qs.map V.ref).drop 1 ++ (List.replicate (2 : Int).toNat ((qs.map V.ref).take 1)).flatten with
     | nil => rw [hh] at len4; simp at len4
     | cons u v => exact List.mem_cons_self))]
   ·rw [rowOf_lst upd_same] at e; cases e
    intro w
    have := w.2
    rw [len4] at this
    omega
end
theorem notInK {X : Cx} (K : W.Frag) (h : X.K = K) : OpR X (compareOp .NotIn) (rIn K true) := by subst h; exact op_notIn_seq
theorem inK {X : Cx} (K : W.Frag) (h : X.K = K) : OpR X (compareOp .In) (rIn K false) := by subst h; exact op_in_seq
noncomputable def nI (cs : List Nat) : List V := cs.map fun c : Nat => V.int (c : Int)
theorem inV_n (c : Int) (h : 0 ≤ c) (cs : List Nat) : inV (.int c) (nI cs) = decide (c.toNat ∈ cs) := by
 unfold inV nI
 induction cs with
 | nil => rfl
 | cons x r ih =>
  rw [List.map_cons, List.any_cons, ih]
  have e : eqV (V.int (x : Int)) (V.int c) = decide (c.toNat = x) := by
   show ((x : Int) == c) = _
   by_cases hx : (x : Int) = c
   ·rw [decide_eq_true (by omega)]; exact beq_iff_eq.mpr hx
   ·rw [decide_eq_false (by omega)]; exact beq_eq_false_iff_ne.mpr hx
  rw [e, Bool.eq_iff_iff]
  simp
theorem nI_flat (cs : List Nat) : (nI cs).all flatV = true := by
 rw [List.all_eq_true]
 intro v hv
 obtain ⟨c, _, rfl⟩ := List.mem_map.mp hv
 rfl
section
variable {H H' : Hp} {a : Addr} {ps : List Addr} {R : List (List V)}
theorem PicV.nt (p : PicV H a ps R) (s : NT H H') : PicV H' a ps R := ⟨s.lst p.top, Paired.mapI p.row fun _ _ _ e => s.lst e, p.nd, p.out⟩
end
structure LF (K : W.Frag) (G : Hp) (sc a b S m h h0 h1 h2 : Addr) (ns : List Int) (A B : List (List Int)) (cs : List Nat) (wd : Nat) (rm : List Nat) : Prop where
 hS : SqL K G sc (ns.map V.int)
 hB : ∀ x ∈ ns, Builtin.Int.intBits x ≤ 2 ^ 20
 po : ∃ ps, PicV G a ps (ir A)
 ga : Good A wd
 pb : ∃ qs, PicV G b qs (ir B)
 gb : Good B wd
 hl : B.length = A.length
 es : G S = some (.lst (nI cs))
 lc : cs.length ≤ 1000
 hc : ∀ c ∈ cs, c ≤ 15
 mv : ∃ m2, MaskV G m m2 wd rm
 gm : GoodM wd rm
 hm : rm.length = A.length
 hd : G h = some (.lst [.ref h0, .ref h1, .ref h2])
 p0 : ∃ ps0, PicV G h0 ps0 (ir A)
 p1 : ∃ ps1, PicV G h1 ps1 (ir B)
 e2 : G h2 = some (.lst (nI cs))
theorem LF.nt {K : W.Frag} {G G' : Hp} {sc a b S m h h0 h1 h2 : Addr} {ns : List Int} {A B : List (List Int)} {cs : List Nat} {wd : Nat} {rm : List Nat} (f : LF K G sc a b S m h h0 h1 h2 ns A B cs wd rm) (s : NT G G') : LF K G' sc a b S m h h0 h1 h2 ns A B cs wd rm := by
 obtain ⟨hS, hB, ⟨ps, po⟩, ga, ⟨qs, pb⟩, gb, hl, es, lc, hc, ⟨m2, mv⟩, gm, hm, hd, ⟨ps0, p0⟩, ⟨ps1, p1⟩, e2⟩ := f
 exact ⟨s.sq hS, hB, ⟨ps, PicV.nt po s⟩, ga, ⟨qs, PicV.nt pb s⟩, gb, hl, s.lst es, lc, hc, ⟨m2, s.mask mv⟩, gm, hm, s.lst hd, ⟨ps0, PicV.nt p0 s⟩, ⟨ps1, PicV.nt p1 s⟩, s.lst e2⟩
theorem LF.mono {K : W.Frag} {G G' : Hp} {sc a b S m h h0 h1 h2 : Addr} {ns : List Int} {A B : List (List Int)} {cs : List Nat} {wd : Nat} {rm : List Nat} (f : LF K G sc a b S m h h0 h1 h2 ns A B cs wd rm) (s : Same G G') : LF K G' sc a b S m h h0 h1 h2 ns A B cs wd rm := f.nt (NT.of s)
noncomputable def spLaw (K : W.Frag) (ms : List Mk) : Sp := fun vs H Q _ => ∃ (a : Addr) (ns : List Int), vs = [.ref a] ∧ SqL K H a (ns.map V.int) ∧ (∀ x ∈ ns, Builtin.Int.intBits x ≤ 2 ^ 20) ∧ AllT ms H ∧ ∀ H', Q (.bl true) H'
theorem EqD.pic {K : W.Frag} {H : Hp} {a b : Addr} {ps qs : List Addr} {rows : List (List Int)} (pa : PicV H a ps (ir rows)) (pb : PicV H b qs (ir rows)) : EqD K H 2 (.ref a) (.ref b) true := by
 by_cases e : a = b
 ·subst e; exact .inl (.inl (.inl ⟨a, rfl, rfl, rfl⟩))
 ·exact .inr ⟨a, b, rfl, rfl, e, EqL.pic pa pb⟩
theorem EqD.nums {K : W.Frag} {H : Hp} {a b : Addr} {cs : List Nat} (pa : H a = some (.lst (nI cs))) (pb : H b = some (.lst (nI cs))) : EqD K H 2 (.ref a) (.ref b) true := by
 by_cases e : a = b
 ·subst e; exact .inl (.inl (.inl ⟨a, rfl, rfl, rfl⟩))
 ·exact .inl (.inr ⟨a, b, rfl, rfl, e, EqL.same (.inl ⟨SqL.of pa, SqL.of pb⟩) fun z hz => by
   obtain ⟨c, _, rfl⟩ := List.mem_map.mp hz
   exact .inl rfl⟩)
noncomputable def mixV (c : Int) (k : Nat) : Nat := (((c + 7919 * (k : Int) + 13) * (c + 7919 * (k : Int) + 13) % 1000000007 * (c + 7919 * (k : Int) + 13) % 998244353) / 11).toNat
noncomputable def oth (n1 : Nat) (c : Int) : Int := (c * 7 + (n1 : Int) / 3) % 16
noncomputable def spMixedD (K : W.Frag) : Sp := fun vs H Q _ => ∃ (a : Addr) (ns : List Int) (k : Nat), vs = [.ref a, .int k] ∧ SqL K H a (ns.map V.int) ∧ (∀ x ∈ ns, Builtin.Int.intBits x ≤ 2 ^ 20) ∧ k ≤ 1000 ∧ Q (.int (mixV (ns.getD k 0) k : Nat)) H
theorem repT_flat {n : Nat} {c : V} : (List.replicate n [c]).flatten = List.replicate n c := by
 induction n with
 | zero => rfl
 | succ n ih => rw [List.replicate_succ, List.flatten_cons, ih, List.replicate_succ]; rfl
end K8
namespace L2
open PySem
theorem src2_pairs {K : W.Frag} {H : Hp} {k1 k2 : Nat} {a : Addr} {ps : List Addr} {qs : List (Int × Int)} (m : K8.PlV H a ps qs) : Src2 (Itl K a) (g2 K k1 k2) (qs.map fun q => (V.int q.1, V.int q.2)) k1 k2 H := fun H' sm => by
 have m := m.mono sm
 refine ⟨fun i p e => ?_, _, SqL.of m.top, by rw [List.length_map, List.length_map, m.len]; exact Nat.le_refl _⟩
 rw [List.getElem?_map] at e
 cases eq : qs[i]? with
 | none => rw [eq] at e; cases e
 | some q =>
  rw [eq] at e; cases e
  have hi : i < ps.length := by rw [m.len]; exact (List.getElem?_eq_some_iff.mp eq).1
  have ep : ps[i]? = some ps[i] := List.getElem?_eq_getElem hi
  have er : (ps.map V.ref)[i]? = some (.ref ps[i]) := by rw [List.getElem?_map, ep]; rfl
  refine ⟨⟨_, _, SqL.of m.top, er⟩, fun v H2 hv σ C hC => ?_⟩
  obtain ⟨rfl, hv⟩ := hv
  have := hv _ (SqL.of m.top)
  rw [er] at this; cases this
  exact ⟨ps[i], _, rfl, SqT.of (m.at_ i _ q ep eq), rfl, _, _, rfl, _, _, rfl, rfl, hC _ (Same.refl _)⟩
theorem comp2_new {H : Hp} {k1 k2 : Nat} {J : It} {g : TG} {L : List (V × V)} {tt : TT} {te : TE} {D : Addr} {σ0 : St} {Fn : Hp → Prop} (p : V × V → Bool) (S : Src2 J g L k1 k2 H) (hn : L.length ≤ sizeLine) (hD : H D = none)
  (ht : ∀ x ∈ L, ∀ (H' : Hp) (Qb : Bool → Hp → Prop), Same H H' → (∀ H'', Same H' H'' → Qb (p x) H'') → tt (set2 σ0 k1 k2 x) H' Qb)
  (he : ∀ x ∈ L, p x = true → ∀ (H' : Hp) (Q : VK), Same H H' → (∀ q H'', Same H' H'' → H' q = none → H'' q = some (.tup [x.1, x.2]) → Q (.ref q) H'') → te (set2 σ0 k1 k2 x) H' Q)
  (hd : ∀ (qs : List Addr) H', Same H H' → H' D = some (.lst (qs.map V.ref)) → qs.length = (L.filter p).length → (∀ (i : Nat) q x, qs[i]? = some q → (L.filter p)[i]? = some x → H' q = some (.tup [x.1, x.2])) → Fn H') :
  ∃ W : Nat → Nat → St → Hp → Prop, (∃ m, W 0 m σ0 (upd H D (.lst []))) ∧ ∀ i m σ' H', W i m σ' H' →
   (J.stop i H' ∧ Fn H') ∨ (J.go i H' ∧ ∃ N : St → Hp → Prop, (∀ σ2 H2, N σ2 H2 → ∃ m', m' < m ∧ W (i + 1) m' σ2 H2) ∧ ∀ x H2, J.yld i H' x H2 → g x σ' H2 fun σ3 H3 => tt σ3 H3 fun b H4 =>
    if b = true then te σ3 H4 fun v H5 => ∃ xs, H5 D = some (.lst xs) ∧ xs.length < sizeLine ∧ N σ3 (upd H5 D (.lst (xs ++ [v]))) else N σ3 H4) := by
 refine ⟨fun i m σ' H' => m = L.length - i ∧ i ≤ L.length ∧ (∀ y, set2 σ' k1 k2 y = set2 σ0 k1 k2 y) ∧ Same H H' ∧ ∃ qs : List Addr, H' D = some (.lst (qs.map V.ref)) ∧ qs.length = ((L.take i).filter p).length ∧ ∀ (j : Nat) q x, qs[j]? = some q → ((L.take i).filter p)[j]? = some x → H' q = some (.tup [x.1, x.2]), ⟨L.length, rfl, Nat.zero_le _, fun _ => rfl, same_new hD, [], upd_same, rfl, fun _ _ _ z => nomatch z⟩, ?_⟩
 rintro i m σ' H' ⟨rfl, hi, hσ, sm, qs, hH, hql, hqs⟩
 by_cases hlt : i < L.length
 ·have hx : L[i]? = some L[i] := by simp [hlt]
  obtain ⟨go, yl⟩ := (S H' sm).1 i _ hx
  refine .inr ⟨go, fun σ2 H2 => (∀ y, set2 σ2 k1 k2 y = set2 σ0 k1 k2 y) ∧ Same H H2 ∧ ∃ qs : List Addr, H2 D = some (.lst (qs.map V.ref)) ∧ qs.length = ((L.take (i + 1)).filter p).length ∧ ∀ (j : Nat) q x, qs[j]? = some q → ((L.take (i + 1)).filter p)[j]? = some x → H2 q = some (.tup [x.1, x.2]), ?_, ?_⟩
  ·rintro σ2 H2 ⟨q1, q2, q3⟩
   exact ⟨L.length - (i + 1), by omega, rfl, hlt, q1, q2, q3⟩
  ·intro x H2 y
   refine yl x H2 y σ' _ fun H3 s3 => ?_
   rw [hσ]
   have hm : L[i] ∈ L := List.getElem_mem hlt
   have tk : L.take (i + 1) = L.take i ++ [L[i]] := by rw [List.take_add_one, hx]; rfl
   refine ht _ hm H3 _ (sm.trans s3) fun H4 s4 => ?_
   have s34 := s3.trans s4
   cases hp : p L[i] with
   | true =>
    have tf : (L.take (i + 1)).filter p = (L.take i).filter p ++ [L[i]] := by rw [tk, List.filter_append]; simp [hp]
    refine iteT (he _ hm hp H4 _ (sm.trans s34) fun q H5 s5 hq0 hq => ⟨_, s5 D _ (s34 D _ hH), ?_, fun y => set2_set2, same_upd (sm.trans (s34.trans s5)) hD, qs ++ [q], ?_, ?_, fun j q' x' h1 h2 => ?_⟩)
    ·have h1 : ((L.take i).filter p).length ≤ (L.take i).length := List.length_filter_le _ _
     rw [List.length_take] at h1
     rw [List.length_map, hql]
     omega
    ·rw [upd_same, List.map_append]; rfl
    ·rw [List.length_append, tf, List.length_append, hql]; rfl
    ·have nD : ∀ {z u}, H5 z = some (.tup u) → (upd H5 D (.lst (qs.map V.ref ++ [.ref q]))) z = some (.tup u) := fun {z u} e => by
      rw [upd_ne]
      ·exact e
      ·rintro rfl
       rw [s5 _ _ (s34 _ _ hH)] at e; cases e
     refine nD ?_
     rw [tf] at h2
     by_cases hj : j < qs.length
     ·rw [List.getElem?_append_left hj] at h1
      rw [List.getElem?_append_left (by rw [← hql]; exact hj)] at h2
      exact s5 _ _ (s34 _ _ (hqs j q' x' h1 h2))
     ·rw [List.getElem?_append_right (by omega)] at h1
      rw [List.getElem?_append_right (by omega), ← hql] at h2
      cases e : j - qs.length with
      | zero => rw [e] at h1 h2; cases h1; cases h2; exact hq
      | succ n => rw [e] at h1; cases h1
   | false =>
    have tf : (L.take (i + 1)).filter p = (L.take i).filter p := by rw [tk, List.filter_append]; simp [hp]
    refine iteF ⟨fun y => set2_set2, sm.trans s34, qs, s34 _ _ hH, by rw [tf]; exact hql, fun j q' x' h1 h2 => ?_⟩
    rw [tf] at h2
    exact s34 _ _ (hqs j q' x' h1 h2)
 ·have e : i = L.length := by omega
  subst e
  rw [List.take_length] at hql hqs
  exact .inl ⟨(S H' sm).2, hd qs H' sm hH hql hqs⟩
end L2
namespace K8
open PySem L2 M4 M5
section
variable {P : Program} {w : World} {K : W.Frag} {mg : Str → Option Value} {base : Heap} {cFE cBP cBC cBS cBM : Addr} {tS tC : Tok}
theorem ok__law_mixedD {f : Addr} {fd : FuncData} (F : FunD K "_law_mixed" "_law_mixed" s_law_mixed .none f fd) (g__law_cell : Def P w K mg base 1 "_law_cell" ["_law_script", "_law_k"] [] (spCell K)) : FnOk P w K mg base CX0 2 f fd ["_law_script", "_law_k"] (spMixedD K) := by
 refine F.ok sc_law_mixed (fun vs H Q E h => ?_) (fun cdv A outer s H vs Q E hr h => ?_)
 ·obtain ⟨a, ns, k, rfl, _⟩ := h; rfl
 ·obtain ⟨a, ns, j, rfl, hS, hB, hj, k⟩ := h
  refine ⟨_, (pss_cons (ps_set (i := 2) sc_law_mixed.nd rfl (by first | exact Or.inl rfl | exact Or.inr rfl) (pe_op op_add (pe_op op_add (pe_callD g__law_cell (hr.mono (by decide)) rfl (pa_cons (pv 0) (pa_cons (pv 1) pa_nil))) (pe_op op_mul pe_int (pv 1))) pe_int))
    (pss_one (ps_ret (pe_op op_fdiv (pe_op op_mod (pe_op op_mul (pe_op op_mod (pe_op op_mulG (pv 2) (pv 2)) pe_int) (pv 2)) pe_int) pe_int)))), ?_⟩
  refine ⟨_, rfl, _, rfl, a, ns, j, rfl, hS, _, rfl, _, _, rfl, rfl, .inl ⟨by decide, by decide⟩, _, _, rfl, rfl, _, _, rfl, rfl, ?_⟩
  have hm := mix_ok (bits_getD hB j) hj
  have p1 : 0 ≤ (ns.getD j 0 + 7919 * (j : Int) + 13) * (ns.getD j 0 + 7919 * (j : Int) + 13) % 1000000007 := Int.emod_nonneg _ (by decide)
  have p2 : (ns.getD j 0 + 7919 * (j : Int) + 13) * (ns.getD j 0 + 7919 * (j : Int) + 13) % 1000000007 < 1000000007 := Int.emod_lt_of_pos _ (by decide)
  refine ⟨_, rfl, _, rfl, _, _, rfl, rfl, hm, _, _, rfl, rfl, (by show (0 : Int) < 1000000007; decide), _, rfl, _, _, rfl, rfl, .inl ⟨Int.lt_of_lt_of_le (by decide) p1, Int.lt_trans p2 (by decide)⟩, _, _, rfl, rfl, (by show (0 : Int) < 998244353; decide), _, _, rfl, rfl, ⟨by decide, by decide⟩, ?_⟩
  show Q (.int (((ns.getD j 0 + 7919 * (j : Int) + 13) * (ns.getD j 0 + 7919 * (j : Int) + 13) % 1000000007 * (ns.getD j 0 + 7919 * (j : Int) + 13) % 998244353) / 11)) H
  generalize hy : (ns.getD j 0 + 7919 * (j : Int) + 13) * (ns.getD j 0 + 7919 * (j : Int) + 13) % 1000000007 * (ns.getD j 0 + 7919 * (j : Int) + 13) % 998244353 = y
  have p3 : 0 ≤ y := by rw [← hy]; exact Int.emod_nonneg _ (by decide)
  have p4 : y < 998244353 := by rw [← hy]; exact Int.emod_lt_of_pos _ (by decide)
  have e : y / 11 = ((y / 11).toNat : Int) := by omega
  rw [e]
  have em : (y / 11).toNat = mixV (ns.getD j 0) j := by unfold mixV; rw [hy]
  rw [em]; exact k
noncomputable abbrev nmlaw : List Str := ["_law_script", "_law_one", "_law_wide", "_law_high", "_law_other", "_law_some_here", "_law_mask_here", "_law_handed", "_law_found", "_law_places_here", "_law_lacks", "_law_cell_here", "_law_blank", "_law_told", "_law_back"]
theorem sc_law : FnScope ["_law_script", "_law_one", "_law_wide", "_law_high", "_law_other", "_law_some_here", "_law_mask_here", "_law_handed", "_law_found", "_law_places_here", "_law_lacks", "_law_cell_here", "_law_blank", "_law_told", "_law_back"] ["_law_script"] (defScope s_law) := ⟨rfl, rfl, rfl, by decide +kernel, rfl, by decide +kernel, by decide +kernel⟩
theorem ok_law {ms : List Mk} {f : Addr} {fd : FuncData} (F : FunD K "law" "law" s_law .none f fd) (T : Txt K mg cFE cBP cBC cBS cBM tS tC) (g__law_mixed : Def P w K mg base 2 "_law_mixed" ["_law_script", "_law_k"] [] (spMixed K)) (g__law_mixedD : Def P w K mg base 2 "_law_mixed" ["_law_script", "_law_k"] [] (spMixedD K)) (g__law_picture : Def P w K mg base 3 "_law_picture" ["_law_script", "_law_at", "_law_most"] [] (spLPicture K)) (g__law_some : Def P w K mg base 1 "_law_some" ["_law_number", "_law_picture_here"] [] (spSome K)) (g__law_mask : Def P w K mg base 3 "_law_mask" ["_law_script", "_law_at", "_law_wide", "_law_high"] [] (spLMask K)) (g__law_copied : Def P w K mg base 2 "_law_copied" ["_law_picture_here"] [] (spCopied K)) (g_mask_of : DefX P w K mg base 8 "mask_of" ["picture", "cells"] [] (spMaskOf K cBP cBC)) (g__law_places : Def P w K mg base 1 "_law_places" ["_law_mask_here"] [] (spPlaces K)) (g__law_power : Def P w K mg base 1 "_law_power" ["_law_place"] [] (spPower)) (g__law_same_mask : Def P w K mg base 4 "_law_same_mask" ["_law_found", "_law_due"] [] (spSameM K)) (g__law_mask_by : Def P w K mg base 2 "_law_mask_by" ["_law_places_here", "_law_wide", "_law_high"] [] (spMaskBy K)) (g_other_mask : DefX P w K mg base 6 "other_mask" ["mask"] [] (spOther K cBM)) (g_either_mask : DefX P w K mg base 8 "either_mask" ["one", "other"] [] (spJoin K cBM cBS ms (fun a b => a ||| b))) (g_both_masks : DefX P w K mg base 8 "both_masks" ["one", "other"] [] (spJoin K cBM cBS ms (fun a b => a &&& b))) (g_chosen_cells : DefX P w K mg base 9 "chosen_cells" ["one", "other", "mask"] [] (spChosen K cBP cBM cBS)) (g__law_by_cells : Def P w K mg base 3 "_law_by_cells" ["_law_one", "_law_other", "_law_places_here"] [] (spByC K)) (g__law_same : Def P w K mg base 2 "_law_same" ["_law_found", "_law_due"] [] (spSame K)) (g_painted : DefX P w K mg base 9 "painted" ["picture", "mask", "cell"] [] (spPainted K cBP cBM cBS cBC)) (g__law_refused : Def P w K mg base 11 "_law_refused" ["_law_one", "_law_other", "_law_mask_here", "_law_number"] [] (spRefused K)) : FnOk P w K mg base CX0 12 f fd ["_law_script"] (spLaw K ms) := by
 refine F.ok sc_law (fun vs H Q E h => ?_) (fun cdv A outer s H vs Q E hr h => ?_)
 ·obtain ⟨a, ns, rfl, _⟩ := h; rfl
 ·obtain ⟨sc, ns, rfl, hS, hB, al, k⟩ := h
  have hu : _ + 64 < cLine := hr.units
  obtain ⟨t21, r21, k21⟩ : ∃ tr, PSs ((cxOf CX0 P w K mg base nmlaw "law" (defScope s_law) f cdv A outer s H E).nox) ((defBody s_law).drop 21) tr ∧ ∀ (a b S m h h0 h1 h2 : Addr) (PA B : List (List Int)) (cs : List Nat) (wd : Nat) (rm : List Nat) (v8 v9 v10 v11 v12 v13 v14 : Option V) (G : Hp), LF K G sc a b S m h h0 h1 h2 ns PA B cs wd rm → tr { nx := fun _ H' => Q .non H', rt := Q } [some (.ref sc), some (.ref a), some (.int (wd : Int)), some (.int (PA.length : Int)), some (.ref b), some (.ref S), some (.ref m), some (.ref h), v8, v9, v10, v11, v12, v13, v14] G := by
   refine ⟨_, (pss_one (ps_ret (pe_and (pe_cmpR (eqDK K rfl hu) (pv 7) (pe_lst (pa_cons (pv 1) (pa_cons (pv 4) (pa_cons (pv 5) pa_nil)))) (nomark _)) (pe_one (pe_callD g__law_refused (hr.mono (by decide)) rfl (pa_cons (pv 1) (pa_cons (pv 4) (pa_cons (pv 6) (pa_cons (pe_callD g__law_mixed (hr.mono (by decide)) rfl (pa_cons (pv 0) (pa_cons pe_int pa_nil))) pa_nil))))))))), ?_⟩
   intro a b S m h h0 h1 h2 PA B cs wd rm v8 v9 v10 v11 v12 v13 v14 G f
   obtain ⟨ps, po⟩ := f.po
   obtain ⟨qs, pb⟩ := f.pb
   obtain ⟨m2, mv⟩ := f.mv
   obtain ⟨ps0, p0⟩ := f.p0
   obtain ⟨ps1, p1⟩ := f.p1
   refine ⟨_, rfl, _, rfl, _, rfl, _, rfl, sz3, fun L hL => ?_⟩
   have z := same_new (o := HO.lst [V.ref a, V.ref b, V.ref S]) hL
   have f := f.mono z
   refine ⟨2, h, L, true, by decide, rfl, rfl, ⟨_, _, .inr ⟨.inl ⟨SqL.of f.hd, SqL.of upd_same⟩, rfl, fun _ => true, fun i x y e1 e2 => ?_, rfl⟩⟩, _, rfl, ?_⟩
   ·match i, e1, e2 with
    | 0, e1, e2 => cases e1; cases e2; exact EqD.pic (p0.mono z) (po.mono z)
    | 1, e1, e2 => cases e1; cases e2; exact EqD.pic (p1.mono z) (pb.mono z)
    | 2, e1, e2 => cases e1; cases e2; exact EqD.nums f.e2 f.es
    | i + 3, e1, e2 => cases e1
   ·exact ⟨_, rfl, _, rfl, _, rfl, _, rfl, sc, ns, 26, rfl, f.hS, f.hB, by decide, fun n hn => ⟨a, b, m, m2, ps, qs, PA, B, wd, rm, n, rfl, po.mono z, f.ga, pb.mono z, f.gb, f.hl, mv.mono z, f.gm, f.hm, fun H' _ => k H'⟩⟩
  obtain ⟨t20, r20, k20⟩ : ∃ tr, PSs ((cxOf CX0 P w K mg base nmlaw "law" (defScope s_law) f cdv A outer s H E).nox) ((defBody s_law).drop 20) tr ∧ ∀ (a b S m h h0 h1 h2 : Addr) (PA B : List (List Int)) (cs : List Nat) (wd : Nat) (rm : List Nat) (c : Int) (bl : Addr) (bs : List Addr) (v8 v9 v10 v13 v14 : Option V) (G : Hp), LF K G sc a b S m h h0 h1 h2 ns PA B cs wd rm → 0 ≤ c → c ≤ 15 → PicV G bl bs (ir (List.replicate PA.length (List.replicate wd c))) → tr { nx := fun _ H' => Q .non H', rt := Q } [some (.ref sc), some (.ref a), some (.int (wd : Int)), some (.int (PA.length : Int)), some (.ref b), some (.ref S), some (.ref m), some (.ref h), v8, v9, v10, some (.int c), some (.ref bl), v13, v14] G := by
   refine ⟨_, (pss_cons (ps_if (pt_not (pt_val (pe_callD g__law_same (hr.mono (by decide)) rfl (pa_cons (pe_callX g_painted (hr.mono (by decide)) passF rfl (pa_cons (pe_ix (ixK K rfl) (pv 7) pe_int (fun _ _ => rfl)) (pa_cons (pv 6) (pa_cons (pv 11) pa_nil)))) (pa_cons (pe_callD g__law_by_cells (hr.mono (by decide)) rfl (pa_cons (pv 1) (pa_cons (pv 12) (pa_cons (pe_callD g__law_places (hr.mono (by decide)) rfl (pa_cons (pv 6) pa_nil)) pa_nil)))) pa_nil))))) (pss_one (ps_ret pe_bl)) pss_nil)
    (@r21)), ?_⟩
   intro a b S m h h0 h1 h2 PA B cs wd rm c bl bs v8 v9 v10 v13 v14 G f c0 c15 pbl
   obtain ⟨ps, po⟩ := f.po
   obtain ⟨m2, mv⟩ := f.mv
   obtain ⟨ps0, p0⟩ := f.p0
   have ga := f.ga
   have gr := rep_good ga c0 c15
   have lr : (List.replicate PA.length (List.replicate wd c)).length = PA.length := List.length_replicate
   refine ⟨_, rfl, h, _, _, .ref h0, rfl, rfl, SqL.of f.hd, atI_nat (j := 0) rfl, _, rfl, _, rfl, .ref h0, .ref m, .int c, rfl, .inl ⟨h0, ps0, PA, wd, rfl, p0, ga, .inl ⟨m, m2, wd, rm, rfl, mv, f.gm, .inr ⟨⟨rfl, f.hm.symm⟩, .inl ⟨c, rfl, c0, c15, fun p qs G1 s1 hp fr pic => ?_⟩⟩⟩⟩⟩
   rw [pdM_ch ga] at pic
   refine ⟨_, rfl, _, rfl, _, rfl, m, m2, wd, rm, rfl, mv.mono s1, f.gm, fun Sx ts G2 hS2 s2 pl => ?_⟩
   have s12 := s1.trans s2
   rw [f.hm] at pl
   refine ⟨a, bl, Sx, ps, bs, ts, PA, _, rm, wd, rfl, po.mono s12, pbl.mono s12, ga, gr, lr, pl, fun p2 qs2 G3 s3 hp2 fr2 pic2 => ?_⟩
   refine ⟨p, p2, qs, qs2, _, wd, rfl, pic.mono (s2.trans s3), pic2, chM_good ga gr lr, fun G4 kp => ⟨_, rfl, k21 a b S m h h0 h1 h2 PA B cs wd rm _ _ _ _ _ _ _ G4 (f.mono fun c o e => kp c o ((s12.trans s3) _ _ e) fun hq => ?_)⟩⟩
   rw [fr c hq] at e; cases e
  obtain ⟨t14, r14, k14⟩ : ∃ tr, PSs ((cxOf CX0 P w K mg base nmlaw "law" (defScope s_law) f cdv A outer s H E).nox) ((defBody s_law).drop 14) tr ∧ ∀ (a b S m h h0 h1 h2 : Addr) (PA B : List (List Int)) (cs : List Nat) (wd : Nat) (rm : List Nat) (lk l0 l1 l12 : Addr) (v8 v9 : Option V) (G : Hp), LF K G sc a b S m h h0 h1 h2 ns PA B cs wd rm → G lk = some (.lst [.ref l0, .ref l1]) → MaskV G l1 l12 wd (rm.map fun r => 2 ^ wd - 1 - r) → tr { nx := fun _ H' => Q .non H', rt := Q } [some (.ref sc), some (.ref a), some (.int (wd : Int)), some (.int (PA.length : Int)), some (.ref b), some (.ref S), some (.ref m), some (.ref h), v8, v9, some (.ref lk), none, none, none, none] G := by
   refine ⟨_, (pss_cons (ps_set (i := 11) sc_law.nd rfl (by first | exact Or.inl rfl | exact Or.inr rfl) (pe_op op_mod (pe_op op_fdiv (pe_callD g__law_mixed (hr.mono (by decide)) rfl (pa_cons (pv 0) (pa_cons pe_int pa_nil))) pe_int) pe_int))
    (pss_cons (ps_setC (ix := 12) (N := ["_law_row", "_law_cell_here", "_law_wide"]) (src := [none, some 11, some 2]) sc_law.nd rfl rfl rfl ⟨rfl, rfl, rfl, rfl, rfl, by decide +kernel⟩ (piK K rfl (pv 1)) (fun s H C fp => pg_name (i := 0) (show (["_law_row", "_law_cell_here", "_law_wide"] : List Str).Nodup by decide +kernel) rfl (by first | exact Or.inl rfl | exact Or.inr rfl)) (fun s H C fp => pts_nil) (fun s H C fp => (pe_op op_rep (pe_lst (pa_cons (pv 1) pa_nil)) (pv 2))))
    (pss_cons (ps_set (i := 13) sc_law.nd rfl (by first | exact Or.inl rfl | exact Or.inr rfl) (pe_callX g_chosen_cells (hr.mono (by decide)) passF rfl (pa_cons (pe_ix (ixK K rfl) (pv 7) pe_int (fun _ _ => rfl)) (pa_cons (pe_ix (ixK K rfl) (pv 7) pe_int (fun _ _ => rfl)) (pa_cons (pv 6) pa_nil)))))
    (pss_cons (ps_set (i := 14) sc_law.nd rfl (by first | exact Or.inl rfl | exact Or.inr rfl) (pe_callX g_chosen_cells (hr.mono (by decide)) passF rfl (pa_cons (pe_ix (ixK K rfl) (pv 7) pe_int (fun _ _ => rfl)) (pa_cons (pv 13) (pa_cons (pe_ix (ixK K rfl) (pv 10) pe_int (fun _ _ => rfl)) pa_nil)))))
    (pss_cons (ps_if (PW.pt (pw_or (pt_cmpR (neDK K rfl hu) (pe_callX g_chosen_cells (hr.mono (by decide)) passF rfl (pa_cons (pv 13) (pa_cons (pe_ix (ixK K rfl) (pv 7) pe_int (fun _ _ => rfl)) (pa_cons (pv 6) pa_nil)))) (pv 1) (nomark _)) (pw_or1 (pt_cmpR (neDK K rfl hu) (pv 14) (pe_callD g__law_by_cells (hr.mono (by decide)) rfl (pa_cons (pv 4) (pa_cons (pv 1) (pa_cons (pe_callD g__law_places (hr.mono (by decide)) rfl (pa_cons (pe_ix (ixK K rfl) (pv 10) pe_int (fun _ _ => rfl)) pa_nil)) pa_nil)))) (nomark _))))) (pss_one (ps_ret pe_bl)) pss_nil)
    (pss_cons (ps_if (pt_not (pt_val (pe_callD g__law_same (hr.mono (by decide)) rfl (pa_cons (pv 13) (pa_cons (pe_callD g__law_by_cells (hr.mono (by decide)) rfl (pa_cons (pv 1) (pa_cons (pv 4) (pa_cons (pe_callD g__law_places (hr.mono (by decide)) rfl (pa_cons (pv 6) pa_nil)) pa_nil)))) pa_nil))))) (pss_one (ps_ret pe_bl)) pss_nil)
    (@r20))))))), ?_⟩
   intro a b S m h h0 h1 h2 PA B cs wd rm lk l0 l1 l12 v8 v9 G f elk ml
   have ga := f.ga
   have gb := f.gb
   have gl := other_good f.gm
   have hll : (rm.map fun r => 2 ^ wd - 1 - r).length = PA.length := by rw [List.length_map]; exact f.hm
   refine ⟨_, rfl, sc, ns, 2, rfl, f.hS, f.hB, by decide, fun n2 hn2 => ⟨_, _, rfl, rfl, ⟨by decide, by decide⟩, _, _, rfl, rfl, (by show (0 : Int) < 16; decide), ?_⟩⟩
   show gName 11 (.int ((n2 : Int) / 7 % 16)) _ G _
   obtain ⟨c, ec, c0, c15⟩ : ∃ c : Int, (n2 : Int) / 7 % 16 = c ∧ 0 ≤ c ∧ c ≤ 15 := ⟨_, rfl, by omega, by omega⟩
   rw [ec]
   obtain ⟨ps, po⟩ := f.po
   have hpl : ps.length = PA.length := by rw [po.len, ir_len]
   refine ⟨_, rfl, a, rfl, ⟨_, SqL.of po.top⟩, fun bl hbl => ?_⟩
   refine comp_rows (k := 0) (fun _ => List.replicate wd (V.int c)) (src_list (SqL.of po.top)) (by rw [List.length_map, hpl]; exact Nat.le_trans ga.le (by decide)) hbl (fun x hx H' Q' sm kk => ?_) fun bs G1 s1 _ pbl => ?_
   ·have w24 := ga.w24
    refine ⟨_, rfl, sz1, fun l hl => ⟨_, rfl, l, _, _, rfl, rfl, upd_same, by omega, by omega, Nat.le_trans (by rw [Int.toNat_natCast]; show 1 * wd ≤ 24; omega) (by decide), fun p hp => kk p _ ((same_new hl).trans (same_new hp)) ((same_new (o := HO.lst [V.int c]) hl).free hp) ?_⟩⟩
    rw [upd_same, Int.toNat_natCast, repT_flat]
   have ebl : ((ps.map V.ref).map fun _ => List.replicate wd (V.int c)) = ir (List.replicate PA.length (List.replicate wd c)) := by
    rw [List.map_const', List.length_map, hpl]
    unfold ir
    rw [List.map_replicate, List.map_replicate]
   rw [ebl] at pbl
   have f := f.mono s1
   have elk := s1 _ _ elk
   have ml := ml.mono s1
   clear s1 po hpl ebl ps
   obtain ⟨ps, po⟩ := f.po
   obtain ⟨qs, pb⟩ := f.pb
   obtain ⟨m2, mv⟩ := f.mv
   obtain ⟨ps0, p0⟩ := f.p0
   obtain ⟨ps1, p1⟩ := f.p1
   refine ⟨_, rfl, h, _, _, .ref h0, rfl, rfl, SqL.of f.hd, atI_nat (j := 0) rfl, _, rfl, h, _, _, .ref h1, rfl, rfl, SqL.of f.hd, atI_nat (j := 1) rfl, _, rfl, .ref h0, .ref h1, .ref m, rfl, .inl ⟨h0, ps0, PA, wd, rfl, p0, ga, .inr (.inl ⟨h1, ps1, B, wd, rfl, p1, gb, .inl ⟨m, m2, wd, rm, rfl, mv, f.gm, .inr ⟨⟨rfl, f.hl.symm⟩, ⟨rfl, f.hm.symm⟩, fun td tq G2 s2 htd ftq ptd => ?_⟩⟩⟩)⟩⟩
   have gt := chM_good (m := rm) ga gb f.hl
   have lt : (chM PA B rm).length = PA.length := chM_len _ _ _
   refine ⟨_, rfl, h, _, _, .ref h1, rfl, rfl, SqL.of (s2 _ _ f.hd), atI_nat (j := 1) rfl, _, rfl, _, rfl, lk, _, _, .ref l1, rfl, rfl, SqL.of (s2 _ _ elk), atI_nat (j := 1) rfl, .ref h1, .ref td, .ref l1, rfl, .inl ⟨h1, ps1, B, wd, rfl, p1.mono s2, gb, .inr (.inl ⟨td, tq, _, wd, rfl, ptd, gt, .inl ⟨l1, l12, wd, _, rfl, ml.mono s2, gl, .inr ⟨⟨rfl, by rw [lt, f.hl]⟩, ⟨rfl, by rw [hll, f.hl]⟩, fun bk bq G3 s3 hbk fbq pbk => ?_⟩⟩⟩)⟩⟩
   rw [ch_lack ga gb f.hl f.gm f.hm] at pbk
   have s23 := s2.trans s3
   refine ⟨_, rfl, _, rfl, h, _, _, .ref h0, rfl, rfl, SqL.of (s23 _ _ f.hd), atI_nat (j := 0) rfl, _, rfl, .ref td, .ref h0, .ref m, rfl, .inl ⟨td, tq, _, wd, rfl, ptd.mono s3, gt, .inr (.inl ⟨h0, ps0, PA, wd, rfl, p0.mono s23, ga, .inl ⟨m, m2, wd, rm, rfl, mv.mono s23, f.gm, .inr ⟨⟨rfl, lt⟩, ⟨rfl, by rw [lt, f.hm]⟩, fun x1 xq G4 s4 _ _ px => ?_⟩⟩⟩)⟩⟩
   rw [ch_back ga gb f.hl] at px
   have s24 := s23.trans s4
   refine ⟨_, rfl, 1, x1, a, true, by decide, rfl, rfl, EqL.pic px (po.mono s24), _, rfl, ?_⟩
   refine ⟨_, rfl, _, rfl, _, rfl, _, rfl, lk, _, _, .ref l1, rfl, rfl, SqL.of (s24 _ _ elk), atI_nat (j := 1) rfl, l1, l12, wd, _, rfl, ml.mono s24, gl, fun Sx ts G5 hS5 s5 pl => ?_⟩
   have s25 := s24.trans s5
   rw [hll, ← f.hl] at pl
   refine ⟨b, a, Sx, qs, ps, ts, B, PA, _, wd, rfl, pb.mono s25, po.mono s25, gb, ga, f.hl.symm, pl, fun x2 xq2 G6 s6 _ _ px2 => ?_⟩
   have s26 := s25.trans s6
   refine ⟨1, bk, x2, true, by decide, rfl, rfl, EqL.pic (pbk.mono (s4.trans (s5.trans s6))) px2, _, rfl, ?_⟩
   refine ⟨_, rfl, _, rfl, _, rfl, _, rfl, m, m2, wd, rm, rfl, mv.mono s26, f.gm, fun Sy ty G7 hS7 s7 pl7 => ?_⟩
   have s27 := s26.trans s7
   rw [f.hm] at pl7
   refine ⟨a, b, Sy, ps, qs, ty, PA, B, rm, wd, rfl, po.mono s27, pb.mono s27, ga, gb, f.hl, pl7, fun x3 xq3 G8 s8 _ _ px3 => ?_⟩
   have s28 := s27.trans s8
   refine ⟨td, x3, tq, xq3, _, wd, rfl, ptd.mono (s3.trans (s4.trans (s5.trans (s6.trans (s7.trans s8))))), px3, gt, fun G9 kp => ⟨_, rfl, ?_⟩⟩
   have sF : Same G1 G9 := fun c' o e => kp c' o (s28 _ _ e) fun hq => by rw [ftq c' hq] at e; cases e
   exact k20 a b S m h h0 h1 h2 PA B cs wd rm c bl bs _ _ _ _ _ G9 (f.mono sF) c0 c15 (pbl.mono sF)
  obtain ⟨t10, r10, k10⟩ : ∃ tr, PSs ((cxOf CX0 P w K mg base nmlaw "law" (defScope s_law) f cdv A outer s H E).nox) ((defBody s_law).drop 10) tr ∧ ∀ (a b S m h h0 h1 h2 : Addr) (PA B : List (List Int)) (cs : List Nat) (wd : Nat) (rm : List Nat) (fd fd2 : Addr) (v9 : Option V) (G : Hp), LF K G sc a b S m h h0 h1 h2 ns PA B cs wd rm → AllT ms G → MaskV G fd fd2 wd (mkM PA cs) → tr { nx := fun _ H' => Q .non H', rt := Q } [some (.ref sc), some (.ref a), some (.int (wd : Int)), some (.int (PA.length : Int)), some (.ref b), some (.ref S), some (.ref m), some (.ref h), some (.ref fd), v9, none, none, none, none, none] G := by
   refine ⟨_, (pss_cons (ps_if (pt_cmpR (neDK K rfl hu) (pe_callX g_mask_of (hr.mono (by decide)) passF rfl (pa_cons (pe_ix (ixK K rfl) (pv 7) pe_int (fun _ _ => rfl)) (pa_cons (pe_comp (N := ["_law_cell_here", "_law_some_here"]) (src := [none, some 5]) rfl ⟨rfl, rfl, rfl, rfl, rfl, by decide +kernel⟩ (pi_range1 rfl T.range (pa_cons pe_int pa_nil)) (fun s H C fp => pg_name (i := 0) (show (["_law_cell_here", "_law_some_here"] : List Str).Nodup by decide +kernel) rfl (by first | exact Or.inl rfl | exact Or.inr rfl)) (fun s H C fp => (pts_one (pt_cmpR (notInK K rfl) (pv 0) (pv 1) (by with_unfolding_all rfl)))) (fun s H C fp => (pv 0))) pa_nil))) (pe_callX g_other_mask (hr.mono (by decide)) passF rfl (pa_cons (pv 8) pa_nil)) (nomark _)) (pss_one (ps_ret pe_bl)) pss_nil)
    (pss_cons (ps_set (i := 10) sc_law.nd rfl (by first | exact Or.inl rfl | exact Or.inr rfl) (pe_lst (pa_cons (pe_callX g_other_mask (hr.mono (by decide)) passF rfl (pa_cons (pv 8) pa_nil)) (pa_cons (pe_callX g_other_mask (hr.mono (by decide)) passF rfl (pa_cons (pv 6) pa_nil)) pa_nil))))
    (pss_cons (ps_if (pt_cmpR (neDK K rfl hu) (pe_callX g_other_mask (hr.mono (by decide)) passF rfl (pa_cons (pe_callX g_either_mask (hr.mono (by decide)) passF rfl (pa_cons (pv 8) (pa_cons (pv 6) pa_nil))) pa_nil)) (pe_callX g_both_masks (hr.mono (by decide)) passF rfl (pa_cons (pe_ix (ixK K rfl) (pv 10) pe_int (fun _ _ => rfl)) (pa_cons (pe_ix (ixK K rfl) (pv 10) pe_int (fun _ _ => rfl)) pa_nil))) (nomark _)) (pss_one (ps_ret pe_bl)) pss_nil)
    (pss_cons (ps_if (pt_cmpR (neDK K rfl hu) (pe_callX g_other_mask (hr.mono (by decide)) passF rfl (pa_cons (pe_callX g_both_masks (hr.mono (by decide)) passF rfl (pa_cons (pv 8) (pa_cons (pv 6) pa_nil))) pa_nil)) (pe_callX g_either_mask (hr.mono (by decide)) passF rfl (pa_cons (pe_ix (ixK K rfl) (pv 10) pe_int (fun _ _ => rfl)) (pa_cons (pe_ix (ixK K rfl) (pv 10) pe_int (fun _ _ => rfl)) pa_nil))) (nomark _)) (pss_one (ps_ret pe_bl)) pss_nil)
    (@r14))))), ?_⟩
   intro a b S m h h0 h1 h2 PA B cs wd rm fd fd2 v9 G f al mf
   have ga := f.ga
   have gf := mkM_good ga cs
   have lf : (mkM PA cs).length = PA.length := mkM_len _ _
   have gl := other_good f.gm
   have gfl := other_good gf
   obtain ⟨m2, mv⟩ := f.mv
   obtain ⟨ps0, p0⟩ := f.p0
   refine ⟨_, rfl, h, _, _, .ref h0, rfl, rfl, SqL.of f.hd, atI_nat (j := 0) rfl, _, rfl, by decide, by decide, fun D hD => ?_⟩
   refine comp_fm (k := 0) (fun v => v) (fun v => !inV v (nI cs)) src_range (by simp; decide) hD (fun x hx H' Qb sm kb => ?_) (fun x hx _ H' Q' sm kk => ⟨_, rfl, kk H' (Same.refl _)⟩) fun G1 s1 h1D => ?_
   ·obtain ⟨j, hj, rfl⟩ := List.mem_map.mp hx
    exact ⟨_, rfl, _, rfl, S, _, rfl, .inl (SqL.of (sm _ _ f.es)), rfl, nI_flat cs, _, rfl, kb H' (Same.refl _)⟩
   have eD : G1 D = some (.lst (((List.range 16).filter fun c => decide (¬ c ∈ cs)).map fun c : Nat => V.int (c : Int))) := by
    rw [h1D]
    congr 2
    rw [List.filter_map, List.map_map]
    have e : (List.range (16 : Int).toNat).filter ((fun v => !inV v (nI cs)) ∘ fun (i : Nat) => V.int (0 + (i : Int))) = (List.range 16).filter fun c => decide (¬ c ∈ cs) := by
     refine List.filter_congr fun c _ => ?_
     show (!inV (.int (0 + (c : Int))) (nI cs)) = _
     rw [inV_n _ (by omega), show (0 + (c : Int)).toNat = c by omega]
     by_cases hh : c ∈ cs <;> simp [hh]
    rw [e]
    refine List.map_congr_left fun c _ => ?_
    show V.int (0 + (c : Int)) = V.int (c : Int)
    rw [Int.zero_add]
   refine ⟨.ref h0, .ref D, rfl, .inl ⟨h0, ps0, PA, wd, rfl, p0.mono s1, ga, .inl ⟨D, _, rfl, eD, Nat.le_trans (List.length_filter_le _ _) (by rw [List.length_range]; decide), fun c hc => ?_, fun q1 q2 G2 s2 mq => ?_⟩⟩⟩
   ·have := List.mem_range.mp (List.mem_filter.mp hc).1
    omega
   have s12 := s1.trans s2
   rw [mk_lack ga cs _ (fun c hc => by
    rw [List.mem_filter, List.mem_range, decide_eq_true_eq]
    exact ⟨fun z => z.2, fun z => ⟨by omega, z⟩⟩)] at mq
   refine ⟨_, rfl, .ref fd, rfl, .inl ⟨fd, fd2, wd, _, rfl, mf.mono s12, gf, fun q3 q4 G3 s3 mq3 => ?_⟩⟩
   refine ⟨1, q1, q3, true, by decide, rfl, rfl, eq_mask (mq.mono s3) mq3, _, rfl, ?_⟩
   have s13 := s12.trans s3
   have f := f.mono s13
   have al := al.mono s13
   have mf := mf.mono s13
   have mv := mv.mono s13
   clear s13 s12 s1 s2 s3 mq mq3 eD h1D hD p0
   refine ⟨_, rfl, .ref fd, rfl, .inl ⟨fd, fd2, wd, _, rfl, mf, gf, fun l0 l02 G4 s4 ml0 => ?_⟩⟩
   refine ⟨_, rfl, .ref m, rfl, .inl ⟨m, m2, wd, _, rfl, mv.mono s4, f.gm, fun l1 l12 G5 s5 ml1 => ⟨sz2, fun lk hlk => ?_⟩⟩⟩
   have z := same_new (o := HO.lst [V.ref l0, V.ref l1]) hlk
   have s46 := s4.trans (s5.trans z)
   have elk : upd G5 lk (HO.lst [V.ref l0, V.ref l1]) lk = some (HO.lst [V.ref l0, V.ref l1]) := upd_same
   have f := f.mono s46
   have al := al.mono s46
   have mf := mf.mono s46
   have mv := mv.mono s46
   have ml0 := ml0.mono (s5.trans z)
   have ml1 := ml1.mono z
   generalize upd G5 lk (HO.lst [V.ref l0, V.ref l1]) = G6 at f al mf mv ml0 ml1 elk ⊢
   clear s46 z s4 s5 hlk
   have ll0 : ((mkM PA cs).map fun r => 2 ^ wd - 1 - r).length = PA.length := by rw [List.length_map]; exact lf
   have ll1 : (rm.map fun r => 2 ^ wd - 1 - r).length = PA.length := by rw [List.length_map]; exact f.hm
   have gor : GoodM wd (List.zipWith (fun a b => a ||| b) (mkM PA cs) rm) := zip_goodM (fun a b ha hb => Nat.or_lt_two_pow ha hb) gf f.gm (by rw [lf, f.hm])
   have gand : GoodM wd (List.zipWith (fun a b => a &&& b) (mkM PA cs) rm) := zip_goodM (fun a b ha hb => Nat.and_lt_two_pow _ hb) gf f.gm (by rw [lf, f.hm])
   refine ⟨_, rfl, _, rfl, .ref fd, .ref m, rfl, al, .inl ⟨fd, fd2, m, m2, wd, _, _, rfl, rfl, mf, gf, mv, f.gm, by rw [lf, f.hm], fun x1 x2 G7 n7 al7 mx => ?_⟩⟩
   refine ⟨.ref x1, rfl, .inl ⟨x1, x2, wd, _, rfl, mx, gor, fun y1 y2 G8 s8 my => ?_⟩⟩
   have n8 := n7.trans (NT.of s8)
   refine ⟨_, rfl, lk, _, _, .ref l0, rfl, rfl, SqL.of (n8.lst elk), atI_nat (j := 0) rfl, _, rfl, lk, _, _, .ref l1, rfl, rfl, SqL.of (n8.lst elk), atI_nat (j := 1) rfl, .ref l0, .ref l1, rfl, al7.mono s8, .inl ⟨l0, l02, l1, l12, wd, _, _, rfl, rfl, n8.mask ml0, gfl, n8.mask ml1, gl, by rw [ll0, ll1], fun z1 z2 G9 n9 al9 mz => ?_⟩⟩
   rw [zip_lack (g := fun a b => a &&& b) (fun a b ha hb => lack_and ha hb) gf.row f.gm.row] at my
   refine ⟨1, y1, z1, true, by decide, rfl, rfl, eq_mask (n9.mask my) mz, _, rfl, ?_⟩
   have nA := n8.trans n9
   have f := f.nt nA
   have mf := nA.mask mf
   have mv := nA.mask mv
   have ml0 := nA.mask ml0
   have ml1 := nA.mask ml1
   have elk := nA.lst elk
   clear nA n9 n8 n7 mz my mx s8 al7 al
   refine ⟨_, rfl, _, rfl, .ref fd, .ref m, rfl, al9, .inl ⟨fd, fd2, m, m2, wd, _, _, rfl, rfl, mf, gf, mv, f.gm, by rw [lf, f.hm], fun x1 x2 G7 n7 al7 mx => ?_⟩⟩
   refine ⟨.ref x1, rfl, .inl ⟨x1, x2, wd, _, rfl, mx, gand, fun y1 y2 G8 s8 my => ?_⟩⟩
   have n8 := n7.trans (NT.of s8)
   refine ⟨_, rfl, lk, _, _, .ref l0, rfl, rfl, SqL.of (n8.lst elk), atI_nat (j := 0) rfl, _, rfl, lk, _, _, .ref l1, rfl, rfl, SqL.of (n8.lst elk), atI_nat (j := 1) rfl, .ref l0, .ref l1, rfl, al7.mono s8, .inl ⟨l0, l02, l1, l12, wd, _, _, rfl, rfl, n8.mask ml0, gfl, n8.mask ml1, gl, by rw [ll0, ll1], fun z1 z2 GA nB al10 mz => ?_⟩⟩
   rw [zip_lack (g := fun a b => a ||| b) (fun a b ha hb => lack_or ha hb) gf.row f.gm.row] at my
   refine ⟨1, y1, z1, true, by decide, rfl, rfl, eq_mask (nB.mask my) mz, _, rfl, ?_⟩
   have nA := n8.trans nB
   exact k14 a b S m h h0 h1 h2 PA B cs wd rm lk l0 l1 l12 _ _ GA (f.nt nA) (nA.lst elk) (nA.mask ml1)
  obtain ⟨t7, r7, k7⟩ : ∃ tr, PSs ((cxOf CX0 P w K mg base nmlaw "law" (defScope s_law) f cdv A outer s H E).nox) ((defBody s_law).drop 7) tr ∧ ∀ (a b S m h h0 h1 h2 : Addr) (PA B : List (List Int)) (cs : List Nat) (wd : Nat) (rm : List Nat) (G : Hp), LF K G sc a b S m h h0 h1 h2 ns PA B cs wd rm → AllT ms G → tr { nx := fun _ H' => Q .non H', rt := Q } [some (.ref sc), some (.ref a), some (.int (wd : Int)), some (.int (PA.length : Int)), some (.ref b), some (.ref S), some (.ref m), some (.ref h), none, none, none, none, none, none, none] G := by
   refine ⟨_, (pss_cons (ps_set (i := 8) sc_law.nd rfl (by first | exact Or.inl rfl | exact Or.inr rfl) (pe_callX g_mask_of (hr.mono (by decide)) passF rfl (pa_cons (pe_ix (ixK K rfl) (pv 7) pe_int (fun _ _ => rfl)) (pa_cons (pe_ix (ixK K rfl) (pv 7) pe_int (fun _ _ => rfl)) pa_nil))))
    (pss_cons (ps_setC (ix := 9) (N := ["_law_x", "_law_y", "_law_one", "_law_some_here"]) (src := [none, none, some 1, some 5]) sc_law.nd rfl rfl rfl ⟨rfl, rfl, rfl, rfl, rfl, by decide +kernel⟩ (piK K rfl (pe_callD g__law_places (hr.mono (by decide)) rfl (pa_cons (pe_tup (pa_cons (pv 2) (pa_cons (pe_op (repT1K K rfl) (pe_tup (pa_cons (pe_op op_sub (pe_callD g__law_power (hr.mono (by decide)) rfl (pa_cons (pv 2) pa_nil)) pe_int) pa_nil)) (pv 3)) pa_nil))) pa_nil))) (fun s H C fp => (pg_tupK (n := 2) K rfl rfl (pgs_cons (pg_name (i := 0) (show (["_law_x", "_law_y", "_law_one", "_law_some_here"] : List Str).Nodup by decide +kernel) rfl (by first | exact Or.inl rfl | exact Or.inr rfl)) (pgs_cons (pg_name (i := 1) (show (["_law_x", "_law_y", "_law_one", "_law_some_here"] : List Str).Nodup by decide +kernel) rfl (by first | exact Or.inl rfl | exact Or.inr rfl)) pgs_nil)))) (fun s H C fp => (pts_one (pt_cmpR (inK K rfl) (pe_ix (ixK K rfl) (pe_ix (ixK K rfl) (pv 2) (pv 1) (fun _ _ => rfl)) (pv 0) (fun _ _ => rfl)) (pv 3) (by with_unfolding_all rfl)))) (fun s H C fp => (pe_tup (pa_cons (pv 0) (pa_cons (pv 1) pa_nil)))))
    (pss_cons (ps_if (pt_not (pt_val (pe_callD g__law_same_mask (hr.mono (by decide)) rfl (pa_cons (pv 8) (pa_cons (pe_callD g__law_mask_by (hr.mono (by decide)) rfl (pa_cons (pv 9) (pa_cons (pv 2) (pa_cons (pv 3) pa_nil)))) pa_nil))))) (pss_one (ps_ret pe_bl)) pss_nil)
    (@r10)))), ?_⟩
   intro a b S m h h0 h1 h2 PA B cs wd rm G f al
   have ga := f.ga
   obtain ⟨ps0, p0⟩ := f.p0
   refine ⟨_, rfl, h, _, _, .ref h0, rfl, rfl, SqL.of f.hd, atI_nat (j := 0) rfl, _, rfl, h, _, _, .ref h2, rfl, rfl, SqL.of f.hd, atI_nat (j := 2) rfl, .ref h0, .ref h2, rfl, .inl ⟨h0, ps0, PA, wd, rfl, p0, ga, .inl ⟨h2, cs, rfl, f.e2, f.lc, f.hc, fun fd fd2 G1 s1 mf => ?_⟩⟩⟩
   have f := f.mono s1
   have al := al.mono s1
   have w1 := ga.w1
   have w24 := ga.w24
   have h1' := ga.ne
   have h24 := ga.le
   have gfull : GoodM wd (List.replicate PA.length (2 ^ wd - 1)) := ⟨w1, w24, by rw [List.length_replicate]; exact h1', by rw [List.length_replicate]; exact h24, fun r hr => by rw [(List.mem_replicate.mp hr).2]; have := Nat.two_pow_pos wd; omega⟩
   refine ⟨_, rfl, _, rfl, wd, rfl, by omega, _, _, rfl, rfl, sz1, fun t1 ht1 => ⟨_, rfl, ?_⟩⟩
   have pw : (((2 ^ wd : Nat) : Int) - 1) = ((2 ^ wd - 1 : Nat) : Int) := by
    have := Nat.two_pow_pos wd
    omega
   have sa := same_new (o := HO.tup [V.int (((2 ^ wd : Nat) : Int) - 1)]) ht1
   refine rep1_of (x := V.int (((2 ^ wd : Nat) : Int) - 1)) upd_same h1' h24 fun q2 G2 s2 hq2 => ⟨sz2, fun t2 ht2 => ?_⟩
   have sb := (sa.trans s2).trans (same_new (o := HO.tup [V.int (wd : Int), V.ref q2]) ht2)
   have mD : MaskV (upd G2 t2 (.tup [V.int (wd : Int), V.ref q2])) t2 q2 wd (List.replicate PA.length (2 ^ wd - 1)) := ⟨upd_same, by
    rw [same_new ht2 _ _ hq2]
    unfold nV
    rw [List.map_replicate, ← pw]⟩
   refine ⟨t2, q2, wd, _, rfl, mD, gfull, fun Sx ts G3 _ s3 pl => ⟨Sx, rfl, ⟨_, SqL.of pl.top⟩, fun D hD => ?_⟩⟩
   rw [List.length_replicate] at pl
   have sc3 := sb.trans s3
   have f := f.mono sc3
   have al := al.mono sc3
   have mf := mf.mono sc3
   obtain ⟨ps, po⟩ := f.po
   have lp : (plM wd (List.replicate PA.length (2 ^ wd - 1)) PA.length).length ≤ 576 := Nat.le_trans (plM_len _ _ _) (Nat.mul_le_mul h24 w24)
   refine comp2_new (k1 := 0) (k2 := 1) (fun z => match z with | (.int x, .int y) => decide ((cAt PA x.toNat y.toNat).toNat ∈ cs) | _ => false) (src2_pairs pl) (by rw [List.length_map]; exact Nat.le_trans lp (by decide)) hD (fun z hz G' Qb sm kb => ?_) (fun z hz _ G' Q' sm kk => ?_) fun ds G4 s4 eD ld hds => ?_
   ·obtain ⟨q, hq, rfl⟩ := List.mem_map.mp hz
    obtain ⟨q1, q2', q3, q4⟩ := plM_in hq
    obtain ⟨x, ex⟩ : ∃ x : Nat, q.1 = (x : Int) := ⟨q.1.toNat, by omega⟩
    obtain ⟨y, ey⟩ : ∃ y : Nat, q.2 = (y : Int) := ⟨q.2.toNat, by omega⟩
    have kb' : Qb (decide ((cAt PA q.1.toNat q.2.toNat).toNat ∈ cs)) G' := kb G' (Same.refl _)
    rw [ex, ey] at kb' ⊢
    rw [Int.toNat_natCast, Int.toNat_natCast] at kb'
    have hx : x < wd := by omega
    have hy : y < PA.length := by omega
    obtain ⟨r, hr1, hr2, hr3⟩ := ga.get hy
    obtain ⟨qa, hqa, eqa⟩ := PicV.row_at (po.mono sm) hr1
    have ev : cAt PA x y = r.getD x 0 := by unfold cAt; rw [getD_at hr1]
    have c0 := cell_mem ga (List.mem_of_getElem? hr1) (x := x) (by omega)
    refine ⟨_, rfl, _, rfl, a, _, _, .ref qa, rfl, rfl, SqL.of (sm _ _ po.top), atI_nat (by rw [List.getElem?_map, hqa]; rfl), _, rfl, qa, _, _, .int (r.getD x 0), rfl, rfl, SqL.of eqa, atI_nat (getD_int (by omega)), _, rfl, S, _, rfl, .inl (SqL.of (sm _ _ f.es)), rfl, nI_flat cs, _, rfl, ?_⟩
    rw [ev] at kb'
    rw [inV_n _ c0.1]
    exact kb'
   ·exact ⟨_, rfl, _, rfl, sz2, fun q hq => kk q _ (same_new hq) hq upd_same⟩
   rw [List.filter_map] at ld hds
   have plD : PlV G4 D ds ((plM wd (List.replicate PA.length (2 ^ wd - 1)) PA.length).filter ((fun z => match z with | (.int x, .int y) => decide ((cAt PA x.toNat y.toNat).toNat ∈ cs) | _ => false) ∘ fun (q : Int × Int) => (V.int q.1, V.int q.2))) := by
    refine ⟨eD, by rw [ld, List.length_map], fun i d q h1 h2 => ?_⟩
    have := hds i d (V.int q.1, V.int q.2) h1 (by rw [List.getElem?_map, h2]; rfl)
    exact this
   refine ⟨_, rfl, _, rfl, _, rfl, _, rfl, D, ds, _, wd, PA.length, rfl, plD, fun q hq => ?_, h24, fun p1 p2 G5 s5 mq => ?_⟩
   ·obtain ⟨q1, q2', q3, q4⟩ := plM_in (List.mem_filter.mp hq).1
    exact ⟨q1, by omega, q3, q4⟩
   rw [sum_mk ga cs _ (fun x y _ _ => by
    show decide ((cAt PA ((x : Int)).toNat ((y : Int)).toNat).toNat ∈ cs) = _
    rw [Int.toNat_natCast, Int.toNat_natCast])] at mq
   have s45 := s4.trans s5
   refine ⟨fd, fd2, p1, p2, wd, _, rfl, mf.mono s45, mq, mkM_good ga cs, fun G6 s6 => ⟨_, rfl, ?_⟩⟩
   have s46 := s45.trans s6
   exact k10 a b S m h h0 h1 h2 PA B cs wd rm fd fd2 _ G6 (f.mono s46) (al.mono s46) (mf.mono s46)
  refine ⟨_, (pss_cons (ps_set (i := 1) sc_law.nd rfl (by first | exact Or.inl rfl | exact Or.inr rfl) (pe_callD g__law_picture (hr.mono (by decide)) rfl (pa_cons (pv 0) (pa_cons pe_int (pa_cons pe_int pa_nil)))))
    (pss_cons (ps_set (i := 2) sc_law.nd rfl (by first | exact Or.inl rfl | exact Or.inr rfl) (pe_callB (lenK K rfl) rfl T.len PySem.boot_len (pa_cons (pe_ix (ixK K rfl) (pv 1) pe_int (fun _ _ => rfl)) pa_nil)))
    (pss_cons (ps_set (i := 3) sc_law.nd rfl (by first | exact Or.inl rfl | exact Or.inr rfl) (pe_callB (lenK K rfl) rfl T.len PySem.boot_len (pa_cons (pv 1) pa_nil)))
    (pss_cons (ps_setC (ix := 4) (N := ["_law_row", "_law_script"]) (src := [none, some 0]) sc_law.nd rfl rfl rfl ⟨rfl, rfl, rfl, rfl, rfl, by decide +kernel⟩ (piK K rfl (pe_sliceRev K rfl (pv 1) (po_some (pe_un un_neg pe_int)))) (fun s H C fp => pg_name (i := 0) (show (["_law_row", "_law_script"] : List Str).Nodup by decide +kernel) rfl (by first | exact Or.inl rfl | exact Or.inr rfl)) (fun s H C fp => pts_nil) (fun s H C fp => (pe_comp (N := ["_law_cell_here", "_law_script"]) (src := [none, some 1]) rfl ⟨rfl, rfl, rfl, rfl, rfl, by decide +kernel⟩ (piK K rfl (pv 0)) (fun s H C fp => pg_name (i := 0) (show (["_law_cell_here", "_law_script"] : List Str).Nodup by decide +kernel) rfl (by first | exact Or.inl rfl | exact Or.inr rfl)) (fun s H C fp => pts_nil) (fun s H C fp => (pe_op op_mod (pe_op op_add (pe_op op_mul (pv 0) pe_int) (pe_op op_fdiv (pe_callD g__law_mixedD (hr.mono (by decide)) rfl (pa_cons (pv 1) (pa_cons pe_int pa_nil))) pe_int)) pe_int)))))
    (pss_cons (ps_set (i := 5) sc_law.nd rfl (by first | exact Or.inl rfl | exact Or.inr rfl) (pe_callD g__law_some (hr.mono (by decide)) rfl (pa_cons (pe_callD g__law_mixed (hr.mono (by decide)) rfl (pa_cons (pv 0) (pa_cons pe_int pa_nil))) (pa_cons (pv 1) pa_nil))))
    (pss_cons (ps_set (i := 6) sc_law.nd rfl (by first | exact Or.inl rfl | exact Or.inr rfl) (pe_callD g__law_mask (hr.mono (by decide)) rfl (pa_cons (pv 0) (pa_cons pe_int (pa_cons (pv 2) (pa_cons (pv 3) pa_nil))))))
    (pss_cons (ps_set (i := 7) sc_law.nd rfl (by first | exact Or.inl rfl | exact Or.inr rfl) (pe_lst (pa_cons (pe_callD g__law_copied (hr.mono (by decide)) rfl (pa_cons (pv 1) pa_nil)) (pa_cons (pe_callD g__law_copied (hr.mono (by decide)) rfl (pa_cons (pv 4) pa_nil)) (pa_cons (pe_callTy (listK K rfl) rfl T.list PyProof.Rows.boot_list (pa_cons (pv 5) pa_nil)) pa_nil)))))
    (@r7)))))))), ?_⟩
  refine ⟨_, rfl, sc, ns, 3, rfl, hS, hB, by decide, fun a ps PA wd H1 s1 _ _ po ga => ?_⟩
  obtain ⟨q0, rs, e0, e1, e2⟩ := ga.first po
  have hpl : ps.length = PA.length := by rw [po.len, ir_len]
  have w1 := ga.w1
  have w24 := ga.w24
  have h1' := ga.ne
  have h24 := ga.le
  refine ⟨_, rfl, a, _, _, _, rfl, rfl, SqL.of po.top, atI_nat (j := 0) e0, q0, _, rfl, .inl (SqL.of e1), ?_⟩
  show gName 2 (.int ((rs.map V.int).length : Int)) _ H1 _
  rw [List.length_map, e2]
  refine ⟨_, rfl, a, _, rfl, .inl (SqL.of po.top), ?_⟩
  show gName 3 (.int ((ps.map V.ref).length : Int)) _ H1 _
  rw [List.length_map, hpl]
  have hS1 := sqL_mono hS s1
  refine ⟨_, rfl, _, rfl, _, rfl, rfl, a, _, rfl, SqL.of po.top, fun rv hrv => ⟨rv, rfl, ⟨_, SqL.of upd_same⟩, fun b hb => ?_⟩⟩
  have zr := same_new (o := HO.lst (ps.map V.ref).reverse) hrv
  have erv : upd H1 rv (HO.lst (ps.map V.ref).reverse) rv = some (HO.lst (ps.map V.ref).reverse) := upd_same
  have po2 := po.mono zr
  have s2 := s1.trans zr
  generalize upd H1 rv (HO.lst (ps.map V.ref).reverse) = H2 at zr erv po2 s2 hb ⊢
  clear po hS1 e0 e1 hrv zr
  have lrow : ∀ {q}, q ∈ ps → ∃ rs : List Int, H2 q = some (.lst (rs.map V.int)) ∧ rs.length = wd := fun {q} hq => by
   obtain ⟨rs, f1, f2, _⟩ := ga.mem po2 hq
   exact ⟨rs, f1, f2⟩
  refine comp_rows (k := 0) (fun v => (gOf H2 v).map fun c => V.int (oth (mixV (ns.getD 1 0) 1) (iV c))) (src_list (SqL.of erv)) (by rw [List.length_reverse, List.length_map, hpl]; exact Nat.le_trans h24 (by decide)) hb (fun x hx G' Q' sm kk => ?_) fun qs H3 s3 _ pb => ?_
  ·obtain ⟨q, hq, rfl⟩ := List.mem_map.mp (List.mem_reverse.mp hx)
   obtain ⟨rs, f1, f2⟩ := lrow hq
   have f1' := sm _ _ f1
   refine ⟨_, rfl, q, rfl, ⟨_, SqL.of f1'⟩, fun D2 hD2 => ?_⟩
   refine comp_fm (k := 0) (fun c => .int (oth (mixV (ns.getD 1 0) 1) (iV c))) (fun _ => true) (src_list (SqL.of f1')) (by rw [List.length_map, f2]; exact Nat.le_trans w24 (by decide)) hD2 (fun x _ G'' Qb _ kb => kb G'' (Same.refl _)) (fun x hx _ G'' Q'' sm2 kk2 => ?_) fun G'' s'' h'' => ?_
   ·obtain ⟨c, _, rfl⟩ := List.mem_map.mp hx
    exact ⟨_, rfl, _, _, rfl, rfl, .inr ⟨by decide, by decide⟩, _, rfl, sc, ns, 1, rfl, sqL_mono hS ((s2.trans sm).trans sm2), hB, by decide, _, _, rfl, rfl, ⟨by decide, by decide⟩, _, _, rfl, rfl, _, _, rfl, rfl, (by show (0 : Int) < 16; decide), kk2 G'' (Same.refl _)⟩
   ·refine kk D2 G'' s'' hD2 ?_
    rw [h'', filter_t, gOf_at f1]
  obtain ⟨B, eB⟩ : ∃ B : List (List Int), B = PA.reverse.map fun r => r.map (oth (mixV (ns.getD 1 0) 1)) := ⟨_, rfl⟩
  have ePb : ((ps.map V.ref).reverse.map fun v => (gOf H2 v).map fun c => V.int (oth (mixV (ns.getD 1 0) 1) (iV c))) = ir B := by
   have h := congrArg (List.map fun r => r.map fun c => V.int (oth (mixV (ns.getD 1 0) 1) (iV c))) (gOf_map po2.row)
   rw [List.map_map] at h
   rw [List.map_reverse]
   refine Eq.trans (congrArg List.reverse h) ?_
   rw [eB]
   unfold ir
   rw [← List.map_reverse, ← List.map_reverse, List.map_map, List.map_map]
   refine List.map_congr_left fun r _ => ?_
   show (r.map V.int).map (fun c => V.int (oth (mixV (ns.getD 1 0) 1) (iV c))) = (r.map (oth (mixV (ns.getD 1 0) 1))).map V.int
   rw [List.map_map, List.map_map]
   rfl
  rw [ePb] at pb
  have gb : Good B wd := by
   rw [eB]
   refine ⟨by rw [List.length_map, List.length_reverse]; exact h1', by rw [List.length_map, List.length_reverse]; exact h24, w1, w24, fun r hr => ?_⟩
   obtain ⟨r', hr', rfl⟩ := List.mem_map.mp hr
   refine ⟨by rw [List.length_map]; exact (ga.row r' (List.mem_reverse.mp hr')).1, fun c hc => ?_⟩
   obtain ⟨c', _, rfl⟩ := List.mem_map.mp hc
   unfold oth
   omega
  have hl : B.length = PA.length := by rw [eB, List.length_map, List.length_reverse]
  have s23 := s2.trans s3
  have po3 := po2.mono s3
  clear ePb eB erv lrow
  refine ⟨_, rfl, sc, ns, 14, rfl, sqL_mono hS s23, hB, by decide, fun n14 hn14 => ⟨_, rfl, n14, a, ps, PA, wd, rfl, po3, ga, fun S cs H4 s4 _ es lc hc => ?_⟩⟩
  have s24 := s23.trans s4
  refine ⟨_, rfl, _, rfl, _, rfl, sc, ns, 15, wd, PA.length, rfl, sqL_mono hS s24, hB, by decide, w1, w24, h1', h24, fun m m2 rm H5 s5 mv gm hm => ?_⟩
  have s45 := s4.trans s5
  have po5 := po3.mono s45
  have pb5 := pb.mono s45
  refine ⟨_, rfl, a, ps, ir PA, rfl, po5.top, po5.row, by rw [ir_len]; exact Nat.le_trans h24 (by decide), fun h0 ps0 H6 s6 _ _ p0 => ?_⟩
  have pb6 := pb5.mono s6
  refine ⟨_, rfl, b, qs, ir B, rfl, pb6.top, pb6.row, by rw [ir_len, hl]; exact Nat.le_trans h24 (by decide), fun h1 ps1 H7 s7 _ _ p1 => ?_⟩
  have s57 := s6.trans s7
  have es7 := (s5.trans s57) _ _ es
  refine ⟨_, rfl, S, _, rfl, .inl (SqL.of es7), fun h2 hh2 => ⟨sz3, fun h hh => ?_⟩⟩
  have z2 := same_new (o := HO.lst (nI cs)) hh2
  have z3 := same_new (o := HO.lst [V.ref h0, V.ref h1, V.ref h2]) hh
  have zz := z2.trans z3
  have s09 := ((s24.trans s5).trans s57).trans zz
  exact k7 a b S m h h0 h1 h2 PA B cs wd rm _ ⟨sqL_mono hS s09, hB, ⟨ps, po5.mono (s57.trans zz)⟩, ga, ⟨qs, pb5.mono (s57.trans zz)⟩, gb, hl, zz _ _ es7, by omega, hc, ⟨m2, mv.mono (s57.trans zz)⟩, gm, hm, upd_same, ⟨ps0, p0.mono (s7.trans zz)⟩, ⟨ps1, p1.mono zz⟩, z3 _ _ upd_same⟩ (al.mono s09)
end
section
variable {P : Program} {w : World} {K : W.Frag} {mg : Str → Option Value} {base : Heap} {cFE cBP cBC cBS cBM : Addr} {tS tC : Tok}
theorem ok_with_bitD {dv : Value} {f : Addr} {fd : FuncData} (F : FunD K "with_bit" "with_bit" s_with_bit dv f fd) (T : Txt K mg cFE cBP cBC cBS cBM tS tC) : FnOk P w K mg base CX0 1 f fd ["number", "place", "on"] (spWB) := by
 refine F.ok sc_with_bit (fun vs H Q E h => ?_) (fun cdv A outer s H vs Q E hr h => ?_)
 ·obtain ⟨n, p, rfl, _⟩ := h; rfl
 ·obtain ⟨n, p, rfl, hp, k⟩ := h
  refine ⟨_, (pss_cons (ps_set (i := 3) sc_with_bit.nd rfl (by first | exact Or.inl rfl | exact Or.inr rfl) (pe_op op_shl pe_int (pv 1)))
    (pss_cons (ps_if (pt_val (pv 2)) (pss_one (ps_ret (pe_op op_or (pv 0) (pv 3)))) pss_nil)
    (pss_one (ps_ret (pe_op op_xor (pe_op op_or (pv 0) (pv 3)) (pv 3)))))), ?_⟩
  refine ⟨_, rfl, _, _, rfl, rfl, ⟨by omega, by omega, by decide⟩, ?_⟩
  have e : (1 : Int) * 2 ^ ((p : Int)).toNat = ((2 ^ p : Nat) : Int) := by rw [Int.one_mul, Int.toNat_natCast]; push_cast; rfl
  show gName 3 (.int ((1 : Int) * 2 ^ ((p : Int)).toNat)) _ _ _
  rw [e]
  refine ⟨_, rfl, _, rfl, ?_⟩
  refine ⟨_, rfl, _, rfl, _, _, rfl, rfl, ?_⟩
  show Q (.int (Builtin.bitOr (n : Int) ((2 ^ p : Nat) : Int))) H
  rw [or_nat]; exact k
end
end K8
set_option maxHeartbeats 8000000
namespace K8
open PySem L2
theorem all_mk {l : W.OpenLaw} {w : World} {K : W.Frag} {h : Heap} {mg : Str → Option Value} {fa : Addr} (X : K.In h) (G : h.Ns mainGlobals mg) (hfa : mg "law" = some (.ref fa)) {cB cE pB pE : Addr}
  {f1 f2 f3 f4 f5 f6 f7 f8 f9 f10 f11 f12 f13 f14 f15 f16 f17 f18 f19 f20 f21 f22 f23 f24 f25 f26 f27 f28 f29 f30 f31 f32 f33 f34 f35 f36 f37 f38 f39 f40 f41 f42 f43 f44 f45 f46 f47 f48 f49 cFE cBP cBS cBC cBM cOP cBE cBR : Addr} {tS tC : Tok} {od1 an1 od2 an2 od3 an3 od4 an4 od5 an5 od6 an6 od7 an7 od8 an8 od9 an9 od10 an10 od11 an11 od12 an12 od13 an13 od14 an14 od15 an15 od16 an16 od17 an17 od18 an18 od19 an19 od20 an20 od21 an21 od22 an22 od23 an23 od24 an24 od25 an25 od26 an26 od27 an27 od28 an28 od29 an29 od30 an30 od31 an31 od32 an32 od33 an33 od34 an34 od35 an35 od36 an36 od37 an37 od38 an38 od39 an39 od40 an40 od41 an41 od42 an42 od43 an43 od44 an44 od45 an45 od46 an46 od47 an47 od48 an48 od49 an49 : Option Addr} {sl1 sl2 sl3 sl4 sl5 sl6 sl7 sl8 sl9 sl10 sl11 sl12 sl13 sl14 sl15 sl16 sl17 sl18 sl19 sl20 sl21 sl22 sl23 sl24 sl25 sl26 sl27 sl28 sl29 sl30 sl31 sl32 sl33 sl34 sl35 sl36 sl37 sl38 sl39 sl40 sl41 sl42 sl43 sl44 sl45 sl46 sl47 sl48 sl49 : Array (Option Value)} {oc1 kV1 dc1 pm1 cd1 ct1 oc2 kV2 dc2 pm2 cd2 ct2 oc3 kV3 dc3 pm3 cd3 ct3 oc4 kV4 dc4 pm4 cd4 ct4 oc5 kV5 dc5 pm5 cd5 ct5 oc6 kV6 dc6 pm6 cd6 ct6 oc7 kV7 dc7 pm7 cd7 ct7 oc8 kV8 dc8 pm8 cd8 ct8 oc9 kV9 dc9 pm9 cd9 ct9 oc10 kV10 dc10 pm10 cd10 ct10 oc11 kV11 dc11 pm11 cd11 ct11 oc12 kV12 dc12 pm12 cd12 ct12 oc13 kV13 dc13 pm13 cd13 ct13 oc14 kV14 dc14 pm14 cd14 ct14 oc15 kV15 dc15 pm15 cd15 ct15 oc16 kV16 dc16 pm16 cd16 ct16 oc17 kV17 dc17 pm17 cd17 ct17 oc18 kV18 dc18 pm18 cd18 ct18 oc19 kV19 dc19 pm19 cd19 ct19 oc20 kV20 dc20 pm20 cd20 ct20 oc21 kV21 dc21 pm21 cd21 ct21 oc22 kV22 dc22 pm22 cd22 ct22 oc23 kV23 dc23 pm23 cd23 ct23 oc24 kV24 dc24 pm24 cd24 ct24 oc25 kV25 dc25 pm25 cd25 ct25 oc26 kV26 dc26 pm26 cd26 ct26 oc27 kV27 dc27 pm27 cd27 ct27 oc28 kV28 dc28 pm28 cd28 ct28 oc29 kV29 dc29 pm29 cd29 ct29 oc30 kV30 dc30 pm30 cd30 ct30 oc31 kV31 dc31 pm31 cd31 ct31 oc32 kV32 dc32 pm32 cd32 ct32 oc33 kV33 dc33 pm33 cd33 ct33 oc34 kV34 dc34 pm34 cd34 ct34 oc35 kV35 dc35 pm35 cd35 ct35 oc36 kV36 dc36 pm36 cd36 ct36 oc37 kV37 dc37 pm37 cd37 ct37 oc38 kV38 dc38 pm38 cd38 ct38 oc39 kV39 dc39 pm39 cd39 ct39 oc40 kV40 dc40 pm40 cd40 ct40 oc41 kV41 dc41 pm41 cd41 ct41 oc42 kV42 dc42 pm42 cd42 ct42 oc43 kV43 dc43 pm43 cd43 ct43 oc44 kV44 dc44 pm44 cd44 ct44 oc45 kV45 dc45 pm45 cd45 ct45 oc46 kV46 dc46 pm46 cd46 ct46 oc47 kV47 dc47 pm47 cd47 ct47 oc48 kV48 dc48 pm48 cd48 ct48 oc49 kV49 dc49 pm49 cd49 ct49 : Value} {dT : Addr} {oT : Obj} {nT : Nat}
  (a1 : W.nsIn K mainGlobals "is_whole_from" = some (some (.ref f1))) (l1 : K.lookup f1 = some ⟨oc1, od1, .func (W.fnOf "is_whole_from" "is_whole_from" (defArgs s_is_whole_from) (defBody s_is_whole_from) (defScope s_is_whole_from) .none kV1 dc1 pm1 an1 cd1 ct1), sl1⟩) (c1 : W.codeIn K cd1 "is_whole_from" = true) (k1 : W.keepIn K (.ref f1) = true)
  (a2 : W.nsIn K mainGlobals "is_whole_within" = some (some (.ref f2))) (l2 : K.lookup f2 = some ⟨oc2, od2, .func (W.fnOf "is_whole_within" "is_whole_within" (defArgs s_is_whole_within) (defBody s_is_whole_within) (defScope s_is_whole_within) .none kV2 dc2 pm2 an2 cd2 ct2), sl2⟩) (c2 : W.codeIn K cd2 "is_whole_within" = true) (k2 : W.keepIn K (.ref f2) = true)
  (a3 : W.nsIn K mainGlobals "is_cell" = some (some (.ref f3))) (l3 : K.lookup f3 = some ⟨oc3, od3, .func (W.fnOf "is_cell" "is_cell" (defArgs s_is_cell) (defBody s_is_cell) (defScope s_is_cell) .none kV3 dc3 pm3 an3 cd3 ct3), sl3⟩) (c3 : W.codeIn K cd3 "is_cell" = true) (k3 : W.keepIn K (.ref f3) = true)
  (a4 : W.nsIn K mainGlobals "is_side" = some (some (.ref f4))) (l4 : K.lookup f4 = some ⟨oc4, od4, .func (W.fnOf "is_side" "is_side" (defArgs s_is_side) (defBody s_is_side) (defScope s_is_side) .none kV4 dc4 pm4 an4 cd4 ct4), sl4⟩) (c4 : W.codeIn K cd4 "is_side" = true) (k4 : W.keepIn K (.ref f4) = true)
  (a5 : W.nsIn K mainGlobals "is_list_of" = some (some (.ref f5))) (l5 : K.lookup f5 = some ⟨oc5, od5, .func (W.fnOf "is_list_of" "is_list_of" (defArgs s_is_list_of) (defBody s_is_list_of) (defScope s_is_list_of) .none kV5 dc5 pm5 an5 cd5 ct5), sl5⟩) (c5 : W.codeIn K cd5 "is_list_of" = true) (k5 : W.keepIn K (.ref f5) = true)
  (a6 : W.nsIn K mainGlobals "is_list_of_cells" = some (some (.ref f6))) (l6 : K.lookup f6 = some ⟨oc6, od6, .func (W.fnOf "is_list_of_cells" "is_list_of_cells" (defArgs s_is_list_of_cells) (defBody s_is_list_of_cells) (defScope s_is_list_of_cells) .none kV6 dc6 pm6 an6 cd6 ct6), sl6⟩) (c6 : W.codeIn K cd6 "is_list_of_cells" = true) (k6 : W.keepIn K (.ref f6) = true)
  (a7 : W.nsIn K mainGlobals "are_rows_of" = some (some (.ref f7))) (l7 : K.lookup f7 = some ⟨oc7, od7, .func (W.fnOf "are_rows_of" "are_rows_of" (defArgs s_are_rows_of) (defBody s_are_rows_of) (defScope s_are_rows_of) .none kV7 dc7 pm7 an7 cd7 ct7), sl7⟩) (c7 : W.codeIn K cd7 "are_rows_of" = true) (k7 : W.keepIn K (.ref f7) = true)
  (a8 : W.nsIn K mainGlobals "is_picture" = some (some (.ref f8))) (l8 : K.lookup f8 = some ⟨oc8, od8, .func (W.fnOf "is_picture" "is_picture" (defArgs s_is_picture) (defBody s_is_picture) (defScope s_is_picture) .none kV8 dc8 pm8 an8 cd8 ct8), sl8⟩) (c8 : W.codeIn K cd8 "is_picture" = true) (k8 : W.keepIn K (.ref f8) = true)
  (a9 : W.nsIn K mainGlobals "need_picture" = some (some (.ref f9))) (l9 : K.lookup f9 = some ⟨oc9, od9, .func (W.fnOf "need_picture" "need_picture" (defArgs s_need_picture) (defBody s_need_picture) (defScope s_need_picture) .none kV9 dc9 pm9 an9 cd9 ct9), sl9⟩) (c9 : W.codeIn K cd9 "need_picture" = true) (k9 : W.keepIn K (.ref f9) = true)
  (a10 : W.nsIn K mainGlobals "need_cell" = some (some (.ref f10))) (l10 : K.lookup f10 = some ⟨oc10, od10, .func (W.fnOf "need_cell" "need_cell" (defArgs s_need_cell) (defBody s_need_cell) (defScope s_need_cell) .none kV10 dc10 pm10 an10 cd10 ct10), sl10⟩) (c10 : W.codeIn K cd10 "need_cell" = true) (k10 : W.keepIn K (.ref f10) = true)
  (a11 : W.nsIn K mainGlobals "need_like_sizes" = some (some (.ref f11))) (l11 : K.lookup f11 = some ⟨oc11, od11, .func (W.fnOf "need_like_sizes" "need_like_sizes" (defArgs s_need_like_sizes) (defBody s_need_like_sizes) (defScope s_need_like_sizes) .none kV11 dc11 pm11 an11 cd11 ct11), sl11⟩) (c11 : W.codeIn K cd11 "need_like_sizes" = true) (k11 : W.keepIn K (.ref f11) = true)
  (a12 : W.nsIn K mainGlobals "size_of" = some (some (.ref f12))) (l12 : K.lookup f12 = some ⟨oc12, od12, .func (W.fnOf "size_of" "size_of" (defArgs s_size_of) (defBody s_size_of) (defScope s_size_of) .none kV12 dc12 pm12 an12 cd12 ct12), sl12⟩) (c12 : W.codeIn K cd12 "size_of" = true) (k12 : W.keepIn K (.ref f12) = true)
  (a13 : W.nsIn K mainGlobals "full_row" = some (some (.ref f13))) (l13 : K.lookup f13 = some ⟨oc13, od13, .func (W.fnOf "full_row" "full_row" (defArgs s_full_row) (defBody s_full_row) (defScope s_full_row) .none kV13 dc13 pm13 an13 cd13 ct13), sl13⟩) (c13 : W.codeIn K cd13 "full_row" = true) (k13 : W.keepIn K (.ref f13) = true)
  (a14 : W.nsIn K mainGlobals "is_mask" = some (some (.ref f14))) (l14 : K.lookup f14 = some ⟨oc14, od14, .func (W.fnOf "is_mask" "is_mask" (defArgs s_is_mask) (defBody s_is_mask) (defScope s_is_mask) .none kV14 dc14 pm14 an14 cd14 ct14), sl14⟩) (c14 : W.codeIn K cd14 "is_mask" = true) (k14 : W.keepIn K (.ref f14) = true)
  (a15 : W.nsIn K mainGlobals "need_mask" = some (some (.ref f15))) (l15 : K.lookup f15 = some ⟨oc15, od15, .func (W.fnOf "need_mask" "need_mask" (defArgs s_need_mask) (defBody s_need_mask) (defScope s_need_mask) .none kV15 dc15 pm15 an15 cd15 ct15), sl15⟩) (c15 : W.codeIn K cd15 "need_mask" = true) (k15 : W.keepIn K (.ref f15) = true)
  (a16 : W.nsIn K mainGlobals "mask_size" = some (some (.ref f16))) (l16 : K.lookup f16 = some ⟨oc16, od16, .func (W.fnOf "mask_size" "mask_size" (defArgs s_mask_size) (defBody s_mask_size) (defScope s_mask_size) .none kV16 dc16 pm16 an16 cd16 ct16), sl16⟩) (c16 : W.codeIn K cd16 "mask_size" = true) (k16 : W.keepIn K (.ref f16) = true)
  (a17 : W.nsIn K mainGlobals "bit_at" = some (some (.ref f17))) (l17 : K.lookup f17 = some ⟨oc17, od17, .func (W.fnOf "bit_at" "bit_at" (defArgs s_bit_at) (defBody s_bit_at) (defScope s_bit_at) .none kV17 dc17 pm17 an17 cd17 ct17), sl17⟩) (c17 : W.codeIn K cd17 "bit_at" = true) (k17 : W.keepIn K (.ref f17) = true)
  (a18 : W.nsIn K mainGlobals "with_bit" = some (some (.ref f18))) (l18 : K.lookup f18 = some ⟨oc18, od18, .func (W.fnOf "with_bit" "with_bit" (defArgs s_with_bit) (defBody s_with_bit) (defScope s_with_bit) (.ref dT) kV18 dc18 pm18 an18 cd18 ct18), sl18⟩) (c18 : W.codeIn K cd18 "with_bit" = true) (k18 : W.keepIn K (.ref f18) = true)
  (a19 : W.nsIn K mainGlobals "bits_of_numbers" = some (some (.ref f19))) (l19 : K.lookup f19 = some ⟨oc19, od19, .func (W.fnOf "bits_of_numbers" "bits_of_numbers" (defArgs s_bits_of_numbers) (defBody s_bits_of_numbers) (defScope s_bits_of_numbers) .none kV19 dc19 pm19 an19 cd19 ct19), sl19⟩) (c19 : W.codeIn K cd19 "bits_of_numbers" = true) (k19 : W.keepIn K (.ref f19) = true)
  (a20 : W.nsIn K mainGlobals "mask_of" = some (some (.ref f20))) (l20 : K.lookup f20 = some ⟨oc20, od20, .func (W.fnOf "mask_of" "mask_of" (defArgs s_mask_of) (defBody s_mask_of) (defScope s_mask_of) .none kV20 dc20 pm20 an20 cd20 ct20), sl20⟩) (c20 : W.codeIn K cd20 "mask_of" = true) (k20 : W.keepIn K (.ref f20) = true)
  (a21 : W.nsIn K mainGlobals "row_by_row" = some (some (.ref f21))) (l21 : K.lookup f21 = some ⟨oc21, od21, .func (W.fnOf "row_by_row" "row_by_row" (defArgs s_row_by_row) (defBody s_row_by_row) (defScope s_row_by_row) .none kV21 dc21 pm21 an21 cd21 ct21), sl21⟩) (c21 : W.codeIn K cd21 "row_by_row" = true) (k21 : W.keepIn K (.ref f21) = true)
  (a22 : W.nsIn K mainGlobals "both_masks" = some (some (.ref f22))) (l22 : K.lookup f22 = some ⟨oc22, od22, .func (W.fnOf "both_masks" "both_masks" (defArgs s_both_masks) (defBody s_both_masks) (defScope s_both_masks) .none kV22 dc22 pm22 an22 cd22 ct22), sl22⟩) (c22 : W.codeIn K cd22 "both_masks" = true) (k22 : W.keepIn K (.ref f22) = true)
  (a23 : W.nsIn K mainGlobals "either_mask" = some (some (.ref f23))) (l23 : K.lookup f23 = some ⟨oc23, od23, .func (W.fnOf "either_mask" "either_mask" (defArgs s_either_mask) (defBody s_either_mask) (defScope s_either_mask) .none kV23 dc23 pm23 an23 cd23 ct23), sl23⟩) (c23 : W.codeIn K cd23 "either_mask" = true) (k23 : W.keepIn K (.ref f23) = true)
  (a24 : W.nsIn K mainGlobals "other_mask" = some (some (.ref f24))) (l24 : K.lookup f24 = some ⟨oc24, od24, .func (W.fnOf "other_mask" "other_mask" (defArgs s_other_mask) (defBody s_other_mask) (defScope s_other_mask) .none kV24 dc24 pm24 an24 cd24 ct24), sl24⟩) (c24 : W.codeIn K cd24 "other_mask" = true) (k24 : W.keepIn K (.ref f24) = true)
  (a25 : W.nsIn K mainGlobals "painted_row" = some (some (.ref f25))) (l25 : K.lookup f25 = some ⟨oc25, od25, .func (W.fnOf "painted_row" "painted_row" (defArgs s_painted_row) (defBody s_painted_row) (defScope s_painted_row) .none kV25 dc25 pm25 an25 cd25 ct25), sl25⟩) (c25 : W.codeIn K cd25 "painted_row" = true) (k25 : W.keepIn K (.ref f25) = true)
  (a26 : W.nsIn K mainGlobals "painted" = some (some (.ref f26))) (l26 : K.lookup f26 = some ⟨oc26, od26, .func (W.fnOf "painted" "painted" (defArgs s_painted) (defBody s_painted) (defScope s_painted) .none kV26 dc26 pm26 an26 cd26 ct26), sl26⟩) (c26 : W.codeIn K cd26 "painted" = true) (k26 : W.keepIn K (.ref f26) = true)
  (a27 : W.nsIn K mainGlobals "chosen_row" = some (some (.ref f27))) (l27 : K.lookup f27 = some ⟨oc27, od27, .func (W.fnOf "chosen_row" "chosen_row" (defArgs s_chosen_row) (defBody s_chosen_row) (defScope s_chosen_row) .none kV27 dc27 pm27 an27 cd27 ct27), sl27⟩) (c27 : W.codeIn K cd27 "chosen_row" = true) (k27 : W.keepIn K (.ref f27) = true)
  (a28 : W.nsIn K mainGlobals "chosen_cells" = some (some (.ref f28))) (l28 : K.lookup f28 = some ⟨oc28, od28, .func (W.fnOf "chosen_cells" "chosen_cells" (defArgs s_chosen_cells) (defBody s_chosen_cells) (defScope s_chosen_cells) .none kV28 dc28 pm28 an28 cd28 ct28), sl28⟩) (c28 : W.codeIn K cd28 "chosen_cells" = true) (k28 : W.keepIn K (.ref f28) = true)
  (a29 : W.nsIn K mainGlobals "_law_cell" = some (some (.ref f29))) (l29 : K.lookup f29 = some ⟨oc29, od29, .func (W.fnOf "_law_cell" "_law_cell" (defArgs s_law_cell) (defBody s_law_cell) (defScope s_law_cell) .none kV29 dc29 pm29 an29 cd29 ct29), sl29⟩) (c29 : W.codeIn K cd29 "_law_cell" = true) (k29 : W.keepIn K (.ref f29) = true)
  (a30 : W.nsIn K mainGlobals "_law_mixed" = some (some (.ref f30))) (l30 : K.lookup f30 = some ⟨oc30, od30, .func (W.fnOf "_law_mixed" "_law_mixed" (defArgs s_law_mixed) (defBody s_law_mixed) (defScope s_law_mixed) .none kV30 dc30 pm30 an30 cd30 ct30), sl30⟩) (c30 : W.codeIn K cd30 "_law_mixed" = true) (k30 : W.keepIn K (.ref f30) = true)
  (a31 : W.nsIn K mainGlobals "_law_mixed" = some (some (.ref f31))) (l31 : K.lookup f31 = some ⟨oc31, od31, .func (W.fnOf "_law_mixed" "_law_mixed" (defArgs s_law_mixed) (defBody s_law_mixed) (defScope s_law_mixed) .none kV31 dc31 pm31 an31 cd31 ct31), sl31⟩) (c31 : W.codeIn K cd31 "_law_mixed" = true) (k31 : W.keepIn K (.ref f31) = true)
  (a32 : W.nsIn K mainGlobals "_law_whole" = some (some (.ref f32))) (l32 : K.lookup f32 = some ⟨oc32, od32, .func (W.fnOf "_law_whole" "_law_whole" (defArgs s_law_whole) (defBody s_law_whole) (defScope s_law_whole) .none kV32 dc32 pm32 an32 cd32 ct32), sl32⟩) (c32 : W.codeIn K cd32 "_law_whole" = true) (k32 : W.keepIn K (.ref f32) = true)
  (a33 : W.nsIn K mainGlobals "_law_power" = some (some (.ref f33))) (l33 : K.lookup f33 = some ⟨oc33, od33, .func (W.fnOf "_law_power" "_law_power" (defArgs s_law_power) (defBody s_law_power) (defScope s_law_power) .none kV33 dc33 pm33 an33 cd33 ct33), sl33⟩) (c33 : W.codeIn K cd33 "_law_power" = true) (k33 : W.keepIn K (.ref f33) = true)
  (a34 : W.nsIn K mainGlobals "_law_picture" = some (some (.ref f34))) (l34 : K.lookup f34 = some ⟨oc34, od34, .func (W.fnOf "_law_picture" "_law_picture" (defArgs s_law_picture) (defBody s_law_picture) (defScope s_law_picture) .none kV34 dc34 pm34 an34 cd34 ct34), sl34⟩) (c34 : W.codeIn K cd34 "_law_picture" = true) (k34 : W.keepIn K (.ref f34) = true)
  (a35 : W.nsIn K mainGlobals "_law_mask" = some (some (.ref f35))) (l35 : K.lookup f35 = some ⟨oc35, od35, .func (W.fnOf "_law_mask" "_law_mask" (defArgs s_law_mask) (defBody s_law_mask) (defScope s_law_mask) .none kV35 dc35 pm35 an35 cd35 ct35), sl35⟩) (c35 : W.codeIn K cd35 "_law_mask" = true) (k35 : W.keepIn K (.ref f35) = true)
  (a36 : W.nsIn K mainGlobals "_law_places" = some (some (.ref f36))) (l36 : K.lookup f36 = some ⟨oc36, od36, .func (W.fnOf "_law_places" "_law_places" (defArgs s_law_places) (defBody s_law_places) (defScope s_law_places) .none kV36 dc36 pm36 an36 cd36 ct36), sl36⟩) (c36 : W.codeIn K cd36 "_law_places" = true) (k36 : W.keepIn K (.ref f36) = true)
  (a37 : W.nsIn K mainGlobals "_law_mask_by" = some (some (.ref f37))) (l37 : K.lookup f37 = some ⟨oc37, od37, .func (W.fnOf "_law_mask_by" "_law_mask_by" (defArgs s_law_mask_by) (defBody s_law_mask_by) (defScope s_law_mask_by) .none kV37 dc37 pm37 an37 cd37 ct37), sl37⟩) (c37 : W.codeIn K cd37 "_law_mask_by" = true) (k37 : W.keepIn K (.ref f37) = true)
  (a38 : W.nsIn K mainGlobals "_law_same_mask" = some (some (.ref f38))) (l38 : K.lookup f38 = some ⟨oc38, od38, .func (W.fnOf "_law_same_mask" "_law_same_mask" (defArgs s_law_same_mask) (defBody s_law_same_mask) (defScope s_law_same_mask) .none kV38 dc38 pm38 an38 cd38 ct38), sl38⟩) (c38 : W.codeIn K cd38 "_law_same_mask" = true) (k38 : W.keepIn K (.ref f38) = true)
  (a39 : W.nsIn K mainGlobals "_law_same" = some (some (.ref f39))) (l39 : K.lookup f39 = some ⟨oc39, od39, .func (W.fnOf "_law_same" "_law_same" (defArgs s_law_same) (defBody s_law_same) (defScope s_law_same) .none kV39 dc39 pm39 an39 cd39 ct39), sl39⟩) (c39 : W.codeIn K cd39 "_law_same" = true) (k39 : W.keepIn K (.ref f39) = true)
  (a40 : W.nsIn K mainGlobals "_law_class" = some (some (.ref f40))) (l40 : K.lookup f40 = some ⟨oc40, od40, .func (W.fnOf "_law_class" "_law_class" (defArgs s_law_class) (defBody s_law_class) (defScope s_law_class) .none kV40 dc40 pm40 an40 cd40 ct40), sl40⟩) (c40 : W.codeIn K cd40 "_law_class" = true) (k40 : W.keepIn K (.ref f40) = true)
  (a41 : W.nsIn K mainGlobals "_law_wrong_picture" = some (some (.ref f41))) (l41 : K.lookup f41 = some ⟨oc41, od41, .func (W.fnOf "_law_wrong_picture" "_law_wrong_picture" (defArgs s_law_wrong_picture) (defBody s_law_wrong_picture) (defScope s_law_wrong_picture) .none kV41 dc41 pm41 an41 cd41 ct41), sl41⟩) (c41 : W.codeIn K cd41 "_law_wrong_picture" = true) (k41 : W.keepIn K (.ref f41) = true)
  (a42 : W.nsIn K mainGlobals "_law_wrong_mask" = some (some (.ref f42))) (l42 : K.lookup f42 = some ⟨oc42, od42, .func (W.fnOf "_law_wrong_mask" "_law_wrong_mask" (defArgs s_law_wrong_mask) (defBody s_law_wrong_mask) (defScope s_law_wrong_mask) .none kV42 dc42 pm42 an42 cd42 ct42), sl42⟩) (c42 : W.codeIn K cd42 "_law_wrong_mask" = true) (k42 : W.keepIn K (.ref f42) = true)
  (a43 : W.nsIn K mainGlobals "_law_wrong_cell" = some (some (.ref f43))) (l43 : K.lookup f43 = some ⟨oc43, od43, .func (W.fnOf "_law_wrong_cell" "_law_wrong_cell" (defArgs s_law_wrong_cell) (defBody s_law_wrong_cell) (defScope s_law_wrong_cell) .none kV43 dc43 pm43 an43 cd43 ct43), sl43⟩) (c43 : W.codeIn K cd43 "_law_wrong_cell" = true) (k43 : W.keepIn K (.ref f43) = true)
  (a44 : W.nsIn K mainGlobals "_law_copied" = some (some (.ref f44))) (l44 : K.lookup f44 = some ⟨oc44, od44, .func (W.fnOf "_law_copied" "_law_copied" (defArgs s_law_copied) (defBody s_law_copied) (defScope s_law_copied) .none kV44 dc44 pm44 an44 cd44 ct44), sl44⟩) (c44 : W.codeIn K cd44 "_law_copied" = true) (k44 : W.keepIn K (.ref f44) = true)
  (a45 : W.nsIn K mainGlobals "_law_some" = some (some (.ref f45))) (l45 : K.lookup f45 = some ⟨oc45, od45, .func (W.fnOf "_law_some" "_law_some" (defArgs s_law_some) (defBody s_law_some) (defScope s_law_some) .none kV45 dc45 pm45 an45 cd45 ct45), sl45⟩) (c45 : W.codeIn K cd45 "_law_some" = true) (k45 : W.keepIn K (.ref f45) = true)
  (a46 : W.nsIn K mainGlobals "_law_word" = some (some (.ref f46))) (l46 : K.lookup f46 = some ⟨oc46, od46, .func (W.fnOf "_law_word" "_law_word" (defArgs s_law_word) (defBody s_law_word) (defScope s_law_word) .none kV46 dc46 pm46 an46 cd46 ct46), sl46⟩) (c46 : W.codeIn K cd46 "_law_word" = true) (k46 : W.keepIn K (.ref f46) = true)
  (a47 : W.nsIn K mainGlobals "_law_refused" = some (some (.ref f47))) (l47 : K.lookup f47 = some ⟨oc47, od47, .func (W.fnOf "_law_refused" "_law_refused" (defArgs s_law_refused) (defBody s_law_refused) (defScope s_law_refused) .none kV47 dc47 pm47 an47 cd47 ct47), sl47⟩) (c47 : W.codeIn K cd47 "_law_refused" = true) (k47 : W.keepIn K (.ref f47) = true)
  (a48 : W.nsIn K mainGlobals "_law_by_cells" = some (some (.ref f48))) (l48 : K.lookup f48 = some ⟨oc48, od48, .func (W.fnOf "_law_by_cells" "_law_by_cells" (defArgs s_law_by_cells) (defBody s_law_by_cells) (defScope s_law_by_cells) .none kV48 dc48 pm48 an48 cd48 ct48), sl48⟩) (c48 : W.codeIn K cd48 "_law_by_cells" = true) (k48 : W.keepIn K (.ref f48) = true)
  (a49 : W.nsIn K mainGlobals "law" = some (some (.ref f49))) (l49 : K.lookup f49 = some ⟨oc49, od49, .func (W.fnOf "law" "law" (defArgs s_law) (defBody s_law) (defScope s_law) .none kV49 dc49 pm49 an49 cd49 ct49), sl49⟩) (c49 : W.codeIn K cd49 "law" = true) (k49 : W.keepIn K (.ref f49) = true)
  (lT : K.lookup dT = some oT) (dTq : oT.data = .seq #[Value.bool true] nT)
  (z1 : W.nsIn K mainGlobals "len" = some none)
  (z2 : W.nsIn K mainGlobals "range" = some none)
  (z3 : W.nsIn K mainGlobals "isinstance" = some none)
  (z4 : W.nsIn K mainGlobals "int" = some none)
  (z5 : W.nsIn K mainGlobals "bool" = some none)
  (z6 : W.nsIn K mainGlobals "list" = some none)
  (z7 : W.nsIn K mainGlobals "tuple" = some none)
  (z8 : W.nsIn K mainGlobals "all" = some none)
  (z9 : W.nsIn K mainGlobals "abs" = some none)
  (z10 : W.nsIn K mainGlobals "min" = some none)
  (z11 : W.nsIn K mainGlobals "str" = some none)
  (z12 : W.nsIn K mainGlobals "sum" = some none)
  (z13 : W.nsIn K mainGlobals "enumerate" = some none)
  (z14 : W.nsIn K mainGlobals "ValueError" = some none)
  (y1 : W.nsIn K mainGlobals "MOST_SIDE" = some (some (.int 24 tS)))
  (y2 : W.nsIn K mainGlobals "MOST_CELL" = some (some (.int 15 tC)))
  (x1 : W.nsIn K mainGlobals "FolioError" = some (some (.ref cFE)))
  (x2 : W.nsIn K mainGlobals "BadPicture" = some (some (.ref cBP)))
  (x3 : W.nsIn K mainGlobals "BadSize" = some (some (.ref cBS)))
  (x4 : W.nsIn K mainGlobals "BadCell" = some (some (.ref cBC)))
  (x5 : W.nsIn K mainGlobals "BadMask" = some (some (.ref cBM)))
  (x6 : W.nsIn K mainGlobals "OutOfPlace" = some (some (.ref cOP)))
  (x7 : W.nsIn K mainGlobals "BadEdge" = some (some (.ref cBE)))
  (x8 : W.nsIn K mainGlobals "BadRule" = some (some (.ref cBR)))
  (q1 : W.excIn K cBP mroVE "ValueError.__new__" = true)
  (q2 : W.findIn K (.ref cBP) "__getattribute__" = some (some (.builtin "BaseException.__getattribute__")))
  (q3 : W.findIn K (.ref cBP) "__getattr__" = some none)
  (q4 : W.findIn K (.ref cBP) "__class__" = some (some (.builtin "object.__class__")))
  (q5 : W.mroIn K cBP (.type "BaseException") = some true)
  (q6 : W.mroIn K cBP (.type "object") = some true)
  (q7 : W.isClsIn K cBP = true)
  (q8 : W.excIn K cBS mroVE "ValueError.__new__" = true)
  (q9 : W.findIn K (.ref cBS) "__getattribute__" = some (some (.builtin "BaseException.__getattribute__")))
  (q10 : W.findIn K (.ref cBS) "__getattr__" = some none)
  (q11 : W.findIn K (.ref cBS) "__class__" = some (some (.builtin "object.__class__")))
  (q12 : W.mroIn K cBS (.type "BaseException") = some true)
  (q13 : W.mroIn K cBS (.type "object") = some true)
  (q14 : W.isClsIn K cBS = true)
  (q15 : W.excIn K cBC mroVE "ValueError.__new__" = true)
  (q16 : W.findIn K (.ref cBC) "__getattribute__" = some (some (.builtin "BaseException.__getattribute__")))
  (q17 : W.findIn K (.ref cBC) "__getattr__" = some none)
  (q18 : W.findIn K (.ref cBC) "__class__" = some (some (.builtin "object.__class__")))
  (q19 : W.mroIn K cBC (.type "BaseException") = some true)
  (q20 : W.mroIn K cBC (.type "object") = some true)
  (q21 : W.isClsIn K cBC = true)
  (q22 : W.excIn K cBM mroVE "ValueError.__new__" = true)
  (q23 : W.findIn K (.ref cBM) "__getattribute__" = some (some (.builtin "BaseException.__getattribute__")))
  (q24 : W.findIn K (.ref cBM) "__getattr__" = some none)
  (q25 : W.findIn K (.ref cBM) "__class__" = some (some (.builtin "object.__class__")))
  (q26 : W.mroIn K cBM (.type "BaseException") = some true)
  (q27 : W.mroIn K cBM (.type "object") = some true)
  (q28 : W.isClsIn K cBM = true)
  (q29 : W.subIn K (.ref cFE) (.type "BaseException") = some true)
  (q30 : W.isClsIn K cFE = true)
  (q31 : W.typeIn K (.ref cFE) = some (.type "type"))
  (q32 : W.subIn K (.ref cBP) (.ref cFE) = some true)
  (q33 : W.subIn K (.ref cBS) (.ref cFE) = some true)
  (q34 : W.subIn K (.ref cBC) (.ref cFE) = some true)
  (q35 : W.subIn K (.ref cBM) (.ref cFE) = some true)
  (q36 : W.kitOne K (.ref cBP) (.type "ValueError") = some true)
  (q37 : W.kitOne K (.ref cBP) (.ref cBP) = some true)
  (q38 : W.kitOne K (.ref cBP) (.ref cBC) = some false)
  (q39 : W.kitOne K (.ref cBP) (.ref cBS) = some false)
  (q40 : W.kitOne K (.ref cBP) (.ref cBM) = some false)
  (q41 : W.kitOne K (.ref cBP) (.ref cOP) = some false)
  (q42 : W.kitOne K (.ref cBP) (.ref cBE) = some false)
  (q43 : W.kitOne K (.ref cBP) (.ref cBR) = some false)
  (q44 : W.kitOne K (.ref cBC) (.type "ValueError") = some true)
  (q45 : W.kitOne K (.ref cBC) (.ref cBP) = some false)
  (q46 : W.kitOne K (.ref cBC) (.ref cBC) = some true)
  (q47 : W.kitOne K (.ref cBC) (.ref cBS) = some false)
  (q48 : W.kitOne K (.ref cBC) (.ref cBM) = some false)
  (q49 : W.kitOne K (.ref cBC) (.ref cOP) = some false)
  (q50 : W.kitOne K (.ref cBC) (.ref cBE) = some false)
  (q51 : W.kitOne K (.ref cBC) (.ref cBR) = some false)
  (q52 : W.kitOne K (.ref cBS) (.type "ValueError") = some true)
  (q53 : W.kitOne K (.ref cBS) (.ref cBP) = some false)
  (q54 : W.kitOne K (.ref cBS) (.ref cBC) = some false)
  (q55 : W.kitOne K (.ref cBS) (.ref cBS) = some true)
  (q56 : W.kitOne K (.ref cBS) (.ref cBM) = some false)
  (q57 : W.kitOne K (.ref cBS) (.ref cOP) = some false)
  (q58 : W.kitOne K (.ref cBS) (.ref cBE) = some false)
  (q59 : W.kitOne K (.ref cBS) (.ref cBR) = some false)
  (q60 : W.kitOne K (.ref cBM) (.type "ValueError") = some true)
  (q61 : W.kitOne K (.ref cBM) (.ref cBP) = some false)
  (q62 : W.kitOne K (.ref cBM) (.ref cBC) = some false)
  (q63 : W.kitOne K (.ref cBM) (.ref cBS) = some false)
  (q64 : W.kitOne K (.ref cBM) (.ref cBM) = some true)
  (q65 : W.kitOne K (.ref cBM) (.ref cOP) = some false)
  (q66 : W.kitOne K (.ref cBM) (.ref cBE) = some false)
  (q67 : W.kitOne K (.ref cBM) (.ref cBR) = some false)
  (uB : cd22 = .ref cB) (uE : cd23 = .ref cE)
  (vB : W.codeHdIn K cB pB = true) (vE : W.codeHdIn K cE pE = true)
  (nd : ([pB, pE] : List Addr).Nodup)
  : ∃ fd : FuncData, (∀ (s : Shared) (v : Value), BindsTo s fd ⟨[v], []⟩ [("_law_script", v)]) ∧ ∀ base : Heap, K.In base → base.Ns mainGlobals mg → BMain mg base → FnOk l.prog w K mg base CX0 12 fa fd ["_law_script"] (spLaw K [mkOf pB s_both_masks "both_masks", mkOf pE s_either_mask "either_mask"]) := by
 have e := hfa.symm.trans (W.mg_of X G a49)
 cases e
 have T : Txt K mg cFE cBP cBC cBS cBM tS tC := ⟨W.mg_none_of X G z1, W.mg_none_of X G z2, W.mg_none_of X G z3, W.mg_none_of X G z4, W.mg_none_of X G z5, W.mg_none_of X G z6, W.mg_none_of X G z7, W.mg_none_of X G z8, W.mg_none_of X G z9, W.mg_none_of X G z10, W.mg_none_of X G z11, W.mg_none_of X G z12, W.mg_none_of X G z13, W.mg_none_of X G z14, W.mg_of X G y1, W.mg_of X G y2, W.mg_of X G x1, W.mg_of X G x2, W.mg_of X G x3, W.mg_of X G x4, W.mg_of X G x5, q1, ⟨q2, q3, q4, q5, q6, q7⟩, exm_mk q29 q30 q31 q32, q8, ⟨q9, q10, q11, q12, q13, q14⟩, exm_mk q29 q30 q31 q33, q15, ⟨q16, q17, q18, q19, q20, q21⟩, exm_mk q29 q30 q31 q34, q22, ⟨q23, q24, q25, q26, q27, q28⟩, exm_mk q29 q30 q31 q35⟩
 have TC : TxtC K mg cBP cBC cBS cBM cOP cBE cBR := ⟨W.mg_none_of X G z3, W.mg_none_of X G z4, W.mg_none_of X G z14, W.mg_of X G x2, W.mg_of X G x4, W.mg_of X G x3, W.mg_of X G x5, W.mg_of X G x6, W.mg_of X G x7, W.mg_of X G x8, ⟨⟨q2, q3, q4, q5, q6, q7⟩, q36, q37, q38, q39, q40, q41, q42, q43⟩, ⟨⟨q16, q17, q18, q19, q20, q21⟩, q44, q45, q46, q47, q48, q49, q50, q51⟩, ⟨⟨q9, q10, q11, q12, q13, q14⟩, q52, q53, q54, q55, q56, q57, q58, q59⟩, ⟨⟨q23, q24, q25, q26, q27, q28⟩, q60, q61, q62, q63, q64, q65, q66, q67⟩⟩
 have F1 := funD_mk (st := s_is_whole_from) l1 c1 k1
 have F2 := funD_mk (st := s_is_whole_within) l2 c2 k2
 have F3 := funD_mk (st := s_is_cell) l3 c3 k3
 have F4 := funD_mk (st := s_is_side) l4 c4 k4
 have F5 := funD_mk (st := s_is_list_of) l5 c5 k5
 have F6 := funD_mk (st := s_is_list_of_cells) l6 c6 k6
 have F7 := funD_mk (st := s_are_rows_of) l7 c7 k7
 have F8 := funD_mk (st := s_is_picture) l8 c8 k8
 have F9 := funD_mk (st := s_need_picture) l9 c9 k9
 have F10 := funD_mk (st := s_need_cell) l10 c10 k10
 have F11 := funD_mk (st := s_need_like_sizes) l11 c11 k11
 have F12 := funD_mk (st := s_size_of) l12 c12 k12
 have F13 := funD_mk (st := s_full_row) l13 c13 k13
 have F14 := funD_mk (st := s_is_mask) l14 c14 k14
 have F15 := funD_mk (st := s_need_mask) l15 c15 k15
 have F16 := funD_mk (st := s_mask_size) l16 c16 k16
 have F17 := funD_mk (st := s_bit_at) l17 c17 k17
 have F18 := funD_mk (st := s_with_bit) l18 c18 k18
 have F19 := funD_mk (st := s_bits_of_numbers) l19 c19 k19
 have F20 := funD_mk (st := s_mask_of) l20 c20 k20
 have F21 := funD_mk (st := s_row_by_row) l21 c21 k21
 have F22 := funD_mk (st := s_both_masks) l22 c22 k22
 have F23 := funD_mk (st := s_either_mask) l23 c23 k23
 have F24 := funD_mk (st := s_other_mask) l24 c24 k24
 have F25 := funD_mk (st := s_painted_row) l25 c25 k25
 have F26 := funD_mk (st := s_painted) l26 c26 k26
 have F27 := funD_mk (st := s_chosen_row) l27 c27 k27
 have F28 := funD_mk (st := s_chosen_cells) l28 c28 k28
 have F29 := funD_mk (st := s_law_cell) l29 c29 k29
 have F30 := funD_mk (st := s_law_mixed) l30 c30 k30
 have F31 := funD_mk (st := s_law_mixed) l31 c31 k31
 have F32 := funD_mk (st := s_law_whole) l32 c32 k32
 have F33 := funD_mk (st := s_law_power) l33 c33 k33
 have F34 := funD_mk (st := s_law_picture) l34 c34 k34
 have F35 := funD_mk (st := s_law_mask) l35 c35 k35
 have F36 := funD_mk (st := s_law_places) l36 c36 k36
 have F37 := funD_mk (st := s_law_mask_by) l37 c37 k37
 have F38 := funD_mk (st := s_law_same_mask) l38 c38 k38
 have F39 := funD_mk (st := s_law_same) l39 c39 k39
 have F40 := funD_mk (st := s_law_class) l40 c40 k40
 have F41 := funD_mk (st := s_law_wrong_picture) l41 c41 k41
 have F42 := funD_mk (st := s_law_wrong_mask) l42 c42 k42
 have F43 := funD_mk (st := s_law_wrong_cell) l43 c43 k43
 have F44 := funD_mk (st := s_law_copied) l44 c44 k44
 have F45 := funD_mk (st := s_law_some) l45 c45 k45
 have F46 := funD_mk (st := s_law_word) l46 c46 k46
 have F47 := funD_mk (st := s_law_refused) l47 c47 k47
 have F48 := funD_mk (st := s_law_by_cells) l48 c48 k48
 have F49 := funD_mk (st := s_law) l49 c49 k49
 refine ⟨W.fnOf "law" "law" (defArgs s_law) (defBody s_law) (defScope s_law) .none kV49 dc49 pm49 an49 cd49 ct49, fun s v => .of_eq rfl, fun base kb nb hB => ?_⟩
 have g1 := F1.def (P := l.prog) (w := w) (mg := mg) (base := base) (ok_is_whole_from F1 T) (W.mg_of X G a1) (fun _ _ _ _ _ _ us hl => (by obtain ⟨u0, u1, rfl⟩ := len2 hl; rfl))
 have g2 := F2.def (P := l.prog) (w := w) (mg := mg) (base := base) (ok_is_whole_within F2 g1) (W.mg_of X G a2) (fun _ _ _ _ _ _ us hl => (by obtain ⟨u0, u1, u2, rfl⟩ := len3 hl; rfl))
 have g3A := F3.defA (P := l.prog) (w := w) (mg := mg) (base := base) (ok_is_cell F3 T g2) (fun _ _ _ _ _ _ us hl => (by obtain ⟨u0, rfl⟩ := len1 hl; rfl))
 have g3 := F3.def (P := l.prog) (w := w) (mg := mg) (base := base) (ok_is_cell F3 T g2) (W.mg_of X G a3) (fun _ _ _ _ _ _ us hl => (by obtain ⟨u0, rfl⟩ := len1 hl; rfl))
 have g4 := F4.def (P := l.prog) (w := w) (mg := mg) (base := base) (ok_is_side F4 T g2) (W.mg_of X G a4) (fun _ _ _ _ _ _ us hl => (by obtain ⟨u0, rfl⟩ := len1 hl; rfl))
 have g5 := F5.def (P := l.prog) (w := w) (mg := mg) (base := base) (ok_is_list_of F5 T g3A) (W.mg_of X G a5) (fun _ _ _ _ _ _ us hl => (by obtain ⟨u0, u1, rfl⟩ := len2 hl; rfl))
 have g6 := F6.def (P := l.prog) (w := w) (mg := mg) (base := base) (ok_is_list_of_cells F6 (W.mg_of X G a3) g5) (W.mg_of X G a6) (fun _ _ _ _ _ _ us hl => (by obtain ⟨u0, rfl⟩ := len1 hl; rfl))
 have g7 := F7.def (P := l.prog) (w := w) (mg := mg) (base := base) (ok_are_rows_of F7 T g5 g4) (W.mg_of X G a7) (fun _ _ _ _ _ _ us hl => (by obtain ⟨u0, u1, rfl⟩ := len2 hl; rfl))
 have g8 := F8.def (P := l.prog) (w := w) (mg := mg) (base := base) (ok_is_picture F8 (W.mg_of X G a3) g7) (W.mg_of X G a8) (fun _ _ _ _ _ _ us hl => (by obtain ⟨u0, rfl⟩ := len1 hl; rfl))
 have g9 := F9.defX (P := l.prog) (w := w) (mg := mg) (base := base) (ok_need_picture F9 T g8) (W.mg_of X G a9) (fun _ _ _ _ _ _ us hl => (by obtain ⟨u0, rfl⟩ := len1 hl; rfl))
 have g10 := F10.defX (P := l.prog) (w := w) (mg := mg) (base := base) (ok_need_cell F10 T g3) (W.mg_of X G a10) (fun _ _ _ _ _ _ us hl => (by obtain ⟨u0, rfl⟩ := len1 hl; rfl))
 have g11 := F11.defX (P := l.prog) (w := w) (mg := mg) (base := base) (ok_need_like_sizes F11 T) (W.mg_of X G a11) (fun _ _ _ _ _ _ us hl => (by obtain ⟨u0, u1, rfl⟩ := len2 hl; rfl))
 have g12 := F12.defX (P := l.prog) (w := w) (mg := mg) (base := base) (ok_size_of F12 T g9) (W.mg_of X G a12) (fun _ _ _ _ _ _ us hl => (by obtain ⟨u0, rfl⟩ := len1 hl; rfl))
 have g13 := F13.def (P := l.prog) (w := w) (mg := mg) (base := base) (ok_full_row F13 ) (W.mg_of X G a13) (fun _ _ _ _ _ _ us hl => (by obtain ⟨u0, rfl⟩ := len1 hl; rfl))
 have g14 := F14.def (P := l.prog) (w := w) (mg := mg) (base := base) (ok_is_mask F14 T g2 g4 g13) (W.mg_of X G a14) (fun _ _ _ _ _ _ us hl => (by obtain ⟨u0, rfl⟩ := len1 hl; rfl))
 have g15 := F15.defX (P := l.prog) (w := w) (mg := mg) (base := base) (ok_need_mask F15 T g14) (W.mg_of X G a15) (fun _ _ _ _ _ _ us hl => (by obtain ⟨u0, rfl⟩ := len1 hl; rfl))
 have g16 := F16.defX (P := l.prog) (w := w) (mg := mg) (base := base) (ok_mask_size F16 T g15) (W.mg_of X G a16) (fun _ _ _ _ _ _ us hl => (by obtain ⟨u0, rfl⟩ := len1 hl; rfl))
 have g17 := F17.def (P := l.prog) (w := w) (mg := mg) (base := base) (ok_bit_at F17 ) (W.mg_of X G a17) (fun _ _ _ _ _ _ us hl => (by obtain ⟨u0, u1, rfl⟩ := len2 hl; rfl))
 have w18 := ok_with_bitD (P := l.prog) (w := w) (mg := mg) (base := base) F18 T
 have g18 : Def l.prog w K mg base 1 "with_bit" ["number", "place", "on"] [] spWB := ⟨f18, _, [], w18, W.mg_of X G a18, k18, fun s us KX hl => (by
  have hl2 : us.length = 3 := by simpa using hl
  match us, hl2 with
  | [u0, u1, u2], _ => exact W.binds_K KX rfl lT dTq rfl rfl), .nil⟩
 have g18b : Def l.prog w K mg base 1 "with_bit" ["number", "place", "on"] [.bl true] spWB := ⟨f18, _, [.bool true], w18, W.mg_of X G a18, k18, fun s us KX hl => (by
  have hl2 : us.length = 2 := by simpa using hl
  match us, hl2 with
  | [u0, u1], _ => exact W.binds_K KX rfl lT dTq rfl rfl), .cons rfl .nil⟩
 have g19 := F19.def (P := l.prog) (w := w) (mg := mg) (base := base) (ok_bits_of_numbers F19 g18b) (W.mg_of X G a19) (fun _ _ _ _ _ _ us hl => (by obtain ⟨u0, rfl⟩ := len1 hl; rfl))
 have g20 := F20.defX (P := l.prog) (w := w) (mg := mg) (base := base) (ok_mask_of F20 T g9 g6 g19 g17) (W.mg_of X G a20) (fun _ _ _ _ _ _ us hl => (by obtain ⟨u0, u1, rfl⟩ := len2 hl; rfl))
 have g21 := F21.defX (P := l.prog) (w := w) (mg := mg) (base := base) (ok_row_by_row F21 T g11 g16) (W.mg_of X G a21) (fun _ _ _ _ _ _ us hl => (by obtain ⟨u0, u1, u2, rfl⟩ := len3 hl; rfl))
 have g22 := F22.defX (P := l.prog) (w := w) (mg := mg) (base := base) (ok_both_masks (ms := [mkOf pB s_both_masks "both_masks", mkOf pE s_either_mask "either_mask"]) F22 uB (W.codeHd_of_K kb vB) hB nd (.head _) T g21) (W.mg_of X G a22) (fun _ _ _ _ _ _ us hl => (by obtain ⟨u0, u1, rfl⟩ := len2 hl; rfl))
 have g23 := F23.defX (P := l.prog) (w := w) (mg := mg) (base := base) (ok_either_mask (ms := [mkOf pB s_both_masks "both_masks", mkOf pE s_either_mask "either_mask"]) F23 uE (W.codeHd_of_K kb vE) hB nd (.tail _ (.head _)) T g21) (W.mg_of X G a23) (fun _ _ _ _ _ _ us hl => (by obtain ⟨u0, u1, rfl⟩ := len2 hl; rfl))
 have g24 := F24.defX (P := l.prog) (w := w) (mg := mg) (base := base) (ok_other_mask F24 T g15 g13) (W.mg_of X G a24) (fun _ _ _ _ _ _ us hl => (by obtain ⟨u0, rfl⟩ := len1 hl; rfl))
 have g25 := F25.def (P := l.prog) (w := w) (mg := mg) (base := base) (ok_painted_row F25 T g17) (W.mg_of X G a25) (fun _ _ _ _ _ _ us hl => (by obtain ⟨u0, u1, u2, rfl⟩ := len3 hl; rfl))
 have g26 := F26.defX (P := l.prog) (w := w) (mg := mg) (base := base) (ok_painted F26 T g12 g16 g11 g10 g25) (W.mg_of X G a26) (fun _ _ _ _ _ _ us hl => (by obtain ⟨u0, u1, u2, rfl⟩ := len3 hl; rfl))
 have g27 := F27.def (P := l.prog) (w := w) (mg := mg) (base := base) (ok_chosen_row F27 T g17) (W.mg_of X G a27) (fun _ _ _ _ _ _ us hl => (by obtain ⟨u0, u1, u2, rfl⟩ := len3 hl; rfl))
 have g28 := F28.defX (P := l.prog) (w := w) (mg := mg) (base := base) (ok_chosen_cells F28 T g12 g16 g11 g27) (W.mg_of X G a28) (fun _ _ _ _ _ _ us hl => (by obtain ⟨u0, u1, u2, rfl⟩ := len3 hl; rfl))
 have g29 := F29.def (P := l.prog) (w := w) (mg := mg) (base := base) (ok__law_cell F29 T) (W.mg_of X G a29) (fun _ _ _ _ _ _ us hl => (by obtain ⟨u0, u1, rfl⟩ := len2 hl; rfl))
 have g30 := F30.def (P := l.prog) (w := w) (mg := mg) (base := base) (ok__law_mixed F30 g29) (W.mg_of X G a30) (fun _ _ _ _ _ _ us hl => (by obtain ⟨u0, u1, rfl⟩ := len2 hl; rfl))
 have g31 := F31.def (P := l.prog) (w := w) (mg := mg) (base := base) (ok__law_mixedD F31 g29) (W.mg_of X G a31) (fun _ _ _ _ _ _ us hl => (by obtain ⟨u0, u1, rfl⟩ := len2 hl; rfl))
 have g32 := F32.def (P := l.prog) (w := w) (mg := mg) (base := base) (ok__law_whole F32 T) (W.mg_of X G a32) (fun _ _ _ _ _ _ us hl => (by obtain ⟨u0, rfl⟩ := len1 hl; rfl))
 have g33 := F33.def (P := l.prog) (w := w) (mg := mg) (base := base) (ok__law_power F33 T) (W.mg_of X G a33) (fun _ _ _ _ _ _ us hl => (by obtain ⟨u0, rfl⟩ := len1 hl; rfl))
 have g34 := F34.def (P := l.prog) (w := w) (mg := mg) (base := base) (ok__law_picture F34 T g30) (W.mg_of X G a34) (fun _ _ _ _ _ _ us hl => (by obtain ⟨u0, u1, u2, rfl⟩ := len3 hl; rfl))
 have g35 := F35.def (P := l.prog) (w := w) (mg := mg) (base := base) (ok__law_mask F35 T g30 g33) (W.mg_of X G a35) (fun _ _ _ _ _ _ us hl => (by obtain ⟨u0, u1, u2, u3, rfl⟩ := len4 hl; rfl))
 have g36 := F36.def (P := l.prog) (w := w) (mg := mg) (base := base) (ok__law_places F36 T) (W.mg_of X G a36) (fun _ _ _ _ _ _ us hl => (by obtain ⟨u0, rfl⟩ := len1 hl; rfl))
 have g37 := F37.def (P := l.prog) (w := w) (mg := mg) (base := base) (ok__law_mask_by F37 T g33) (W.mg_of X G a37) (fun _ _ _ _ _ _ us hl => (by obtain ⟨u0, u1, u2, rfl⟩ := len3 hl; rfl))
 have g38 := F38.def (P := l.prog) (w := w) (mg := mg) (base := base) (ok__law_same_mask F38 T g32) (W.mg_of X G a38) (fun _ _ _ _ _ _ us hl => (by obtain ⟨u0, u1, rfl⟩ := len2 hl; rfl))
 have g39 := F39.def (P := l.prog) (w := w) (mg := mg) (base := base) (ok__law_same F39 T g32) (W.mg_of X G a39) (fun _ _ _ _ _ _ us hl => (by obtain ⟨u0, u1, rfl⟩ := len2 hl; rfl))
 have g40 := F40.defM (P := l.prog) (w := w) (mg := mg) (base := base) (ok__law_class F40 TC) (W.mg_of X G a40) (fun _ _ _ _ _ _ us hl => (by obtain ⟨u0, rfl⟩ := len1 hl; rfl))
 have g41 := F41.def (P := l.prog) (w := w) (mg := mg) (base := base) (ok__law_wrong_picture F41 T) (W.mg_of X G a41) (fun _ _ _ _ _ _ us hl => (by obtain ⟨u0, u1, rfl⟩ := len2 hl; rfl))
 have g42 := F42.def (P := l.prog) (w := w) (mg := mg) (base := base) (ok__law_wrong_mask F42 T g33) (W.mg_of X G a42) (fun _ _ _ _ _ _ us hl => (by obtain ⟨u0, u1, rfl⟩ := len2 hl; rfl))
 have g43 := F43.def (P := l.prog) (w := w) (mg := mg) (base := base) (ok__law_wrong_cell F43 ) (W.mg_of X G a43) (fun _ _ _ _ _ _ us hl => (by obtain ⟨u0, rfl⟩ := len1 hl; rfl))
 have g44 := F44.def (P := l.prog) (w := w) (mg := mg) (base := base) (ok__law_copied F44 T) (W.mg_of X G a44) (fun _ _ _ _ _ _ us hl => (by obtain ⟨u0, rfl⟩ := len1 hl; rfl))
 have g45 := F45.def (P := l.prog) (w := w) (mg := mg) (base := base) (ok__law_some F45 T) (W.mg_of X G a45) (fun _ _ _ _ _ _ us hl => (by obtain ⟨u0, u1, rfl⟩ := len2 hl; rfl))
 have g46 := F46.def (P := l.prog) (w := w) (mg := mg) (base := base) (ok__law_word F46 T g20 g26 g28 g40) (W.mg_of X G a46) (fun _ _ _ _ _ _ us hl => (by obtain ⟨u0, u1, u2, u3, u4, rfl⟩ := len5 hl; rfl))
 have g47 := F47.def (P := l.prog) (w := w) (mg := mg) (base := base) (ok__law_refused F47 T g41 g42 g43 g46) (W.mg_of X G a47) (fun _ _ _ _ _ _ us hl => (by obtain ⟨u0, u1, u2, u3, rfl⟩ := len4 hl; rfl))
 have g48 := F48.def (P := l.prog) (w := w) (mg := mg) (base := base) (ok__law_by_cells F48 T g44) (W.mg_of X G a48) (fun _ _ _ _ _ _ us hl => (by obtain ⟨u0, u1, u2, rfl⟩ := len3 hl; rfl))
 exact ok_law F49 T g30 g31 g34 g45 g35 g44 g20 g36 g33 g38 g37 g24 g23 g22 g28 g48 g39 g26 g47
theorem walk {l : W.OpenLaw} {q : Program} {loose : List Str} {XP : (Str → Option Value) → Heap → Prop} {YP : World → Heap → Prop} {d : DefRec} {K : Params → W.Frag} {pB pE : Addr} (hn : l.most = some 63) (hdf : d.params.defaults = [])
  (hY : ∀ (w : World) (h : Heap), YP w h → (K w.params).In h) (hT : ∀ (w : World) (h : Heap), YP w h → ∀ p ∈ [pB, pE], h.get? p = some (W.tabObj #[]))
  (hC : ∀ (w : World), ∀ p ∈ [pB, pE], ∃ c, W.codeHdIn (K w.params) c p = true) (hNT : ∀ w : World, W.noTabs (K w.params) = true)
  (F : ∀ (w : World) (mg : Str → Option Value) (fa : Addr) (h : Heap), (K w.params).In h → h.Ns mainGlobals mg → mg d.name = some (.ref fa) →
   ∃ fd : FuncData, (∀ (s : Shared) (u : Value), BindsTo s fd ⟨[u], []⟩ [("_law_script", u)]) ∧ ∀ base : Heap, (K w.params).In base → base.Ns mainGlobals mg → BMain mg base → FnOk l.prog w (K w.params) mg base CX0 12 fa fd ["_law_script"] (spLaw (K w.params) [mkOf pB s_both_masks "both_masks", mkOf pE s_either_mask "either_mask"])) :
  W.WalkO q loose XP YP l.row.toRowW d [] (fun f vs => PySem.call f vs) :=
 L2.walk_ofT (n := 63) (k := 12) (x := "_law_script") (CX := CX0) (ts := [pB, pE]) (sp := fun K => spLaw K [mkOf pB s_both_masks "both_masks", mkOf pE s_either_mask "either_mask"]) hn (by decide) hdf ⟨rfl, by decide, by decide, rfl⟩ hY hT hC hNT F (fun _ H a ns _ hb hO hS => ⟨a, ns, rfl, hS, hb, fun m hm => .inl (hO m.p (by
  simp only [List.mem_cons, List.not_mem_nil, or_false] at hm ⊢
  rcases hm with rfl | rfl
  ·exact .inl rfl
  ·exact .inr rfl)), fun _ => rfl⟩) fun _ _ _ _ z => z
end K8
open PySem PySem.W PyProof.Rows
noncomputable def PySem.W.Fast.tw16995062091771743207 : PySem.Program := PySem.Challenge.pw_cellfolio_k08_whole_masks_and_pictures
theorem PySem.W.Fast.te16995062091771743207 : PySem.Challenge.pw_cellfolio_k08_whole_masks_and_pictures = PySem.W.Fast.tw16995062091771743207 := rfl
def PySem.W.Fast.tw1795257066792947616 : Nat := 0
def PySem.W.Fast.tw2073270250230281795 : Nat := 0
def PySem.W.Fast.tw17341572982190598184 : Nat := 0
def PySem.W.Fast.tw5970304984762339209 : Nat := 0
def PySem.W.Fast.tw13612768753301110122 : Nat := 0
def PySem.W.Fast.tw11018485228134906378 : Nat := 0
def PySem.W.Fast.tw510077633833896236 : Nat := 0
def PySem.W.Fast.tw10768963827789111884 : Nat := 0
def PySem.W.Fast.tw5834944719067231155 : Nat := 0
def PySem.W.Fast.tw7565180701602468822 : Nat := 0
def PySem.W.Fast.tw12589616951887741911 : Nat := 0
def PySem.W.Fast.tw9686892806557656184 : Nat := 0
def PySem.W.Fast.tw7270841072660369531 : Nat := 0
def PySem.W.Fast.tw1275667714849189019 : Nat := 0
def PySem.W.Fast.tw12563328011537643901 : Nat := 0
def PySem.W.Fast.tw6079608869540661598 : Nat := 0
def PySem.W.Fast.tw5259074041523063454 : Nat := 0
set_option maxRecDepth 100000 in
set_option maxHeartbeats 0 in
theorem PySem.Challenge.cw_cellfolio_k08_whole_masks_and_pictures_holds : PySem.Challenge.rw_cellfolio_k08_whole_masks_and_pictures.Holds := by
  w_on; o_law; k_head; (case hw => w_witness2)
  k_fill
  refine K8.walk (l := PySem.Challenge.rw_cellfolio_k08_whole_masks_and_pictures) (pB := 251) (pE := 258) rfl rfl (fun w h Y => PySem.W.km_in_of Y) (fun w h Y p hp => PySem.W.km_tabs_of Y p (by simp only [List.mem_cons, List.not_mem_nil, or_false] at hp ⊢; rcases hp with h | h <;> simp [h])) (fun w p hp => by
    simp only [List.mem_cons, List.not_mem_nil, or_false] at hp
    rcases hp with rfl | rfl
    · first | exact ⟨255, by kernel_rfl⟩ | exact ⟨253, by kernel_rfl⟩
    · first | exact ⟨262, by kernel_rfl⟩ | exact ⟨260, by kernel_rfl⟩) (fun w => by kernel_rfl) ?F
  case F =>
    intro w mg fa h KX G hmg
    refine' K8.all_mk (pB := 251) (pE := 258) KX G hmg ?a1 ?l1 ?c1 ?k1 ?a2 ?l2 ?c2 ?k2 ?a3 ?l3 ?c3 ?k3 ?a4 ?l4 ?c4 ?k4 ?a5 ?l5 ?c5 ?k5 ?a6 ?l6 ?c6 ?k6 ?a7 ?l7 ?c7 ?k7 ?a8 ?l8 ?c8 ?k8 ?a9 ?l9 ?c9 ?k9 ?a10 ?l10 ?c10 ?k10 ?a11 ?l11 ?c11 ?k11 ?a12 ?l12 ?c12 ?k12 ?a13 ?l13 ?c13 ?k13 ?a14 ?l14 ?c14 ?k14 ?a15 ?l15 ?c15 ?k15 ?a16 ?l16 ?c16 ?k16 ?a17 ?l17 ?c17 ?k17 ?a18 ?l18 ?c18 ?k18 ?a19 ?l19 ?c19 ?k19 ?a20 ?l20 ?c20 ?k20 ?a21 ?l21 ?c21 ?k21 ?a22 ?l22 ?c22 ?k22 ?a23 ?l23 ?c23 ?k23 ?a24 ?l24 ?c24 ?k24 ?a25 ?l25 ?c25 ?k25 ?a26 ?l26 ?c26 ?k26 ?a27 ?l27 ?c27 ?k27 ?a28 ?l28 ?c28 ?k28 ?a29 ?l29 ?c29 ?k29 ?a30 ?l30 ?c30 ?k30 ?a31 ?l31 ?c31 ?k31 ?a32 ?l32 ?c32 ?k32 ?a33 ?l33 ?c33 ?k33 ?a34 ?l34 ?c34 ?k34 ?a35 ?l35 ?c35 ?k35 ?a36 ?l36 ?c36 ?k36 ?a37 ?l37 ?c37 ?k37 ?a38 ?l38 ?c38 ?k38 ?a39 ?l39 ?c39 ?k39 ?a40 ?l40 ?c40 ?k40 ?a41 ?l41 ?c41 ?k41 ?a42 ?l42 ?c42 ?k42 ?a43 ?l43 ?c43 ?k43 ?a44 ?l44 ?c44 ?k44 ?a45 ?l45 ?c45 ?k45 ?a46 ?l46 ?c46 ?k46 ?a47 ?l47 ?c47 ?k47 ?a48 ?l48 ?c48 ?k48 ?a49 ?l49 ?c49 ?k49 ?lT ?dTq ?z1 ?z2 ?z3 ?z4 ?z5 ?z6 ?z7 ?z8 ?z9 ?z10 ?z11 ?z12 ?z13 ?z14 ?y1 ?y2 ?x1 ?x2 ?x3 ?x4 ?x5 ?x6 ?x7 ?x8 ?q1 ?q2 ?q3 ?q4 ?q5 ?q6 ?q7 ?q8 ?q9 ?q10 ?q11 ?q12 ?q13 ?q14 ?q15 ?q16 ?q17 ?q18 ?q19 ?q20 ?q21 ?q22 ?q23 ?q24 ?q25 ?q26 ?q27 ?q28 ?q29 ?q30 ?q31 ?q32 ?q33 ?q34 ?q35 ?q36 ?q37 ?q38 ?q39 ?q40 ?q41 ?q42 ?q43 ?q44 ?q45 ?q46 ?q47 ?q48 ?q49 ?q50 ?q51 ?q52 ?q53 ?q54 ?q55 ?q56 ?q57 ?q58 ?q59 ?q60 ?q61 ?q62 ?q63 ?q64 ?q65 ?q66 ?q67 ?uB ?uE ?vB ?vE ?nd
    (case a1 => k_is)
    (case l1 => k_is)
    (case c1 => k_is)
    (case k1 => k_is)
    (case a2 => k_is)
    (case l2 => k_is)
    (case c2 => k_is)
    (case k2 => k_is)
    (case a3 => k_is)
    (case l3 => k_is)
    (case c3 => k_is)
    (case k3 => k_is)
    (case a4 => k_is)
    (case l4 => k_is)
    (case c4 => k_is)
    (case k4 => k_is)
    (case a5 => k_is)
    (case l5 => k_is)
    (case c5 => k_is)
    (case k5 => k_is)
    (case a6 => k_is)
    (case l6 => k_is)
    (case c6 => k_is)
    (case k6 => k_is)
    (case a7 => k_is)
    (case l7 => k_is)
    (case c7 => k_is)
    (case k7 => k_is)
    (case a8 => k_is)
    (case l8 => k_is)
    (case c8 => k_is)
    (case k8 => k_is)
    (case a9 => k_is)
    (case l9 => k_is)
    (case c9 => k_is)
    (case k9 => k_is)
    (case a10 => k_is)
    (case l10 => k_is)
    (case c10 => k_is)
    (case k10 => k_is)
    (case a11 => k_is)
    (case l11 => k_is)
    (case c11 => k_is)
    (case k11 => k_is)
    (case a12 => k_is)
    (case l12 => k_is)
    (case c12 => k_is)
    (case k12 => k_is)
    (case a13 => k_is)
    (case l13 => k_is)
    (case c13 => k_is)
    (case k13 => k_is)
    (case a14 => k_is)
    (case l14 => k_is)
    (case c14 => k_is)
    (case k14 => k_is)
    (case a15 => k_is)
    (case l15 => k_is)
    (case c15 => k_is)
    (case k15 => k_is)
    (case a16 => k_is)
    (case l16 => k_is)
    (case c16 => k_is)
    (case k16 => k_is)
    (case a17 => k_is)
    (case l17 => k_is)
    (case c17 => k_is)
    (case k17 => k_is)
    (case a18 => k_is)
    (case l18 => k_is)
    (case c18 => k_is)
    (case k18 => k_is)
    (case a19 => k_is)
    (case l19 => k_is)
    (case c19 => k_is)
    (case k19 => k_is)
    (case a20 => k_is)
    (case l20 => k_is)
    (case c20 => k_is)
    (case k20 => k_is)
    (case a21 => k_is)
    (case l21 => k_is)
    (case c21 => k_is)
    (case k21 => k_is)
    (case a22 => k_is)
    (case l22 => k_is)
    (case c22 => k_is)
    (case k22 => k_is)
    (case a23 => k_is)
    (case l23 => k_is)
    (case c23 => k_is)
    (case k23 => k_is)
    (case a24 => k_is)
    (case l24 => k_is)
    (case c24 => k_is)
    (case k24 => k_is)
    (case a25 => k_is)
    (case l25 => k_is)
    (case c25 => k_is)
    (case k25 => k_is)
    (case a26 => k_is)
    (case l26 => k_is)
    (case c26 => k_is)
    (case k26 => k_is)
    (case a27 => k_is)
    (case l27 => k_is)
    (case c27 => k_is)
    (case k27 => k_is)
    (case a28 => k_is)
    (case l28 => k_is)
    (case c28 => k_is)
    (case k28 => k_is)
    (case a29 => k_is)
    (case l29 => k_is)
    (case c29 => k_is)
    (case k29 => k_is)
    (case a30 => k_is)
    (case l30 => k_is)
    (case c30 => k_is)
    (case k30 => k_is)
    (case a31 => k_is)
    (case l31 => k_is)
    (case c31 => k_is)
    (case k31 => k_is)
    (case a32 => k_is)
    (case l32 => k_is)
    (case c32 => k_is)
    (case k32 => k_is)
    (case a33 => k_is)
    (case l33 => k_is)
    (case c33 => k_is)
    (case k33 => k_is)
    (case a34 => k_is)
    (case l34 => k_is)
    (case c34 => k_is)
    (case k34 => k_is)
    (case a35 => k_is)
    (case l35 => k_is)
    (case c35 => k_is)
    (case k35 => k_is)
    (case a36 => k_is)
    (case l36 => k_is)
    (case c36 => k_is)
    (case k36 => k_is)
    (case a37 => k_is)
    (case l37 => k_is)
    (case c37 => k_is)
    (case k37 => k_is)
    (case a38 => k_is)
    (case l38 => k_is)
    (case c38 => k_is)
    (case k38 => k_is)
    (case a39 => k_is)
    (case l39 => k_is)
    (case c39 => k_is)
    (case k39 => k_is)
    (case a40 => k_is)
    (case l40 => k_is)
    (case c40 => k_is)
    (case k40 => k_is)
    (case a41 => k_is)
    (case l41 => k_is)
    (case c41 => k_is)
    (case k41 => k_is)
    (case a42 => k_is)
    (case l42 => k_is)
    (case c42 => k_is)
    (case k42 => k_is)
    (case a43 => k_is)
    (case l43 => k_is)
    (case c43 => k_is)
    (case k43 => k_is)
    (case a44 => k_is)
    (case l44 => k_is)
    (case c44 => k_is)
    (case k44 => k_is)
    (case a45 => k_is)
    (case l45 => k_is)
    (case c45 => k_is)
    (case k45 => k_is)
    (case a46 => k_is)
    (case l46 => k_is)
    (case c46 => k_is)
    (case k46 => k_is)
    (case a47 => k_is)
    (case l47 => k_is)
    (case c47 => k_is)
    (case k47 => k_is)
    (case a48 => k_is)
    (case l48 => k_is)
    (case c48 => k_is)
    (case k48 => k_is)
    (case a49 => k_is)
    (case l49 => k_is)
    (case c49 => k_is)
    (case k49 => k_is)
    (case lT => k_is)
    (case dTq => first | k_is | exact rfl | with_unfolding_all exact rfl)
    (case z1 => k_is)
    (case z2 => k_is)
    (case z3 => k_is)
    (case z4 => k_is)
    (case z5 => k_is)
    (case z6 => k_is)
    (case z7 => k_is)
    (case z8 => k_is)
    (case z9 => k_is)
    (case z10 => k_is)
    (case z11 => k_is)
    (case z12 => k_is)
    (case z13 => k_is)
    (case z14 => k_is)
    (case y1 => k_is)
    (case y2 => k_is)
    (case x1 => k_is)
    (case x2 => k_is)
    (case x3 => k_is)
    (case x4 => k_is)
    (case x5 => k_is)
    (case x6 => k_is)
    (case x7 => k_is)
    (case x8 => k_is)
    (case q1 => k_exc)
    (case q2 => k_is)
    (case q3 => k_is)
    (case q4 => k_is)
    (case q5 => k_is)
    (case q6 => k_is)
    (case q7 => k_is)
    (case q8 => k_exc)
    (case q9 => k_is)
    (case q10 => k_is)
    (case q11 => k_is)
    (case q12 => k_is)
    (case q13 => k_is)
    (case q14 => k_is)
    (case q15 => k_exc)
    (case q16 => k_is)
    (case q17 => k_is)
    (case q18 => k_is)
    (case q19 => k_is)
    (case q20 => k_is)
    (case q21 => k_is)
    (case q22 => k_exc)
    (case q23 => k_is)
    (case q24 => k_is)
    (case q25 => k_is)
    (case q26 => k_is)
    (case q27 => k_is)
    (case q28 => k_is)
    (case q29 => k_is)
    (case q30 => k_is)
    (case q31 => k_is)
    (case q32 => k_is)
    (case q33 => k_is)
    (case q34 => k_is)
    (case q35 => k_is)
    (case q36 => kit_is)
    (case q37 => kit_is)
    (case q38 => kit_is)
    (case q39 => kit_is)
    (case q40 => kit_is)
    (case q41 => kit_is)
    (case q42 => kit_is)
    (case q43 => kit_is)
    (case q44 => kit_is)
    (case q45 => kit_is)
    (case q46 => kit_is)
    (case q47 => kit_is)
    (case q48 => kit_is)
    (case q49 => kit_is)
    (case q50 => kit_is)
    (case q51 => kit_is)
    (case q52 => kit_is)
    (case q53 => kit_is)
    (case q54 => kit_is)
    (case q55 => kit_is)
    (case q56 => kit_is)
    (case q57 => kit_is)
    (case q58 => kit_is)
    (case q59 => kit_is)
    (case q60 => kit_is)
    (case q61 => kit_is)
    (case q62 => kit_is)
    (case q63 => kit_is)
    (case q64 => kit_is)
    (case q65 => kit_is)
    (case q66 => kit_is)
    (case q67 => kit_is)
    (case uB => first | exact rfl | k_is)
    (case uE => first | exact rfl | k_is)
    (case vB => kernel_rfl)
    (case vE => kernel_rfl)
    (case nd => decide)
#print axioms PySem.Challenge.cw_cellfolio_k08_whole_masks_and_pictures_holds
