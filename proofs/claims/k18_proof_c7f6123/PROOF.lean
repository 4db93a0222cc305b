import PyProof.Rows.All
import Wide.All
import OpenK.AllK
import Wide.FinOn
import Lean
import PyProof.EqAt
import PyProof.EqKinds
import PyProof.NeKinds
import PyProof.ZipIter
import PyProof.Rows.ZipGen
import PyProof.ExcArgs
import PyProof.CompUse
import PyProof.TupleCall
import PyProof.CompFree
import PyProof.Cells
import OpenK.KEqL
import KE.KEqDict
import PyProof.EnumIter
import PyProof.EnumFor
import PyProof.EnumMake
import PyProof.EnumStmt
import PyProof.Rows.EnumRows
import KE.KRevIter
import OpenK.KRaise
import PyProof.Draws
import PyProof.StrWalks
import PyProof.StrCalls2
import PyProof.Rows.StrJoin2
import PyProof.StrLawsTight
import PyProof.StrLawsIn
import PyProof.SliceStr2
import PyProof.StrBlockI
import PyProof.StrLawsOcc
import PyProof.StrCalls3
import KE.KIntText
import PySem.SetOps
import PyProof.TupleKey
import PyProof.SetRoads
import PyProof.Rows.SetFrom
import PyProof.ConsumeS
import PyProof.MinMaxWalk
import PyProof.StrOps2
import PyProof.WalkInts
import PyProof.LongRange
import KE.KUnpack
import PyProof.Rows.IntBool
import KE.KRevSl
import KE.KLam
import KE.KNestM
import KE.KBits
import PyProof.ListRange
import KE.RegKIsAll
import PySem.Challenge.RW_cellfolio_k18_poured_and_recoloured
set_option Elab.async false
set_option linter.all false
set_option maxRecDepth 100000
namespace L2
open PySem PySem.Spec PyProof.Rows
noncomputable abbrev Key := Sum Int Str
noncomputable def keyIs : Key → Value → Bool
 | .inl k, v => Value.isInt k v
 | .inr x, v => Value.isStrOf x v
noncomputable def keyH (w : World) : Key → Int
 | .inl k => hashInt k
 | .inr x => hashStr w x
theorem keyIs_shape : ∀ {k : Key} {v : Value}, keyIs k v = true → (∃ i t, k = Sum.inl i ∧ v = Value.int i t) ∨ (∃ x t, k = Sum.inr x ∧ v = Value.str x t)
 | .inl i, v, h => by
  obtain ⟨t, e⟩ := Value.isInt_shape (k := i) (v := v) h
  exact .inl ⟨i, t, rfl, e⟩
 | .inr x, v, h => by
  obtain ⟨t, e⟩ := Value.isStrOf_shape (x := x) (v := v) h
  exact .inr ⟨x, t, rfl, e⟩
theorem key_ll (a b : Int) : decide ((Sum.inl a : Key) = Sum.inl b) = (a == b) := by
 by_cases e : a = b
 ·subst e; simp
 ·have h : ¬ (Sum.inl a : Key) = Sum.inl b := fun q => e (Sum.inl.inj q)
  rw [decide_eq_false h]
  exact (beq_eq_false_iff_ne.mpr e).symm
theorem key_rr (a b : Str) : decide ((Sum.inr a : Key) = Sum.inr b) = decide (a = b) := by
 by_cases e : a = b
 ·subst e; simp
 ·have h : ¬ (Sum.inr a : Key) = Sum.inr b := fun q => e (Sum.inr.inj q)
  rw [decide_eq_false h, decide_eq_false e]
theorem key_lr (a : Int) (b : Str) : decide ((Sum.inl a : Key) = Sum.inr b) = false := decide_eq_false (fun q => nomatch q)
theorem key_rl (a : Str) (b : Int) : decide ((Sum.inr a : Key) = Sum.inl b) = false := decide_eq_false (fun q => nomatch q)
noncomputable def mixKind (prog : Program) (w : World) : PySem.KeyKind prog w Key where
 is := keyIs
 hash := keyH w
 inj := fun v a b ha hb => by
  rcases keyIs_shape ha with ⟨i, t, rfl, rfl⟩ | ⟨x, t, rfl, rfl⟩
  ·rcases keyIs_shape hb with ⟨j, u, rfl, e⟩ | ⟨y, u, rfl, e⟩
   ·injection e with e1 _; rw [e1]
   ·exact nomatch e
  ·rcases keyIs_shape hb with ⟨j, u, rfl, e⟩ | ⟨y, u, rfl, e⟩
   ·exact nomatch e
   ·injection e with e1 _; rw [e1]
 byValue := fun k v h => by
  rcases keyIs_shape h with ⟨i, t, rfl, rfl⟩ | ⟨x, t, rfl, rfl⟩ <;> rfl
 pyHash := fun hv h => by
  rcases keyIs_shape hv with ⟨i, t, rfl, rfl⟩ | ⟨x, t, rfl, rfl⟩
  ·exact wpAny_pyHash_int h
  ·exact wpAny_pyHash_str h
 eqBool := fun hu hv h => by
  rcases keyIs_shape hu with ⟨i, t, rfl, rfl⟩ | ⟨x, t, rfl, rfl⟩
  ·rcases keyIs_shape hv with ⟨j, u, rfl, rfl⟩ | ⟨y, u, rfl, rfl⟩
   ·rw [key_ll] at h; exact wpAny_eqBool_int h
   ·rw [key_lr] at h; exact SeqAt.EqAt.int_str i t y u _ _ _ _ h
  ·rcases keyIs_shape hv with ⟨j, u, rfl, rfl⟩ | ⟨y, u, rfl, rfl⟩
   ·rw [key_rl] at h; exact SeqAt.EqAt.str_int x t j u _ _ _ _ h
   ·rw [key_rr] at h; exact wpAny_eqBool_str h
 «strs» := fun k x t v h => by
  rcases keyIs_shape h with ⟨i, u, rfl, e⟩ | ⟨y, u, rfl, e⟩
  ·exact nomatch e
  ·injection e with e1 _
   subst e1
   cases v <;> rfl
inductive V where
 | non | bl (b : Bool) | int (i : Int) | str (x : Str) | byt (b : Array UInt8) | flt (b : UInt64) | ref (a : Addr) | ty (n : String)
 deriving DecidableEq
noncomputable def RelV : V → Value → Prop
 | .non, u => u = Value.none
 | .bl b, u => u = Value.bool b
 | .int i, u => ∃ t, u = Value.int i t
 | .str x, u => ∃ t, u = Value.str x t
 | .byt b, u => ∃ t, u = Value.bytes b t
 | .flt b, u => ∃ t, u = Value.float b t
 | .ref a, u => u = Value.ref a
 | .ty n, u => u = Value.type n
noncomputable abbrev Vals : List V → List Value → Prop := Paired RelV
theorem Vals.length {xs : List V} {us : List Value} (r : Vals xs us) : xs.length = us.length := Paired.length r
theorem Vals.get : ∀ {xs : List V} {us : List Value} {i : Nat} {x : V}, Vals xs us → xs[i]? = some x → ∃ u, us[i]? = some u ∧ RelV x u
 | _, _, _, _, .nil, e => by simp at e
 | _, _, 0, _, .cons r _, e => by simp at e; subst e; exact ⟨_, rfl, r⟩
 | _, _, i + 1, x, .cons _ t, e => by
  obtain ⟨u, h1, h2⟩ := Vals.get (i := i) (x := x) t (by simpa using e)
  exact ⟨u, by simpa using h1, h2⟩
theorem Vals.set {x : V} {u : Value} (r : RelV x u) : ∀ {xs : List V} {us : List Value} (i : Nat), Vals xs us → Vals (xs.set i x) (us.set i u)
 | _, _, _, .nil => .nil
 | _, _, 0, .cons _ t => .cons r t
 | _, _, i + 1, .cons q t => .cons q (Vals.set r i t)
theorem Vals.append : ∀ {xs ys : List V} {us ws : List Value}, Vals xs us → Vals ys ws → Vals (xs ++ ys) (us ++ ws)
 | _, _, _, _, .nil, s => s
 | _, _, _, _, .cons r t, s => .cons r (Vals.append t s)
theorem Vals.take : ∀ {xs : List V} {us : List Value} (n : Nat), Vals xs us → Vals (xs.take n) (us.take n)
 | _, _, 0, _ => .nil
 | _, _, _ + 1, .nil => .nil
 | _, _, n + 1, .cons r t => .cons r (Vals.take n t)
theorem Vals.drop : ∀ {xs : List V} {us : List Value} (n : Nat), Vals xs us → Vals (xs.drop n) (us.drop n)
 | _, _, 0, r => r
 | _, _, _ + 1, .nil => .nil
 | _, _, n + 1, .cons _ t => Vals.drop n t
theorem Vals.none_of : ∀ {xs : List V} {us : List Value} {i : Nat}, Vals xs us → xs[i]? = none → us[i]? = none := fun {xs us i} r e => by
 have h1 := r.length
 have h2 : xs.length ≤ i := List.getElem?_eq_none_iff.mp e
 exact List.getElem?_eq_none_iff.mpr (by omega)
noncomputable def RelO : Option V → Option Value → Prop
 | some v, some u => RelV v u
 | none, none => True
 | _, _ => False
noncomputable def KV {κ : Type} : List (κ × V) → List (κ × Value) → Prop := Paired fun (p : κ × V) (q : κ × Value) => p.1 = q.1 ∧ RelV p.2 q.2
noncomputable def kV : Key → V
 | .inl i => .int i
 | .inr x => .str x
inductive HO where
 | lst (xs : List V)
 | tup (xs : List V)
 | dK (kvs : List (Key × V)) | dT (kvs : List (List Key × V))
 | set (S : Int → Bool) (n : Nat)
 | ins (C dx : Addr) (fs : List (Str × V))
 | own (x : Addr)
 | xd (fs : List (Str × V))
 | met (f x : Addr)
 | rng (lo hi : Int)
 | frz (o : Obj) (u : HO)
 | tbl (ps : Array Value)
 | ext (φ : Heap → Prop)
noncomputable abbrev Hp := Addr → Option HO
noncomputable def upd (H : Hp) (a : Addr) (o : HO) : Hp := fun b => if b = a then some o else H b
theorem upd_same {H : Hp} {a : Addr} {o : HO} : upd H a o a = some o := by unfold upd; rw [if_pos rfl]
theorem upd_ne {H : Hp} {a b : Addr} {o : HO} (h : b ≠ a) : upd H a o b = H b := by unfold upd; rw [if_neg h]
theorem ne_of {H : Hp} {a b : Addr} {o u : HO} (h : H a = some o) (h' : H b = some u) (d : o ≠ u) : a ≠ b := by
 intro e; subst e; rw [h] at h'; exact d (Option.some.inj h')
theorem ne_of_none {H : Hp} {a b : Addr} {o : HO} (h : H a = some o) (h' : H b = none) : a ≠ b := by
 intro e; subst e; rw [h] at h'; cases h'
section
variable (P : Program) (w : World)
noncomputable def ObjOk (H : Hp) (h : Heap) (a : Addr) : HO → Prop
 | .lst xs => xs.length ≤ sizeLine ∧ ∃ (its : List Value) (n : Nat), Vals xs its ∧ h.get? a = some { cls := .type "list", data := .seq its.toArray n }
 | .tup xs => xs.length ≤ sizeLine ∧ ∃ its : List Value, Vals xs its ∧ IsTup h a its.toArray
 | .dK kvs => kvs.length ≤ sizeLine ∧ (a == sysModules) = false ∧ ∃ vs, KV kvs vs ∧ h.DictOf (mixKind P w) a vs
 | .dT kvs => kvs.length ≤ sizeLine ∧ (a == sysModules) = false ∧ ∃ xs : List (List Key × Addr × Value),
   Paired (fun (p : List Key × V) (q : List Key × Addr × Value) => p.1 = q.1 ∧ H q.2.1 = some (.tup (p.1.map kV)) ∧ RelV p.2 q.2.2) kvs xs ∧
   ∃ o es ep, h.get? a = some o ∧ o.ExactDict ∧ o.data = .dict es ep ∧ es.toList = xs.map (entryOfKey (tupleKind (mixKind P w))) ∧ (xs.map (·.1)).Nodup
 | .set S n => h.SetOf (intKind P w) a S n
 | .ins C dx fs => H dx = some (.own a) ∧ fs.length ≤ 1000 ∧ dx ≠ a ∧ h.get? a = some (PySem.W.instObj C dx) ∧
   ∃ mA, h.Ns1 dx mA ∧ (∀ f, RelO (fs.lookup f) (mA f)) ∧ PySem.Within mA (fs.map (·.1))
 | .own _ => ∃ o, h.get? a = some o
 | .xd fs => ∃ mA, h.Ns1 a mA ∧ ∀ f, RelO (fs.lookup f) (mA f)
 | .rng lo hi => ∃ t u v, h.get? a = some { cls := .type "range", data := .fields #[.int lo t, .int hi u, .int 1 v] }
 | .frz o u => h.get? a = some o ∧ ObjOk H h a u
 | .tbl ps => h.get? a = some { cls := .none, data := .fields ps }
 | .met f x => h.get? a = some (PySem.W.methodObj (.ref f) (.ref x))
 | .ext φ => φ h ∧ (∃ o, h.get? a = some o) ∧ ∀ h1 h2 : Heap, φ h1 → (∀ o, h1.get? a = some o → h2.get? a = some o) → φ h2
noncomputable def HOk (H : Hp) (h : Heap) : Prop := ∀ a o, H a = some o → ObjOk P w H h a o
end
section
variable {P : Program} {w : World} {H H' : Hp} {h h' : Heap} {a : Addr} {o : HO}
theorem ObjOk.lt (x : ObjOk P w H h a o) : a < h.objs.size := by
 cases o with
 | lst xs => obtain ⟨_, _, _, _, e⟩ := x; exact Heap.lt_size e
 | tup xs => obtain ⟨_, _, _, p⟩ := x; exact p.lt
 | dK kvs => obtain ⟨_, _, _, _, o, _, _, e, _⟩ := x; exact Heap.lt_size e
 | dT kvs => obtain ⟨_, _, _, _, o, _, _, e, _⟩ := x; exact Heap.lt_size e
 | set S n => obtain ⟨o, _, _, _, e, _⟩ := x; exact Heap.lt_size e
 | ins C dx fs => obtain ⟨_, _, _, e, _⟩ := x; exact Heap.lt_size e
 | own y => obtain ⟨_, e⟩ := x; exact Heap.lt_size e
 | xd fs => obtain ⟨_, ⟨_, _, _, e, _⟩, _⟩ := x; exact Heap.lt_size e
 | rng lo hi => obtain ⟨_, _, _, e⟩ := x; exact Heap.lt_size e
 | frz ob u => obtain ⟨e, _⟩ := x; exact Heap.lt_size e
 | tbl ps => exact Heap.lt_size (show h.get? a = some _ from x)
 | met f y => exact Heap.lt_size (show h.get? a = some _ from x)
 | ext φ => obtain ⟨_, ⟨_, e⟩, _⟩ := x; exact Heap.lt_size e
theorem Paired.mapP {α β : Type} {F G : α → β → Prop} : ∀ {l₁ : List α} {l₂ : List β}, Paired F l₁ l₂ → (∀ a b, F a b → G a b) → Paired G l₁ l₂
 | _, _, .nil, _ => .nil
 | _, _, .cons r t, f => .cons (f _ _ r) (Paired.mapP t f)
theorem ObjOk.stay (x : ObjOk P w H h a o) (k : ∀ b u, (b = a ∨ H b = some (.own a)) → h.get? b = some u → h'.get? b = some u)
  (ho : ∀ b, H b = some (.own a) → H' b = some (.own a)) (ht : ∀ b xs, H b = some (.tup xs) → H' b = some (.tup xs)) : ObjOk P w H' h' a o := by
 induction o with
 | lst xs => obtain ⟨z, its, n, r, e⟩ := x; exact ⟨z, its, n, r, k _ _ (.inl rfl) e⟩
 | tup xs => obtain ⟨z, its, r, ob, e, c⟩ := x; exact ⟨z, its, r, ob, k _ _ (.inl rfl) e, c⟩
 | dK kvs => obtain ⟨z, y, vs, r, ob, es, ep, e, c⟩ := x; exact ⟨z, y, vs, r, ob, es, ep, k _ _ (.inl rfl) e, c⟩
 | dT kvs =>
  obtain ⟨z, y, xs, r, ob, es, ep, e, c⟩ := x
  exact ⟨z, y, xs, Paired.mapP r fun p q z => ⟨z.1, ht _ _ z.2.1, z.2.2⟩, ob, es, ep, k _ _ (.inl rfl) e, c⟩
 | set S n => obtain ⟨ob, es, ep, t, e, c⟩ := x; exact ⟨ob, es, ep, t, k _ _ (.inl rfl) e, c⟩
 | ins C dx fs =>
  obtain ⟨d, z, ne, e, mA, ⟨od, es, ep, e2, c⟩, r⟩ := x
  exact ⟨ho _ d, z, ne, k _ _ (.inl rfl) e, mA, ⟨od, es, ep, k _ _ (.inr d) e2, c⟩, r⟩
 | own y => obtain ⟨ob, e⟩ := x; exact ⟨ob, k _ _ (.inl rfl) e⟩
 | xd fs => obtain ⟨mA, ⟨od, es, ep, e, c⟩, r⟩ := x; exact ⟨mA, ⟨od, es, ep, k _ _ (.inl rfl) e, c⟩, r⟩
 | rng lo hi => obtain ⟨t, u, v, e⟩ := x; exact ⟨t, u, v, k _ _ (.inl rfl) e⟩
 | frz ob u ih => obtain ⟨e, q⟩ := x; exact ⟨k _ _ (.inl rfl) e, ih q⟩
 | tbl ps =>
  have e : h.get? a = some { cls := .none, data := .fields ps } := x
  show h'.get? a = some { cls := .none, data := .fields ps }
  exact k a _ (.inl rfl) e
 | met f y =>
  have e : h.get? a = some (PySem.W.methodObj (.ref f) (.ref y)) := x
  show h'.get? a = some (PySem.W.methodObj (.ref f) (.ref y))
  exact k a _ (.inl rfl) e
 | ext φ => obtain ⟨p, ⟨o, e⟩, st⟩ := x; exact ⟨st _ _ p fun o q => k _ _ (.inl rfl) q, ⟨o, k _ _ (.inl rfl) e⟩, st⟩
theorem HOk.lt (x : HOk P w H h) (e : H a = some o) : a < h.objs.size := (x a o e).lt
theorem HOk.fresh (x : HOk P w H h) (e : h.objs.size ≤ a) : H a = none := by
 cases q : H a with
 | none => rfl
 | some u => exact absurd (Nat.lt_of_lt_of_le (x.lt q) e) (Nat.lt_irrefl _)
theorem HOk.kept (x : HOk P w H h) (k : ∀ b u, h.get? b = some u → h'.get? b = some u) : HOk P w H h' := fun a o e =>
 (x a o e).stay (fun b u _ q => k b u q) (fun _ q => q) fun _ _ q => q
theorem HOk.laid (x : HOk P w H h) (k : ∀ b u, h.get? b = some u → h'.get? b = some u) (hp : h.objs.size ≤ a) (new : ObjOk P w (upd H a o) h' a o) : HOk P w (upd H a o) h' := fun b u e => by
 have hn := x.fresh hp
 by_cases hb : b = a
 ·subst hb; rw [upd_same] at e; cases e; exact new
 ·rw [upd_ne hb] at e
  exact (x b u e).stay (fun c v _ q => k c v q) (fun c q => by rw [upd_ne (ne_of_none q hn)]; exact q) fun c xs q => by rw [upd_ne (ne_of_none q hn)]; exact q
end
noncomputable def Rd (H : Hp) (a : Addr) (u : HO) : Prop := H a = some u ∨ ∃ o, H a = some (.frz o u)
theorem Rd.ok {P : Program} {w : World} {H : Hp} {h : Heap} {a : Addr} {u : HO} (r : Rd H a u) (x : HOk P w H h) : ObjOk P w H h a u := by
 rcases r with r | ⟨o, r⟩
 ·exact x a u r
 ·obtain ⟨_, q⟩ := x a _ r
  exact q
noncomputable def Mut : Option HO → Prop
 | some (.lst _) => True
 | some (.dK _) => True
 | some (.dT _) => True
 | some (.set _ _) => True
 | some (.ins _ _ _) => True
 | some (.ext _) => True
 | _ => False
section
variable {P : Program} {w : World} {H : Hp} {h h' : Heap} {x e : Addr} {o' : HO}
theorem HOk.write (ok : HOk P w H h) (mu : Mut (H x)) (he : e = x ∨ H e = some (.own x)) (k : ∀ b u, b ≠ e → h.get? b = some u → h'.get? b = some u) (heo : ∃ u, h'.get? e = some u)
  (new : ObjOk P w (upd H x o') h' x o') : HOk P w (upd H x o') h' := fun b u q => by
 have nown : ∀ c y, H c = some (.own y) → c ≠ x := fun c y r z => by subst z; rw [r] at mu; exact mu
 have ntup : ∀ c xs, H c = some (.tup xs) → c ≠ x := fun c xs r z => by subst z; rw [r] at mu; exact mu
 by_cases hb : b = x
 ·subst hb; rw [upd_same] at q; cases q; exact new
 ·rw [upd_ne hb] at q
  by_cases hbe : b = e
  ·have q' : H b = some (.own x) := by
    rcases he with z | z
    ·exact absurd (hbe.trans z) hb
    ·rw [hbe]; exact z
   rw [q] at q'; cases q'
   obtain ⟨v, hv⟩ := heo
   exact ⟨v, by rw [hbe]; exact hv⟩
  ·refine (ok b u q).stay (fun c v hc r => k c v ?_ r) (fun c r => by rw [upd_ne (nown c b r)]; exact r) fun c xs r => by rw [upd_ne (ntup c xs r)]; exact r
   rcases hc with rfl | hc
   ·exact hbe
   ·rintro rfl
    rcases he with z | z
    ·exact nown c b hc z
    ·rw [hc] at z; cases z; exact hb rfl
end
structure Un (fs ex : List Addr) (H H' : Hp) (h h' : Heap) : Prop where
 keep : ∀ b o, h.get? b = some o → H b = none → b ∉ fs → b ∉ ex → h'.get? b = some o
 slot : ∀ b o, h.get? b = some o → H b = none → b ∈ fs → b ∉ ex → ∃ sl, h'.get? b = some { o with slots := sl }
 free : ∀ b o, h.get? b = some o → H b = none → b ∉ ex → H' b = none
 there : ∀ b o, h.get? b = some o → b ∉ ex → ∃ o', h'.get? b = some o'
 tups : ∀ b xs, H b = some (.tup xs) → H' b = some (.tup xs)
 frzs : ∀ b o u, H b = some (.frz o u) → H' b = some (.frz o u)
 tbls : ∀ b ps, H b = some (.tbl ps) → ∃ more, H' b = some (.tbl (ps ++ more))
section
variable {fs fs' ex ex' : List Addr} {H H1 H2 : Hp} {h h1 h2 h' : Heap} {a x e : Addr} {o : HO}
theorem Un.any (u : Un fs ex H H1 h h1) {b : Addr} {ob : Obj} (q : h.get? b = some ob) (n : H b = none) (hx : b ∉ ex) : ∃ sl, h1.get? b = some { ob with slots := sl } := by
 by_cases hb : b ∈ fs
 ·exact u.slot b ob q n hb hx
 ·exact ⟨ob.slots, u.keep b ob q n hb hx⟩
theorem Un.kept (k : ∀ b u, h.get? b = some u → h'.get? b = some u) : Un fs ex H H h h' :=
 ⟨fun b ob q _ _ _ => k b ob q, fun b ob q _ _ _ => ⟨ob.slots, k b ob q⟩, fun _ _ _ n _ => n, fun b ob q _ => ⟨ob, k b ob q⟩, fun _ _ q => q, fun _ _ _ q => q, fun _ ps q => ⟨#[], by rw [q]; simp⟩⟩
theorem Un.refl : Un fs ex H H h h := Un.kept fun _ _ q => q
theorem Un.laid (k : ∀ b u, h.get? b = some u → h'.get? b = some u) (hp : h.objs.size ≤ a) (hn : H a = none) : Un fs ex H (upd H a o) h h' where
 keep := fun b u q _ _ _ => k b u q
 slot := fun b u q _ _ _ => ⟨u.slots, k b u q⟩
 free := fun b u q n _ => by rw [upd_ne (Nat.ne_of_lt (Nat.lt_of_lt_of_le (Heap.lt_size q) hp))]; exact n
 there := fun b u q _ => ⟨u, k b u q⟩
 tups := fun b xs q => by rw [upd_ne (ne_of_none q hn)]; exact q
 frzs := fun b u xs q => by rw [upd_ne (ne_of_none q hn)]; exact q
 tbls := fun b ps q => ⟨#[], by rw [upd_ne (ne_of_none q hn), q]; simp⟩
theorem Un.write (mu : Mut (H x)) (he : e = x ∨ H e = some (.own x)) (k : ∀ b u, b ≠ e → h.get? b = some u → h'.get? b = some u) (heo : ∃ u, h'.get? e = some u) : Un fs ex H (upd H x o) h h' := by
 have hx : ∀ b, H b = none → b ≠ x := fun b n z => by subst z; rw [n] at mu; exact mu
 have hb : ∀ b, H b = none → b ≠ e := fun b n z => by
  subst z
  rcases he with r | r
  ·exact hx b n r
  ·rw [n] at r; cases r
 have hm : ∀ b u, H b = some u → ¬ Mut (some u) → b ≠ x := fun b u q nm z => by subst z; rw [q] at mu; exact nm mu
 refine ⟨fun b u q n _ _ => k b u (hb b n) q, fun b u q n _ _ => ⟨u.slots, k b u (hb b n) q⟩, fun b u q n _ => by rw [upd_ne (hx b n)]; exact n, fun b u q _ => ?_,
  fun b xs q => by rw [upd_ne (hm b _ q fun z => z)]; exact q, fun b u xs q => by rw [upd_ne (hm b _ q fun z => z)]; exact q, fun b ps q => ⟨#[], by rw [upd_ne (hm b _ q fun z => z), q]; simp⟩⟩
 by_cases hbe : b = e
 ·subst hbe; exact heo
 ·exact ⟨u, k b u hbe q⟩
end
noncomputable def trk (h : Heap) (H : Hp) : List Addr := (List.range h.objs.size).filter fun a => (H a).isSome
noncomputable def hidT (h : Heap) (H : Hp) : Heap := PySem.W.hideAll h (trk h H)
theorem hidT_size (h : Heap) (H : Hp) : (hidT h H).objs.size = h.objs.size := PySem.W.hideAll_size _ _
theorem hidT_get {h : Heap} {H : Hp} {b : Addr} {o : Obj} (e : h.get? b = some o) (n : H b = none) : (hidT h H).get? b = some o :=
 PySem.W.hideAll_get _ e fun hm => by
  have q : (H b).isSome = true := (List.mem_filter.mp hm).2
  rw [n] at q; simp at q
theorem of_hidT {h : Heap} {H : Hp} {b : Addr} {o : Obj} (e : (hidT h H).get? b = some o) : h.get? b = some o ∧ H b = none := by
 have e' : h.get? b = some o := PySem.W.of_hideAll (trk h H) e
 refine ⟨e', ?_⟩
 cases q : H b with
 | none => rfl
 | some x =>
  have hm : b ∈ trk h H := List.mem_filter.mpr ⟨List.mem_range.mpr (Heap.lt_size e'), by simp [q]⟩
  have z : (hidT h H).get? b = none := PySem.W.hideAll_none (trk h H) hm
  rw [z] at e; cases e
structure Mod (K : PySem.W.Frag) (mg : Str → Option Value) (base : Heap) : Prop where
 kin : K.In base
 glob : base.Ns mainGlobals mg
 blt : ∃ mb, base.Ns builtinsNs mb ∧ ∀ x : Str, x ≠ "__name__" → mb x = bootBuiltins x
 nolimit : base.NoLimit
structure Cx where
 prog : Program
 w : World
 K : PySem.W.Frag
 mg : Str → Option Value
 base : Heap
 A : Around
 N : List Str
 s₀ : Shared
 H₀ : Hp
 env : Env
 outer : List Env
 stack : List Env
 ex : List Addr
 fn : Str → Bool
 calm : Bool
 pn : List (Addr × Obj)
 xe : Value → Shared → Prop
noncomputable def frs (l : List Env) : List Addr := l.filterMap (·.frame)
noncomputable abbrev Cx.fs (X : Cx) : List Addr := frs X.outer
noncomputable def Vis (sc : Scope) (x : Str) : Prop := sc.names.lookup x = some .local ∨ sc.names.lookup x = some .cell ∨ sc.names.lookup x = some .free
noncomputable def Loc (sc : Scope) (x : Str) : Prop := sc.names.lookup x = some .local ∨ sc.names.lookup x = some .cell
noncomputable def Look (env : Env) (h : Heap) (m : Str → Option Value) (x : Str) (u : Value) : Prop :=
 (env.kindOf x = some .local ∧ m x = some u) ∨ ((env.kindOf x = some .cell ∨ env.kindOf x = some .free) ∧ ∃ c, env.cells.lookup x = some c ∧ h.IsCell c (some u))
structure Cx.Ok (X : Cx) : Prop where
 mod : Mod X.K X.mg X.base
 kind : X.env.scope.kind = .function
 glob : X.env.globals = mainGlobals
 blt : X.env.builtins = builtinsNs
 above : X.s₀.heap.objs.size ≤ X.env.locals
 inj : ∀ x y c, X.env.cells.lookup x = some c → X.env.cells.lookup y = some c → x = y
 has : ∀ x, (X.env.kindOf x = some .cell ∨ X.env.kindOf x = some .free) → ∃ c, X.env.cells.lookup x = some c
 cab : ∀ x c, X.fn x = true → X.env.cells.lookup x = some c → X.s₀.heap.objs.size ≤ c
 hd : X.calm = true → X.A.handled = none
 frames : X.A.frames = some X.stack
 stk : X.stack = X.outer ∨ (X.stack = X.env :: X.outer ∧ X.env.frame = some X.env.locals)
 exf : ∀ b ∈ X.ex, b ≠ X.env.locals ∧ ∀ x c, X.env.cells.lookup x = some c → c ≠ b
 bs : ∀ b o, X.base.get? b = some o → X.s₀.heap.get? b = some o ∧ X.H₀ b = none
 bsz : X.base.objs.size ≤ X.s₀.heap.objs.size
 noex : ∀ b o, X.base.get? b = some o → b ∉ X.ex
 exfs : ∀ b ∈ X.ex, b ∉ X.fs
 funs : X.s₀.heap.FunFrames X.base X.outer
 frf : ∀ b ∈ X.fs, X.H₀ b = none
structure Inv (X : Cx) (pins : List (Addr × Obj)) (σ : List (Option V)) (H : Hp) (s : Shared) : Prop where
 ok : X.Ok
 os : s.os = X.s₀.os
 bare : AllBare s.gens
 base : Un X.fs X.ex X.H₀ H X.s₀.heap s.heap
 loc : ∃ m, s.heap.Ns X.env.locals m ∧ ∀ (i : Nat) (x : Str) (v : V), X.N[i]? = some x → σ[i]? = some (some v) → Vis X.env.scope x → ∃ u, RelV v u ∧ Look X.env s.heap m x u
 cell : ∀ x c, X.env.cells.lookup x = some c → ∃ v, s.heap.IsCell c v
 free : H X.env.locals = none
 freeC : ∀ x c, X.env.cells.lookup x = some c → H c = none
 pin : ∀ p ∈ X.pn ++ pins, s.heap.get? p.1 = some p.2 ∧ H p.1 = none ∧ p.1 ≠ X.env.locals ∧ p.1 ∉ X.fs ∧ ∀ v, p.2.data ≠ .cell v
 hok : HOk X.prog X.w H s.heap
 len : σ.length = X.N.length
section
variable {X : Cx} {pins : List (Addr × Obj)} {σ : List (Option V)} {H H' : Hp} {s : Shared} {h' : Heap}
theorem Cx.Ok.nofr (ok : X.Ok) {b : Addr} {o : Obj} (e : X.base.get? b = some o) : b ∉ X.fs := fun hb => by
 have := (ok.funs.mem hb).1
 rw [e] at this; cases this
theorem Inv.bs (I : Inv X pins σ H s) : ∀ b o, X.base.get? b = some o → s.heap.get? b = some o ∧ H b = none := fun b o e =>
 ⟨I.base.keep b o (I.ok.bs b o e).1 (I.ok.bs b o e).2 (I.ok.nofr e) (I.ok.noex b o e), I.base.free b o (I.ok.bs b o e).1 (I.ok.bs b o e).2 (I.ok.noex b o e)⟩
theorem Inv.bk (I : Inv X pins σ H s) : ∀ b o, X.base.get? b = some o → s.heap.get? b = some o := fun b o e => (I.bs b o e).1
theorem Inv.mod (I : Inv X pins σ H s) : Mod X.K X.mg X.base := I.ok.mod
theorem Inv.kIn (I : Inv X pins σ H s) : X.K.In s.heap := I.ok.mod.kin.keeps I.bk
theorem Inv.lt (I : Inv X pins σ H s) : X.env.locals < s.heap.objs.size := let ⟨_, hn, _⟩ := I.loc; hn.lt
theorem Inv.sz (I : Inv X pins σ H s) : X.s₀.heap.objs.size ≤ s.heap.objs.size := Nat.le_trans I.ok.above (Nat.le_of_lt I.lt)
theorem Inv.nofs (I : Inv X pins σ H s) {a : Addr} (h : s.heap.objs.size ≤ a) : a ∉ X.fs := fun hb => by
 obtain ⟨_, o, ho, _⟩ := I.ok.funs.mem hb
 exact absurd (Nat.lt_of_lt_of_le (Heap.lt_size ho) (Nat.le_trans I.sz h)) (Nat.lt_irrefl _)
theorem Inv.cne (I : Inv X pins σ H s) : ∀ x c, X.env.cells.lookup x = some c → c ≠ X.env.locals := fun x c e z => by
 obtain ⟨v, o, ho, hd⟩ := I.cell x c e
 obtain ⟨m, ⟨o', es, ep, ho', hd', _⟩, _⟩ := I.loc
 rw [z, ho'] at ho; cases ho; rw [hd'] at hd; cases hd
theorem Inv.funs (I : Inv X pins σ H s) : s.heap.FunFrames X.base X.outer := by
 have all : ∀ (l : List Env), (∀ b ∈ frs l, b ∈ X.fs) → X.s₀.heap.FunFrames X.base l → s.heap.FunFrames X.base l := by
  intro l
  induction l with
  | nil => intro _ _; trivial
  | cons env r ih =>
   intro hs hl
   obtain ⟨hk, ⟨L, o, hf, hn, ho, hd⟩, hr⟩ := hl
   have hL : L ∈ X.fs := hs L (by unfold frs; rw [List.filterMap_cons, hf]; exact List.mem_cons_self)
   obtain ⟨sl, e⟩ := I.base.slot L o ho (I.ok.frf L hL) hL fun z => I.ok.exfs L z hL
   exact ⟨hk, ⟨L, _, hf, hn, e, hd⟩, ih (fun b hb => hs b (by unfold frs; rw [List.filterMap_cons, hf]; exact List.mem_cons_of_mem _ hb)) hr⟩
 exact all X.outer (fun _ hb => hb) I.ok.funs
theorem Inv.stack (I : Inv X pins σ H s) : s.heap.FunFrames X.base X.stack := by
 rcases I.ok.stk with e | ⟨e, hf⟩
 ·rw [e]; exact I.funs
 ·rw [e]
  obtain ⟨m, hn, _⟩ := I.loc
  refine .cons (by rw [I.ok.kind]; decide) hf hn ?_ I.funs
  exact Heap.get?_none_of_le (Nat.le_trans I.ok.bsz I.ok.above)
theorem Inv.stkSub (I : Inv X pins σ H s) : ∀ b ∈ frs X.stack, b ∈ X.env.locals :: X.fs := fun b hb => by
 rcases I.ok.stk with e | ⟨e, hf⟩
 ·rw [e] at hb; exact List.mem_cons_of_mem _ hb
 ·rw [e] at hb
  unfold frs at hb
  rw [List.filterMap_cons, hf] at hb
  exact hb
theorem Inv.stkFree (I : Inv X pins σ H s) : ∀ b ∈ frs X.stack, H b = none := fun b hb => by
 rcases List.mem_cons.mp (I.stkSub b hb) with e | hb
 ·rw [e]; exact I.free
 ·obtain ⟨_, o, ho, _⟩ := I.ok.funs.mem hb
  exact I.base.free b o ho (I.ok.frf b hb) fun z => I.ok.exfs b z hb
theorem Inv.step {g' : Array GenState} {t' : Nat} {d' : Drawn} {ch : List Addr} (I : Inv X pins σ H s)
  (hch : ∀ b ∈ ch, (b ∈ X.ex ∨ X.s₀.heap.objs.size ≤ b) ∧ b ≠ X.env.locals ∧ (∀ x c, X.env.cells.lookup x = some c → c ≠ b) ∧ ∀ p ∈ X.pn ++ pins, p.1 ≠ b)
  (keep : ∀ b o, b ≠ X.env.locals → b ∉ X.fs → b ∉ ch → s.heap.get? b = some o → H b = none → h'.get? b = some o)
  (slot : ∀ b o, b ≠ X.env.locals → b ∈ X.fs → b ∉ ch → s.heap.get? b = some o → H b = none → ∃ sl, h'.get? b = some { o with slots := sl }) (free : ∀ b o, b ∉ ch → s.heap.get? b = some o → H b = none → H' b = none)
  (there : ∀ b o, b ∉ ch → s.heap.get? b = some o → ∃ o', h'.get? b = some o')
  (tups : ∀ b xs, H b = some (.tup xs) → H' b = some (.tup xs)) (frzs : ∀ b o u, H b = some (.frz o u) → H' b = some (.frz o u)) (tbls : ∀ b ps, H b = some (.tbl ps) → ∃ more, H' b = some (.tbl (ps ++ more)))
  (ns : ∀ m, s.heap.Ns X.env.locals m → h'.Ns X.env.locals m) (hok : HOk X.prog X.w H' h') (hg : AllBare g') :
  Inv X pins σ H' { s with heap := h', gens := g', drawn := d', toks := t' } := by
 have neL : ∀ b o, X.s₀.heap.get? b = some o → b ≠ X.env.locals := fun b o e => Nat.ne_of_lt (Nat.lt_of_lt_of_le (Heap.lt_size e) I.ok.above)
 have neC : ∀ b o, X.s₀.heap.get? b = some o → b ∉ X.ex → b ∉ ch := fun b o e hx hb => by
  rcases (hch b hb).1 with z | z
  ·exact hx z
  ·exact absurd (Nat.lt_of_lt_of_le (Heap.lt_size e) z) (Nat.lt_irrefl _)
 have cellK : ∀ x c, X.env.cells.lookup x = some c → ∀ v, s.heap.IsCell c v → h'.IsCell c v := fun x c e v ⟨o, ho, hd⟩ => by
  have nch : c ∉ ch := fun z => (hch c z).2.2.1 x c e rfl
  by_cases hc : c ∈ X.fs
  ·obtain ⟨sl, q⟩ := slot c o (I.cne x c e) hc nch ho (I.freeC x c e)
   exact ⟨_, q, hd⟩
  ·exact ⟨o, keep c o (I.cne x c e) hc nch ho (I.freeC x c e), hd⟩
 refine ⟨I.ok, I.os, hg, ⟨fun b o e n hb hx => ?_, fun b o e n hb hx => ?_, fun b o e n hx => ?_, fun b o e hx => ?_, fun b xs e => tups b xs (I.base.tups b xs e), fun b o xs e => frzs b o xs (I.base.frzs b o xs e), fun b ps e => ?_⟩, ?_, fun x c e => ?_, ?_, fun x c e => ?_, fun p hp => ?_, hok, I.len⟩
 ·exact keep b o (neL b o e) hb (neC b o e hx) (I.base.keep b o e n hb hx) (I.base.free b o e n hx)
 ·obtain ⟨sl, e1⟩ := I.base.slot b o e n hb hx
  obtain ⟨sl', e2⟩ := slot b _ (neL b o e) hb (neC b o e hx) e1 (I.base.free b o e n hx)
  exact ⟨sl', e2⟩
 ·obtain ⟨o', e1⟩ := I.base.there b o e hx
  exact free b o' (neC b o e hx) e1 (I.base.free b o e n hx)
 ·obtain ⟨o', e1⟩ := I.base.there b o e hx
  exact there b o' (neC b o e hx) e1
 ·obtain ⟨m1, e1⟩ := I.base.tbls b ps e
  obtain ⟨m2, e2⟩ := tbls b _ e1
  exact ⟨m1 ++ m2, by rw [e2, Array.append_assoc]⟩
 ·obtain ⟨m, hn, hl⟩ := I.loc
  refine ⟨m, ns m hn, fun i x v e1 e2 e3 => ?_⟩
  obtain ⟨u, r, l⟩ := hl i x v e1 e2 e3
  refine ⟨u, r, ?_⟩
  rcases l with l | ⟨k, c, e, z⟩
  ·exact .inl l
  ·exact .inr ⟨k, c, e, cellK x c e _ z⟩
 ·obtain ⟨v, z⟩ := I.cell x c e
  exact ⟨v, cellK x c e v z⟩
 ·obtain ⟨m, ⟨o, _, _, ho, _⟩, _⟩ := I.loc
  exact free _ o (fun z => (hch _ z).2.1 rfl) ho I.free
 ·obtain ⟨v, o, ho, hd⟩ := I.cell x c e
  exact free c o (fun z => (hch c z).2.2.1 x c e rfl) ho (I.freeC x c e)
 ·obtain ⟨e, n, ne, nf, d⟩ := I.pin p hp
  have nch : p.1 ∉ ch := fun z => (hch p.1 z).2.2.2 p hp rfl
  exact ⟨keep p.1 p.2 ne nf nch e n, free p.1 p.2 nch e n, ne, nf, d⟩
theorem Inv.un {t' : Nat} (I : Inv X pins σ H s) (u : Un X.fs [] H H' s.heap h') (hok : HOk X.prog X.w H' h') : Inv X pins σ H' { s with heap := h', toks := t' } := by
 obtain ⟨m, ⟨o, es, ep, ho, r⟩, _⟩ := id I.loc
 obtain ⟨sl, hL⟩ := u.any ho I.free (by simp)
 exact I.step (g' := s.gens) (d' := s.drawn) (ch := []) (fun _ z => nomatch z) (fun b o _ hb _ e n => u.keep b o e n hb (by simp)) (fun b o _ hb _ e n => u.slot b o e n hb (by simp)) (fun b o _ e n => u.free b o e n (by simp)) (fun b o _ e => u.there b o e (by simp)) u.tups u.frzs u.tbls (fun m' hm => by
  obtain ⟨o', es', ep', ho', r'⟩ := hm
  rw [ho] at ho'; cases ho'
  exact ⟨_, es', ep', hL, r'⟩) hok I.bare
theorem Inv.call {g' : Array GenState} {t' : Nat} {d' : Drawn} {ch : List Addr} (I : Inv X pins σ H s) (u : Un (frs X.stack) ch H H' s.heap h') (hok : HOk X.prog X.w H' h') (hg : AllBare g')
  (hch : ∀ b ∈ ch, (b ∈ X.ex ∨ X.s₀.heap.objs.size ≤ b) ∧ b ≠ X.env.locals ∧ (∀ x c, X.env.cells.lookup x = some c → c ≠ b) ∧ ∀ p ∈ X.pn ++ pins, p.1 ≠ b) :
  Inv X pins σ H' { s with heap := h', gens := g', drawn := d', toks := t' } := by
 obtain ⟨m, ⟨o, es, ep, ho, r⟩, _⟩ := id I.loc
 obtain ⟨sl, hL⟩ := u.any ho I.free fun z => (hch _ z).2.1 rfl
 exact I.step (ch := ch) hch (fun b o hL hb hc e n => u.keep b o e n (fun z => (List.mem_cons.mp (I.stkSub b z)).elim hL hb) hc) (fun b o _ _ hc e n => u.any e n hc) (fun b o hc e n => u.free b o e n hc) (fun b o hc e => u.there b o e hc) u.tups u.frzs u.tbls (fun m' hm => by
  obtain ⟨o', es', ep', ho', r'⟩ := hm
  rw [ho] at ho'; cases ho'
  exact ⟨_, es', ep', hL, r'⟩) hok hg
theorem Inv.turned {t' : Nat} {it : Addr} (I : Inv X pins σ H s) (k : ∀ b o, b ≠ it → s.heap.get? b = some o → h'.get? b = some o) (hn : H it = none) (hL : it ≠ X.env.locals)
  (h1 : it ∈ X.ex ∨ X.s₀.heap.objs.size ≤ it) (h2 : ∀ x c, X.env.cells.lookup x = some c → c ≠ it) (h3 : ∀ p ∈ X.pn ++ pins, p.1 ≠ it) : Inv X pins σ H { s with heap := h', toks := t' } := by
 have nit : ∀ b u, H b = some u → b ≠ it := fun b u e z => by rw [z, hn] at e; cases e
 refine I.step (g' := s.gens) (d' := s.drawn) (ch := [it]) (fun b hb => ?_) (fun b o _ _ hc e _ => k b o (fun z => hc (by simp [z])) e) (fun b o _ _ hc e _ => ⟨o.slots, k b o (fun z => hc (by simp [z])) e⟩) (fun _ _ _ _ n => n)
  (fun b o hc e => ⟨o, k b o (fun z => hc (by simp [z])) e⟩) (fun _ _ e => e) (fun _ _ _ e => e) (fun b ps e => ⟨#[], by rw [e]; simp⟩) (fun m hm => ?_) (fun b u e => ?_) I.bare
 ·have e : b = it := by simpa using hb
  subst e
  exact ⟨h1, hL, h2, h3⟩
 ·obtain ⟨o, es, ep, ho, r⟩ := hm
  exact ⟨o, es, ep, k _ o (Ne.symm hL) ho, r⟩
 ·refine (I.hok b u e).stay (fun c v hc q => k c v ?_ q) (fun _ q => q) fun _ _ q => q
  rcases hc with z | z
  ·rw [z]; exact nit b u e
  ·exact nit c _ z
theorem Inv.tok (I : Inv X pins σ H s) (t : Nat) : Inv X pins σ H { s with toks := t } := I.un (h' := s.heap) (t' := t) Un.refl I.hok
theorem Inv.kept {t' : Nat} (I : Inv X pins σ H s) (k : ∀ b u, s.heap.get? b = some u → h'.get? b = some u) : Inv X pins σ H { s with heap := h', toks := t' } := I.un (Un.kept k) (I.hok.kept k)
theorem Inv.laid {a : Addr} {o : HO} {t' : Nat} (I : Inv X pins σ H s) (k : ∀ b u, s.heap.get? b = some u → h'.get? b = some u) (hp : s.heap.objs.size ≤ a) (new : ObjOk X.prog X.w (upd H a o) h' a o) :
  Inv X pins σ (upd H a o) { s with heap := h', toks := t' } := I.un (Un.laid k hp (I.hok.fresh hp)) (I.hok.laid k hp new)
theorem Inv.write {x e : Addr} {o : HO} {t' : Nat} (I : Inv X pins σ H s) (mu : Mut (H x)) (he : e = x ∨ H e = some (.own x)) (k : ∀ b u, b ≠ e → s.heap.get? b = some u → h'.get? b = some u) (heo : ∃ u, h'.get? e = some u)
  (new : ObjOk X.prog X.w (upd H x o) h' x o) : Inv X pins σ (upd H x o) { s with heap := h', toks := t' } := I.un (Un.write mu he k heo) (I.hok.write mu he k heo new)
theorem Inv.pins_of {pins' : List (Addr × Obj)} (I : Inv X pins σ H s) (h : ∀ p ∈ pins', s.heap.get? p.1 = some p.2 ∧ H p.1 = none ∧ p.1 ≠ X.env.locals ∧ p.1 ∉ X.fs ∧ ∀ v, p.2.data ≠ .cell v) : Inv X pins' σ H s :=
 ⟨I.ok, I.os, I.bare, I.base, I.loc, I.cell, I.free, I.freeC, fun p hp => (List.mem_append.mp hp).elim (fun z => I.pin p (List.mem_append_left _ z)) (h p), I.hok, I.len⟩
theorem nodup_ix {N : List Str} (hN : N.Nodup) {i j : Nat} {x : Str} (a : N[i]? = some x) (b : N[j]? = some x) : i = j := by
 obtain ⟨h1, e1⟩ := List.getElem?_eq_some_iff.mp a
 obtain ⟨h2, e2⟩ := List.getElem?_eq_some_iff.mp b
 exact (List.getElem_inj hN).mp (e1.trans e2.symm)
theorem store_ok2 {M : Model} {A : Around} {E : Value → Shared → Prop} {i : Nat} {x : Str} {v : V} {u : Value} {Q : Unit → Shared → Prop} (I : Inv X pins σ H s) (hN : X.N.Nodup) (hi : X.N[i]? = some x) (hx : Loc X.env.scope x) (r : RelV v u)
    (h : ∀ s', Inv X pins (σ.set i (some v)) H s' → (∃ a, Heap.SameBut a s.heap s'.heap ∧ (a = X.env.locals ∨ X.env.cells.lookup x = some a)) → Q () s') (hf : X.fn x = true ∨ X.env.scope.names.lookup x = some .local := by first | exact .inl rfl | exact .inr rfl | assumption) : wpAny M A (storeName X.env x u) Q E s := by
  obtain ⟨m, hn, hl⟩ := id I.loc
  have hcls : (X.env.scope.kind == .class || (X.env.scope.kind == .module && X.env.locals != X.env.globals)) = false := by rw [I.ok.kind]; rfl
  have hiσ : i < σ.length := by rw [I.len]; exact (List.getElem?_eq_some_iff.mp hi).1
  have cne := I.cne
  have tracked : ∀ {a : Addr} {h' : Heap}, (∃ o, s.heap.get? a = some o ∧ H a = none) → Heap.SameBut a s.heap h' → HOk X.prog X.w H h' := fun {a h'} ha hs b ob e => by
    obtain ⟨_, _, hfree⟩ := ha
    refine (I.hok b ob e).stay (fun c w' hc q => (hs.2 c ?_).trans q) (fun _ q => q) fun _ _ q => q
    rintro rfl
    rcases hc with rfl | hc
    · rw [hfree] at e; cases e
    · rw [hfree] at hc; cases hc
  rcases hx with hk | hk
  · refine wpAny_storeName_local hk hn (fun h' hn' hs => ?_) hcls
    obtain ⟨oL, _, _, hoL, _⟩ := id hn
    refine h _ ⟨I.ok, I.os, I.bare, ⟨fun b o e n hb hx => ?_, fun b o e n hb hx => ?_, I.base.free, fun b o e hx => ?_, I.base.tups, I.base.frzs, I.base.tbls⟩, ⟨_, hn', fun j y v' e1 e2 e3 => ?_⟩, fun y c e => ?_, I.free, I.freeC, fun p hp => ?_, tracked ⟨oL, hoL, I.free⟩ hs, by simpa using I.len⟩ ⟨_, hs, .inl rfl⟩
    · exact (hs.2 b (Nat.ne_of_lt (Nat.lt_of_lt_of_le (Heap.lt_size e) I.ok.above))).trans (I.base.keep b o e n hb hx)
    · obtain ⟨sl, e1⟩ := I.base.slot b o e n hb hx
      exact ⟨sl, (hs.2 b (Nat.ne_of_lt (Nat.lt_of_lt_of_le (Heap.lt_size e) I.ok.above))).trans e1⟩
    · obtain ⟨o', e1⟩ := I.base.there b o e hx
      exact ⟨o', (hs.2 b (Nat.ne_of_lt (Nat.lt_of_lt_of_le (Heap.lt_size e) I.ok.above))).trans e1⟩
    · by_cases hj : j = i
      · subst hj
        rw [hi] at e1; cases e1
        rw [List.getElem?_set_self hiσ] at e2
        cases e2
        exact ⟨u, r, .inl ⟨hk, by simp⟩⟩
      · rw [List.getElem?_set_ne (Ne.symm hj)] at e2
        obtain ⟨u', r', q⟩ := hl j y v' e1 e2 e3
        refine ⟨u', r', ?_⟩
        rcases q with ⟨k, e⟩ | ⟨k, c, e, z⟩
        · refine .inl ⟨k, ?_⟩
          have : y ≠ x := fun e => hj (nodup_ix hN e1 (e ▸ hi))
          simp [this, e]
        · exact .inr ⟨k, c, e, z.sameBut hs (cne y c e)⟩
    · obtain ⟨w', z⟩ := I.cell y c e
      exact ⟨w', z.sameBut hs (cne y c e)⟩
    · obtain ⟨e, n, ne, nf, d⟩ := I.pin p hp
      exact ⟨(hs.2 p.1 ne).trans e, n, ne, nf, d⟩
  · have hfn : X.fn x = true := by
      rcases hf with z | z
      · exact z
      · rw [z] at hk; cases hk
    obtain ⟨c, hc⟩ := I.ok.has x (.inl hk)
    obtain ⟨w', z⟩ := I.cell x c hc
    refine wpAny_storeName_cell I.ok.kind hk hc z (fun h' hc' hs => ?_)
    obtain ⟨oc, hoc, hocd⟩ := id z
    refine h { s with heap := h' } ⟨I.ok, I.os, I.bare, ⟨fun b o e n hb hx => ?_, fun b o e n hb hx => ?_, I.base.free, fun b o e hx => ?_, I.base.tups, I.base.frzs, I.base.tbls⟩, ⟨m, hn.sameBut hs (Ne.symm (cne x c hc)), fun j y v' e1 e2 e3 => ?_⟩, fun y c' e => ?_, I.free, I.freeC, fun p hp => ?_, tracked ⟨oc, hoc, I.freeC x c hc⟩ hs, by simpa using I.len⟩ ⟨c, hs, .inr hc⟩
    · exact (hs.2 b (Nat.ne_of_lt (Nat.lt_of_lt_of_le (Heap.lt_size e) (I.ok.cab x c hfn hc)))).trans (I.base.keep b o e n hb hx)
    · obtain ⟨sl, e1⟩ := I.base.slot b o e n hb hx
      exact ⟨sl, (hs.2 b (Nat.ne_of_lt (Nat.lt_of_lt_of_le (Heap.lt_size e) (I.ok.cab x c hfn hc)))).trans e1⟩
    · obtain ⟨o', e1⟩ := I.base.there b o e hx
      exact ⟨o', (hs.2 b (Nat.ne_of_lt (Nat.lt_of_lt_of_le (Heap.lt_size e) (I.ok.cab x c hfn hc)))).trans e1⟩
    · by_cases hj : j = i
      · subst hj
        rw [hi] at e1; cases e1
        rw [List.getElem?_set_self hiσ] at e2
        cases e2
        exact ⟨u, r, .inr ⟨.inl hk, c, hc, hc'⟩⟩
      · rw [List.getElem?_set_ne (Ne.symm hj)] at e2
        obtain ⟨u', r', q⟩ := hl j y v' e1 e2 e3
        refine ⟨u', r', ?_⟩
        rcases q with q | ⟨k, c', e, z'⟩
        · exact .inl q
        · refine .inr ⟨k, c', e, z'.sameBut hs ?_⟩
          rintro rfl
          exact hj (nodup_ix hN e1 (I.ok.inj _ _ _ e hc ▸ hi))
    · by_cases hcc : c' = c
      · subst hcc; exact ⟨_, hc'⟩
      · obtain ⟨w2, z2⟩ := I.cell y c' e
        exact ⟨w2, z2.sameBut hs hcc⟩
    · obtain ⟨e, n, ne, nf, d⟩ := I.pin p hp
      refine ⟨(hs.2 p.1 ?_).trans e, n, ne, nf, d⟩
      intro q
      rw [q, hoc] at e
      have q' : oc = p.2 := Option.some.inj e
      exact d w' (by rw [← q']; exact hocd)
theorem store_ok {M : Model} {A : Around} {E : Value → Shared → Prop} {i : Nat} {x : Str} {v : V} {u : Value} {Q : Unit → Shared → Prop} (I : Inv X pins σ H s) (hN : X.N.Nodup) (hi : X.N[i]? = some x) (hx : Loc X.env.scope x) (r : RelV v u)
  (h : ∀ s', Inv X pins (σ.set i (some v)) H s' → Q () s') (hf : X.fn x = true ∨ X.env.scope.names.lookup x = some .local := by first | exact .inl rfl | exact .inr rfl | assumption) : wpAny M A (storeName X.env x u) Q E s :=
 store_ok2 I hN hi hx r (fun s' I' _ => h s' I') hf
theorem Inv.call' {s' : Shared} {ch : List Addr} (I : Inv X pins σ H s) (ho : s'.os = s.os) (u : Un (frs X.stack) ch H H' s.heap s'.heap) (hok : HOk X.prog X.w H' s'.heap) (hg : AllBare s'.gens)
  (hch : ∀ b ∈ ch, (b ∈ X.ex ∨ X.s₀.heap.objs.size ≤ b) ∧ b ≠ X.env.locals ∧ (∀ x c, X.env.cells.lookup x = some c → c ≠ b) ∧ ∀ p ∈ X.pn ++ pins, p.1 ≠ b) : Inv X pins σ H' s' := by
 obtain ⟨h', g', d', t', o'⟩ := s'
 have e : o' = s.os := ho
 subst e
 exact I.call (g' := g') (t' := t') (d' := d') u hok hg hch
end
noncomputable abbrev XK := Value → Option Addr → Hp → Prop
noncomputable abbrev St := List (Option V)
noncomputable abbrev VK := V → Hp → Prop
noncomputable abbrev TE := St → Hp → VK → Prop
noncomputable abbrev TT := St → Hp → (Bool → Hp → Prop) → Prop
noncomputable abbrev TA := St → Hp → (List V → Hp → Prop) → Prop
structure Ends where
 nx : St → Hp → Prop
 rt : VK
 bk : St → Hp → Prop := fun _ _ => False
 ct : St → Hp → Prop := fun _ _ => False
noncomputable abbrev TS := Ends → St → Hp → Prop
noncomputable def EP (X : Cx) (pins : List (Addr × Obj)) (σ : St) (Q : VK) (u : Value) (s' : Shared) : Prop := ∃ v H', Inv X pins σ H' s' ∧ RelV v u ∧ Q v H'
noncomputable def TP (X : Cx) (pins : List (Addr × Obj)) (σ : St) (Q : Bool → Hp → Prop) (b : Bool) (s' : Shared) : Prop := ∃ H', Inv X pins σ H' s' ∧ Q b H'
noncomputable def AP (X : Cx) (pins : List (Addr × Obj)) (σ : St) (Q : List V → Hp → Prop) (us : List Value) (s' : Shared) : Prop := ∃ vs H', Inv X pins σ H' s' ∧ Vals vs us ∧ Q vs H'
noncomputable def SP (X : Cx) (pins : List (Addr × Obj)) (D : Ends) (f : Flow) (s' : Shared) : Prop :=
 match f with
 | .next => ∃ σ' H', Inv X pins σ' H' s' ∧ D.nx σ' H'
 | .brk => ∃ σ' H', Inv X pins σ' H' s' ∧ D.bk σ' H'
 | .cont => ∃ σ' H', Inv X pins σ' H' s' ∧ D.ct σ' H'
 | .ret u => ∃ v σ' H', Inv X pins σ' H' s' ∧ RelV v u ∧ D.rt v H'
noncomputable def PE (X : Cx) (e : Expr) (t : TE) : Prop :=
 ∀ (pins : List (Addr × Obj)) (s : Shared) (σ : St) (H : Hp) (Q : VK), Inv X pins σ H s → t σ H Q → wpAny (model X.prog X.w) X.A (eval e X.env) (EP X pins σ Q) X.xe s
noncomputable def PT (X : Cx) (e : Expr) (t : TT) : Prop :=
 ∀ (pins : List (Addr × Obj)) (s : Shared) (σ : St) (H : Hp) (Q : Bool → Hp → Prop), Inv X pins σ H s → t σ H Q → wpAny (model X.prog X.w) X.A (isTrue e X.env (eval e X.env)) (TP X pins σ Q) X.xe s
noncomputable def PW (X : Cx) (e : Expr) (t : TT) : Prop :=
 ∀ (whole : Sem Value) (pins : List (Addr × Obj)) (s : Shared) (σ : St) (H : Hp) (Q : Bool → Hp → Prop), Inv X pins σ H s → t σ H Q → wpAny (model X.prog X.w) X.A (isTrue e X.env whole) (TP X pins σ Q) X.xe s
theorem PW.pt {X : Cx} {e : Expr} {t : TT} (h : PW X e t) : PT X e t := h _
noncomputable def PA (X : Cx) (es : List Expr) (t : TA) : Prop :=
 ∀ (pos : Pos) (pins : List (Addr × Obj)) (s : Shared) (σ : St) (H : Hp) (Q : List V → Hp → Prop), Inv X pins σ H s → t σ H Q → wpAny (model X.prog X.w) X.A (spliced (backTo pos (starEach es X.env))) (AP X pins σ Q) X.xe s
noncomputable def PS (X : Cx) (st : Stmt) (t : TS) : Prop :=
 ∀ (pins : List (Addr × Obj)) (s : Shared) (σ : St) (H : Hp) (D : Ends), Inv X pins σ H s → t D σ H → wpAny (model X.prog X.w) X.A (exec st X.env) (SP X pins D) X.xe s
noncomputable def PSs (X : Cx) (st : List Stmt) (t : TS) : Prop :=
 ∀ (pins : List (Addr × Obj)) (s : Shared) (σ : St) (H : Hp) (D : Ends), Inv X pins σ H s → t D σ H → wpAny (model X.prog X.w) X.A (execs st X.env) (SP X pins D) X.xe s
theorem thn {α : Type} {t : Sem α} {Q Q' : α → Shared → Prop} {M : Model} {A : Around} {E : Value → Shared → Prop} {s : Shared} (h : wpAny M A t Q E s) (hQ : ∀ a s, Q a s → Q' a s) : wpAny M A t Q' E s := wpAny_mono h hQ fun _ _ x => x
section
variable {X : Cx}
noncomputable def tVar (i : Nat) : TE := fun σ H Q => ∃ v, σ[i]? = some (some v) ∧ Q v H
noncomputable def tC (v : V) : TE := fun _ H Q => Q v H
theorem pe_var {i : Nat} {x : Str} {pos : Pos} (hN : X.N[i]? = some x) (hv : Vis X.env.scope x) (hd : (x == ("__debug__" : Str)) = false := by decide) (hcd : (x == ("__classdict__" : Str)) = false := by decide) : PE X (.Name x pos) (tVar i) := by
 intro pins s σ H Q I h
 obtain ⟨v, e, h⟩ := h
 obtain ⟨m, hn, hl⟩ := I.loc
 obtain ⟨u, r, l⟩ := hl i x v hN e hv
 have fin : EP X pins σ Q u s := ⟨v, H, I, r, h⟩
 rcases l with ⟨hk, hm⟩ | ⟨hk, c, hc, hcell⟩
 ·exact wpAny_Name (wpAny_loadName_local I.ok.kind hk hn hm fin) hd
 ·rcases hk with hk | hk
  ·exact wpAny_Name (wpAny_loadName_cell I.ok.kind hk hc hcell fin) hd
  ·exact wpAny_Name (wpAny_loadName_free I.ok.kind hk hc hcell fin hcd) hd
theorem pe_int {i j pos} : PE X (.Constant (.int i) j pos) (tC (.int i)) := fun _ _ _ H _ I h => wpAny_Constant_int ⟨.int i, H, I.tok _, ⟨_, rfl⟩, h⟩
theorem pe_bl {b j pos} : PE X (.Constant (.bool b) j pos) (tC (.bl b)) := fun _ _ _ H _ I h => Constant_bool ⟨.bl b, H, I, rfl, h⟩
theorem pe_non {j pos} : PE X (.Constant .none j pos) (tC .non) := fun _ _ _ H _ I h => Constant_none ⟨.non, H, I, rfl, h⟩
theorem pe_str {x j pos} : PE X (.Constant (.str x) j pos) (tC (.str x)) := fun _ _ _ H _ I h => Calls.Constant_str ⟨.str x, H, I.tok _, ⟨_, rfl⟩, h⟩
noncomputable def Gl (X : Cx) (x : Str) : Prop := X.env.kindOf x = some .globalImplicit
theorem ld_glob {E : Value → Shared → Prop} {pins : List (Addr × Obj)} {s : Shared} {σ : St} {H : Hp} {x : Str} {u : Value} {pos : Pos} {Q : Value → Shared → Prop} (I : Inv X pins σ H s) (hg : Gl X x) (hm : X.mg x = some u) (h : Q u s)
  (hd : (x == ("__debug__" : Str)) = false := by decide) : wpAny (model X.prog X.w) X.A (eval (.Name x pos) X.env) Q E s :=
 Calls.Name_function_global I.ok.kind hg (Calls.loadGlobal_global (by rw [I.ok.glob]; exact I.mod.glob.keeps I.bk) hm h) hd
theorem ld_blt {E : Value → Shared → Prop} {pins : List (Addr × Obj)} {s : Shared} {σ : St} {H : Hp} {x : Str} {u : Value} {pos : Pos} {Q : Value → Shared → Prop} (I : Inv X pins σ H s) (hg : Gl X x) (hm : X.mg x = none) (hv : bootBuiltins x = some u) (h : Q u s)
  (hn : x ≠ "__name__" := by decide) (hd : (x == ("__debug__" : Str)) = false := by decide) : wpAny (model X.prog X.w) X.A (eval (.Name x pos) X.env) Q E s := by
 obtain ⟨mb, h1, h2⟩ := I.mod.blt
 exact Calls.Name_function_global I.ok.kind hg (Calls.loadGlobal_builtin (by rw [I.ok.glob]; exact I.mod.glob.keeps I.bk) hm (by rw [I.ok.blt]; exact h1.keeps I.bk) ((h2 x hn).trans hv) h) hd
theorem pe_glob {x : Str} {v : V} {u : Value} {pos : Pos} (hg : Gl X x) (hm : X.mg x = some u) (r : RelV v u) (hd : (x == ("__debug__" : Str)) = false := by decide) : PE X (.Name x pos) (tC v) :=
 fun _ _ _ H _ I h => ld_glob I hg hm ⟨v, H, I, r, h⟩ hd
theorem pe_bltn {x : Str} {v : V} {u : Value} {pos : Pos} (hg : Gl X x) (hm : X.mg x = none) (hv : bootBuiltins x = some u) (r : RelV v u) (hn : x ≠ "__name__" := by decide) (hd : (x == ("__debug__" : Str)) = false := by decide) : PE X (.Name x pos) (tC v) :=
 fun _ _ _ H _ I h => ld_blt I hg hm hv ⟨v, H, I, r, h⟩ hn hd
variable {a b : Expr} {ta tb : TE} {pos : Pos}
noncomputable def PC (X : Cx) (op : CmpOp) (a b : Expr) (t : TE) : Prop :=
 ∀ (pins : List (Addr × Obj)) (s : Shared) (σ : St) (H : Hp) (Q : VK), Inv X pins σ H s → t σ H Q →
  wpAny (model X.prog X.w) X.A (eval a X.env) (fun v s₁ => wpAny (model X.prog X.w) X.A (eval b X.env) (fun u s₂ => wpAny (model X.prog X.w) X.A (compareOp op v u) (EP X pins σ Q) X.xe s₂) X.xe s₁) X.xe s
theorem nobehind (b : Expr) {op : CmpOp} (h : op ≠ .In) (h2 : op ≠ .NotIn) : behindInMarks op b = false := by
 have e1 : (op == CmpOp.In) = false := by cases op <;> first | rfl | exact absurd rfl h
 have e2 : (op == CmpOp.NotIn) = false := by cases op <;> first | rfl | exact absurd rfl h2
 cases b <;> simp [behindInMarks, e1, e2]
noncomputable def tNotN (ta : TE) : TE := fun σ H Q => ta σ H fun x H1 => Q (.bl (!decide (x = .non))) H1
theorem RelV.none_iff {x : V} {v : Value} (r : RelV x v) : (v == Value.none) = decide (x = .non) := by
 cases x with
 | non => cases r; rfl
 | bl _ => cases r; rfl
 | int _ => obtain ⟨t, rfl⟩ := r; rfl
 | str _ => obtain ⟨t, rfl⟩ := r; rfl
 | byt _ => obtain ⟨t, rfl⟩ := r; rfl
 | flt _ => obtain ⟨t, rfl⟩ := r; rfl
 | ref _ => cases r; rfl
 | ty _ => cases r; rfl
theorem pc_notN {j pos'} (ha : PE X a ta) : PC X .IsNot a (.Constant .none j pos') (tNotN ta) := by
 intro pins s σ H Q I h
 refine thn (ha pins s σ H _ I h) fun v s1 ⟨x, H1, I1, r1, q1⟩ => ?_
 exact Constant_none (isnot_none_gen ⟨.bl _, H1, I1, by rw [r1.none_iff]; rfl, q1⟩)
noncomputable def tB (t : TE) : TT := fun σ H Q => t σ H fun x H1 => ∃ c, x = .bl c ∧ Q c H1
theorem pt_cmp {op : CmpOp} {t : TE} (h : PC X op a b t) (h1 : behindInMarks op b = false := by first | exact nobehind _ (by decide) (by decide) | rfl) : PT X (.Compare a [op] [b] pos) (tB t) := by
 intro pins s σ H Q I hw
 refine wpAny_isTrue_Compare1 (thn (h pins s σ H _ I hw) fun v s1 h1 => thn h1 fun u s2 h2 => thn h2 fun c s3 ⟨x, H1, I1, r1, q1⟩ => ?_) h1
 obtain ⟨d, rfl, q⟩ := q1
 cases r1
 exact wpAny_truthy_bool ⟨H1, I1, q⟩
theorem pt_val {e : Expr} {t : TE} (h : PE X e t) (he : ∀ whole, isTrue e X.env whole = (do let v ← whole; standAt e.pos; holding [v] (truthy v)) := by intro _; rfl) : PT X e (tB t) := by
 intro pins s σ H Q I hw
 refine isTrue_plain (thn (h pins s σ H _ I hw) fun v s1 ⟨x, H1, I1, r1, q1⟩ => ?_) (he _)
 obtain ⟨d, rfl, q⟩ := q1
 cases r1
 exact wpAny_truthy_bool ⟨H1, I1, q⟩
variable {tA tB' : TT} {rest : List Expr}
noncomputable def tAnd (t u : TT) : TT := fun σ H Q => t σ H fun c H1 => if c = true then u σ H1 Q else Q false H1
noncomputable def tOr (t u : TT) : TT := fun σ H Q => t σ H fun c H1 => if c = true then Q true H1 else u σ H1 Q
noncomputable def tNot (t : TT) : TT := fun σ H Q => t σ H fun c H1 => Q (!c) H1
theorem pw_and1 (ha : PT X a tA) : PW X (.BoolOp .And [a] pos) tA := by
 intro wh pins s σ H Q I h
 refine isTrue_and (thn (ha pins s σ H Q I h) fun c s1 e => ?_)
 cases c with
 | true => exact isTrue_and_nil e
 | false => exact e
theorem pw_or1 (ha : PT X a tA) : PW X (.BoolOp .Or [a] pos) tA := by
 intro wh pins s σ H Q I h
 refine isTrue_or (thn (ha pins s σ H Q I h) fun c s1 e => ?_)
 cases c with
 | false => exact isTrue_or_nil e
 | true => exact e
theorem pw_and (ha : PT X a tA) (hb : PW X (.BoolOp .And (b :: rest) pos) tB') : PW X (.BoolOp .And (a :: b :: rest) pos) (tAnd tA tB') := by
 intro wh pins s σ H Q I h
 refine isTrue_and (thn (ha pins s σ H _ I h) fun c s1 ⟨H1, I1, q1⟩ => ?_)
 cases c with
 | true => exact hb wh pins s1 σ H1 Q I1 q1
 | false => exact ⟨H1, I1, q1⟩
theorem pw_or (ha : PT X a tA) (hb : PW X (.BoolOp .Or (b :: rest) pos) tB') : PW X (.BoolOp .Or (a :: b :: rest) pos) (tOr tA tB') := by
 intro wh pins s σ H Q I h
 refine isTrue_or (thn (ha pins s σ H _ I h) fun c s1 ⟨H1, I1, q1⟩ => ?_)
 cases c with
 | true => exact ⟨H1, I1, q1⟩
 | false => exact hb wh pins s1 σ H1 Q I1 q1
theorem pt_not (ha : PT X a tA) : PT X (.UnaryOp .Not a pos) (tNot tA) := by
 intro pins s σ H Q I h
 exact isTrue_not (ha pins s σ H (fun c H1 => Q (!c) H1) I h)
noncomputable def tAndV (ta tb : TE) : TE := fun σ H Q => ta σ H fun x H1 => ∃ c, x = .bl c ∧ if c = true then tb σ H1 Q else Q (.bl false) H1
noncomputable def tNotV (ta : TE) : TE := fun σ H Q => ta σ H fun x H1 => ∃ c, x = .bl c ∧ Q (.bl (!c)) H1
theorem pe_one {op} {t : TE} (h : PE X a t) : PE X (.BoolOp op [a] pos) t := fun pins s σ H Q I hw => BoolOp_one (h pins s σ H Q I hw)
theorem pe_and (ha : PE X a ta) (hb : PE X (.BoolOp .And (b :: rest) pos) tb) : PE X (.BoolOp .And (a :: b :: rest) pos) (tAndV ta tb) := by
 intro pins s σ H Q I h
 refine BoolOp_and (thn (ha pins s σ H _ I h) fun v s1 ⟨x, H1, I1, r1, q1⟩ => ?_)
 obtain ⟨c, rfl, q1⟩ := q1
 cases r1
 refine wpAny_truthy_bool ?_
 cases c with
 | true => exact hb pins s1 σ H1 Q I1 q1
 | false => exact ⟨.bl false, H1, I1, rfl, q1⟩
theorem pe_not (ha : PE X a ta) : PE X (.UnaryOp .Not a pos) (tNotV ta) := by
 intro pins s σ H Q I h
 refine UnaryOp_ (thn (ha pins s σ H _ I h) fun v s1 ⟨x, H1, I1, r1, q1⟩ => ?_)
 obtain ⟨c, rfl, q1⟩ := q1
 cases r1
 exact not_of (wpAny_truthy_bool ⟨.bl (!c), H1, I1, rfl, q1⟩)
noncomputable def tIf (t : TT) (ta tb : TE) : TE := fun σ H Q => t σ H fun c H1 => if c = true then ta σ H1 Q else tb σ H1 Q
theorem pe_ifExp {c : Expr} (hc : PT X c tA) (ha : PE X a ta) (hb : PE X b tb) : PE X (.IfExp c a b pos) (tIf tA ta tb) := by
 intro pins s σ H Q I h
 refine wpAny_IfExp (thn (hc pins s σ H _ I h) fun d s1 ⟨H1, I1, q1⟩ => ?_)
 cases d with
 | true => exact ha pins s1 σ H1 Q I1 q1
 | false => exact hb pins s1 σ H1 Q I1 q1
end
noncomputable def SqL (K : PySem.W.Frag) (H : Hp) (a : Addr) (xs : List V) : Prop :=
 Rd H a (.lst xs) ∨
  ∃ (o : Obj) (its : Array Value) (n : Nat), K.lookup a = some o ∧ o.cls = .type "list" ∧ o.dict = none ∧ o.data = .seq its n ∧ its.size ≤ sizeLine ∧ Vals xs its.toList
noncomputable def SqT (K : PySem.W.Frag) (H : Hp) (a : Addr) (xs : List V) : Prop :=
 Rd H a (.tup xs) ∨
  ∃ (o : Obj) (its : Array Value) (n : Nat), K.lookup a = some o ∧ o.cls = .type "tuple" ∧ o.data = .seq its n ∧ its.size ≤ sizeLine ∧ Vals xs its.toList
noncomputable def absV : Value → Option V
 | .none => some .non
 | .bool b => some (.bl b)
 | .int i _ => some (.int i)
 | .str x _ => some (.str x)
 | .bytes b _ => some (.byt b)
 | .float b _ => some (.flt b)
 | .ref a => some (.ref a)
 | .type n => some (.ty n)
 | _ => none
theorem RelV.abs {x : V} {u : Value} (r : RelV x u) : absV u = some x := by
 cases x with
 | non => cases r; rfl
 | bl _ => cases r; rfl
 | int _ => obtain ⟨t, rfl⟩ := r; rfl
 | str _ => obtain ⟨t, rfl⟩ := r; rfl
 | byt _ => obtain ⟨t, rfl⟩ := r; rfl
 | flt _ => obtain ⟨t, rfl⟩ := r; rfl
 | ref _ => cases r; rfl
 | ty _ => cases r; rfl
theorem RelV.inj {x y : V} {u : Value} (r : RelV x u) (q : RelV y u) : x = y := Option.some.inj (r.abs.symm.trans q.abs)
theorem Vals.inj : ∀ {xs ys : List V} {us : List Value}, Vals xs us → Vals ys us → xs = ys
 | _, _, _, .nil, .nil => rfl
 | _, _, _, .cons r t, .cons r' t' => by rw [r.inj r', Vals.inj t t']
section
variable {X : Cx} {pins : List (Addr × Obj)} {σ : St} {H : Hp} {s : Shared} {a : Addr} {xs ys : List V}
theorem SqL.of {K : PySem.W.Frag} (h : H a = some (.lst xs)) : SqL K H a xs := .inl (.inl h)
theorem SqT.of {K : PySem.W.Frag} (h : H a = some (.tup xs)) : SqT K H a xs := .inl (.inl h)
theorem Inv.list (I : Inv X pins σ H s) (h : SqL X.K H a xs) : ∃ its : List Value, Vals xs its ∧ PlainL s.heap a its.toArray ∧ xs.length ≤ sizeLine := by
 rcases h with h | ⟨o, its, n, hk, hc, hd, hs, hz, r⟩
 ·obtain ⟨z, its, n, r, e⟩ := h.ok I.hok
  exact ⟨its, r, ⟨_, n, e, rfl, rfl, rfl⟩, z⟩
 ·refine ⟨its.toList, r, ⟨o, n, I.kIn a o hk, hc, hd, by simpa using hs⟩, ?_⟩
  have e := r.length
  simp only [Array.length_toList] at e
  omega
theorem Inv.tuple (I : Inv X pins σ H s) (h : SqT X.K H a xs) : ∃ its : List Value, Vals xs its ∧ IsTup s.heap a its.toArray ∧ xs.length ≤ sizeLine := by
 rcases h with h | ⟨o, its, n, hk, hc, hs, hz, r⟩
 ·obtain ⟨z, its, r, p⟩ := h.ok I.hok
  exact ⟨its, r, p, z⟩
 ·refine ⟨its.toList, r, ⟨o, I.kIn a o hk, hc, n, by simpa using hs⟩, ?_⟩
  have e := r.length
  simp only [Array.length_toList] at e
  omega
theorem Inv.list_inj (I : Inv X pins σ H s) (h : SqL X.K H a xs) (h' : SqL X.K H a ys) : xs = ys := by
 obtain ⟨its, r, ⟨o, n, e, _, _, d⟩, _⟩ := I.list h
 obtain ⟨its', r', ⟨o', n', e', _, _, d'⟩, _⟩ := I.list h'
 rw [e] at e'; cases e'
 rw [d] at d'
 injection d' with d1 _
 have : its = its' := by simpa using congrArg Array.toList d1
 subst this
 exact r.inj r'
theorem Inv.tuple_inj (I : Inv X pins σ H s) (h : SqT X.K H a xs) (h' : SqT X.K H a ys) : xs = ys := by
 obtain ⟨its, r, ⟨o, e, _, n, d⟩, _⟩ := I.tuple h
 obtain ⟨its', r', ⟨o', e', _, n', d'⟩, _⟩ := I.tuple h'
 rw [e] at e'; cases e'
 rw [d] at d'
 injection d' with d1 _
 have : its = its' := by simpa using congrArg Array.toList d1
 subst this
 exact r.inj r'
end
noncomputable abbrev Cx.wish (X : Cx) (E : Value → Shared → Prop) : Cx := { X with xe := E }
noncomputable abbrev Cx.nox (X : Cx) : Cx := X.wish fun _ _ => False
theorem Cx.Ok.wish {X : Cx} (ok : X.Ok) (E : Value → Shared → Prop) : (X.wish E).Ok :=
 ⟨ok.mod, ok.kind, ok.glob, ok.blt, ok.above, ok.inj, ok.has, ok.cab, ok.hd, ok.frames, ok.stk, ok.exf, ok.bs, ok.bsz, ok.noex, ok.exfs, ok.funs, ok.frf⟩
theorem Cx.Ok.unwish {X : Cx} {E : Value → Shared → Prop} (ok : (X.wish E).Ok) : X.Ok :=
 ⟨ok.mod, ok.kind, ok.glob, ok.blt, ok.above, ok.inj, ok.has, ok.cab, ok.hd, ok.frames, ok.stk, ok.exf, ok.bs, ok.bsz, ok.noex, ok.exfs, ok.funs, ok.frf⟩
section
variable {X : Cx} {pins : List (Addr × Obj)} {σ : St} {H : Hp} {s : Shared} {E : Value → Shared → Prop}
theorem Inv.wish (I : Inv X pins σ H s) (E : Value → Shared → Prop) : Inv (X.wish E) pins σ H s := ⟨I.ok.wish E, I.os, I.bare, I.base, I.loc, I.cell, I.free, I.freeC, I.pin, I.hok, I.len⟩
theorem Inv.unwish (I : Inv (X.wish E) pins σ H s) : Inv X pins σ H s := ⟨I.ok.unwish, I.os, I.bare, I.base, I.loc, I.cell, I.free, I.freeC, I.pin, I.hok, I.len⟩
theorem SP.unwish {D : Ends} {f : Flow} {s' : Shared} (h : SP (X.wish E) pins D f s') : SP X pins D f s' := by
 cases f with
 | next => obtain ⟨σ', H', I, q⟩ := h; exact ⟨σ', H', I.unwish, q⟩
 | brk => obtain ⟨σ', H', I, q⟩ := h; exact ⟨σ', H', I.unwish, q⟩
 | cont => obtain ⟨σ', H', I, q⟩ := h; exact ⟨σ', H', I.unwish, q⟩
 | ret u => obtain ⟨v, σ', H', I, r, q⟩ := h; exact ⟨v, σ', H', I.unwish, r, q⟩
theorem PSs.nox {st : List Stmt} {t : TS} (h : PSs X.nox st t) : PSs X st t := fun pins s σ H D I hw =>
 wpAny_mono (h pins s σ H D (I.wish _) hw) (fun _ _ q => q.unwish) fun _ _ z => False.elim z
end
section
variable {X : Cx} {st : Stmt} {rest : List Stmt} {t u : TS} {e : Expr} {te : TE} {pos : Pos}
noncomputable def tNext : TS := fun D σ H => D.nx σ H
noncomputable def tSeq (t u : TS) : TS := fun D σ H => t { D with nx := u D } σ H
theorem pss_nil : PSs X [] tNext := fun _ _ σ H _ I h => wpAny_execs_nil ⟨σ, H, I, h⟩
theorem pss_cons (h1 : PS X st t) (h2 : PSs X rest u) : PSs X (st :: rest) (tSeq t u) := by
 intro pins s σ H D I h
 refine wpAny_execs_cons (thn (h1 pins s σ H { D with nx := u D } I h) fun f s1 q => ?_)
 cases f with
 | next =>
  obtain ⟨σ', H', I', q⟩ := q
  exact h2 pins s1 σ' H' D I' q
 | ret v => exact q
 | brk => exact q
 | cont => exact q
theorem pss_one (h1 : PS X st t) : PSs X [st] t := by
 intro pins s σ H D I h
 refine wpAny_execs_cons (thn (h1 pins s σ H D I h) fun f s1 q => ?_)
 cases f with
 | next => exact wpAny_execs_nil q
 | ret v => exact q
 | brk => exact q
 | cont => exact q
theorem Inv.quiet {pins : List (Addr × Obj)} {σ : St} {H : Hp} {s : Shared} (I : Inv X pins σ H s) : interactive X.env = false := by simp [interactive, I.ok.kind]
noncomputable def tDrop (te : TE) : TS := fun D σ H => te σ H fun _ H1 => D.nx σ H1
theorem ps_expr (he : PE X e te) (hs : swapsWith e none pos.line X.env = pure false := by rfl) : PS X (.Expr e pos) (tDrop te) := by
 intro pins s σ H D I h
 exact wpAny_Expr_any (thn (he pins s σ H _ I h) fun v s1 ⟨x, H1, I1, r1, q1⟩ => ⟨σ, H1, I1, q1⟩) I.quiet hs
noncomputable def tRet (te : TE) : TS := fun D σ H => te σ H D.rt
theorem ps_ret (he : PE X e te) : PS X (.Return (some e) pos) (tRet te) := by
 intro pins s σ H D I h
 exact wpAny_Return_some (thn (he pins s σ H _ I h) fun v s1 ⟨x, H1, I1, r1, q1⟩ => ⟨x, σ, H1, I1, r1, q1⟩)
noncomputable def tIfS (c : TT) (t u : TS) : TS := fun D σ H => c σ H fun b H1 => if b = true then t D σ H1 else u D σ H1
theorem ps_if {c : Expr} {a b : List Stmt} {tc : TT} (hc : PT X c tc) (ha : PSs X a t) (hb : PSs X b u) : PS X (.If c a b pos) (tIfS tc t u) := by
 intro pins s σ H D I h
 refine wpAny_If (thn (hc pins s σ H _ I h) fun d s1 ⟨H1, I1, q1⟩ => ?_)
 cases d with
 | true => exact ha pins s1 σ H1 D I1 q1
 | false => exact hb pins s1 σ H1 D I1 q1
end
noncomputable abbrev TG := V → St → Hp → (St → Hp → Prop) → Prop
noncomputable abbrev TGs := List V → St → Hp → (St → Hp → Prop) → Prop
noncomputable def PG (X : Cx) (target : Expr) (t : TG) : Prop :=
 ∀ (pins : List (Addr × Obj)) (s : Shared) (σ : St) (H : Hp) (v : V) (u : Value) (Q : St → Hp → Prop), Inv X pins σ H s → RelV v u → t v σ H Q →
  wpAny (model X.prog X.w) X.A (assign target X.env u) (fun _ s' => ∃ σ' H', Inv X pins σ' H' s' ∧ Q σ' H') X.xe s
noncomputable def PGs (X : Cx) (ts : List Expr) (t : TGs) : Prop :=
 ∀ (pins : List (Addr × Obj)) (s : Shared) (σ : St) (H : Hp) (vs : List V) (us : List Value) (Q : St → Hp → Prop), Inv X pins σ H s → Vals vs us → t vs σ H Q →
  wpAny (model X.prog X.w) X.A (assignInOrder ((assignEach ts X.env).map (·.2)) us) (fun _ s' => ∃ σ' H', Inv X pins σ' H' s' ∧ Q σ' H') X.xe s
noncomputable abbrev TSet := V → V → V → Hp → (Hp → Prop) → Prop
noncomputable def PSet (X : Cx) (t : TSet) : Prop :=
 ∀ (pins : List (Addr × Obj)) (s : Shared) (σ : St) (H : Hp) (o i v : V) (ov iv u : Value) (Q : Hp → Prop), Inv X pins σ H s → RelV o ov → RelV i iv → RelV v u → t o i v H Q →
  wpAny (model X.prog X.w) X.A (setItem ov iv u) (fun _ s' => ∃ H', Inv X pins σ H' s' ∧ Q H') X.xe s
section
variable {X : Cx} {pos : Pos}
noncomputable def gName (i : Nat) : TG := fun v σ H Q => Q (σ.set i (some v)) H
theorem pg_name {i : Nat} {x : Str} (hN : X.N.Nodup) (hi : X.N[i]? = some x) (hx : Loc X.env.scope x) (hf : X.fn x = true ∨ X.env.scope.names.lookup x = some .local := by first | exact .inl rfl | exact .inr rfl | assumption) : PG X (.Name x pos) (gName i) := by
 intro pins s σ H v u Q I r h
 exact wpAny_assign_Name (store_ok I hN hi hx r (fun s' I' => ⟨_, H, I', h⟩) hf)
noncomputable def gNil : TGs := fun vs σ H Q => vs = [] ∧ Q σ H
noncomputable def gCons (t : TG) (u : TGs) : TGs := fun vs σ H Q => ∃ v r, vs = v :: r ∧ t v σ H fun σ' H' => u r σ' H' Q
theorem pgs_nil : PGs X [] gNil := by
 intro pins s σ H vs us Q I r h
 obtain ⟨e, h⟩ := h
 subst e
 cases r
 exact assignInOrder_nil ⟨σ, H, I, h⟩
theorem pgs_cons {e : Expr} {es : List Expr} {t : TG} {u : TGs} (h1 : PG X e t) (h2 : PGs X es u)
  (hs : (assignEach (e :: es) X.env).map (·.2) = assign e X.env :: (assignEach es X.env).map (·.2) := by rfl) : PGs X (e :: es) (gCons t u) := by
 intro pins s σ H vs us Q I r h
 obtain ⟨v, vr, e1, h⟩ := h
 subst e1
 cases r with
 | cons r rr =>
  rw [hs]
  refine assignInOrder_cons (thn (h1 pins s σ H _ _ _ I r h) fun _ s1 ⟨σ1, H1, I1, q1⟩ => ?_)
  exact h2 pins s1 σ1 H1 _ _ Q I1 rr q1
noncomputable def gTup (K : PySem.W.Frag) (n : Nat) (t : TGs) : TG := fun v σ H Q => ∃ a xs, v = .ref a ∧ SqT K H a xs ∧ xs.length = n ∧ t xs σ H Q
theorem pg_tup {es : List Expr} {k : Nat} {t : TGs} {n : Nat} (hc : X.calm = true) (h : PGs X es t)
  (hn : (assignEach es X.env).length = n := by rfl) (hst : (assignEach es X.env).findIdx? (·.1) = none := by rfl) : PG X (.Tuple es k pos) (gTup X.K n t) := by
 intro pins s σ H v u Q I r hw
 obtain ⟨a, xs, e1, hq, hl, hw⟩ := hw
 subst e1
 cases r
 obtain ⟨its, rv, ht, hz⟩ := I.tuple hq
 refine assign_Tuple_tuple (I.ok.hd hc) ht (by simp [hn, ← hl, rv.length]) hst fun h' hx => ?_
 have I1 : Inv X pins σ H { s with heap := h' } := I.kept (t' := s.toks) fun b o e => hx b o (Nat.ne_of_lt (Heap.lt_size e)) e
 exact h pins _ σ H xs _ Q I1 (by simpa using rv) hw
noncomputable def gSub (to ti : TE) (t : TSet) : TG := fun v σ H Q => to σ H fun o H1 => ti σ H1 fun i H2 => t o i v H2 fun H3 => Q σ H3
theorem pg_sub {o i : Expr} {to ti : TE} {t : TSet} (ho : PE X o to) (hi : PE X i ti) (hs : PSet X t)
  (ha : ∀ v, assign (.Subscript o i pos) X.env v = (do
   let ov ← holding [v] (eval o X.env)
   let iv ← holding [v, ov] (eval i X.env)
   standAt pos
   holding [v, ov, iv] (setItem ov iv v)
   release [v, ov, iv] []) := by intro _; rfl) : PG X (.Subscript o i pos) (gSub to ti t) := by
 intro pins s σ H v u Q I r h
 rw [ha]
 refine wpAny_bind (wpAny_holding (thn (ho pins s σ H _ I h) fun ov s1 ⟨x, H1, I1, r1, q1⟩ => ?_))
 refine wpAny_bind (wpAny_holding (thn (hi pins s1 σ H1 _ I1 q1) fun iv s2 ⟨y, H2, I2, r2, q2⟩ => ?_))
 refine wpAny_bind (wpAny_standAt (wpAny_bind (wpAny_holding (thn (hs pins s2 σ H2 x y v ov iv u _ I2 r1 r2 r q2) fun _ s3 ⟨H3, I3, q3⟩ => ?_))))
 exact wpAny_release ⟨σ, H3, I3, q3⟩
noncomputable def tAsg (te : TE) (g : TG) : TS := fun D σ H => te σ H fun x H1 => g x σ H1 D.nx
theorem ps_asg {tg e : Expr} {te : TE} {g : TG} (he : PE X e te) (hg : PG X tg g) (hs : swapsWithSole [tg] e pos.line X.env = pure false := by rfl) (hw : swappedStores [tg] e X.env = pure none := by rfl)
  (h1 : (assignEach [tg] X.env).map (·.2) = [assign tg X.env] := by rfl) : PS X (.Assign [tg] e pos) (tAsg te g) := by
 intro pins s σ H D I h
 refine wpAny_Assign_stores (thn (he pins s σ H _ I h) fun v s1 ⟨x, H1, I1, r1, q1⟩ => ?_) hs hw
 rw [h1]
 exact thn (hg pins s1 σ H1 x v _ I1 r1 q1) fun _ s2 q => q
theorem ps_set {i : Nat} {x : Str} {e : Expr} {te : TE} {pos' : Pos} (hN : X.N.Nodup) (hi : X.N[i]? = some x) (hx : Loc X.env.scope x) (he : PE X e te) (hs : swapsWith e (some (.Name x pos')) pos.line X.env = pure false := by rfl) (hf : X.fn x = true ∨ X.env.scope.names.lookup x = some .local := by first | exact .inl rfl | exact .inr rfl | assumption) :
  PS X (.Assign [.Name x pos'] e pos) (tAsg te (gName i)) := by
 intro pins s σ H D I h
 refine wpAny_Assign_Name (thn (he pins s σ H _ I h) fun v s1 ⟨y, H1, I1, r1, q1⟩ => ?_) hs
 exact store_ok I1 hN hi hx r1 (fun s2 I2 => ⟨_, H1, I2, q1⟩) hf
end
structure It where
 go : Nat → Hp → Prop
 yld : Nat → Hp → V → Hp → Prop
 stop : Nat → Hp → Prop
noncomputable def FpOk (X : Cx) (pins : List (Addr × Obj)) (H : Hp) (b : Addr) : Prop :=
 H b = none ∧ b ≠ X.env.locals ∧ b ∉ X.fs ∧ (b ∈ X.ex ∨ X.s₀.heap.objs.size ≤ b) ∧ (∀ x c, X.env.cells.lookup x = some c → c ≠ b) ∧ ∀ p ∈ X.pn ++ pins, p.1 ≠ b
theorem Inv.fpOk {X : Cx} {pins : List (Addr × Obj)} {σ : St} {H H' : Hp} {s : Shared} {b : Addr} (I : Inv X pins σ H s) (hb : s.heap.objs.size ≤ b) (hn : H' b = none) : FpOk X pins H' b := by
 refine ⟨hn, Nat.ne_of_gt (Nat.lt_of_lt_of_le I.lt hb), I.nofs hb, .inr (Nat.le_trans I.sz hb), fun x c e z => ?_, fun p hp z => ?_⟩
 ·obtain ⟨v, q⟩ := I.cell x c e
  exact absurd (Nat.lt_of_lt_of_le q.lt (by rw [z]; exact hb)) (Nat.lt_irrefl _)
 ·exact absurd (Nat.lt_of_lt_of_le (Heap.lt_size (I.pin p hp).1) (by rw [z]; exact hb)) (Nat.lt_irrefl _)
structure Turn (P : Program) (w : World) (K : PySem.W.Frag) (tg : Expr) (J : It) (fp : List Addr) (it : Addr) (tn : Nat → Heap → Prop) : Prop where
 mem : it ∈ fp
 obj : ∀ i h, tn i h → ∀ b ∈ fp, ∃ o, h.get? b = some o ∧ ∀ v, o.data ≠ .cell v
 keep : ∀ i h h', tn i h → (∀ b ∈ fp, ∀ o, h.get? b = some o → h'.get? b = some o) → tn i h'
 item : ∀ (X : Cx), X.prog = P → X.w = w → X.K = K → X.calm = true → ∀ (i : Nat) (pins : List (Addr × Obj)) (s : Shared) (σ : St) (H : Hp) (E : Value → Shared → Prop), Inv X pins σ H s → (∀ b ∈ fp, FpOk X pins H b) → tn i s.heap → J.go i H →
  wpAny (model P w) X.A (pyNext (.ref it)) (fun r s1 => ∃ u, r = some u ∧
   wpAny (model P w) X.A (letOwnedTupleGo tg (.ref it) u) (fun _ s2 => ∃ x H', Inv X pins σ H' s2 ∧ RelV x u ∧ J.yld i H x H' ∧ tn (i + 1) s2.heap ∧ ∀ b ∈ fp, H' b = none) E s1) E s
 done : ∀ (X : Cx), X.prog = P → X.w = w → X.K = K → X.calm = true → ∀ (i : Nat) (pins : List (Addr × Obj)) (s : Shared) (σ : St) (H : Hp) (E : Value → Shared → Prop), Inv X pins σ H s → (∀ b ∈ fp, FpOk X pins H b) → tn i s.heap → J.stop i H →
  wpAny (model P w) X.A (pyNext (.ref it)) (fun r s1 => r = none ∧ Inv X pins σ H s1) E s
 self : ∀ (A : Around) (i : Nat) (s : Shared) (Q : Value → Shared → Prop) (E : Value → Shared → Prop), tn i s.heap → Q (.ref it) s → wpAny (model P w) A (pyIter (.ref it)) Q E s
noncomputable abbrev TI := St → Hp → (It → Hp → Prop) → Prop
noncomputable def PIE (X : Cx) (pins : List (Addr × Obj)) (σ : St) (tg : Expr) (R : It → Hp → Prop) (itv : Value) (s2 : Shared) : Prop :=
 ∃ (it : Addr) (fp : List Addr) (tn : Nat → Heap → Prop) (J : It) (H' : Hp), itv = .ref it ∧ Inv X pins σ H' s2 ∧ Turn X.prog X.w X.K tg J fp it tn ∧ tn 0 s2.heap ∧ (∀ b ∈ fp, FpOk X pins H' b) ∧ R J H'
noncomputable def PI (X : Cx) (tg iter : Expr) (wi : TI) : Prop :=
 ∀ (pins : List (Addr × Obj)) (s : Shared) (σ : St) (H : Hp) (R : It → Hp → Prop), Inv X pins σ H s → wi σ H R →
  wpAny (model X.prog X.w) X.A (eval iter X.env) (fun v s1 => wpAny (model X.prog X.w) X.A (pyIter v) (PIE X pins σ tg R) X.xe s1) X.xe s
theorem go_of {M : Model} {A : Around} {E : Value → Shared → Prop} {s : Shared} {tg : Expr} {it : Addr} {u : Value} {o : Obj} {n : String} {vs : Array Value} {Q : Unit → Shared → Prop} (ho : s.heap.get? it = some o) (hc : o.cls = .type n) (hd : o.data = .fields vs)
    (hn : ["enumerate", "zip", "dict_itemiterator", "dict_reverseitemiterator", "odict_iterator", "itertools.zip_longest", "itertools.pairwise"].contains n = false) (hQ : Q () s) : wpAny M A (letOwnedTupleGo tg (.ref it) u) Q E s := by
  unfold letOwnedTupleGo
  cases tg <;> first
    | exact wpAny_pure hQ
    | (cases u <;> first
        | exact wpAny_pure hQ
        | (refine wpAny_bind (wpAny_load ho ?_)
           rw [hc, hd]
           show wpAny M A (if (["enumerate", "zip", "dict_itemiterator", "dict_reverseitemiterator", "odict_iterator", "itertools.zip_longest", "itertools.pairwise"].contains n && vs[0]? == some (rawInt _)) = true then _ else _) Q E s
           rw [if_neg (by intro h; rw [hn, Bool.false_and] at h; cases h)]
           exact wpAny_pure hQ))
noncomputable def Itl (K : PySem.W.Frag) (a : Addr) : It :=
 ⟨fun i H => ∃ xs x, SqL K H a xs ∧ xs[i]? = some x, fun i H x H' => H' = H ∧ ∀ xs, SqL K H a xs → xs[i]? = some x, fun i H => ∃ xs, SqL K H a xs ∧ xs.length ≤ i⟩
noncomputable def Itt (K : PySem.W.Frag) (a : Addr) : It :=
 ⟨fun i H => ∃ xs x, SqT K H a xs ∧ xs[i]? = some x, fun i H x H' => H' = H ∧ ∀ xs, SqT K H a xs → xs[i]? = some x, fun i H => ∃ xs, SqT K H a xs ∧ xs.length ≤ i⟩
noncomputable def Itr (lo : Int) (n : Nat) : It := ⟨fun i _ => i < n, fun i H x H' => H' = H ∧ x = .int (lo + i), fun i _ => n ≤ i⟩
theorem turn_list {P : Program} {w : World} {K : PySem.W.Frag} {tg : Expr} (a it : Addr) : Turn P w K tg (Itl K a) [it] it (fun i h => h.IsListIter it a i) where
 mem := by simp
 obj := fun i h st b hb => by
  have e : b = it := by simpa using hb
  subst e
  obtain ⟨o, e, c, d⟩ := st
  exact ⟨o, e, fun v z => by rw [d] at z; cases z⟩
 keep := fun i h h' st k => st.at fun o e => k it (by simp) o e
 item := by
  intro X hP hw hK hc i pins s σ H E I hf st hg
  subst hP hw hK
  obtain ⟨xs, x, hq, hx⟩ := hg
  obtain ⟨its, rv, p, hz⟩ := I.list hq
  obtain ⟨u, hu, ru⟩ := rv.get hx
  obtain ⟨f0, f1, f2, f3, f4, f5⟩ := hf it (by simp)
  refine wpAny_pyNext_list_item st p.isList (x := u) (by simpa using hu) fun h' st' sb => ?_
  have I1 : Inv X pins σ H { s with heap := h' } := I.turned (t' := s.toks) (fun b o hb e => (sb.2 b hb).trans e) f0 f1 f3 f4 f5
  obtain ⟨o, e, c, d⟩ := id st'
  exact ⟨u, rfl, go_of (s := { s with heap := h' }) e c d (by decide) ⟨x, H, I1, ru, ⟨rfl, fun ys hy => by rw [I.list_inj hy hq]; exact hx⟩, st', fun b hb => (hf b hb).1⟩⟩
 done := by
  intro X hP hw hK hc i pins s σ H E I hf st hg
  subst hP hw hK
  obtain ⟨xs, hq, hx⟩ := hg
  obtain ⟨its, rv, p, hz⟩ := I.list hq
  obtain ⟨f0, f1, f2, f3, f4, f5⟩ := hf it (by simp)
  have hl := rv.length
  exact wpAny_pyNext_list_end (I.ok.hd hc) st p.isList (by simp; omega) fun h' eb => ⟨rfl, I.turned (t' := s.toks) (fun b o hb e => eb b o hb e) f0 f1 f3 f4 f5⟩
 self := fun _ _ _ _ _ st h => wpAny_pyIter_listiter st h
theorem turn_tuple {P : Program} {w : World} {K : PySem.W.Frag} {tg : Expr} (a it : Addr) : Turn P w K tg (Itt K a) [it] it (fun i h => h.IsTupleIter it a i) where
 mem := by simp
 obj := fun i h st b hb => by
  have e : b = it := by simpa using hb
  subst e
  obtain ⟨o, e, c, d⟩ := st
  exact ⟨o, e, fun v z => by rw [d] at z; cases z⟩
 keep := fun i h h' st k => st.at fun o e => k it (by simp) o e
 item := by
  intro X hP hw hK hc i pins s σ H E I hf st hg
  subst hP hw hK
  obtain ⟨xs, x, hq, hx⟩ := hg
  obtain ⟨its, rv, p, hz⟩ := I.tuple hq
  obtain ⟨u, hu, ru⟩ := rv.get hx
  obtain ⟨f0, f1, f2, f3, f4, f5⟩ := hf it (by simp)
  refine wpAny_pyNext_tuple_item st (show s.heap.IsTuple a its.toArray from p) (x := u) (by simpa using hu) fun h' st' sb => ?_
  have I1 : Inv X pins σ H { s with heap := h' } := I.turned (t' := s.toks) (fun b o hb e => (sb.2 b hb).trans e) f0 f1 f3 f4 f5
  obtain ⟨o, e, c, d⟩ := id st'
  exact ⟨u, rfl, go_of (s := { s with heap := h' }) e c d (by decide) ⟨x, H, I1, ru, ⟨rfl, fun ys hy => by rw [I.tuple_inj hy hq]; exact hx⟩, st', fun b hb => (hf b hb).1⟩⟩
 done := by
  intro X hP hw hK hc i pins s σ H E I hf st hg
  subst hP hw hK
  obtain ⟨xs, hq, hx⟩ := hg
  obtain ⟨its, rv, p, hz⟩ := I.tuple hq
  obtain ⟨f0, f1, f2, f3, f4, f5⟩ := hf it (by simp)
  have hl := rv.length
  exact wpAny_pyNext_tuple_end (I.ok.hd hc) st (show s.heap.IsTuple a its.toArray from p) (by simp; omega) fun h' eb => ⟨rfl, I.turned (t' := s.toks) (fun b o hb e => eb b o hb e) f0 f1 f3 f4 f5⟩
 self := fun _ _ _ _ _ st h => wpAny_pyIter_tupleiter st h
theorem turn_range {P : Program} {w : World} {K : PySem.W.Frag} {tg : Expr} (it : Addr) (lo : Int) (n : Nat) : Turn P w K tg (Itr lo n) [it] it (fun i h => IsRangeIter h it (lo + (i : Nat) * 1) ((n : Int) - (i : Nat)) 1) where
 mem := by simp
 obj := fun i h st b hb => by
  have e : b = it := by simpa using hb
  subst e
  exact ⟨_, st, fun v z => by
   have z' : Data.fields _ = Data.cell v := z
   cases z'⟩
 keep := fun i h h' st k => k it (by simp) _ st
 item := by
  intro X hP hw hK hc i pins s σ H E I hf st hg
  subst hP hw hK
  obtain ⟨f0, f1, f2, f3, f4, f5⟩ := hf it (by simp)
  have W := Walks.range (prog := X.prog) (w := X.w) (I.ok.hd hc) it lo 1 n
  refine W.item i s _ _ hg st fun v h' tk hv st' kk => ?_
  obtain ⟨t, rfl⟩ := hv
  have I1 : Inv X pins σ H { s with heap := h', toks := tk } := I.turned (fun b o hb e => kk b o (by simpa using hb) e) f0 f1 f3 f4 f5
  refine ⟨_, rfl, go_of (s := { s with heap := h', toks := tk }) (n := "range_iterator") st' rfl rfl (by decide) ⟨.int (lo + i), H, I1, ⟨t, ?_⟩, ⟨rfl, rfl⟩, st', fun b hb => (hf b hb).1⟩⟩
  rw [Int.mul_one]
 done := by
  intro X hP hw hK hc i pins s σ H E I hf st hg
  subst hP hw hK
  obtain ⟨f0, f1, f2, f3, f4, f5⟩ := hf it (by simp)
  exact wpAny_pyNext_range_end (I.ok.hd hc) st (by have : n ≤ i := hg; omega) fun h' eb => ⟨rfl, I.turned (t' := s.toks) (fun b o hb e => eb b o hb e) f0 f1 f3 f4 f5⟩
 self := fun _ _ _ _ _ st h => wpAny_pyIter_rangeiter st h
section
variable {X : Cx} {tg : Expr}
noncomputable def iList (K : PySem.W.Frag) (tl : TE) : TI := fun σ H R => tl σ H fun x H1 => ∃ a, x = .ref a ∧ (∃ xs, SqL K H1 a xs) ∧ R (Itl K a) H1
noncomputable def iTup (K : PySem.W.Frag) (tl : TE) : TI := fun σ H R => tl σ H fun x H1 => ∃ a, x = .ref a ∧ (∃ xs, SqT K H1 a xs) ∧ R (Itt K a) H1
theorem pi_list {l : Expr} {tl : TE} (hl : PE X l tl) : PI X tg l (iList X.K tl) := by
 intro pins s σ H R I h
 refine thn (hl pins s σ H _ I h) fun v s1 ⟨x, H1, I1, r1, q1⟩ => ?_
 obtain ⟨a, e, ⟨xs, hq⟩, q⟩ := q1
 subst e
 cases r1
 obtain ⟨its, rv, p, hz⟩ := I1.list hq
 refine wpAny_pyIter_list p.isList ?_
 refine ⟨s1.heap.objs.size, [s1.heap.objs.size], _, _, H1, rfl, I1.kept (t' := s1.toks) fun b o e => Heap.get?_push_of_some _ e, turn_list a _, ⟨_, Heap.get?_push_size _ rfl, rfl, rfl⟩, fun b hb => ?_, q⟩
 have e : b = s1.heap.objs.size := by simpa using hb
 subst e
 exact I1.fpOk (Nat.le_refl _) (I1.hok.fresh (Nat.le_refl _))
theorem pi_tup {l : Expr} {tl : TE} (hl : PE X l tl) : PI X tg l (iTup X.K tl) := by
 intro pins s σ H R I h
 refine thn (hl pins s σ H _ I h) fun v s1 ⟨x, H1, I1, r1, q1⟩ => ?_
 obtain ⟨a, e, ⟨xs, hq⟩, q⟩ := q1
 subst e
 cases r1
 obtain ⟨its, rv, p, hz⟩ := I1.tuple hq
 refine wpAny_pyIter_tuple (show s1.heap.IsTuple a its.toArray from p) ?_
 refine ⟨s1.heap.objs.size, [s1.heap.objs.size], _, _, H1, rfl, I1.kept (t' := s1.toks) fun b o e => Heap.get?_push_of_some _ e, turn_tuple a _, ⟨_, Heap.get?_push_size _ rfl, rfl, rfl⟩, fun b hb => ?_, q⟩
 have e : b = s1.heap.objs.size := by simpa using hb
 subst e
 exact I1.fpOk (Nat.le_refl _) (I1.hok.fresh (Nat.le_refl _))
theorem range_it {pins : List (Addr × Obj)} {σ : St} {H : Hp} {s : Shared} {R : It → Hp → Prop} {E : Value → Shared → Prop} {lo hi : Int} {t u v : Tok} {tk : Nat} (I : Inv X pins σ H s) (h1 : -(2 ^ 62) ≤ lo) (h2 : lo < 2 ^ 62) (h3 : -(2 ^ 62) ≤ hi) (h4 : hi < 2 ^ 62)
  (q : R (Itr lo (hi - lo).toNat) H) : wpAny (model X.prog X.w) X.A (pyIter (.ref s.heap.objs.size)) (PIE X pins σ tg R) E { s with heap := s.heap.push { cls := .type "range", data := .fields #[.int lo t, .int hi u, .int 1 v] }, toks := tk } := by
 refine wpAny_pyIter_range (IsRange.new ..) (small_one h1 h2 h3 h4) ?_
 have I1 : Inv X pins σ H { s with heap := s.heap.push { cls := .type "range", data := .fields #[.int lo t, .int hi u, .int 1 v] }, toks := tk } := I.kept fun b o e => Heap.get?_push_of_some _ e
 refine ⟨(s.heap.push { cls := .type "range", data := .fields #[.int lo t, .int hi u, .int 1 v] }).objs.size, [(s.heap.push { cls := .type "range", data := .fields #[.int lo t, .int hi u, .int 1 v] }).objs.size], _, _, H, rfl,
  I1.kept (t' := tk) fun b o e => Heap.get?_push_of_some _ e, turn_range _ lo (hi - lo).toNat, ?_, fun b hb => ?_, q⟩
 ·have e1 : lo + ((0 : Nat) : Int) * 1 = lo := by simp
  have e2 : (((hi - lo).toNat : Nat) : Int) - ((0 : Nat) : Int) = Builtin.Range.rangeSize lo hi 1 := by rw [rangeSize_one]; split <;> omega
  show IsRangeIter _ _ (lo + ((0 : Nat) : Int) * 1) ((((hi - lo).toNat : Nat) : Int) - ((0 : Nat) : Int)) 1
  rw [e1, e2]
  exact Heap.get?_push_size _ rfl
 ·have e : b = (s.heap.push { cls := .type "range", data := .fields #[.int lo t, .int hi u, .int 1 v] }).objs.size := by simpa using hb
  subst e
  exact I1.fpOk (Nat.le_refl _) (I1.hok.fresh (Nat.le_refl _))
noncomputable def iRng1 (ta : TA) : TI := fun σ H R => ta σ H fun vs H1 => ∃ j : Int, vs = [.int j] ∧ -(2 ^ 62) ≤ j ∧ j < 2 ^ 62 ∧ R (Itr 0 j.toNat) H1
theorem pi_range1 {a : Expr} {ta : TA} {p pos : Pos} (hg : Gl X "range") (hm : X.mg "range" = none) (ha : PA X [a] ta) (hs : starEach [a] X.env = [(false, eval a X.env)] := by rfl) : PI X tg (.Call (.Name "range" p) [a] [] pos) (iRng1 ta) := by
 intro pins s σ H R I h
 refine Call_ (ld_blt I hg hm boot_range (PyProof.Rows.callWith_type1 (thn (ha pos pins s σ H _ I h) fun us s1 ⟨vs, H1, I1, r1, q1⟩ => ?_) hs rfl))
 obtain ⟨j, e, q1, q2, q⟩ := q1
 subst e
 cases r1 with
 | cons r rr =>
  cases rr
  obtain ⟨t, rfl⟩ := r
  exact call_range_1 (range_it I1 (by omega) (by omega) q1 q2 (by simpa using q))
noncomputable def tFor (wi : TI) (g : TG) (tb : TS) : TS := fun D σ H => wi σ H fun J H1 => ∃ W : Nat → Nat → St → Hp → Prop, (∃ m, W 0 m σ H1) ∧ ∀ i m σ H, W i m σ H →
 (J.stop i H ∧ D.nx σ H) ∨ (J.go i H ∧ ∃ N : St → Hp → Prop, (∀ σ' H', N σ' H' → ∃ m', m' < m ∧ W (i + 1) m' σ' H') ∧ ∀ x H', J.yld i H x H' → g x σ H' fun σ2 H2 => tb { D with nx := N, ct := N, bk := D.nx } σ2 H2)
noncomputable def pinsAt (fp : List Addr) (h : Heap) : List (Addr × Obj) := fp.filterMap fun b => (h.get? b).map fun o => (b, o)
theorem mem_pinsAt {fp : List Addr} {h : Heap} {b : Addr} {o : Obj} (hb : b ∈ fp) (e : h.get? b = some o) : (b, o) ∈ pinsAt fp h := List.mem_filterMap.mpr ⟨b, hb, by rw [e]; rfl⟩
theorem of_pinsAt {fp : List Addr} {h : Heap} {p : Addr × Obj} (hp : p ∈ pinsAt fp h) : p.1 ∈ fp ∧ h.get? p.1 = some p.2 := by
 obtain ⟨b, hb, e⟩ := List.mem_filterMap.mp hp
 cases q : h.get? b with
 | none => rw [q] at e; cases e
 | some o =>
  rw [q] at e
  have e' : (b, o) = p := Option.some.inj e
  subst e'
  exact ⟨hb, q⟩
theorem Inv.pinned {pins : List (Addr × Obj)} {σ : St} {H : Hp} {s : Shared} {fp : List Addr} (I : Inv X pins σ H s) (hf : ∀ b ∈ fp, FpOk X pins H b) (ho : ∀ b ∈ fp, ∃ o, s.heap.get? b = some o ∧ ∀ v, o.data ≠ .cell v) : Inv X (pins ++ pinsAt fp s.heap) σ H s :=
 I.pins_of fun p hp => (List.mem_append.mp hp).elim (fun z => I.pin p (List.mem_append_right _ z)) fun z => by
  obtain ⟨hb, e⟩ := of_pinsAt z
  obtain ⟨f0, f1, f2, _⟩ := hf p.1 hb
  obtain ⟨o, e', d⟩ := ho p.1 hb
  rw [e] at e'; cases e'
  exact ⟨e, f0, f1, f2, d⟩
theorem Inv.unpinned {pins pl : List (Addr × Obj)} {σ : St} {H : Hp} {s : Shared} (I : Inv X (pins ++ pl) σ H s) : Inv X pins σ H s := I.pins_of fun p hp => I.pin p (List.mem_append_right _ (List.mem_append_left _ hp))
theorem ps_for {iter : Expr} {body : List Stmt} {wi : TI} {g : TG} {tb : TS} {pos : Pos} (hp : PassesOwn (model X.prog X.w) X.A X.env X.xe) (hc : X.calm = true) (hi : PI X tg iter wi) (hg : PG X tg g) (hb : PSs X body tb)
  (hs : ∀ x, foldedSetIterable iter X.env x = pure x := by intro _; rfl) : PS X (.For tg iter body [] pos) (tFor wi g tb) := by
 intro pins s σ H D I h
 refine wpAny_For (thn (hi pins s σ H _ I h) fun v s1 h1 => thn h1 fun itv s2 h2 => ?_) hs
 obtain ⟨it, fp, tn, J, H2, e, I2, T, st2, f2, W, ⟨m0, w0⟩, turn⟩ := h2
 subst e
 have stat : ∀ {H' : Hp}, (∀ b ∈ fp, H' b = none) → ∀ b ∈ fp, FpOk X pins H' b := fun hn b hb => ⟨hn b hb, (f2 b hb).2⟩
 refine codeAny_forLoop_any (fun n s' => ∃ i σ' H', Inv X pins σ' H' s' ∧ tn i s'.heap ∧ (∀ b ∈ fp, H' b = none) ∧ W i n σ' H') ?_ m0 ⟨0, σ, H2, I2, st2, fun b hb => (f2 b hb).1, w0⟩
 rintro n s3 ⟨i, σ3, H3, I3, st3, fr3, w3⟩
 rcases turn i n σ3 H3 w3 with ⟨stop, qn⟩ | ⟨go, N, hN, step⟩
 ·refine wpAny_passesOwn hp (thn (T.done X rfl rfl rfl hc i pins s3 σ3 H3 X.xe I3 (stat fr3) st3 stop) fun r s4 ⟨hr, I4⟩ => ?_)
  subst hr
  exact wpAny_execs_nil ⟨σ3, H3, I4, qn⟩
 ·refine wpAny_passesOwn hp (thn (T.item X rfl rfl rfl hc i pins s3 σ3 H3 X.xe I3 (stat fr3) st3 go) fun r s4 ⟨u, hr, h4⟩ => ?_)
  subst hr
  refine wpAny_passesOwn hp (thn h4 fun _ s5 ⟨x, H5, I5, r5, y5, st5, fr5⟩ => ?_)
  have I5' := I5.pinned (stat fr5) (T.obj _ _ st5)
  refine wpAny_passesOwn hp (thn (hg _ s5 σ3 H5 x u _ I5' r5 (step x H5 y5)) fun _ s6 ⟨σ6, H6, I6, q6⟩ => ?_)
  refine wpAny_passesOwn hp (thn (hb _ s6 σ6 H6 _ I6 q6) fun f s7 q7 => ?_)
  have again : ∀ {σ7 : St} {H7 : Hp}, Inv X (pins ++ pinsAt fp s5.heap) σ7 H7 s7 → N σ7 H7 → ∃ m, m < n ∧ ∃ i σ' H', Inv X pins σ' H' s7 ∧ tn i s7.heap ∧ (∀ b ∈ fp, H' b = none) ∧ W i m σ' H' := fun {σ7 H7} I7 n7 => by
   obtain ⟨m', hm, w7⟩ := hN σ7 H7 n7
   refine ⟨m', hm, i + 1, σ7, H7, I7.unpinned, T.keep _ _ _ st5 fun b hb o e => (I7.pin (b, o) (List.mem_append_right _ (List.mem_append_right _ (mem_pinsAt hb e)))).1, fun b hb => ?_, w7⟩
   obtain ⟨o, e, d⟩ := T.obj _ _ st5 b hb
   exact (I7.pin (b, o) (List.mem_append_right _ (List.mem_append_right _ (mem_pinsAt hb e)))).2.1
  cases f with
  | next => obtain ⟨σ7, H7, I7, n7⟩ := q7; exact again I7 n7
  | cont => obtain ⟨σ7, H7, I7, n7⟩ := q7; exact again I7 n7
  | brk => obtain ⟨σ7, H7, I7, q7⟩ := q7; exact ⟨σ7, H7, I7.unpinned, q7⟩
  | ret v => obtain ⟨x7, σ7, H7, I7, r7, q7⟩ := q7; exact ⟨x7, σ7, H7, I7.unpinned, r7, q7⟩
end
theorem for_list {K : PySem.W.Frag} {a : Addr} {xs : List V} {g : TG} {tb : TS} {D : Ends} {σ : St} {H : Hp} (Pv : Nat → St → Hp → Prop) (h0 : Pv 0 σ H) (hl : ∀ i σ H, i ≤ xs.length → Pv i σ H → SqL K H a xs)
  (hs : ∀ i x σ H, xs[i]? = some x → Pv i σ H → g x σ H fun σ2 H2 => tb { D with nx := Pv (i + 1), ct := Pv (i + 1), bk := D.nx } σ2 H2) (hd : ∀ σ H, Pv xs.length σ H → D.nx σ H) :
  ∃ W : Nat → Nat → St → Hp → Prop, (∃ m, W 0 m σ H) ∧ ∀ i m σ H, W i m σ H →
   ((Itl K a).stop i H ∧ D.nx σ H) ∨ ((Itl K a).go i H ∧ ∃ N : St → Hp → Prop, (∀ σ' H', N σ' H' → ∃ m', m' < m ∧ W (i + 1) m' σ' H') ∧ ∀ x H', (Itl K a).yld i H x H' → g x σ H' fun σ2 H2 => tb { D with nx := N, ct := N, bk := D.nx } σ2 H2) := by
 refine ⟨fun i m σ H => m = xs.length - i ∧ i ≤ xs.length ∧ Pv i σ H, ⟨xs.length, by simp, Nat.zero_le _, h0⟩, ?_⟩
 rintro i m σ H ⟨rfl, hi, p⟩
 have q := hl i σ H hi p
 by_cases hlt : i < xs.length
 ·refine .inr ⟨⟨xs, xs[i], q, by simp [hlt]⟩, Pv (i + 1), fun σ' H' p' => ⟨xs.length - (i + 1), by omega, rfl, hlt, p'⟩, fun x H' y => ?_⟩
  obtain ⟨e, y⟩ := y
  subst e
  exact hs i x σ _ (y xs q) p
 ·have e : i = xs.length := by omega
  subst e
  exact .inl ⟨⟨xs, q, Nat.le_refl _⟩, hd σ H p⟩
theorem for_tup {K : PySem.W.Frag} {a : Addr} {xs : List V} {g : TG} {tb : TS} {D : Ends} {σ : St} {H : Hp} (Pv : Nat → St → Hp → Prop) (h0 : Pv 0 σ H) (hl : ∀ i σ H, i ≤ xs.length → Pv i σ H → SqT K H a xs)
  (hs : ∀ i x σ H, xs[i]? = some x → Pv i σ H → g x σ H fun σ2 H2 => tb { D with nx := Pv (i + 1), ct := Pv (i + 1), bk := D.nx } σ2 H2) (hd : ∀ σ H, Pv xs.length σ H → D.nx σ H) :
  ∃ W : Nat → Nat → St → Hp → Prop, (∃ m, W 0 m σ H) ∧ ∀ i m σ H, W i m σ H →
   ((Itt K a).stop i H ∧ D.nx σ H) ∨ ((Itt K a).go i H ∧ ∃ N : St → Hp → Prop, (∀ σ' H', N σ' H' → ∃ m', m' < m ∧ W (i + 1) m' σ' H') ∧ ∀ x H', (Itt K a).yld i H x H' → g x σ H' fun σ2 H2 => tb { D with nx := N, ct := N, bk := D.nx } σ2 H2) := by
 refine ⟨fun i m σ H => m = xs.length - i ∧ i ≤ xs.length ∧ Pv i σ H, ⟨xs.length, by simp, Nat.zero_le _, h0⟩, ?_⟩
 rintro i m σ H ⟨rfl, hi, p⟩
 have q := hl i σ H hi p
 by_cases hlt : i < xs.length
 ·refine .inr ⟨⟨xs, xs[i], q, by simp [hlt]⟩, Pv (i + 1), fun σ' H' p' => ⟨xs.length - (i + 1), by omega, rfl, hlt, p'⟩, fun x H' y => ?_⟩
  obtain ⟨e, y⟩ := y
  subst e
  exact hs i x σ _ (y xs q) p
 ·have e : i = xs.length := by omega
  subst e
  exact .inl ⟨⟨xs, q, Nat.le_refl _⟩, hd σ H p⟩
theorem for_range {lo : Int} {n : Nat} {g : TG} {tb : TS} {D : Ends} {σ : St} {H : Hp} (Pv : Nat → St → Hp → Prop) (h0 : Pv 0 σ H)
  (hs : ∀ i σ H, i < n → Pv i σ H → g (.int (lo + i)) σ H fun σ2 H2 => tb { D with nx := Pv (i + 1), ct := Pv (i + 1), bk := D.nx } σ2 H2) (hd : ∀ σ H, Pv n σ H → D.nx σ H) :
  ∃ W : Nat → Nat → St → Hp → Prop, (∃ m, W 0 m σ H) ∧ ∀ i m σ H, W i m σ H →
   ((Itr lo n).stop i H ∧ D.nx σ H) ∨ ((Itr lo n).go i H ∧ ∃ N : St → Hp → Prop, (∀ σ' H', N σ' H' → ∃ m', m' < m ∧ W (i + 1) m' σ' H') ∧ ∀ x H', (Itr lo n).yld i H x H' → g x σ H' fun σ2 H2 => tb { D with nx := N, ct := N, bk := D.nx } σ2 H2) := by
 refine ⟨fun i m σ H => m = n - i ∧ i ≤ n ∧ Pv i σ H, ⟨n, by simp, Nat.zero_le _, h0⟩, ?_⟩
 rintro i m σ H ⟨rfl, hi, p⟩
 by_cases hlt : i < n
 ·refine .inr ⟨hlt, Pv (i + 1), fun σ' H' p' => ⟨n - (i + 1), by omega, rfl, hlt, p'⟩, fun x H' y => ?_⟩
  obtain ⟨e, y⟩ := y
  subst e y
  exact hs i σ _ hlt p
 ·have e : i = n := by omega
  subst e
  exact .inl ⟨Nat.le_refl _, hd σ H p⟩
noncomputable abbrev R2 := V → V → Hp → VK → Prop
noncomputable def OpR (X : Cx) (f : Value → Value → Sem Value) (r : R2) : Prop :=
 ∀ (pins : List (Addr × Obj)) (s : Shared) (σ : St) (H : Hp) (x y : V) (v u : Value) (Q : VK), Inv X pins σ H s → RelV x v → RelV y u → r x y H Q →
  wpAny (model X.prog X.w) X.A (f v u) (EP X pins σ Q) X.xe s
noncomputable def UnR (X : Cx) (f : Value → Sem Value) (r : V → Hp → VK → Prop) : Prop :=
 ∀ (pins : List (Addr × Obj)) (s : Shared) (σ : St) (H : Hp) (x : V) (v : Value) (Q : VK), Inv X pins σ H s → RelV x v → r x H Q →
  wpAny (model X.prog X.w) X.A (f v) (EP X pins σ Q) X.xe s
noncomputable def CallR (X : Cx) (f : Value) (r : List V → Hp → VK → Prop) : Prop :=
 ∀ (pins : List (Addr × Obj)) (s : Shared) (σ : St) (H : Hp) (xs : List V) (us : List Value) (Q : VK), Inv X pins σ H s → Vals xs us → r xs H Q →
  wpAny (model X.prog X.w) X.A (call f us) (EP X pins σ Q) X.xe s
noncomputable def tOp (r : R2) (ta tb : TE) : TE := fun σ H Q => ta σ H fun x H1 => tb σ H1 fun y H2 => r x y H2 Q
noncomputable def tUn (r : V → Hp → VK → Prop) (ta : TE) : TE := fun σ H Q => ta σ H fun x H1 => r x H1 Q
noncomputable def rI (C : Int → Int → Prop) (g : Int → Int → V) : R2 := fun x y H Q => ∃ i j, x = .int i ∧ y = .int j ∧ C i j ∧ Q (g i j) H
noncomputable def rI0 (g : Int → Int → V) : R2 := fun x y H Q => ∃ i j, x = .int i ∧ y = .int j ∧ Q (g i j) H
noncomputable def rU (g : Int → V) : V → Hp → VK → Prop := fun x H Q => ∃ i, x = .int i ∧ Q (g i) H
section
variable {X : Cx} {a b c : Expr} {ta tb tc : TE} {pos : Pos}
theorem binT (ha : PE X a ta) (hb : PE X b tb) {pins : List (Addr × Obj)} {s : Shared} {σ : St} {H : Hp} {R : V → V → Hp → Prop} (I : Inv X pins σ H s)
  (h : ta σ H fun x H1 => tb σ H1 fun y H2 => R x y H2) {Q : Value → Shared → Prop} {f : Value → Value → Sem Value}
  (hf : ∀ v u s2 x y H2, Inv X pins σ H2 s2 → RelV x v → RelV y u → R x y H2 → wpAny (model X.prog X.w) X.A (f v u) Q X.xe s2) :
  wpAny (model X.prog X.w) X.A (eval a X.env) (fun v s₁ => wpAny (model X.prog X.w) X.A (eval b X.env) (fun u s₂ => wpAny (model X.prog X.w) X.A (f v u) Q X.xe s₂) X.xe s₁) X.xe s := by
 refine thn (ha pins s σ H _ I h) fun v s1 ⟨x, H1, I1, r1, q1⟩ => ?_
 refine thn (hb pins s1 σ H1 _ I1 q1) fun u s2 ⟨y, H2, I2, r2, q2⟩ => ?_
 exact hf v u s2 x y H2 I2 r1 r2 q2
theorem pe_op {op : Operator} {r : R2} (ho : OpR X (binaryOp op) r) (ha : PE X a ta) (hb : PE X b tb) : PE X (.BinOp a op b pos) (tOp r ta tb) := by
 intro pins s σ H Q I h
 exact wpAny_BinOp (binT ha hb I h fun v u s2 x y H2 I2 rx ry q => ho pins s2 σ H2 x y v u Q I2 rx ry q)
theorem pe_un {op : UnaryOp} {r : V → Hp → VK → Prop} (ho : UnR X (unaryOp op) r) (ha : PE X a ta) : PE X (.UnaryOp op a pos) (tUn r ta) := by
 intro pins s σ H Q I h
 exact UnaryOp_ (thn (ha pins s σ H _ I h) fun v s1 ⟨x, H1, I1, r1, q1⟩ => ho pins s1 σ H1 x v Q I1 r1 q1)
theorem opI {f : Value → Value → Sem Value} {C : Int → Int → Prop} {g : Int → Int → Int}
  (rule : ∀ (i j : Int) (t u : Tok) (s : Shared) (Q : Value → Shared → Prop) (E : Value → Shared → Prop), C i j → Q (.int (g i j) s.toks) { s with toks := s.toks + 1 } → wpAny (model X.prog X.w) X.A (f (.int i t) (.int j u)) Q E s) :
  OpR X f (rI C fun i j => .int (g i j)) := by
 intro pins s σ H x y v u Q I rx ry h
 obtain ⟨i, j, rfl, rfl, hc, q⟩ := h
 obtain ⟨t, rfl⟩ := rx
 obtain ⟨t', rfl⟩ := ry
 exact rule i j t t' s _ _ hc ⟨.int (g i j), H, I.tok _, ⟨_, rfl⟩, q⟩
theorem opI0 {f : Value → Value → Sem Value} {g : Int → Int → Int}
  (rule : ∀ (i j : Int) (t u : Tok) (s : Shared) (Q : Value → Shared → Prop) (E : Value → Shared → Prop), Q (.int (g i j) s.toks) { s with toks := s.toks + 1 } → wpAny (model X.prog X.w) X.A (f (.int i t) (.int j u)) Q E s) :
  OpR X f (rI0 fun i j => .int (g i j)) := by
 intro pins s σ H x y v u Q I rx ry h
 obtain ⟨i, j, rfl, rfl, q⟩ := h
 obtain ⟨t, rfl⟩ := rx
 obtain ⟨t', rfl⟩ := ry
 exact rule i j t t' s _ _ ⟨.int (g i j), H, I.tok _, ⟨_, rfl⟩, q⟩
theorem opB0 {f : Value → Value → Sem Value} {g : Int → Int → Bool}
  (rule : ∀ (i j : Int) (t u : Tok) (s : Shared) (Q : Value → Shared → Prop) (E : Value → Shared → Prop), Q (.bool (g i j)) s → wpAny (model X.prog X.w) X.A (f (.int i t) (.int j u)) Q E s) :
  OpR X f (rI0 fun i j => .bl (g i j)) := by
 intro pins s σ H x y v u Q I rx ry h
 obtain ⟨i, j, rfl, rfl, q⟩ := h
 obtain ⟨t, rfl⟩ := rx
 obtain ⟨t', rfl⟩ := ry
 exact rule i j t t' s _ _ ⟨.bl (g i j), H, I, rfl, q⟩
noncomputable def CDiv (i j : Int) : Prop := 0 < j ∧ j < 1073741824
noncomputable def CPow (i j : Int) : Prop := 0 ≤ j ∧ j ≤ 1000000 ∧ i.natAbs < 2 ^ 64
noncomputable def CMul (i j : Int) : Prop := (-(2 ^ 64) < i ∧ i < 2 ^ 64) ∨ (-(2 ^ 64) < j ∧ j < 2 ^ 64)
theorem CMul.ok {i j : Int} (h : CMul i j) : IntMulOk i j := by
 rcases h with ⟨h1, h2⟩ | ⟨h1, h2⟩
 ·exact .of_left (intBits_le_64 h1 h2)
 ·exact .of_right (intBits_le_64 h1 h2)
theorem op_add : OpR X (binaryOp .Add) (rI0 fun i j => .int (i + j)) := opI0 fun _ _ _ _ _ _ _ q => add_int q
theorem op_sub : OpR X (binaryOp .Sub) (rI0 fun i j => .int (i - j)) := opI0 fun _ _ _ _ _ _ _ q => sub_int q
theorem op_mul : OpR X (binaryOp .Mult) (rI CMul fun i j => .int (i * j)) := opI fun _ _ _ _ _ _ _ hc q => mul_int q hc.ok
theorem op_fdiv : OpR X (binaryOp .FloorDiv) (rI CDiv fun i j => .int (i / j)) := opI fun i j _ _ _ _ _ hc q => by
 have h1 : (0 : Int) < j := hc.1
 have h2 : j < 1073741824 := hc.2
 exact floordiv_int (by omega) (by rw [Int.fdiv_eq_ediv_of_nonneg i (by omega)]; exact q) (.inl (PyProof.noPylong_small (by omega)))
theorem op_mod : OpR X (binaryOp .Mod) (rI (fun _ j => 0 < j) fun i j => .int (i % j)) := opI fun i j _ _ _ _ _ hc q => by
 have h1 : (0 : Int) < j := hc
 exact mod_int' (by omega) (by rw [Int.fmod_eq_emod_of_nonneg i (by omega)]; exact q)
theorem op_pow : OpR X (binaryOp .Pow) (rI CPow fun i j => .int (i ^ j.toNat)) := opI fun _ _ _ _ _ _ _ hc q => pow_int_small hc.1 hc.2.1 hc.2.2 q
theorem unI {f : Value → Sem Value} {g : Int → Int}
  (rule : ∀ (i : Int) (t : Tok) (s : Shared) (Q : Value → Shared → Prop) (E : Value → Shared → Prop), Q (.int (g i) s.toks) { s with toks := s.toks + 1 } → wpAny (model X.prog X.w) X.A (f (.int i t)) Q E s) :
  UnR X f (rU fun i => .int (g i)) := by
 intro pins s σ H x v Q I rx h
 obtain ⟨i, rfl, q⟩ := h
 obtain ⟨t, rfl⟩ := rx
 exact rule i t s _ _ ⟨.int (g i), H, I.tok _, ⟨_, rfl⟩, q⟩
theorem un_neg : UnR X (unaryOp .USub) (rU fun i => .int (-i)) := unI fun _ _ _ _ _ q => neg_int q
end
noncomputable def scal : V → V → Bool
 | .non, .non => true | .non, .int _ => true | .int _, .non => true | .non, .bl _ => true | .bl _, .non => true | .non, .str _ => true | .str _, .non => true
 | .int _, .int _ => true | .bl _, .bl _ => true | .str _, .str _ => true | .byt _, .byt _ => true
 | .int _, .str _ => true | .str _, .int _ => true | .bl _, .str _ => true | .str _, .bl _ => true
 | _, _ => false
noncomputable def rEq : R2 := fun x y H Q => scal x y = true ∧ Q (.bl (decide (x = y))) H
noncomputable def rNe : R2 := fun x y H Q => scal x y = true ∧ Q (.bl (!decide (x = y))) H
theorem dec_int {i j : Int} : decide (V.int i = V.int j) = (i == j) := by
 rw [Bool.eq_iff_iff]
 simp
theorem dec_bl {i j : Bool} : decide (V.bl i = V.bl j) = (i == j) := by
 rw [Bool.eq_iff_iff]
 simp
theorem dec_str {i j : Str} : decide (V.str i = V.str j) = (i == j) := by
 rw [Bool.eq_iff_iff]
 simp
theorem dec_byt {i j : Array UInt8} : decide (V.byt i = V.byt j) = (i.toList == j.toList) := by
 rw [Bool.eq_iff_iff]
 cases i
 cases j
 simp
section
variable {X : Cx} {a b c : Expr} {ta tb tc : TE} {pos : Pos}
theorem fin_bl {pins : List (Addr × Obj)} {σ : St} {H : Hp} {s : Shared} {Q : VK} {k k' : Bool} (I : Inv X pins σ H s) (q : Q (.bl k) H) (e : k = k') : EP X pins σ Q (.bool k') s := by
 subst e
 exact ⟨.bl k, H, I, rfl, q⟩
theorem op_eq : OpR X (compareOp .Eq) rEq := by
 intro pins s σ H x y v u Q I rx ry h
 obtain ⟨hs, q⟩ := h
 cases x with
 | non =>
  cases rx
  cases y with
  | non => cases ry; exact PySem.EqNone.eq_none_none (fin_bl I q (by simp))
  | bl j => cases ry; exact PySem.EqNone.eq_none_bool (fin_bl I q (by simp))
  | int j => obtain ⟨t', rfl⟩ := ry; exact PySem.EqNone.eq_none_int (fin_bl I q (by simp))
  | str j => obtain ⟨t', rfl⟩ := ry; exact PySem.EqNone.eq_none_str (fin_bl I q (by simp))
  | _ => exact absurd (show false = true from hs) Bool.false_ne_true
 | bl i =>
  cases rx
  cases y with
  | non => cases ry; exact PySem.EqNone.eq_bool_none (fin_bl I q (by simp))
  | bl j => cases ry; exact eq_bool (fin_bl I q dec_bl)
  | str j => obtain ⟨t', rfl⟩ := ry; exact PySem.EqMixed.eq_bool_str (fin_bl I q (by simp))
  | _ => exact absurd (show false = true from hs) Bool.false_ne_true
 | int i =>
  obtain ⟨t, rfl⟩ := rx
  cases y with
  | non => cases ry; exact PySem.EqNone.eq_int_none (fin_bl I q (by simp))
  | int j => obtain ⟨t', rfl⟩ := ry; exact eq_int (fin_bl I q dec_int)
  | str j => obtain ⟨t', rfl⟩ := ry; exact PySem.EqMixed.eq_int_str (fin_bl I q (by simp))
  | _ => exact absurd (show false = true from hs) Bool.false_ne_true
 | str i =>
  obtain ⟨t, rfl⟩ := rx
  cases y with
  | non => cases ry; exact PySem.EqNone.eq_str_none (fin_bl I q (by simp))
  | bl j => cases ry; exact PySem.EqMixed.eq_str_bool (fin_bl I q (by simp))
  | int j => obtain ⟨t', rfl⟩ := ry; exact PySem.EqMixed.eq_str_int (fin_bl I q (by simp))
  | str j => obtain ⟨t', rfl⟩ := ry; exact eq_str (fin_bl I q dec_str)
  | _ => exact absurd (show false = true from hs) Bool.false_ne_true
 | byt i =>
  obtain ⟨t, rfl⟩ := rx
  cases y with
  | byt j => obtain ⟨t', rfl⟩ := ry; exact PySem.W.eq_bytes (fin_bl I q dec_byt)
  | _ => exact absurd (show false = true from hs) Bool.false_ne_true
 | _ => cases y <;> exact absurd (show false = true from hs) Bool.false_ne_true
theorem op_ne : OpR X (compareOp .NotEq) rNe := by
 intro pins s σ H x y v u Q I rx ry h
 obtain ⟨hs, q⟩ := h
 cases x with
 | non =>
  cases rx
  cases y with
  | non => cases ry; exact PySem.EqNone.ne_none_none (fin_bl I q (by simp))
  | bl j => cases ry; exact PySem.EqNone.ne_none_bool (fin_bl I q (by simp))
  | int j => obtain ⟨t', rfl⟩ := ry; exact PySem.EqNone.ne_none_int (fin_bl I q (by simp))
  | str j => obtain ⟨t', rfl⟩ := ry; exact PySem.EqNone.ne_none_str (fin_bl I q (by simp))
  | _ => exact absurd (show false = true from hs) Bool.false_ne_true
 | bl i =>
  cases rx
  cases y with
  | non => cases ry; exact PySem.EqNone.ne_bool_none (fin_bl I q (by simp))
  | bl j => cases ry; exact ne_bool (fin_bl I q (congrArg not dec_bl))
  | str j => obtain ⟨t', rfl⟩ := ry; exact PySem.EqMixed.ne_bool_str (fin_bl I q (by simp))
  | _ => exact absurd (show false = true from hs) Bool.false_ne_true
 | int i =>
  obtain ⟨t, rfl⟩ := rx
  cases y with
  | non => cases ry; exact PySem.EqNone.ne_int_none (fin_bl I q (by simp))
  | int j => obtain ⟨t', rfl⟩ := ry; exact ne_int (fin_bl I q (congrArg not dec_int))
  | str j => obtain ⟨t', rfl⟩ := ry; exact PySem.EqMixed.ne_int_str (fin_bl I q (by simp))
  | _ => exact absurd (show false = true from hs) Bool.false_ne_true
 | str i =>
  obtain ⟨t, rfl⟩ := rx
  cases y with
  | non => cases ry; exact PySem.EqNone.ne_str_none (fin_bl I q (by simp))
  | bl j => cases ry; exact PySem.EqMixed.ne_str_bool (fin_bl I q (by simp))
  | int j => obtain ⟨t', rfl⟩ := ry; exact PySem.EqMixed.ne_str_int (fin_bl I q (by simp))
  | str j => obtain ⟨t', rfl⟩ := ry; exact ne_str (fin_bl I q (congrArg not dec_str))
  | _ => exact absurd (show false = true from hs) Bool.false_ne_true
 | byt i =>
  obtain ⟨t, rfl⟩ := rx
  cases y with
  | byt j => obtain ⟨t', rfl⟩ := ry; exact PySem.W.ne_bytes (fin_bl I q (congrArg not dec_byt))
  | _ => exact absurd (show false = true from hs) Bool.false_ne_true
 | _ => cases y <;> exact absurd (show false = true from hs) Bool.false_ne_true
theorem op_lt : OpR X (compareOp .Lt) (rI0 fun i j => .bl (decide (i < j))) := opB0 fun _ _ _ _ _ _ _ q => lt_int q
theorem op_le : OpR X (compareOp .LtE) (rI0 fun i j => .bl (decide (i ≤ j))) := opB0 fun _ _ _ _ _ _ _ q => le_int q
theorem op_gt : OpR X (compareOp .Gt) (rI0 fun i j => .bl (decide (j < i))) := opB0 fun _ _ _ _ _ _ _ q => gt_int q
theorem op_ge : OpR X (compareOp .GtE) (rI0 fun i j => .bl (decide (j ≤ i))) := opB0 fun _ _ _ _ _ _ _ q => ge_int q
theorem nomark (b : Expr) {op : CmpOp} (h : op ≠ .In := by decide) (h2 : op ≠ .NotIn := by decide) : behindInMarks op b = false := by
 have e1 : (op == CmpOp.In) = false := by cases op <;> first | rfl | exact absurd rfl h
 have e2 : (op == CmpOp.NotIn) = false := by cases op <;> first | rfl | exact absurd rfl h2
 cases b <;> simp [behindInMarks, e1, e2]
theorem pe_cmpR {op : CmpOp} {r : R2} (ho : OpR X (compareOp op) r) (ha : PE X a ta) (hb : PE X b tb) (hm : behindInMarks op b = false) : PE X (.Compare a [op] [b] pos) (tOp r ta tb) := by
 intro pins s σ H Q I h
 exact wpAny_Compare1 (binT ha hb I h fun v u s2 x y H2 I2 rx ry q => ho pins s2 σ H2 x y v u Q I2 rx ry q) hm
noncomputable def tTest (t : TE) : TT := fun σ H Q => t σ H fun x H' => ∃ k, x = .bl k ∧ Q k H'
theorem pt_cmpR {op : CmpOp} {r : R2} (ho : OpR X (compareOp op) r) (ha : PE X a ta) (hb : PE X b tb) (hm : behindInMarks op b = false) : PT X (.Compare a [op] [b] pos) (tTest (tOp r ta tb)) := by
 intro pins s σ H Q I h
 refine wpAny_isTrue_Compare1 (thn (ha pins s σ H _ I h) fun v s1 ⟨x, H1, I1, r1, q1⟩ => thn (hb pins s1 σ H1 _ I1 q1) fun u s2 ⟨y, H2, I2, r2, q2⟩ =>
  thn (ho pins s2 σ H2 x y v u _ I2 r1 r2 q2) fun c s3 ⟨z, H3, I3, r3, k, e, q3⟩ => ?_) hm
 subst e
 cases r3
 exact wpAny_truthy_bool ⟨H3, I3, q3⟩
theorem line63 : (sizeLine : Nat) < 2 ^ 63 := by rw [sizeLine_eq]; decide
theorem vals1 {x : V} {us : List Value} (r : Vals [x] us) : ∃ u, us = [u] ∧ RelV x u := by
 cases r with
 | cons r1 r2 => cases r2; exact ⟨_, rfl, r1⟩
theorem vals2 {x y : V} {us : List Value} (r : Vals [x, y] us) : ∃ u w', us = [u, w'] ∧ RelV x u ∧ RelV y w' := by
 cases r with
 | cons r1 r2 =>
  cases r2 with
  | cons r3 r4 => cases r4; exact ⟨_, _, rfl, r1, r3⟩
theorem call_min2 (hc : X.calm = true) : CallR X (.builtin "min") (fun xs H Q => ∃ i j, xs = [.int i, .int j] ∧ Q (.int (if j < i then j else i)) H) := by
 intro pins s σ H xs us Q I r h
 obtain ⟨i, j, rfl, q⟩ := h
 obtain ⟨u, w', rfl, ⟨t, rfl⟩, ⟨t', rfl⟩⟩ := vals2 r
 refine min_two_ints (I.ok.hd hc) fun h' tk k => ⟨_, H, I.kept k, ?_, q⟩
 by_cases hj : j < i
 ·rw [if_pos hj, if_pos hj]; exact ⟨_, rfl⟩
 ·rw [if_neg hj, if_neg hj]; exact ⟨_, rfl⟩
end
structure ObjM (h : Heap) (x dx C : Addr) (mA : Str → Option Value) : Prop where
 obj : h.get? x = some (PySem.W.instObj C dx)
 ns : h.Ns1 dx mA
 ne : dx ≠ x
theorem lookIn_ns {h : Heap} {dx : Addr} {mA : Str → Option Value} (n : h.Ns1 dx mA) : ∃ od, h.get? dx = some od ∧ ∀ name, PySem.W.lookIn name od = some (mA name) := by
 obtain ⟨o, es, ep, ho, hd, hk, _, hm⟩ := n
 refine ⟨o, ho, fun name => ?_⟩
 have e := hm name
 unfold nsFind findBy at e
 rw [← Array.find?_toList] at e
 unfold PySem.W.lookIn
 rw [hd]
 dsimp only
 split
 ·rename_i y q
  rw [q] at e
  exact congrArg some e
 ·rename_i q
  rw [q] at e
  have a : es.toList.any (·.refKey) = false := by
   rw [List.any_eq_false]
   intro y hy
   obtain ⟨z, t, hkey⟩ := hk y (Array.mem_toList_iff.mp hy)
   simp [DictEntry.refKey, hkey]
  have a' : ¬ es.toList.any (·.refKey) = true := by rw [a]; exact Bool.false_ne_true
  rw [if_neg a']
  exact congrArg some e
theorem ObjM.look {h : Heap} {x dx C : Addr} {mA : Str → Option Value} (I : ObjM h x dx C mA) : ∃ od, PySem.W.InstAt h x (PySem.W.instObj C dx) C (some od) ∧ ∀ name, PySem.W.lookIn name od = some (mA name) :=
 let ⟨od, ho, hl⟩ := lookIn_ns I.ns
 ⟨od, ⟨I.obj, rfl, rfl, ho⟩, hl⟩
section
variable {prog : Program} {w : World} {A : Around} {E : Value → Shared → Prop} {s : Shared} {K : PySem.W.Frag} {x dx C f : Addr} {mA : Str → Option Value} {name : Str} {v : Value}
theorem get_map {expr : Bool} {Q : Value → Shared → Prop} (X : K.In s.heap) (I : ObjM s.heap x dx C mA) (hg : PySem.W.plainGet K C name = true) (hh : PySem.W.hasDictIn K C = true)
  (ha : PySem.W.findIn K (.ref C) name = some none) (hv : mA name = some v) (hv' : PySem.W.handedIn v = true) (h : Q v { s with toks := s.toks + 1 }) :
  wpAny (model prog w) A (getAttr (.ref x) name expr) Q E s := by
 obtain ⟨od, J, hl⟩ := I.look
 exact PySem.W.get_value X J (PySem.W.plainGet_of hg).1 (PySem.W.findObj_own hh ha rfl (by rw [hl, hv])) hv' h
theorem get_meth {pl : Sem Bool} {Q : Value × List Value → Shared → Prop} (X : K.In s.heap) (I : ObjM s.heap x dx C mA) (hg : PySem.W.plainGet K C name = true)
  (hf : PySem.W.findIn K (.ref C) name = some (some (.ref f))) (ht : PySem.W.isFn K (.ref f) = true) (hv : mA name = none) (h : Q (.ref f, [.ref x]) s) :
  wpAny (model prog w) A (getMethod (.ref x) name pl) Q E s := by
 obtain ⟨od, J, hl⟩ := I.look
 exact PySem.W.method_fn X J (PySem.W.plainGet_of hg).1 (PySem.W.plainGet_of hg).2 hf (beq_iff_eq.mp ht) (by show (PySem.W.lookIn name od).map (·.isSome) = some false; rw [hl, hv]; rfl) h
theorem set_map {ns : List Str} {Q : Unit → Shared → Prop} (X : K.In s.heap) (I : ObjM s.heap x dx C mA)
  (hs : PySem.W.findIn K (.ref C) "__setattr__" = some (some (.builtin "object.__setattr__"))) (hp : PySem.W.plainOver K C = true) (ht : PySem.W.takerIn K C name = some none) (hh : PySem.W.hasDictIn K C = true)
  (hw : PySem.Within mA ns) (hsz : ns.length ≤ sizeLine)
  (h : ∀ h', ObjM h' x dx C (fun y => if y = name then some v else mA y) → Heap.SameBut dx s.heap h' → Q () { s with heap := h', toks := s.toks + 2 }) :
  wpAny (model prog w) A (setAttr (.ref x) name v) Q E s := by
 obtain ⟨od, J, hl⟩ := I.look
 refine PySem.W.set_plain X J hs (PySem.W.osa_open (s := { s with toks := s.toks + 1 }) (r := none) X J hp ht fun b => ?_)
 obtain ⟨cd, hc, hd'⟩ := PySem.W.any_some hh
 have hx : s.heap.get? x = some ⟨.ref C, some dx, .plain, #[]⟩ := I.obj
 refine wpAny_bind (wpAny_pure (wpAny_bind (wpAny_bind (wpAny_loadPart hx (wpAny_bind (PySem.W.Looks.here (s := { s with toks := s.toks + 1 }) (PySem.W.looks_clsIn X hc) ?_))))))
 rw [hd']
 refine wpAny_pure (a := some dx) (wpAny_bind (wpAny_pure (wpAny_bind ?_)))
 refine wpAny_nsSet1 (s := { s with toks := s.toks + 1 }) I.ns fun h' hn2 hs2 => ?_
 obtain ⟨oD, esD, epD, hoD, hdD, hcD⟩ := hn2.count (PySem.Within.cons name v hw)
 refine wpAny_bind (wpAny_lookBehind hoD (by rw [hdD]; exact pastItsLine_dict (Nat.le_trans hcD (by rw [List.length_cons]; omega))) ?_)
 exact wpAny_pure (h _ ⟨(hs2.2 _ (Ne.symm I.ne)).trans I.obj, hn2, I.ne⟩ hs2)
theorem make_map {R : Result → Shared → Prop} {vs : List Value} {kw : List (Str × Value)} (X : K.In s.heap) (hm : PySem.W.makesIn K C = true)
  (hi : PySem.W.findIn K (.ref C) "__init__" = some (some (.ref f))) (hf : PySem.W.typeIn K (.ref f) = some (.type "function"))
  (h : codeAny (model prog w) (A.under (.builtin "type.__call__" ⟨.ref C :: vs, kw⟩)) (.call (.ref f) ⟨.ref (s.heap.objs.size + 1) :: vs, kw⟩) (PySem.W.InitBack (s.heap.objs.size + 1) R)
   { s with heap := (s.heap.push PySem.W.emptyDict).push (PySem.W.instObj C s.heap.objs.size) }) :
  codeAny (model prog w) A (.call (.ref C) ⟨vs, kw⟩) R s := by
 obtain ⟨hh, g, d, t, os⟩ := s
 exact PySem.W.make_core (PySem.W.makes_of X hm) (PySem.W.looks_findIn X hi) (fun self => PySem.W.bind_fn X self hf) (.inl rfl) h
end
noncomputable def putF (f : Str) (v : V) : List (Str × V) → List (Str × V)
  | [] => [(f, v)]
  | (g, x) :: r => if g = f then (g, v) :: r else (g, x) :: putF f v r
theorem lookup_putF (f g : Str) (v : V) : ∀ fs : List (Str × V), (putF f v fs).lookup g = if g = f then some v else fs.lookup g
  | [] => by
    show List.lookup g [(f, v)] = _
    by_cases h : g = f
    · have hb : (g == f) = true := beq_iff_eq.mpr h
      simp only [List.lookup, hb, if_pos h]
    · have hb : (g == f) = false := beq_eq_false_iff_ne.mpr h
      simp only [List.lookup, hb, if_neg h]
  | (k, x) :: r => by
    have ih := lookup_putF f g v r
    rw [show putF f v ((k, x) :: r) = (if k = f then (k, v) :: r else (k, x) :: putF f v r) from rfl]
    by_cases hk : k = f
    · rw [if_pos hk]
      by_cases h : g = k
      · have hb : (g == k) = true := beq_iff_eq.mpr h
        simp only [List.lookup, hb, if_pos (h.trans hk)]
      · have hb : (g == k) = false := beq_eq_false_iff_ne.mpr h
        simp only [List.lookup, hb, if_neg (fun e : g = f => h (e.trans hk.symm))]
    · rw [if_neg hk]
      by_cases h : g = k
      · have hb : (g == k) = true := beq_iff_eq.mpr h
        simp only [List.lookup, hb, if_neg (fun e : g = f => hk (h.symm.trans e))]
      · have hb : (g == k) = false := beq_eq_false_iff_ne.mpr h
        simp only [List.lookup, hb]
        exact ih
theorem keys_putF (f : Str) (v : V) : ∀ fs : List (Str × V), f ∈ (putF f v fs).map (·.1) ∧ ∀ g, g ∈ fs.map (·.1) → g ∈ (putF f v fs).map (·.1)
  | [] => ⟨by simp [putF], fun g h => by simp at h⟩
  | (k, x) :: r => by
    obtain ⟨i1, i2⟩ := keys_putF f v r
    rw [show putF f v ((k, x) :: r) = (if k = f then (k, v) :: r else (k, x) :: putF f v r) from rfl]
    by_cases hk : k = f
    · rw [if_pos hk]
      subst hk
      exact ⟨by simp, fun g h => by simpa using h⟩
    · rw [if_neg hk]
      refine ⟨?_, fun g h => ?_⟩
      · rw [List.map_cons]
        exact List.mem_cons_of_mem _ i1
      · rw [List.map_cons] at h ⊢
        rcases List.mem_cons.mp h with e | e
        · exact List.mem_cons.mpr (.inl e)
        · exact List.mem_cons_of_mem _ (i2 g e)
theorem length_putF (f : Str) (v : V) : ∀ fs : List (Str × V), (putF f v fs).length ≤ fs.length + 1
  | [] => by simp [putF]
  | (k, x) :: r => by
    have ih := length_putF f v r
    rw [show putF f v ((k, x) :: r) = (if k = f then (k, v) :: r else (k, x) :: putF f v r) from rfl]
    by_cases hk : k = f
    · rw [if_pos hk, List.length_cons, List.length_cons]; omega
    · rw [if_neg hk, List.length_cons, List.length_cons]; omega
theorem RelO.some_of {v : V} {o : Option Value} (r : RelO (some v) o) : ∃ u, o = some u ∧ RelV v u := by
 cases o with
 | none => exact (show False from r).elim
 | some u => exact ⟨u, rfl, r⟩
theorem RelO.none_of {o : Option Value} (r : RelO none o) : o = none := by
 cases o with
 | none => rfl
 | some u => exact (show False from r).elim
theorem handed_of {v : V} {u : Value} (r : RelV v u) : PySem.W.handedIn u = true := by
 cases v with
 | non => cases (show u = Value.none from r); rfl
 | bl b => cases (show u = Value.bool b from r); rfl
 | int i => obtain ⟨t, e⟩ := (show ∃ t, u = Value.int i t from r); cases e; rfl
 | str x => obtain ⟨t, e⟩ := (show ∃ t, u = Value.str x t from r); cases e; rfl
 | byt b => obtain ⟨t, e⟩ := (show ∃ t, u = Value.bytes b t from r); cases e; rfl
 | flt b => obtain ⟨t, e⟩ := (show ∃ t, u = Value.float b t from r); cases e; rfl
 | ref a => cases (show u = Value.ref a from r); rfl
 | ty n => cases (show u = Value.type n from r); rfl
section
variable {P : Program} {w : World} {H H' : Hp} {h h' : Heap} {a C dx : Addr} {fs fs' : List (Str × V)}
theorem ins_get (hok : HOk P w H h) (e : H a = some (.ins C dx fs)) : ∃ mA, ObjM h a dx C mA ∧ (∀ f, RelO (fs.lookup f) (mA f)) ∧ PySem.Within mA (fs.map (·.1)) ∧ fs.length ≤ 1000 ∧ H dx = some (.own a) := by
 obtain ⟨d, z, ne, ob, mA, n, r, q⟩ := (show ObjOk P w H h a (.ins C dx fs) from hok a _ e)
 exact ⟨mA, ⟨ob, n, ne⟩, r, q, z, d⟩
end
structure Cls (K : PySem.W.Frag) (C : Addr) : Prop where
 pg : PySem.W.plainGet K C Str.empty = true
 hd : PySem.W.hasDictIn K C = true
 po : PySem.W.plainOver K C = true
 sa : PySem.W.findIn K (.ref C) "__setattr__" = some (some (.builtin "object.__setattr__"))
theorem Cls.get {K : PySem.W.Frag} {C : Addr} (c : Cls K C) (f : Str) : PySem.W.plainGet K C f = true := c.pg
noncomputable def NoAttr (K : PySem.W.Frag) (C : Addr) (f : Str) : Prop := PySem.W.findIn K (.ref C) f = some none
theorem NoAttr.taker {K : PySem.W.Frag} {C : Addr} {f : Str} (n : NoAttr K C f) : PySem.W.takerIn K C f = some none := by
 unfold PySem.W.takerIn
 rw [show PySem.W.findIn K (.ref C) f = some none from n]
 rfl
structure Meth (K : PySem.W.Frag) (C : Addr) (m : Str) (f : Addr) : Prop where
 at_ : PySem.W.findIn K (.ref C) m = some (some (.ref f))
 fn : PySem.W.isFn K (.ref f) = true
 kp : PySem.W.keepIn K (.ref f) = true
section
variable {X : Cx} {pins : List (Addr × Obj)} {σ : St} {H : Hp} {s : Shared} {a C dx : Addr} {fs : List (Str × V)} {f : Str} {v : V} {A : Around} {E : Value → Shared → Prop}
theorem getattr_ok {b : Bool} {Q : Value → Shared → Prop} (I : Inv X pins σ H s) (e : H a = some (.ins C dx fs)) (c : Cls X.K C) (n : NoAttr X.K C f) (l : fs.lookup f = some v)
  (h : ∀ u s', Inv X pins σ H s' → RelV v u → Q u s') : wpAny (model X.prog X.w) A (getAttr (.ref a) f b) Q E s := by
 obtain ⟨mA, O, r, _, _, _⟩ := ins_get I.hok e
 obtain ⟨u, hu, ru⟩ := RelO.some_of (v := v) (o := mA f) (by rw [← l]; exact r f)
 exact get_map I.kIn O (c.get f) c.hd n hu (handed_of ru) (h u _ (I.tok _) ru)
theorem getmeth_ok {m : Str} {g : Addr} {pl : Sem Bool} {Q : Value × List Value → Shared → Prop} (I : Inv X pins σ H s) (e : H a = some (.ins C dx fs)) (c : Cls X.K C) (k : Meth X.K C m g) (l : fs.lookup m = none)
  (h : Q (.ref g, [.ref a]) s) : wpAny (model X.prog X.w) A (getMethod (.ref a) m pl) Q E s := by
 obtain ⟨mA, O, r, _, _, _⟩ := ins_get I.hok e
 have hn : mA m = none := RelO.none_of (by rw [← l]; exact r m)
 exact get_meth I.kIn O (c.get m) k.at_ k.fn hn h
theorem setattr_ok {y : V} {u : Value} {Q : Unit → Shared → Prop} (I : Inv X pins σ H s) (e : H a = some (.ins C dx fs)) (c : Cls X.K C) (n : NoAttr X.K C f) (hl : fs.length < 1000) (ry : RelV y u)
  (h : ∀ s', Inv X pins σ (upd H a (.ins C dx (putF f y fs))) s' → Q () s') : wpAny (model X.prog X.w) A (setAttr (.ref a) f u) Q E s := by
 obtain ⟨mA, O, r, wi, _, ho⟩ := ins_get I.hok e
 have hz : (fs.map (·.1)).length ≤ sizeLine := by rw [List.length_map, sizeLine_eq]; omega
 refine set_map I.kIn O c.sa c.po n.taker c.hd wi hz fun h' O' sb => h _ ?_
 have hd : ∃ o, h'.get? dx = some o := let ⟨o, _, _, e', _⟩ := O'.ns; ⟨o, e'⟩
 refine I.write (x := a) (e := dx) (by rw [e]; exact True.intro) (.inr ho) (fun b q hb z => (sb.2 b hb).trans z) hd ?_
 refine ⟨by rw [upd_ne O.ne]; exact ho, ?_, O.ne, O'.obj, _, O'.ns, fun g => ?_, fun g hg => ?_⟩
 ·have := length_putF f y fs; omega
 ·show RelO ((putF f y fs).lookup g) (if g = f then some u else mA g)
  rw [lookup_putF]
  by_cases q : g = f
  ·rw [if_pos q, if_pos q]; exact ry
  ·rw [if_neg q, if_neg q]; exact r g
 ·by_cases q : g = f
  ·rw [q]; exact (keys_putF f y fs).1
  ·refine (keys_putF f y fs).2 g (wi g fun z => hg ?_)
   show (if g = f then some u else mA g) = none
   rw [if_neg q]; exact z
theorem Inv.made (I : Inv X pins σ H s) : Inv X pins σ (upd (upd H s.heap.objs.size (.own (s.heap.objs.size + 1))) (s.heap.objs.size + 1) (.ins C s.heap.objs.size []))
  { s with heap := (s.heap.push PySem.W.emptyDict).push (PySem.W.instObj C s.heap.objs.size) } := by
 have e1 : (s.heap.push PySem.W.emptyDict).get? s.heap.objs.size = some PySem.W.emptyDict := Heap.get?_push_size s.heap rfl
 have e2 : ((s.heap.push PySem.W.emptyDict).push (PySem.W.instObj C s.heap.objs.size)).get? (s.heap.objs.size + 1) = some (PySem.W.instObj C s.heap.objs.size) := by
  have := Heap.get?_push_size (s.heap.push PySem.W.emptyDict) (o := PySem.W.instObj C s.heap.objs.size) rfl
  rwa [Heap.size_push] at this
 have e3 : (s.heap.push PySem.W.emptyDict).Ns s.heap.objs.size (fun _ => none) := ⟨PySem.W.emptyDict, #[], _, e1, rfl, (fun e he => absurd he (by simp)), fun _ => rfl⟩
 have I1 := I.laid (a := s.heap.objs.size) (o := .own (s.heap.objs.size + 1)) (h' := s.heap.push PySem.W.emptyDict) (t' := s.toks) (fun b u q => Heap.get?_push_of_some _ q) (Nat.le_refl _) ⟨_, e1⟩
 refine I1.laid (a := s.heap.objs.size + 1) (o := .ins C s.heap.objs.size []) (t' := s.toks) (fun b u q => Heap.get?_push_of_some _ q) (Nat.le_of_eq (Heap.size_push _ _)) ?_
 have ne : s.heap.objs.size ≠ s.heap.objs.size + 1 := Nat.ne_of_lt (Nat.lt_succ_self _)
 refine ⟨by rw [upd_ne ne, upd_same], Nat.zero_le _, ne, e2, fun _ => none, (Heap.Ns1.of_empty e3).at fun o q => Heap.get?_push_of_some _ q, fun _ => True.intro, fun y hy => absurd rfl hy⟩
theorem attr_of {prog : Program} {w : World} {env : Env} {e : Expr} {f : Str} {pos : Pos} {s : Shared} {Q : Value → Shared → Prop} (hb : attributeBase e f env (eval e env) = eval e env)
  (h : wpAny (model prog w) A (eval e env) (fun o s₁ => wpAny (model prog w) A (getAttr o f true) Q E s₁) E s) : wpAny (model prog w) A (eval (.Attribute e f pos) env) Q E s :=
 Attribute_any_ h (by rw [arm_eval_Attribute, hb])
end
noncomputable def tFld (K : PySem.W.Frag) (ta : TE) (f : Str) : TE := fun σ H Q => ta σ H fun x H1 => ∃ a C dx fs v, x = .ref a ∧ H1 a = some (.ins C dx fs) ∧ Cls K C ∧ NoAttr K C f ∧ fs.lookup f = some v ∧ Q v H1
noncomputable def sFld (K : PySem.W.Frag) (ta tv : TE) (f : Str) : TS := fun D σ H => tv σ H fun y H1 => ta σ H1 fun x H2 => ∃ a C dx fs, x = .ref a ∧ H2 a = some (.ins C dx fs) ∧ Cls K C ∧ NoAttr K C f ∧ fs.length < 1000 ∧
 D.nx σ (upd H2 a (.ins C dx (putF f y fs)))
section
variable {X : Cx} {o e value : Expr} {f : Str} {pos pos' tpos : Pos} {ta tv : TE}
theorem pe_fld (he : PE X e ta) (hb : attributeBase e f X.env (eval e X.env) = eval e X.env) : PE X (.Attribute e f pos) (tFld X.K ta f) := by
 intro pins s σ H Q I h
 refine attr_of hb (thn (he pins s σ H _ I h) fun u s1 ⟨x, H1, I1, rx, a, C, dx, fs, v, ex, ea, c, n, l, q⟩ => ?_)
 subst ex
 obtain rfl : u = Value.ref a := rx
 exact getattr_ok I1 ea c n l fun u' s2 I2 ru => ⟨v, H1, I2, ru, q⟩
theorem ps_fld (ha : PE X o ta) (hv : PE X value tv) (hs : swapsWith value (some (.Attribute o f pos')) pos.line X.env = pure false) : PS X (.Assign [.Attribute o f pos'] value pos) (sFld X.K ta tv f) := by
 intro pins s σ H D I h
 refine plainObj_wpAny_Assign_Attribute (thn (hv pins s σ H _ I h) fun u s1 ⟨y, H1, I1, ry, q⟩ => thn (ha pins s1 σ H1 _ I1 q) fun ov s2 ⟨x, H2, I2, rx, a, C, dx, fs, ex, ea, c, n, l, q2⟩ => ?_) hs
 subst ex
 obtain rfl : ov = Value.ref a := rx
 exact setattr_ok I2 ea c n l ry fun s3 I3 => ⟨σ, _, I3, q2⟩
end
section
variable {X : Cx} {pins : List (Addr × Obj)} {σ : St} {H : Hp} {s : Shared} {A : Around} {E : Value → Shared → Prop} {Q : Value → Shared → Prop} {c : Value} {b : Bool}
inductive TyOf (K : PySem.W.Frag) (H : Hp) : V → Value → Prop where
 | non : TyOf K H .non (.type "NoneType")
 | bl (x : Bool) : TyOf K H (.bl x) (.type "bool")
 | int (i : Int) : TyOf K H (.int i) (.type "int")
 | str (x : Str) : TyOf K H (.str x) (.type "str")
 | flt (x : UInt64) : TyOf K H (.flt x) (.type "float")
 | lst {a : Addr} {xs : List V} (e : H a = some (.lst xs)) : TyOf K H (.ref a) (.type "list")
 | frz {a : Addr} {o : Obj} {xs : List V} (e : H a = some (.frz o (.lst xs))) : TyOf K H (.ref a) (.type "list")
 | tup {a : Addr} {xs : List V} (e : H a = some (.tup xs)) : TyOf K H (.ref a) (.type "tuple")
 | dK {a : Addr} {kvs : List (Key × V)} (e : H a = some (.dK kvs)) : TyOf K H (.ref a) (.type "dict")
 | dT {a : Addr} {kvs : List (List Key × V)} (e : H a = some (.dT kvs)) : TyOf K H (.ref a) (.type "dict")
 | ins {a C dx : Addr} {fs : List (Str × V)} (e : H a = some (.ins C dx fs)) (cl : Cls K C) (ha : PySem.W.findIn K (.ref C) "__class__" = some (some (.builtin "object.__class__")))
   (hn : PySem.W.specialIn K (.builtin "object.__class__") "__get__" = some (some (.builtin "getset_descriptor.__get__"))) (htk : PySem.W.takesIn K (.builtin "object.__class__") = some true)
   (hm : PySem.W.mroIn K C (.type "object") = some true) : TyOf K H (.ref a) (.ref C)
theorem isinst_ok {x : V} {u t : Value} (I : Inv X pins σ H s) (rx : RelV x u) (ty : TyOf X.K H x t) (e : PySem.W.kitOne X.K t c = some b) (h : ∀ tk, Q (.bool b) { s with toks := tk }) :
  wpAny (model X.prog X.w) A (call (.builtin "isinstance") [u, c]) Q E s := by
 cases ty with
 | non => cases (show u = Value.none from rx); exact PySem.W.kia_one PySem.W.kitx_none I.kIn True.intro e (fun z => nomatch z) h
 | bl y => cases (show u = Value.bool y from rx); exact PySem.W.kia_one PySem.W.kitx_bool I.kIn True.intro e (fun z => nomatch z) h
 | int i => obtain ⟨t, q⟩ := (show ∃ t, u = Value.int i t from rx); cases q; exact PySem.W.kia_one PySem.W.kitx_int I.kIn True.intro e (fun z => nomatch z) h
 | str y => obtain ⟨t, q⟩ := (show ∃ t, u = Value.str y t from rx); cases q; exact PySem.W.kia_one PySem.W.kitx_str I.kIn True.intro e (fun z => nomatch z) h
 | flt y => obtain ⟨t, q⟩ := (show ∃ t, u = Value.float y t from rx); cases q; exact PySem.W.kia_one PySem.W.kitx_float I.kIn True.intro e (fun z => nomatch z) h
 | @lst a xs ea =>
  cases (show u = Value.ref a from rx)
  obtain ⟨_, _, n, _, h1⟩ := (show ObjOk X.prog X.w H s.heap a (.lst xs) from I.hok a _ ea)
  exact PySem.W.kia_one PySem.W.kitx_list I.kIn ⟨_, h1, rfl⟩ e (fun z => nomatch z) h
 | @frz a ob xs ea =>
  cases (show u = Value.ref a from rx)
  obtain ⟨_, _, _, n, _, h1⟩ := (show ObjOk X.prog X.w H s.heap a (.frz ob (.lst xs)) from I.hok a _ ea)
  exact PySem.W.kia_one PySem.W.kitx_list I.kIn ⟨_, h1, rfl⟩ e (fun z => nomatch z) h
 | @tup a xs ea =>
  cases (show u = Value.ref a from rx)
  obtain ⟨_, _, _, p⟩ := (show ObjOk X.prog X.w H s.heap a (.tup xs) from I.hok a _ ea)
  obtain ⟨o, h1, h2, _⟩ := p
  exact PySem.W.kia_one PySem.W.kitx_tuple I.kIn ⟨o, h1, h2⟩ e (fun z => nomatch z) h
 | @dK a kvs ea =>
  cases (show u = Value.ref a from rx)
  obtain ⟨_, _, vs, _, p⟩ := (show ObjOk X.prog X.w H s.heap a (.dK kvs) from I.hok a _ ea)
  obtain ⟨o, es, ep, h1, h2, _⟩ := p
  exact PySem.W.kia_one PySem.W.kitx_dict I.kIn ⟨o, h1, h2.1⟩ e (fun z => nomatch z) h
 | @dT a kvs ea =>
  cases (show u = Value.ref a from rx)
  obtain ⟨_, _, xs, _, o, es, ep, h1, h2, _⟩ := (show ObjOk X.prog X.w H s.heap a (.dT kvs) from I.hok a _ ea)
  exact PySem.W.kia_one PySem.W.kitx_dict I.kIn ⟨o, h1, h2.1⟩ e (fun z => nomatch z) h
 | @ins a C dx fs ea cl ha hn htk hm =>
  cases (show u = Value.ref a from rx)
  obtain ⟨mA, O, _⟩ := ins_get I.hok ea
  obtain ⟨od, J, _⟩ := O.look
  exact PySem.W.kia_one (PySem.W.kitx_own (cl.get _) cl.hd ha hn htk hm) I.kIn J e (fun z => nomatch z) h
end
structure Room (k : Nat) (A : Around) : Prop where
 hd : A.handled = none
 dp : A.depth + 3 * k + 5 < recursionLimit
 un : A.units + 16 * k + 200 < cLine
 gd : A.guards = some []
theorem Room.mono {j k : Nat} {A : Around} (r : Room k A) (h : j ≤ k) : Room j A := ⟨r.hd, by have := r.dp; omega, by have := r.un; omega, r.gd⟩
theorem Room.deeper {k : Nat} {A : Around} (r : Room (k + 1) A) (env : Env) : Room k (A.deeper env) :=
 ⟨r.hd, by have := r.dp; show A.depth + 1 + 3 * k + 5 < _; omega, by have := r.un; show A.units + 3 + 16 * k + 200 < _; omega, r.gd⟩
theorem make_depth {A : Around} {C : Addr} {us : List Value} {kw : List (Str × Value)} : (A.under (.builtin "type.__call__" ⟨.ref C :: us, kw⟩)).depth = A.depth + 1 := by
 first | rfl | simp [Around.under, Code.weight, Code.isCreation, Code.isGuard, Code.isCaller, Code.frames, Code.isFrame, guardIds]
theorem make_units {A : Around} {C : Addr} {us : List Value} {kw : List (Str × Value)} : (A.under (.builtin "type.__call__" ⟨.ref C :: us, kw⟩)).units = A.units + 1 := by
 first | rfl | simp [Around.under, Code.cUnits, Code.frames, Code.isFrame]
theorem Room.make {k : Nat} {A : Around} (r : Room (k + 1) A) (C : Addr) (us : List Value) (kw : List (Str × Value)) : Room k (A.under (.builtin "type.__call__" ⟨.ref C :: us, kw⟩)) :=
 ⟨r.hd, by have := r.dp; rw [make_depth]; omega, by have := r.un; rw [make_units]; omega, by first | exact r.gd | simp [Around.under, pushGuards, Code.guards, Code.isGuard, guardIds, r.gd]⟩
theorem Room.depth {k : Nat} {A : Around} (r : Room k A) : A.depth < recursionLimit := by have := r.dp; omega
theorem Room.units {k : Nat} {A : Around} (r : Room k A) : A.units + 64 < cLine := by have := r.un; omega
noncomputable def tNil : TA := fun _ H Q => Q [] H
noncomputable def tCons (ta : TE) (tr : TA) : TA := fun σ H Q => ta σ H fun x H1 => tr σ H1 fun xs H2 => Q (x :: xs) H2
section
variable {X : Cx} {e : Expr} {es : List Expr} {te : TE} {t : TA} {pos : Pos}
theorem pa_nil : PA X [] tNil := fun _ _ _ _ H Q I h => Calls.spliced_nil ⟨[], H, I, .nil, h⟩
theorem pa_cons (ha : PE X e te) (hr : PA X es t) (hs : starEach (e :: es) X.env = (false, eval e X.env) :: starEach es X.env := by rfl) : PA X (e :: es) (tCons te t) := by
 intro pos pins s σ H Q I h
 rw [hs]
 show wpAny _ _ (spliced ((false, eval e X.env) :: backTo pos (starEach es X.env))) _ _ s
 refine Calls.spliced_cons (thn (ha pins s σ H _ I h) fun u s1 ⟨x, H1, I1, r1, q1⟩ => ?_)
 exact thn (hr pos pins s1 σ H1 _ I1 q1) fun us s2 ⟨xs, H2, I2, r2, q2⟩ => ⟨x :: xs, H2, I2, .cons r1 r2, q2⟩
noncomputable def tTup (t : TA) : TE := fun σ H Q => t σ H fun xs H1 => xs.length ≤ sizeLine ∧ ∀ p, H1 p = none → Q (.ref p) (upd H1 p (.tup xs))
noncomputable def tLst (t : TA) : TE := fun σ H Q => t σ H fun xs H1 => xs.length ≤ sizeLine ∧ ∀ p, H1 p = none → Q (.ref p) (upd H1 p (.lst xs))
theorem pe_tup {x1} (h : PA X es t) : PE X (.Tuple es x1 pos) (tTup t) := by
 intro pins s σ H Q I hq
 refine wpAny_Tuple_spliced (thn (h pos pins s σ H _ I hq) fun us s1 ⟨xs, H1, I1, r, z, q⟩ => ⟨by rw [← r.length]; exact z, ?_⟩)
 have hf : H1 s1.heap.objs.size = none := I1.hok.fresh (Nat.le_refl _)
 refine ⟨.ref s1.heap.objs.size, upd H1 s1.heap.objs.size (.tup xs), I1.laid (t' := s1.toks) (fun b u e => Heap.get?_push_of_some _ e) (Nat.le_refl _) ?_, rfl, q _ hf⟩
 exact ⟨z, us, r, ⟨_, Heap.get?_push_size _ rfl, rfl, _, rfl⟩⟩
theorem pe_lst (h : PA X es t) : PE X (.List es pos) (tLst t) := by
 intro pins s σ H Q I hq
 refine wpAny_List_spliced (thn (h pos pins s σ H _ I hq) fun us s1 ⟨xs, H1, I1, r, z, q⟩ => ⟨by rw [← r.length]; exact z, ?_⟩)
 have hf : H1 s1.heap.objs.size = none := I1.hok.fresh (Nat.le_refl _)
 refine ⟨.ref s1.heap.objs.size, upd H1 s1.heap.objs.size (.lst xs), I1.laid (t' := s1.toks) (fun b u e => Heap.get?_push_of_some _ e) (Nat.le_refl _) ?_, rfl, q _ hf⟩
 exact ⟨z, us, 0, r, Heap.get?_push_size _ rfl⟩
end
noncomputable abbrev Sp := List V → Hp → VK → XK → Prop
noncomputable abbrev CXT := List Env → Hp → Shared → XK → Value → Shared → Prop
structure Env0 (P : Program) (w : World) (K : PySem.W.Frag) (mg : Str → Option Value) (base : Heap) (A : Around) (outer : List Env) (s : Shared) (H : Hp) : Prop where
 frames : A.frames = some outer
 mod : Mod K mg base
 bs : ∀ b o, base.get? b = some o → s.heap.get? b = some o ∧ H b = none
 bsz : base.objs.size ≤ s.heap.objs.size
 funs : s.heap.FunFrames base outer
 frf : ∀ b ∈ frs outer, H b = none
 hok : HOk P w H s.heap
 bare : AllBare s.gens
noncomputable def CE (outer : List Env) (P : Program) (w : World) (H : Hp) (s : Shared) (Q : VK) (u : Value) (s' : Shared) : Prop :=
 ∃ v H', s'.os = s.os ∧ AllBare s'.gens ∧ Un (frs outer) [] H H' s.heap s'.heap ∧ HOk P w H' s'.heap ∧ RelV v u ∧ Q v H'
noncomputable def CR (CX : CXT) (outer : List Env) (P : Program) (w : World) (H : Hp) (s : Shared) (Q : VK) (E : XK) (r : Result) (s' : Shared) : Prop :=
 match r with
 | .ok (.ret u) => CE outer P w H s Q u s'
 | .ok _ => False
 | .error e => CX outer H s E e s'
structure FnOk (P : Program) (w : World) (K : PySem.W.Frag) (mg : Str → Option Value) (base : Heap) (CX : CXT) (k : Nat) (f : Addr) (fd : FuncData) (ps : List Str) (sp : Sp) : Prop where
 len : ∀ vs H Q E, sp vs H Q E → vs.length = ps.length
 run : ∀ (A : Around) (outer : List Env) (s : Shared) (H : Hp) (args : Args) (us : List Value) (vs : List V) (Q : VK) (E : XK), Room k A → Env0 P w K mg base A outer s H → BindsTo s fd args (ps.zip us) → Vals vs us → sp vs H Q E →
  codeAny (model P w) A (.call (.ref f) args) (CR CX outer P w H s Q E) s
theorem Env0.make {P : Program} {w : World} {K : PySem.W.Frag} {mg : Str → Option Value} {base : Heap} {A : Around} {outer : List Env} {s : Shared} {H : Hp} (e : Env0 P w K mg base A outer s H) (C : Addr) (us : List Value) (kw : List (Str × Value)) :
    Env0 P w K mg base (A.under (.builtin "type.__call__" ⟨.ref C :: us, kw⟩)) outer s H := ⟨by first | exact e.frames | (simpa [Around.under, Code.envs, Code.isFrame, pushEnvs] using e.frames), e.mod, e.bs, e.bsz, e.funs, e.frf, e.hok, e.bare⟩
section
variable {X : Cx} {pins : List (Addr × Obj)} {σ : St} {H : Hp} {s s' : Shared}
theorem Inv.env0 (I : Inv X pins σ H s) : Env0 X.prog X.w X.K X.mg X.base X.A X.stack s H :=
 ⟨I.ok.frames, I.ok.mod, I.bs, Nat.le_trans I.ok.bsz I.sz, I.stack, I.stkFree, I.hok, I.bare⟩
theorem Inv.after {Q : VK} {u : Value} (I : Inv X pins σ H s) (h : CE X.stack X.prog X.w H s Q u s') : EP X pins σ Q u s' := by
 obtain ⟨v, H', os, bare, un, hok, r, q⟩ := h
 obtain ⟨hh, g, d, t, os'⟩ := s'
 obtain rfl : os' = s.os := os
 exact ⟨v, H', I.call (h' := hh) (g' := g) (d' := d) (t' := t) (ch := []) un hok bare (fun b z => absurd z (by simp)), r, q⟩
end
noncomputable def tCall (sp : Sp) (dvs : List V) (E : XK) (t : TA) : TE := fun σ H Q => t σ H fun vs H1 => sp (vs ++ dvs) H1 Q E
noncomputable def tMeth (C : Addr) (m : Str) (sp : Sp) (dvs : List V) (E : XK) (ta : TE) (t : TA) : TE := fun σ H Q => ta σ H fun x H1 => ∃ a dx fs, x = .ref a ∧ H1 a = some (.ins C dx fs) ∧ fs.lookup m = none ∧
 t σ H1 fun vs H2 => sp (x :: (vs ++ dvs)) H2 Q E
noncomputable def Binds (K : PySem.W.Frag) (fd : FuncData) (ps : List Str) (ds : List Value) : Prop :=
 ∀ (s : Shared) (us : List Value), K.In s.heap → (us ++ ds).length = ps.length → BindsTo s fd ⟨us, []⟩ (ps.zip (us ++ ds))
theorem Binds.all {K : PySem.W.Frag} {fd : FuncData} {ps : List Str} (h : ∀ us : List Value, us.length = ps.length → bindArgs fd ⟨us, []⟩ = pure (ps.zip us)) : Binds K fd ps [] := fun s us _ hl => by
 rw [List.append_nil] at hl ⊢
 exact .of_eq (h us hl)
noncomputable def Passes (CX : CXT) (X : Cx) (E : XK) : Prop := ∀ (pins : List (Addr × Obj)) (σ : St) (H : Hp) (s : Shared) (e : Value) (s' : Shared), Inv X pins σ H s → CX X.stack H s E e s' → X.xe e s'
section
variable {X : Cx} {CX : CXT} {k : Nat} {f C : Addr} {fd : FuncData} {ps : List Str} {sp : Sp} {dvs : List V} {ds : List Value} {E : XK} {x m : Str} {p pos apos : Pos} {e o : Expr} {es : List Expr} {ta : TE} {t : TA}
theorem run_fn {pins : List (Addr × Obj)} {σ : St} {H : Hp} {s : Shared} {Q : VK} {us : List Value} {vs : List V} (F : FnOk X.prog X.w X.K X.mg X.base CX k f fd ps sp) (hr : Room k X.A) (hb : Binds X.K fd ps ds) (hd : Vals dvs ds) (hx : Passes CX X E)
  (I : Inv X pins σ H s) (r : Vals vs us) (h : sp (vs ++ dvs) H Q E) : wpAny (model X.prog X.w) X.A (call (.ref f) us) (EP X pins σ Q) X.xe s := by
 have r2 : Vals (vs ++ dvs) (us ++ ds) := r.append hd
 have hl : (us ++ ds).length = ps.length := by rw [← r2.length]; exact F.len _ _ _ _ h
 refine wpAny_call (codeAny_mono (F.run X.A X.stack s H ⟨us, []⟩ (us ++ ds) (vs ++ dvs) Q E hr I.env0 (hb s us I.kIn hl) r2 h) fun r s' hq => ?_)
 cases r with
 | error e => exact hx pins σ H s e s' I hq
 | ok fl =>
  cases fl with
  | ret u => exact I.after hq
  | next => exact False.elim hq
  | brk => exact False.elim hq
  | cont => exact False.elim hq
theorem pe_call (F : FnOk X.prog X.w X.K X.mg X.base CX k f fd ps sp) (hr : Room k X.A) (hg : Gl X x) (hm : X.mg x = some (.ref f)) (hk : PySem.W.keepIn X.K (.ref f) = true) (hb : Binds X.K fd ps ds) (hd : Vals dvs ds) (hx : Passes CX X E)
  (ha : PA X (e :: es) t) (hdb : (x == ("__debug__" : Str)) = false := by decide) (he : starEach (e :: es) X.env = (false, eval e X.env) :: starEach es X.env := by rfl) (hpl : (backTo pos (starEach es X.env)).any (·.1) = false := by rfl) :
  PE X (.Call (.Name x p) (e :: es) [] pos) (tCall sp dvs E t) := by
 intro pins s σ H Q I h
 refine wpAny_Call_Name_kw (ld_glob I hg hm ?_ hdb)
 refine PySem.W.callWith_K (h₀ := X.base) I.ok.mod.kin hk (thn (ha pos pins s σ H _ I h) fun us s1 ⟨vs, H1, I1, r, q⟩ => ⟨I1.kIn, ?_⟩) he hpl
 exact run_fn F hr hb hd hx I1 r q
theorem pe_meth0 {pl : Sem Bool} (he : PE X o ta) (c : Cls X.K C) (hm : Meth X.K C m f) (F : FnOk X.prog X.w X.K X.mg X.base CX k f fd ps sp) (hr : Room k X.A) (hb : Binds X.K fd ps ds) (hd : Vals dvs ds) (hx : Passes CX X E)
  (ht : eval (.Call (.Attribute o m apos) [] [] pos) X.env = (do
   let ov ← eval o X.env
   standAt apos.atName
   let (f, first) ← holding [ov] (getMethod ov m pl)
   callWith pos f first (backTo pos (starEach [] X.env)) (backToKw pos (keywordEach [] X.env))) := by rfl) :
  PE X (.Call (.Attribute o m apos) [] [] pos) (tMeth C m sp dvs E ta tNil) := by
 intro pins s σ H Q I h
 refine PySem.W.methodCall_KW (pl := pl) (thn (he pins s σ H _ I h) fun u s1 ⟨x, H1, I1, rx, a, dx, fs, ex, ea, l, q⟩ => ?_) ht
 subst ex
 obtain rfl : u = Value.ref a := rx
 refine getmeth_ok I1 ea c hm l ?_
 exact PySem.W.callWith_K0 (first := [.ref a]) I1.kIn hm.kp (run_fn (us := [.ref a]) (vs := [.ref a]) F hr hb hd hx I1 (.cons rfl .nil) q)
structure Mk (K : PySem.W.Frag) (C f : Addr) : Prop where
 makes : PySem.W.makesIn K C = true
 init : PySem.W.findIn K (.ref C) "__init__" = some (some (.ref f))
 fn : PySem.W.isFn K (.ref f) = true
 kp : PySem.W.keepIn K (.ref C) = true
end
section
variable {X : Cx} {CX : CXT} {k : Nat} {f C : Addr} {fd : FuncData} {ps ks : List Str} {sp : Sp} {E : XK} {x m : Str} {p pos apos kpos : Pos} {e o : Expr} {es : List Expr} {kws : List Keyword} {te ta : TE} {t tk : TA} {nm : Option Str}
variable {g : List Value → List Value → List Value} {gV : List V → List V → List V}
end
structure FnScope (N P : List Str) (sc : Scope) : Prop where
 kind : sc.kind = .function
 co : sc.isCoroutine = false
 gen : sc.isGenerator = false
 nd : N.Nodup
 pre : N.take P.length = P
 par : ∀ x ∈ P, sc.names.lookup x = some .local ∨ sc.names.lookup x = some .cell
 nofree : ∀ y ∈ sc.names, y.2 ≠ .free
theorem bindL_out {kindOf : Str → Option NameKind} {x : Str} : ∀ {binds : List (Str × Value)} {m : Str → Option Value}, (∀ v, (x, v) ∉ binds) → bindL kindOf binds m x = m x
  | [], _, _ => rfl
  | (n, v) :: r, m, h => by
    unfold bindL
    rw [bindL_out fun w hw => h w (List.mem_cons_of_mem _ hw)]
    split
    · have : x ≠ n := by rintro rfl; exact h v List.mem_cons_self
      simp [this]
    · rfl
theorem bindC_out {kindOf : Str → Option NameKind} {x : Str} : ∀ {binds : List (Str × Value)} {m : Str → Option Value}, (∀ v, (x, v) ∉ binds) → bindC kindOf binds m x = m x
  | [], _, _ => rfl
  | (n, v) :: r, m, h => by
    unfold bindC
    rw [bindC_out fun w hw => h w (List.mem_cons_of_mem _ hw)]
    split
    · rfl
    · have : x ≠ n := by rintro rfl; exact h v List.mem_cons_self
      simp [this]
theorem bindL_get {kindOf : Str → Option NameKind} {x : Str} {v : Value} : ∀ {P : List Str} {vs : List Value} {i : Nat} {m : Str → Option Value}, P.Nodup → P[i]? = some x → vs[i]? = some v → kindOf x = some .local →
  bindL kindOf (P.zip vs) m x = some v
 | [], _, _, _, _, h, _, _ => by simp at h
 | _ :: _, [], _, _, _, _, h, _ => by simp at h
 | p :: P, w :: vs, 0, m, nd, h1, h2, hk => by
  simp at h1 h2; subst h1; subst h2
  show bindL kindOf ((p, w) :: P.zip vs) m p = _
  unfold bindL
  rw [bindL_out fun v hv => (List.nodup_cons.mp nd).1 (List.of_mem_zip hv).1, if_pos hk]
  simp
 | p :: P, w :: vs, i + 1, m, nd, h1, h2, hk => by
  show bindL kindOf ((p, w) :: P.zip vs) m x = _
  unfold bindL
  exact bindL_get (i := i) (List.nodup_cons.mp nd).2 (by simpa using h1) (by simpa using h2) hk
theorem bindC_get {kindOf : Str → Option NameKind} {x : Str} {v : Value} : ∀ {P : List Str} {vs : List Value} {i : Nat} {m : Str → Option Value}, P.Nodup → P[i]? = some x → vs[i]? = some v → kindOf x ≠ some .local →
  bindC kindOf (P.zip vs) m x = some v
 | [], _, _, _, _, h, _, _ => by simp at h
 | _ :: _, [], _, _, _, _, h, _ => by simp at h
 | p :: P, w :: vs, 0, m, nd, h1, h2, hk => by
  simp at h1 h2; subst h1; subst h2
  show bindC kindOf ((p, w) :: P.zip vs) m p = _
  unfold bindC
  rw [bindC_out fun v hv => (List.nodup_cons.mp nd).1 (List.of_mem_zip hv).1, if_neg hk]
  simp
 | p :: P, w :: vs, i + 1, m, nd, h1, h2, hk => by
  show bindC kindOf ((p, w) :: P.zip vs) m x = _
  unfold bindC
  exact bindC_get (i := i) (List.nodup_cons.mp nd).2 (by simpa using h1) (by simpa using h2) hk
noncomputable def start (N : List Str) (vs : List V) : St := vs.map some ++ List.replicate (N.length - vs.length) none
noncomputable def cxOf (CX : CXT) (P : Program) (w : World) (K : PySem.W.Frag) (mg : Str → Option Value) (base : Heap) (N : List Str) (qual : Str) (scope : Scope) (f : Addr) (cd : Value) (A : Around) (outer : List Env) (s : Shared) (H : Hp) (E : XK) : Cx where
 prog := P
 w := w
 K := K
 mg := mg
 base := base
 A := A.deeper (envOfC qual scope s.heap.objs.size f cd)
 N := N
 s₀ := s
 H₀ := H
 env := envOfC qual scope s.heap.objs.size f cd
 outer := outer
 stack := envOfC qual scope s.heap.objs.size f cd :: outer
 ex := []
 calm := true
 fn := fun _ => true
 pn := []
 xe := fun e s' => wpAny (model P w) (A.deeper (envOfC qual scope s.heap.objs.size f cd)) (leaving (envOfC qual scope s.heap.objs.size f cd) e) (fun _ s'' => CX outer H s E e s'') (fun e' s'' => CX outer H s E e' s'') s'
theorem cell_has {sc : Scope} {n : Nat} {x : Str} (h : sc.names.lookup x = some .cell) : ∃ c, (cellsFrom n sc.names []).lookup x = some c := by
 have q := PySem.W.cellsFrom_some sc.names n [] (.inl h)
 exact Option.isSome_iff_exists.mp q
theorem inv_start {CX : CXT} {P : Program} {w : World} {K : PySem.W.Frag} {mg : Str → Option Value} {base : Heap} {N ps : List Str} {qual : Str} {scope : Scope} {f : Addr} {cd : Value} {A : Around} {outer : List Env} {s s1 : Shared} {H : Hp} {E : XK} {us : List Value} {vs : List V}
  (S : FnScope N ps scope) (hd : A.handled = none) (e0 : Env0 P w K mg base A outer s H) (hl : vs.length = ps.length) (r : Vals vs us)
  (x : InCallC s s.heap.objs.size (bindL (envOfC qual scope s.heap.objs.size f cd).kindOf (ps.zip us) fun _ => none) (cellsFrom (s.heap.objs.size + 1) scope.names []) (bindC (envOfC qual scope s.heap.objs.size f cd).kindOf (ps.zip us) fun _ => none) s1) :
  Inv (cxOf CX P w K mg base N qual scope f cd A outer s H E) [] (start N vs) H s1 := by
 have hpl : ps.length ≤ N.length := by have := congrArg List.length S.pre; rw [List.length_take] at this; omega
 obtain ⟨h1, tk, rfl, hk⟩ := x.done
 have noA : ∀ b : Addr, b ∉ (cxOf CX P w K mg base N qual scope f cd A outer s H E).ex := fun b z => absurd (show b ∈ ([] : List Addr) from z) (by simp)
 refine ⟨⟨e0.mod, S.kind, rfl, rfl, Nat.le_refl _, fun y z c h1 h2 => ?_, fun y hy => ?_, fun y c _ h => ?_, fun _ => hd, Around.frames_deeper e0.frames, .inr ⟨rfl, rfl⟩, fun b z => absurd z (noA b), e0.bs, e0.bsz, fun b _ _ => noA b, fun b z => absurd z (noA b), e0.funs, e0.frf⟩,
  rfl, e0.bare, Un.kept hk, ⟨_, x.toInCall.ns, fun i y v h1 h2 h3 => ?_⟩, fun y c h => ⟨_, x.cell y c h⟩, e0.hok.fresh (Nat.le_refl _), fun y c h => ?_, fun p hp => absurd (show p ∈ ([] : List (Addr × Obj)) from hp) (by simp), e0.hok.kept hk, ?_⟩
 ·exact name_of_addr x.apart (PySem.mem_of_lookup h1) (PySem.mem_of_lookup h2)
 ·have hy : scope.names.lookup y = some .cell ∨ scope.names.lookup y = some .free := hy
  rcases hy with hy | hy
  ·exact cell_has hy
  ·exact absurd rfl (S.nofree _ (PySem.mem_of_lookup hy))
 ·exact Nat.le_of_lt (x.above y c (PySem.mem_of_lookup h))
 ·have hi : i < vs.length := by
   unfold start at h2
   by_cases hi : i < vs.length
   ·exact hi
   ·rw [List.getElem?_append_right (by simpa using hi)] at h2
    rw [List.getElem?_replicate] at h2
    split at h2 <;> cases h2
  have ha : vs[i]? = some v := by
   unfold start at h2
   rw [List.getElem?_append_left (by simpa using hi), List.getElem?_map] at h2
   cases e : vs[i]? with
   | none => rw [e] at h2; cases h2
   | some a => rw [e] at h2; cases h2; rfl
  obtain ⟨u, hu, rv⟩ := r.get ha
  have hp : ps[i]? = some y := by
   rw [← S.pre, List.getElem?_take_of_lt (by omega)]; exact h1
  have ndP : ps.Nodup := by rw [← S.pre]; exact S.nd.sublist (List.take_sublist _ _)
  refine ⟨u, rv, ?_⟩
  rcases S.par y (List.mem_of_getElem? hp) with k | k
  ·exact .inl ⟨k, bindL_get ndP hp hu k⟩
  ·obtain ⟨c, e⟩ := cell_has (n := s.heap.objs.size + 1) k
   refine .inr ⟨.inl k, c, e, ?_⟩
   have q := x.cell y c e
   rw [bindC_get ndP hp hu (by show scope.names.lookup y ≠ _; rw [k]; decide)] at q
   exact q
 ·exact e0.hok.fresh (Nat.le_of_lt (x.above y c (PySem.mem_of_lookup h)))
 ·unfold start
  show _ = N.length
  rw [List.length_append, List.length_map, List.length_replicate]
  omega
theorem fn_of {CX : CXT} {P : Program} {w : World} {K : PySem.W.Frag} {mg : Str → Option Value} {base : Heap} {k : Nat} {f : Addr} {name qual : Str} {params : Arguments} {body : List Stmt} {scope : Scope} {dV kV doc pm cdv ct oc : Value} {an od : Option Addr}
  {osl : Array (Option Value)} {N ps : List Str} {sp : Sp} (lk : K.lookup f = some ⟨oc, od, .func (PySem.W.fnOf name qual params body scope dV kV doc pm an cdv ct), osl⟩) (hcd : PySem.W.codeIn K cdv qual = true) (S : FnScope N ps scope)
  (len : ∀ vs H Q E, sp vs H Q E → vs.length = ps.length)
  (hbody : ∀ (A : Around) (outer : List Env) (s : Shared) (H : Hp) (vs : List V) (Q : VK) (E : XK), Room k (A.deeper (envOfC qual scope s.heap.objs.size f cdv)) → sp vs H Q E →
   ∃ t, PSs (cxOf CX P w K mg base N qual scope f cdv A outer s H E) body t ∧ t { nx := fun _ H' => Q .non H', rt := Q } (start N vs) H) :
  FnOk P w K mg base CX (k + 1) f (PySem.W.fnOf name qual params body scope dV kV doc pm an cdv ct) ps sp := by
 refine ⟨len, fun A outer s H args us vs Q E hr e0 hb r hsp => ?_⟩
 have hl := len _ _ _ _ hsp
 have KX : K.In s.heap := e0.mod.kin.keeps fun b o e => (e0.bs b o e).1
 have lim : s.heap.NoLimit := e0.mod.nolimit.keeps fun b o e => (e0.bs b o e).1
 have hkind : ∀ y ∈ ps.zip us, scope.names.lookup y.1 = some .local ∨ (scope.names.lookup y.1 = some .cell ∧ ((cellsFrom (s.heap.objs.size + 1) scope.names []).lookup y.1).isSome = true) := fun ⟨n, v⟩ hy => by
  rcases S.par n (List.of_mem_zip hy).1 with q | q
  ·exact .inl q
  ·exact .inr ⟨q, PySem.W.cellsFrom_some _ _ _ (.inl q)⟩
 refine codeAny_call_function hr.depth (KX _ _ lk) rfl S.co S.gen rfl (PySem.W.codeRec_of KX hcd) (hb _ _ _ _ ?_)
 refine wpAny_newFunctionEnv_cells S.kind hkind fun env he s1 x => ?_
 subst he
 refine ⟨lim.keeps x.toInCall.keep, codeAny_func ?_⟩
 obtain ⟨t, ht, hq⟩ := hbody A outer s H vs Q E (hr.deeper _) hsp
 have I : Inv (cxOf CX P w K mg base N qual scope f cdv A outer s H E) [] (start N vs) H s1 := inv_start S hr.hd e0 hl r x
 refine wpAny_mono (ht [] s1 (start N vs) H _ I hq) (fun fl s' hs => ?_) fun e s' hs => hs
 have fin : ∀ {σ' : St} {H' : Hp} {v : V} {u : Value}, Inv (cxOf CX P w K mg base N qual scope f cdv A outer s H E) [] σ' H' s' → RelV v u → Q v H' → CE outer P w H s Q u s' :=
  fun {σ' H' v u} J rv q => ⟨v, H', J.os, J.bare, J.base, J.hok, rv, q⟩
 cases fl with
 | ret u =>
  obtain ⟨v, σ', H', J, rv, q⟩ := hs
  exact fin J rv q
 | next =>
  obtain ⟨σ', H', J, q⟩ := hs
  exact fin (v := V.non) (u := Value.none) J rfl q
 | brk =>
  obtain ⟨_, _, _, q⟩ := hs
  exact False.elim q
 | cont =>
  obtain ⟨_, _, _, q⟩ := hs
  exact False.elim q
section
variable {X : Cx} {x : Str} {p pos : Pos} {e : Expr} {es : List Expr} {t : TA} {id T : String} {r : List V → Hp → VK → Prop}
noncomputable def tCB (r : List V → Hp → VK → Prop) (t : TA) : TE := fun σ H Q => t σ H fun vs H1 => r vs H1 Q
theorem pe_callB (hc : CallR X (.builtin id) r) (hg : Gl X x) (hm : X.mg x = none) (hv : bootBuiltins x = some (.builtin id)) (ha : PA X (e :: es) t) (hn : x ≠ "__name__" := by decide) (hdb : (x == ("__debug__" : Str)) = false := by decide)
  (he : starEach (e :: es) X.env = (false, eval e X.env) :: starEach es X.env := by rfl) (hpl : (backTo pos (starEach es X.env)).any (·.1) = false := by rfl) : PE X (.Call (.Name x p) (e :: es) [] pos) (tCB r t) := by
 intro pins s σ H Q I h
 refine wpAny_Call_Name_kw (ld_blt I hg hm hv ?_ hn hdb)
 exact PyProof.Rows.callWith_builtin1 (thn (ha pos pins s σ H _ I h) fun us s1 ⟨vs, H1, I1, r1, q1⟩ => hc pins s1 σ H1 vs us Q I1 r1 q1) he hpl
theorem pe_callTy (hc : CallR X (.type T) r) (hg : Gl X x) (hm : X.mg x = none) (hv : bootBuiltins x = some (.type T)) (ha : PA X (e :: es) t) (hn : x ≠ "__name__" := by decide) (hdb : (x == ("__debug__" : Str)) = false := by decide)
  (he : starEach (e :: es) X.env = (false, eval e X.env) :: starEach es X.env := by rfl) (hpl : (backTo pos (starEach es X.env)).any (·.1) = false := by rfl) : PE X (.Call (.Name x p) (e :: es) [] pos) (tCB r t) := by
 intro pins s σ H Q I h
 refine wpAny_Call_Name_kw (ld_blt I hg hm hv ?_ hn hdb)
 exact PyProof.Rows.callWith_type1 (thn (ha pos pins s σ H _ I h) fun us s1 ⟨vs, H1, I1, r1, q1⟩ => hc pins s1 σ H1 vs us Q I1 r1 q1) he hpl
end
end L2
namespace HT
open PySem PyProof.Rows
section
open PySem.SeqAt
open PySem.AutoSeq1 (wpAny_loadPart')
open PySem.MeetsSeq PySem.MeetsSeq2 PySem.MeetsSeq3
end
section
variable {prog : Program} {w : World} {A : Around} {E : Value → Shared → Prop} {s : Shared}
noncomputable def sIx (n d : Nat) : Option Int → Nat
 | none => d
 | some v => if v < 0 then (v + (n : Int)).toNat else min v.toNat n
theorem sIx_none (n d : Nat) : sIx n d none = d := rfl
theorem sIx_nat (n d k : Nat) : sIx n d (some (k : Int)) = min k n := by
 show (if (k : Int) < 0 then ((k : Int) + (n : Int)).toNat else min (k : Int).toNat n) = min k n
 rw [if_neg (by omega), Int.toNat_natCast]
end
end HT
namespace L2
open PySem PySem.Spec PyProof.Rows
noncomputable abbrev TO := St → Hp → (Option Int → Hp → Prop) → Prop
noncomputable def PO (X : Cx) (e : Option Expr) (t : TO) : Prop :=
 ∀ (pins : List (Addr × Obj)) (s : Shared) (σ : St) (H : Hp) (Q : Option Int → Hp → Prop), Inv X pins σ H s → t σ H Q →
  wpAny (model X.prog X.w) X.A (evalPart e X.env) (fun u s' => ∃ o H', Inv X pins σ H' s' ∧ IsPart u o ∧ Q o H') X.xe s
noncomputable def tNoPart : TO := fun _ H Q => Q none H
noncomputable def tPart (t : TE) : TO := fun σ H Q => t σ H fun x H1 => ∃ i, x = .int i ∧ Q (some i) H1
section
variable {X : Cx} {e : Expr} {te : TE} {lo hi : Option Expr} {tl th : TO} {pos p2 : Pos}
theorem po_none : PO X none tNoPart := by
 intro pins s σ H Q I h
 rw [evalPart_none]
 exact wpAny_pure ⟨none, H, I, .none, h⟩
theorem po_some (h : PE X e te) : PO X (some e) (tPart te) := by
 intro pins s σ H Q I hw
 rw [evalPart_some]
 refine thn (h pins s σ H _ I hw) fun u s1 ⟨x, H1, I1, r1, q1⟩ => ?_
 obtain ⟨i, rfl, q⟩ := q1
 obtain ⟨t, rfl⟩ := r1
 exact ⟨some i, H1, I1, .int i t, q⟩
noncomputable def SlR (X : Cx) (r : V → Option Int → Option Int → Hp → VK → Prop) : Prop :=
 ∀ (pins : List (Addr × Obj)) (s : Shared) (σ : St) (H : Hp) (x : V) (v vl vu : Value) (lo hi : Option Int) (sl : Addr) (Q : VK), Inv X pins σ H s → RelV x v → s.heap.IsSliceOf sl vl vu .none → IsPart vl lo → IsPart vu hi → r x lo hi H Q →
  ∃ T id, typeLookup (.type T) "__getitem__" = pure (some (.builtin id)) ∧ s.TypeIs v T ∧ wpAny (model X.prog X.w) X.A (getItem v (.ref sl)) (EP X pins σ Q) X.xe s
noncomputable def tSl (r : V → Option Int → Option Int → Hp → VK → Prop) (te : TE) (tl th : TO) : TE := fun σ H Q => te σ H fun x H1 => tl σ H1 fun l H2 => th σ H2 fun u H3 => r x l u H3 Q
theorem pe_slice {r : V → Option Int → Option Int → Hp → VK → Prop} (hr : SlR X r) (he : PE X e te) (hl : PO X lo tl) (hu : PO X hi th) : PE X (.Subscript e (.Slice lo hi none p2) pos) (tSl r te tl th) := by
 intro pins s σ H Q I h
 refine Subscript_ (thn (he pins s σ H _ I h) fun v s1 ⟨x, H1, I1, r1, q1⟩ => ?_)
 refine wpAny_Slice (thn (hl pins s1 σ H1 _ I1 q1) fun vl s2 ⟨l, H2, I2, pl, q2⟩ => thn (hu pins s2 σ H2 _ I2 q2) fun vu s3 ⟨u, H3, I3, pu, q3⟩ => ?_)
 rw [evalPart_none]
 refine wpAny_pure ?_
 have I4 : Inv X pins σ H3 { s3 with heap := s3.heap.push { cls := .type "slice", data := .fields #[vl, vu, .none] } } := I3.kept (t' := s3.toks) fun b ob q => Heap.get?_push_of_some _ q
 obtain ⟨T, id, hT, ht, hg⟩ := hr pins { s3 with heap := s3.heap.push { cls := .type "slice", data := .fields #[vl, vu, .none] } } σ H3 x v vl vu l u s3.heap.objs.size Q I4 r1 (Heap.IsSliceOf.new ..) pl pu q3
 show wpAny (model X.prog X.w) X.A (subscriptTail e (.Slice lo hi none p2) v (.ref s3.heap.objs.size)) (EP X pins σ Q) X.xe { s3 with heap := s3.heap.push { cls := .type "slice", data := .fields #[vl, vu, .none] } }
 exact tail_any (ops := [.ref s3.heap.objs.size, v]) ht hT hg (by with_unfolding_all rfl)
noncomputable def cutV (xs : List V) (lo hi : Option Int) : List V := (xs.drop (HT.sIx xs.length 0 lo)).take (HT.sIx xs.length xs.length hi - HT.sIx xs.length 0 lo)
theorem cutV_length (xs : List V) (lo hi : Option Int) : (cutV xs lo hi).length ≤ xs.length := by
 unfold cutV
 rw [List.length_take, List.length_drop]
 omega
end
noncomputable def ixN (n : Nat) (i : Int) : Option Nat := if 0 ≤ i then (if i < n then some i.toNat else none) else if -(n : Int) ≤ i then some (i + n).toNat else none
noncomputable def atI {α : Type} (xs : List α) (i : Int) : Option α := (ixN xs.length i).bind fun j => xs[j]?
theorem ixN_seq {n : Nat} {i : Int} {j : Nat} (h : ixN n i = some j) : seqIndex? i n = some j ∧ j < n ∧ -(n : Int) ≤ i ∧ i < n := by
 unfold ixN at h
 by_cases h0 : 0 ≤ i
 ·rw [if_pos h0] at h
  by_cases h1 : i < n
  ·rw [if_pos h1] at h
   have e : i.toNat = j := Option.some.inj h
   exact ⟨by rw [seqIndex_of h0 h1, e], by omega, by omega, h1⟩
  ·rw [if_neg h1] at h; cases h
 ·rw [if_neg h0] at h
  by_cases h1 : -(n : Int) ≤ i
  ·rw [if_pos h1] at h
   have e : (i + n).toNat = j := Option.some.inj h
   exact ⟨by rw [seqIndex_neg (by omega) h1, e], by omega, h1, by omega⟩
  ·rw [if_neg h1] at h; cases h
theorem atI_get {α : Type} {xs : List α} {i : Int} {v : α} (h : atI xs i = some v) : ∃ j, seqIndex? i xs.length = some j ∧ xs[j]? = some v ∧ j < xs.length ∧ -(xs.length : Int) ≤ i ∧ i < xs.length := by
 unfold atI at h
 cases e : ixN xs.length i with
 | none => rw [e] at h; cases h
 | some j =>
  rw [e] at h
  obtain ⟨h1, h2, h3, h4⟩ := ixN_seq e
  exact ⟨j, h1, h, h2, h3, h4⟩
theorem atI_nat {α : Type} {xs : List α} {j : Nat} {v : α} (h : xs[j]? = some v) : atI xs (j : Int) = some v := by
 have hj : j < xs.length := (List.getElem?_eq_some_iff.mp h).1
 have e : ixN xs.length (j : Int) = some j := by
  unfold ixN
  rw [if_pos (by omega), if_pos (by omega)]; simp
 unfold atI; rw [e]; exact h
noncomputable def PlainIx (b : Expr) : Prop := ∀ o i, subscripted b false o i = operate [o, i] (getItem o i)
noncomputable def IxR (X : Cx) (r : R2) : Prop :=
 ∀ (value slice : Expr) (pins : List (Addr × Obj)) (s : Shared) (σ : St) (H : Hp) (x y : V) (v u : Value) (Q : VK), Inv X pins σ H s → RelV x v → RelV y u → r x y H Q →
  subscripted slice false v u = operate [v, u] (getItem v u) → wpAny (model X.prog X.w) X.A (subscriptTail value slice v u) (EP X pins σ Q) X.xe s
noncomputable def MtR (X : Cx) (id : String) (r : V → List V → Hp → VK → Prop) : Prop :=
 ∀ (pins : List (Addr × Obj)) (s : Shared) (σ : St) (H : Hp) (x : V) (xs : List V) (v : Value) (us : List Value) (Q : VK), Inv X pins σ H s → RelV x v → Vals xs us → r x xs H Q →
  wpAny (model X.prog X.w) X.A (call (.builtin id) (v :: us)) (EP X pins σ Q) X.xe s
section
variable {X : Cx} {a b : Expr} {ta tb : TE} {pos : Pos}
theorem pe_ix {r : R2} (hr : IxR X r) (ha : PE X a ta) (hb : PE X b tb) (hs : PlainIx b) : PE X (.Subscript a b pos) (tOp r ta tb) := by
 intro pins s σ H Q I h
 exact Subscript_ (binT ha hb I h fun v u s2 x y H2 I2 rx ry q => hr a b pins s2 σ H2 x y v u Q I2 rx ry q (hs _ _))
noncomputable def rIxL (K : PySem.W.Frag) : R2 := fun x y H Q => ∃ p xs i v, x = .ref p ∧ y = .int i ∧ SqL K H p xs ∧ atI xs i = some v ∧ Q v H
noncomputable def rIxT (K : PySem.W.Frag) : R2 := fun x y H Q => ∃ p xs i v, x = .ref p ∧ y = .int i ∧ SqT K H p xs ∧ atI xs i = some v ∧ Q v H
theorem ix_list : IxR X (rIxL X.K) := by
 intro value slice pins s σ H x y v u Q I rx ry h hs
 obtain ⟨p, xs, i, z, rfl, rfl, hq, he, q⟩ := h
 cases rx
 obtain ⟨t, rfl⟩ := ry
 obtain ⟨its, r, pl, hz⟩ := I.list hq
 obtain ⟨j, h1, h2, h3, h4, h5⟩ := atI_get he
 obtain ⟨w, ew, rw'⟩ := r.get h2
 have hl := r.length
 have hn := line63
 have fin : EP X pins σ Q w s := ⟨z, H, I, rw', q⟩
 by_cases h0 : 0 ≤ i
 ·have hj : i.toNat = j := by
   rw [seqIndex_of h0 h5] at h1
   exact Option.some.inj h1
  exact item_listR pl.isList h0 (by omega) (by rw [hj]; simpa using ew) fin hs
 ·have hj : (i + (its.toArray.size : Int)).toNat = j := by
   rw [seqIndex_neg (by omega) h4] at h1
   rw [List.size_toArray, ← hl]
   exact Option.some.inj h1
  exact subscriptTail_builtinR (x := w) pl.isList.typeIs slot_list_getitem.lookup
   (wpAny_getItem_list_neg (Q := fun r s' => r = w ∧ EP X pins σ Q r s') pl.isList (by omega) (by rw [List.size_toArray] <;> omega) (by omega) (by rw [hj]; simpa using ew) ⟨rfl, fin⟩) hs
theorem ix_tup : IxR X (rIxT X.K) := by
 intro value slice pins s σ H x y v u Q I rx ry h hs
 obtain ⟨p, xs, i, z, rfl, rfl, hq, he, q⟩ := h
 cases rx
 obtain ⟨t, rfl⟩ := ry
 obtain ⟨its, r, pl, hz⟩ := I.tuple hq
 obtain ⟨j, h1, h2, h3, h4, h5⟩ := atI_get he
 obtain ⟨w, ew, rw'⟩ := r.get h2
 have hl := r.length
 have hn := line63
 have fin : EP X pins σ Q w s := ⟨z, H, I, rw', q⟩
 exact subscriptTail_builtinR (x := w) pl.typeIs slot_tuple_getitem.lookup
  (getItem_tuple (j := j) (Q := fun r s' => r = w ∧ EP X pins σ Q r s') pl (by omega) (by omega) (by rw [List.size_toArray, ← hl]; exact h1) (by simpa using ew) ⟨rfl, fin⟩) hs
theorem mapSeq_set (its : List Value) (n j : Nat) (u : Value) : Obj.mapSeq (·.setIfInBounds j u) { cls := .type "list", data := .seq its.toArray n } = { cls := .type "list", data := .seq (its.set j u).toArray n } := by
 simp [Obj.mapSeq]
theorem Inv.lst {pins : List (Addr × Obj)} {σ : St} {H : Hp} {s : Shared} {p : Addr} {xs : List V} (I : Inv X pins σ H s) (h : H p = some (.lst xs)) :
  ∃ (its : List Value) (n : Nat), Vals xs its ∧ s.heap.get? p = some { cls := .type "list", data := .seq its.toArray n } ∧ xs.length ≤ sizeLine := by
 obtain ⟨z, its, n, r, e⟩ := I.hok p _ h
 exact ⟨its, n, r, e, z⟩
theorem Inv.lstUpd {pins : List (Addr × Obj)} {σ : St} {H : Hp} {s : Shared} {p : Addr} {xs ys : List V} {its its' : List Value} {n n' : Nat} {f : Obj → Obj} (I : Inv X pins σ H s) (h : H p = some (.lst xs))
  (ho : s.heap.get? p = some { cls := .type "list", data := .seq its.toArray n }) (hf : f { cls := .type "list", data := .seq its.toArray n } = { cls := .type "list", data := .seq its'.toArray n' }) (r : Vals ys its') (hz : ys.length ≤ sizeLine) (t : Nat) :
  Inv X pins σ (upd H p (.lst ys)) { s with heap := s.heap.update p f, toks := t } := by
 have e : (s.heap.update p f).get? p = some { cls := .type "list", data := .seq its'.toArray n' } := by
  rw [Heap.get?_update_self f ho (by rw [hf] <;> rfl), hf]
 refine I.write (x := p) (e := p) (by rw [h]; trivial) (.inl rfl) (fun b u hb q => (Heap.get?_update_other _ _ (Ne.symm hb)).trans q) ⟨_, e⟩ ?_
 exact ⟨hz, its', n', r, e⟩
noncomputable def rSetL : V → V → V → Hp → (Hp → Prop) → Prop := fun o i v H Q => ∃ p xs k j, o = .ref p ∧ i = .int k ∧ H p = some (.lst xs) ∧ ixN xs.length k = some j ∧ Q (upd H p (.lst (xs.set j v)))
theorem set_list : PSet X rSetL := by
 intro pins s σ H o i v ov iv u Q I ro ri rv h
 obtain ⟨p, xs, k, j, rfl, rfl, hp, hj, q⟩ := h
 cases ro
 obtain ⟨t, rfl⟩ := ri
 obtain ⟨its, n, r, ho, hz⟩ := I.lst hp
 obtain ⟨h1, h2, h3, h4⟩ := ixN_seq hj
 have hl := r.length
 have hn := line63
 have I' : Inv X pins σ (upd H p (.lst (xs.set j v))) { s with heap := s.heap.update p (Obj.mapSeq (·.setIfInBounds j u)) } :=
  I.lstUpd hp ho (mapSeq_set its n j u) (r.set rv j) (by rw [List.length_set]; exact hz) s.toks
 by_cases h0 : 0 ≤ k
 ·have hk : k.toNat = j := by
   rw [seqIndex_of h0 h4] at h1
   exact Option.some.inj h1
  exact PySem.W.ki_setAt ho h0 (by omega) (by rw [List.size_toArray, ← hl]; exact h4) (by rw [hk]; exact ⟨_, I', q⟩)
 ·have hk : (k + (its.toArray.size : Int)).toNat = j := by
   rw [seqIndex_neg (by omega) h3] at h1
   rw [List.size_toArray, ← hl]
   exact Option.some.inj h1
  exact PySem.W.ki_setBack ho (by omega) (by rw [List.size_toArray, ← hl]; exact h3) (by omega) (by rw [hk]; exact ⟨_, I', q⟩)
theorem slice_bounds (lo hi : Option Int) (n : Nat) : (sliceBounds lo hi none n).1 = ((HT.sIx n 0 lo : Nat) : Int) ∧ (sliceBounds lo hi none n).2.1 = ((HT.sIx n n hi : Nat) : Int) ∧ (sliceBounds lo hi none n).2.2 = 1 := by
 refine ⟨?_, ?_, rfl⟩
 ·cases lo with
  | none => simp [sliceBounds, HT.sIx]
  | some i =>
   simp only [sliceBounds, HT.sIx, Option.getD_none, show (1 : Int) > 0 by decide, if_true]
   by_cases h : i < 0
   ·simp only [h, if_true] <;> omega
   ·simp only [h, if_false] <;> omega
 ·cases hi with
  | none => simp [sliceBounds, HT.sIx]
  | some i =>
   simp only [sliceBounds, HT.sIx, Option.getD_none, show (1 : Int) > 0 by decide, if_true]
   by_cases h : i < 0
   ·simp only [h, if_true] <;> omega
   ·simp only [h, if_false] <;> omega
theorem slicePick_cut (its : List Value) (lo hi : Option Int) : slicePick its.toArray lo hi none = ((its.drop (HT.sIx its.length 0 lo)).take (HT.sIx its.length its.length hi - HT.sIx its.length 0 lo)).toArray := by
 obtain ⟨h1, h2, h3⟩ := slice_bounds lo hi its.toArray.size
 unfold slicePick
 rw [h1, h2, h3]
 simp only [sliceRange_one, pick_run, List.size_toArray] <;> rfl
noncomputable def rSlL (K : PySem.W.Frag) : V → Option Int → Option Int → Hp → VK → Prop := fun x lo hi H Q => ∃ a xs, x = .ref a ∧ SqL K H a xs ∧ ∀ p, H p = none → Q (.ref p) (upd H p (.lst (cutV xs lo hi)))
theorem sl_list : SlR X (rSlL X.K) := by
 intro pins s σ H x v vl vu lo hi sl Q I rx hs pl pu h
 obtain ⟨a, xs, rfl, hx, q⟩ := h
 cases rx
 obtain ⟨its, r, ht, hz⟩ := I.list hx
 have hlen := r.length
 refine ⟨"list", _, slot_list_getitem.lookup, ht.isList.typeIs, ?_⟩
 refine wpAny_getItem_list_slice ht.isList hs pl pu .none (by simp) ?_ (by rw [List.size_toArray] <;> omega)
 rw [slicePick_cut, ← hlen]
 refine ⟨.ref s.heap.objs.size, _, I.laid (t' := s.toks) (o := .lst (cutV xs lo hi)) (fun b ob q => Heap.get?_push_of_some _ q) (Nat.le_refl _) ?_, rfl, q _ (I.hok.fresh (Nat.le_refl _))⟩
 exact ⟨Nat.le_trans (cutV_length xs lo hi) hz, _, 0, (r.drop (HT.sIx xs.length 0 lo)).take (HT.sIx xs.length xs.length hi - HT.sIx xs.length 0 lo), Heap.get?_push_size _ rfl⟩
noncomputable def flatV : V → Bool
 | .non => true
 | .bl _ => true
 | .int _ => true
 | .str _ => true
 | _ => false
noncomputable def eqV : V → V → Bool
 | .non, .non => true
 | .bl a, .bl b => a == b
 | .bl a, .int b => (if a then 1 else 0) == b
 | .int a, .bl b => a == (if b then 1 else 0)
 | .int a, .int b => a == b
 | .str a, .str b => a == b
 | _, _ => false
theorem eqAt_V {A : Around} {s : Shared} {y x : V} {u v : Value} (ry : RelV y u) (rx : RelV x v) (fy : flatV y = true) (fx : flatV x = true) : SeqAt.EqAt A s u v (eqV y x) := by
 cases y with
 | non =>
  cases ry
  cases x with
  | non => cases rx; exact SeqAt.EqAt.same _
  | bl b => cases rx; exact SeqAt.EqAt.none_bool b
  | int b => obtain ⟨t, rfl⟩ := rx; exact SeqAt.EqAt.none_int b t
  | str b => obtain ⟨t, rfl⟩ := rx; exact SeqAt.EqAt.none_str b t
  | _ => exact absurd (show false = true from fx) Bool.false_ne_true
 | bl a =>
  cases ry
  cases x with
  | non => cases rx; exact SeqAt.EqAt.bool_none a
  | bl b => cases rx; exact SeqAt.EqAt.bool_bool a b
  | int b => obtain ⟨t, rfl⟩ := rx; exact SeqAt.EqAt.bool_int a b t
  | str b => obtain ⟨t, rfl⟩ := rx; exact SeqAt.EqAt.bool_str a b t
  | _ => exact absurd (show false = true from fx) Bool.false_ne_true
 | int a =>
  obtain ⟨t', rfl⟩ := ry
  cases x with
  | non => cases rx; exact SeqAt.EqAt.int_none a t'
  | bl b => cases rx; exact SeqAt.EqAt.int_bool a t' b
  | int b => obtain ⟨t, rfl⟩ := rx; exact SeqAt.EqAt.int_int a t' b t
  | str b => obtain ⟨t, rfl⟩ := rx; exact SeqAt.EqAt.int_str a t' b t
  | _ => exact absurd (show false = true from fx) Bool.false_ne_true
 | str a =>
  obtain ⟨t', rfl⟩ := ry
  cases x with
  | non => cases rx; exact SeqAt.EqAt.str_none a t'
  | bl b => cases rx; exact SeqAt.EqAt.str_bool a t' b
  | int b => obtain ⟨t, rfl⟩ := rx; exact SeqAt.EqAt.str_int a t' b t
  | str b => obtain ⟨t, rfl⟩ := rx; exact SeqAt.EqAt.str_str a t' b t
  | _ => exact absurd (show false = true from fx) Bool.false_ne_true
 | _ => exact absurd (show false = true from fy) Bool.false_ne_true
theorem call_len_seq : CallR X (.builtin "len") (fun xs H Q => ∃ p ys, xs = [.ref p] ∧ (SqL X.K H p ys ∨ SqT X.K H p ys) ∧ Q (.int ys.length) H) := by
 intro pins s σ H xs us Q I r h
 obtain ⟨p, ys, rfl, hq, q⟩ := h
 obtain ⟨u, rfl, rx⟩ := vals1 r
 cases rx
 have hn := line63
 rcases hq with hq | hq
 ·obtain ⟨its, r', pl, hz⟩ := I.list hq
  have hlen := r'.length
  exact Calls.call_len_list pl.isList (by simp only [List.size_toArray] <;> omega) ⟨.int ys.length, H, I.tok _, ⟨s.toks + 1, by rw [List.size_toArray, hlen]⟩, q⟩
 ·obtain ⟨its, r', pl, hz⟩ := I.tuple hq
  have hlen := r'.length
  exact len_tuple pl (by simp only [List.size_toArray] <;> omega) ⟨.int ys.length, H, I.tok _, ⟨s.toks + 1, by rw [List.size_toArray, hlen]⟩, q⟩
theorem call_list_of : CallR X (.type "list") (fun xs H Q => ∃ p ys, xs = [.ref p] ∧ (SqL X.K H p ys ∨ SqT X.K H p ys) ∧ ∀ l, H l = none → Q (.ref l) (upd H l (.lst ys))) := by
 intro pins s σ H xs us Q I r h
 obtain ⟨p, ys, rfl, hq, q⟩ := h
 obtain ⟨u, rfl, rx⟩ := vals1 r
 cases rx
 have fin : ∀ (its : List Value), Vals ys its → ys.length ≤ sizeLine → ∀ (h' : Heap) (c' : Nat), (∀ b o', s.heap.get? b = some o' → h'.get? b = some o') →
   h'.get? s.heap.objs.size = some { cls := .type "list", dict := none, data := .seq its.toArray c', slots := #[] } → EP X pins σ Q (.ref s.heap.objs.size) { s with heap := h' } := fun its r' hz h' c' kp e =>
  ⟨.ref s.heap.objs.size, _, I.laid (t' := s.toks) kp (Nat.le_refl _) (show ObjOk X.prog X.w _ h' _ (.lst ys) from ⟨hz, its, c', r', e⟩), rfl, q _ (I.hok.fresh (Nat.le_refl _))⟩
 rcases hq with hq | hq
 ·obtain ⟨its, r', pl, hz⟩ := I.list hq
  have hlen := r'.length
  obtain ⟨o, ho, hc, n, hd⟩ := pl.isList
  exact call_list_seq p (.inl rfl) ho hc hd (fun h' c' kp e => fin its r' hz h' c' kp e) (by simp only [List.size_toArray] <;> omega)
 ·obtain ⟨its, r', pl, hz⟩ := I.tuple hq
  have hlen := r'.length
  obtain ⟨o, ho, hc, n, hd⟩ := pl
  exact call_list_seq p (.inr rfl) ho hc hd (fun h' c' kp e => fin its r' hz h' c' kp e) (by simp only [List.size_toArray] <;> omega)
theorem call_tuple_of : CallR X (.type "tuple") (fun xs H Q => ∃ p ys, xs = [.ref p] ∧ ((SqL X.K H p ys ∧ ∀ l, H l = none → Q (.ref l) (upd H l (.tup ys))) ∨ (SqT X.K H p ys ∧ Q (.ref p) H))) := by
 intro pins s σ H xs us Q I r h
 obtain ⟨p, ys, rfl, h⟩ := h
 obtain ⟨u, rfl, rx⟩ := vals1 r
 cases rx
 rcases h with ⟨hq, q⟩ | ⟨hq, q⟩
 ·obtain ⟨its, r', pl, hz⟩ := I.list hq
  have hlen := r'.length
  refine call_tuple_list pl.isList (fun h' kp => ?_) (by simp only [List.size_toArray] <;> omega)
  have I1 : Inv X pins σ H { s with heap := h' } := I.kept (t' := s.toks) kp
  have I2 : Inv X pins σ (upd H h'.objs.size (.tup ys)) { s with heap := h'.push { cls := .type "tuple", data := .seq its.toArray } } :=
   I1.laid (t' := s.toks) (fun b o e => Heap.get?_push_of_some _ e) (Nat.le_refl _) (show ObjOk X.prog X.w _ _ _ (.tup ys) from ⟨hz, its, r', IsTup.new _ _⟩)
  exact ⟨.ref h'.objs.size, _, I2, rfl, q _ (I1.hok.fresh (Nat.le_refl _))⟩
 ·obtain ⟨its, r', pl, hz⟩ := I.tuple hq
  exact call_tuple_same pl ⟨.ref p, H, I, rfl, q⟩
noncomputable def tyV (K : PySem.W.Frag) (T : String) (x : V) (H : Hp) : Prop := match x with
 | .str _ => T = "str"
 | .int _ => T = "int"
 | .ref p => (T = "list" ∧ ∃ xs, SqL K H p xs) ∨ (T = "tuple" ∧ ∃ o, K.lookup p = some o ∧ o.cls = .type "tuple" ∧ o.dict = none) ∨
   (T = "dict" ∧ ((∃ kvs, H p = some (.dK kvs)) ∨ ∃ kvs, H p = some (.dT kvs))) ∨ (T = "set" ∧ ∃ S n, H p = some (.set S n))
 | _ => False
theorem tyV_is {pins : List (Addr × Obj)} {σ : St} {H : Hp} {s : Shared} {T : String} {x : V} {v : Value} (I : Inv X pins σ H s) (r : RelV x v) (ty : tyV X.K T x H) :
  s.TypeIs v T ∧ ∀ a, v = .ref a → ∃ ob, s.heap.get? a = some ob ∧ ob.dict = none := by
 cases x with
 | str z =>
  obtain ⟨t, rfl⟩ := r
  cases (show T = "str" from ty)
  exact ⟨typeIs_str s z t, fun _ e => nomatch e⟩
 | int i =>
  obtain ⟨t, rfl⟩ := r
  cases (show T = "int" from ty)
  exact ⟨typeIs_int s i t, fun _ e => nomatch e⟩
 | ref p =>
  cases r
  rcases ty with ⟨rfl, xs, hq⟩ | ⟨rfl, o, hk, hc, hd⟩ | ⟨rfl, hk⟩ | ⟨rfl, S, n, hk⟩
  ·obtain ⟨its, _, pl, _⟩ := I.list hq
   refine ⟨pl.isList.typeIs, fun a e => ?_⟩
   cases e
   obtain ⟨o, n, e, c, hd, _⟩ := pl
   exact ⟨o, e, hd⟩
  ·refine ⟨⟨o, I.kIn p o hk, hc⟩, fun a e => ?_⟩
   cases e
   exact ⟨o, I.kIn _ o hk, hd⟩
  ·have z : ∃ o, s.heap.get? p = some o ∧ o.ExactDict := by
    rcases hk with ⟨kvs, hk⟩ | ⟨kvs, hk⟩
    ·obtain ⟨_, _, _, _, o, _, _, e, ex, _⟩ := I.hok p _ hk
     exact ⟨o, e, ex⟩
    ·obtain ⟨_, _, _, _, o, _, _, e, ex, _⟩ := I.hok p _ hk
     exact ⟨o, e, ex⟩
   obtain ⟨o, e, ex⟩ := z
   refine ⟨⟨o, e, ex.1⟩, fun a e2 => ?_⟩
   cases e2
   exact ⟨o, e, ex.2.1⟩
  ·obtain ⟨o, _, _, _, e, ex, _⟩ := I.hok p _ hk
   refine ⟨⟨o, e, ex.1⟩, fun a e2 => ?_⟩
   cases e2
   exact ⟨o, e, ex.2.1⟩
 | _ => exact False.elim ty
noncomputable def tBM0 (K : PySem.W.Frag) (T : String) (r : V → List V → Hp → VK → Prop) (to : TE) : TE := fun σ H Q => to σ H fun x H1 => tyV K T x H1 ∧ r x [] H1 Q
noncomputable def tBM (K : PySem.W.Frag) (T : String) (r : V → List V → Hp → VK → Prop) (to : TE) (t : TA) : TE := fun σ H Q => to σ H fun x H1 => tyV K T x H1 ∧ t σ H1 fun xs H2 => r x xs H2 Q
variable {o e : Expr} {es : List Expr} {to : TE} {t : TA} {name : Str} {apos cpos : Pos} {T id : String} {r : V → List V → Hp → VK → Prop}
theorem pe_bm0 (pa : PlainAttrs T) (slot : Slot T name id) (hty : typeOf (.builtin id) = pure (.type "method_descriptor")) (hm : MtR X id r) (ho : PE X o to)
  (hbase : attributeBase o name X.env (eval o X.env) = eval o X.env := by rfl) (hline : (apos.endLine == cpos.line) = true := by rfl) : PE X (.Call (.Attribute o name apos) [] [] cpos) (tBM0 X.K T r to) := by
 intro pins s σ H Q I h
 refine wpAny_Call_method0_late hbase hline (thn (ho pins s σ H _ I h) fun v s1 ⟨x, H1, I1, r1, ty, q1⟩ => ?_)
 obtain ⟨h1, h2⟩ := tyV_is I1 r1 ty
 exact ⟨T, id, pa, slot, hty, h1, h2, Calls.callWith_builtin rfl (PySem.evalArgs_none (hm pins s1 σ H1 x [] v [] Q I1 r1 .nil q1))⟩
theorem pe_bm (pa : PlainAttrs T) (slot : Slot T name id) (hty : typeOf (.builtin id) = pure (.type "method_descriptor")) (hm : MtR X id r) (ho : PE X o to) (ha : PA X (e :: es) t)
    (hbase : attributeBase o name X.env (eval o X.env) = eval o X.env := by rfl)
    (hfew : ((backTo cpos (starEach (e :: es) X.env)).all (fun x => !x.1) && (backToKw cpos (keywordEach [] X.env)).all (fun x => x.1.isSome)
      && decide ((e :: es).length + ([] : List Keyword).length + (if ([] : List Keyword).isEmpty then 0 else 1) < 30)) = true := by rfl)
    (hline : (apos.endLine == cpos.line) = true := by rfl) (hs : starEach (e :: es) X.env = (false, eval e X.env) :: starEach es X.env := by rfl) (hplain : (backTo cpos (starEach es X.env)).any (·.1) = false := by rfl) :
    PE X (.Call (.Attribute o name apos) (e :: es) [] cpos) (tBM X.K T r to t) := by
  intro pins s σ H Q I h
  refine wpAny_Call_method_late hbase hfew hline rfl (thn (ho pins s σ H _ I h) fun v s1 ⟨x, H1, I1, r1, ty, q1⟩ => ?_)
  obtain ⟨h1, h2⟩ := tyV_is I1 r1 ty
  refine ⟨T, id, pa, slot, hty, h1, h2, ?_⟩
  have hA := ha cpos pins s1 σ H1 _ I1 q1
  rw [hs] at hA ⊢
  refine Calls.callWith_builtin (by show (false || (backTo cpos (starEach es X.env)).any (·.1)) = false; rw [hplain] <;> rfl) (Calls.evalArgs_plain ?_)
  exact thn hA fun us s2 ⟨vs, H2, I2, r2, q2⟩ => hm pins s2 σ H2 x vs v us Q I2 r1 r2 q2
end
noncomputable def MtM (X : Cx) (id : String) (r : V → List V → Hp → VK → Prop) : Prop :=
 ∀ (pins : List (Addr × Obj)) (s : Shared) (σ : St) (H : Hp) (x : V) (xs : List V) (v : Value) (us : List Value) (Q : VK), Inv X pins σ H s → RelV x v → Vals xs us → r x xs H Q →
  wpAny (model X.prog X.w) X.A (call (.builtin id) (v :: us)) (EP X pins σ Q) X.xe s
theorem Vals.one : ∀ {x : V} {us : List Value}, Vals [x] us → ∃ u, us = [u] ∧ RelV x u
 | _, _, .cons r .nil => ⟨_, rfl, r⟩
theorem Vals.zero : ∀ {us : List Value}, Vals [] us → us = []
 | _, .nil => rfl
theorem Vals.reverse {xs : List V} {us : List Value} (h : Vals xs us) : Vals xs.reverse us.reverse := by
 induction h with
 | nil => exact .nil
 | cons r t ih => rw [List.reverse_cons, List.reverse_cons]; exact Vals.append ih (.cons r .nil)
theorem Vals.rep {xs : List V} {us : List Value} (h : Vals xs us) : ∀ k : Nat, Vals (List.replicate k xs).flatten (List.replicate k us).flatten
 | 0 => .nil
 | k + 1 => by
  rw [List.replicate_succ, List.replicate_succ, List.flatten_cons, List.flatten_cons]
  exact Vals.append h (Vals.rep h k)
theorem foldl_rep (its : List Value) : ∀ (k : Nat) (acc : List Value),
  List.foldl (fun x1 x2 => x1 ++ x2) acc.toArray (List.replicate k its.toArray) = (acc ++ (List.replicate k its).flatten).toArray
 | 0, acc => by simp
 | k + 1, acc => by
  have e : acc.toArray ++ its.toArray = (acc ++ its).toArray := by simp
  have e2 : (acc ++ its) ++ (List.replicate k its).flatten = acc ++ (List.replicate (k + 1) its).flatten := by
   rw [List.replicate_succ, List.flatten_cons, List.append_assoc]
  rw [← e2, ← foldl_rep its k (acc ++ its), ← e, List.replicate_succ, List.foldl_cons]
section
variable {X : Cx} {pins : List (Addr × Obj)} {σ : St} {H : Hp} {s : Shared} {l b : Addr} {xs ys zs : List V}
theorem Inv.lset {its its' : List Value} {n : Nat} {f : Array Value → Array Value} {t' : Nat} (I : Inv X pins σ H s) (hH : H l = some (.lst xs))
  (e : s.heap.get? l = some { cls := .type "list", data := .seq its.toArray n }) (hf : f its.toArray = its'.toArray) (hv : Vals ys its') (hz : ys.length ≤ sizeLine) :
  Inv X pins σ (upd H l (.lst ys)) { s with heap := s.heap.update l (Obj.mapSeq f), toks := t' } := by
 have q := PySem.IsL.update e f
 rw [hf] at q
 refine I.write (x := l) (e := l) (by rw [hH]; exact trivial) (.inl rfl) (fun b' u hb hu => (Heap.get?_update_other s.heap (Obj.mapSeq f) (Ne.symm hb)).trans hu) ⟨_, q⟩ ?_
 exact ⟨hz, its', _, hv, q⟩
theorem Inv.lnew {its : List Value} {t' : Nat} (I : Inv X pins σ H s) (hv : Vals ys its) (hz : ys.length ≤ sizeLine) :
  Inv X pins σ (upd H s.heap.objs.size (.lst ys)) { s with heap := s.heap.push { cls := .type "list", data := .seq its.toArray }, toks := t' } :=
 I.laid (fun _ _ q => Heap.get?_push_of_some _ q) (Nat.le_refl _) ⟨hz, its, 0, hv, Heap.get?_push_size _ rfl⟩
theorem Inv.fresh (I : Inv X pins σ H s) : H s.heap.objs.size = none := I.hok.fresh (Nat.le_refl _)
theorem Inv.lstM (I : Inv X pins σ H s) (hH : H l = some (.lst xs)) : xs.length ≤ sizeLine ∧ ∃ (its : List Value) (n : Nat), Vals xs its ∧ xs.length = its.length ∧ s.heap.get? l = some { cls := .type "list", data := .seq its.toArray n } := by
 obtain ⟨z, its, n, r, e⟩ := I.hok l _ hH
 exact ⟨z, its, n, r, r.length, e⟩
theorem notLongL {n : Nat} (h : n ≤ sizeLine) : Builtin.List.listTooLong n = false := by
 unfold Builtin.List.listTooLong
 exact decide_eq_false (by omega)
end
section
variable {X : Cx}
noncomputable def rAppend : V → List V → Hp → VK → Prop := fun x vs H Q => ∃ l xs y, x = .ref l ∧ vs = [y] ∧ H l = some (.lst xs) ∧ xs.length < sizeLine ∧ Q .non (upd H l (.lst (xs ++ [y])))
theorem mt_append : MtM X "list.append" rAppend := by
 intro pins s σ H x vs v us Q I rx rv h
 obtain ⟨l, xs, y, rfl, rfl, hH, hz, q⟩ := h
 cases rx
 obtain ⟨u, rfl, ru⟩ := rv.one
 obtain ⟨z, its, n, r, hl, e⟩ := I.lstM hH
 refine call_meets F.slot_list_append ⟨_, e, rfl⟩ F.entry_list_append (F.args_list_append_2 _ _) (PySem.list_append l its.toArray n u (by rw [List.size_toArray]; omega)) ⟨e, ?_⟩
 refine ⟨.non, _, I.lset (its' := its ++ [u]) hH e (by simp) (r.append (.cons ru .nil)) ?_, rfl, q⟩
 rw [List.length_append, List.length_singleton]
 omega
noncomputable def rExtend : V → List V → Hp → VK → Prop := fun x vs H Q => ∃ l b xs zs, x = .ref l ∧ vs = [.ref b] ∧ H l = some (.lst xs) ∧ H b = some (.lst zs) ∧ xs.length + zs.length ≤ sizeLine ∧ Q .non (upd H l (.lst (xs ++ zs)))
theorem mt_extend : MtM X "list.extend" rExtend := by
 intro pins s σ H x vs v us Q I rx rv h
 obtain ⟨l, b, xs, zs, rfl, rfl, hH, hB, hz, q⟩ := h
 cases rx
 obtain ⟨u, rfl, ru⟩ := rv.one
 cases ru
 obtain ⟨z, its, n, r, hl, e⟩ := I.lstM hH
 obtain ⟨z2, its2, n2, r2, hl2, e2⟩ := I.lstM hB
 have hsz : its.toArray.size + its2.toArray.size ≤ sizeLine := by rw [List.size_toArray, List.size_toArray]; omega
 have hlong : ¬ (!its.toArray.isEmpty && Builtin.List.listTooLong (its.toArray.size + its2.toArray.size)) = true := by
  rw [notLongL hsz, Bool.and_false]
  exact Bool.false_ne_true
 refine call_meets F.slot_list_extend ⟨_, e, rfl⟩ F.entry_list_extend (F.args_list_extend_2 _ _)
  (AutoSeq1.list_extend_list_list_0 l its.toArray n b its2.toArray n2 hlong (by rw [List.size_toArray]; omega) (by omega)) ⟨e, e2, ?_⟩
 refine ⟨.non, _, I.lset (its' := its ++ its2) hH e (by simp) (r.append r2) ?_, rfl, q⟩
 rw [List.length_append]
 omega
noncomputable def rReverse : V → List V → Hp → VK → Prop := fun x vs H Q => ∃ l xs, x = .ref l ∧ vs = [] ∧ H l = some (.lst xs) ∧ Q .non (upd H l (.lst xs.reverse))
theorem mt_reverse : MtM X "list.reverse" rReverse := by
 intro pins s σ H x vs v us Q I rx rv h
 obtain ⟨l, xs, rfl, rfl, hH, q⟩ := h
 cases rx
 have hus := rv.zero
 subst hus
 obtain ⟨z, its, n, r, hl, e⟩ := I.lstM hH
 refine call_meets F.slot_list_reverse ⟨_, e, rfl⟩ F.entry_list_reverse (F.args_list_reverse_1 _) (AutoSeq1.list_reverse_list_0 l its.toArray n (by rw [List.size_toArray]; omega)) ⟨e, ?_⟩
 refine ⟨.non, _, I.lset (its' := its.reverse) hH e (by simp) r.reverse ?_, rfl, q⟩
 rw [List.length_reverse]
 omega
noncomputable def rCat : R2 := fun x y H Q => ∃ l b xs zs, x = .ref l ∧ y = .ref b ∧ H l = some (.lst xs) ∧ H b = some (.lst zs) ∧ xs.length + zs.length ≤ sizeLine ∧ ∀ p, H p = none → Q (.ref p) (upd H p (.lst (xs ++ zs)))
theorem op_cat : OpR X (binaryOp .Add) rCat := by
 intro pins s σ H x y v u Q I rx ry h
 obtain ⟨l, b, xs, zs, rfl, rfl, hH, hB, hz, q⟩ := h
 cases rx
 cases ry
 obtain ⟨z, its, n, r, hl, e⟩ := I.lstM hH
 obtain ⟨z2, its2, n2, r2, hl2, e2⟩ := I.lstM hB
 refine PySem.P.add_list e e2 ?_ (by rw [List.size_toArray, List.size_toArray]; omega)
 have ea : its.toArray ++ its2.toArray = (its ++ its2).toArray := by simp
 rw [ea]
 exact ⟨.ref _, _, I.lnew (t' := s.toks) (r.append r2) (by rw [List.length_append]; omega), rfl, q _ I.fresh⟩
noncomputable def rRep : R2 := fun x y H Q => ∃ l k xs, x = .ref l ∧ y = .int k ∧ H l = some (.lst xs) ∧ -(2 ^ 63) ≤ k ∧ k < 2 ^ 63 ∧ xs.length * k.toNat ≤ sizeLine ∧
 ∀ p, H p = none → Q (.ref p) (upd H p (.lst (List.replicate k.toNat xs).flatten))
theorem len_rep {α : Type} (xs : List α) (k : Nat) : (List.replicate k xs).flatten.length = k * xs.length := by
 induction k with
 | zero => simp
 | succ k ih => rw [List.replicate_succ, List.flatten_cons, List.length_append, ih, Nat.succ_mul, Nat.add_comm]
theorem op_rep : OpR X (binaryOp .Mult) rRep := by
 intro pins s σ H x y v u Q I rx ry h
 obtain ⟨l, k, xs, rfl, rfl, hH, h1, h2, hz, q⟩ := h
 cases rx
 obtain ⟨t, rfl⟩ := ry
 obtain ⟨z, its, n, r, hl, e⟩ := I.lstM hH
 have hlen : its.toArray.size * k.toNat ≤ sizeLine := by rw [List.size_toArray, ← hl]; exact hz
 have hcap : ¬ its.toArray.size * k.toNat > (2 ^ 63 - 1) / 8 := by
  have : (sizeLine : Nat) ≤ (2 ^ 63 - 1) / 8 := by decide
  omega
 have hfit : ¬ (!Builtin.List.listFitsIndex k) = true := by
  rw [fitsIndex_both h1 h2]
  exact Bool.false_ne_true
 have hlong : ¬ Builtin.List.listTooLong (its.toArray.size * k.toNat) = true := by
  rw [notLongL hlen]
  exact Bool.false_ne_true
 have hnew : List.foldl (fun x1 x2 => x1 ++ x2) #[] (List.replicate (if its.toArray.isEmpty = true then 0 else k.toNat) its.toArray) = (List.replicate k.toNat its).flatten.toArray := by
  have f0 : ∀ m : Nat, List.foldl (fun x1 x2 => x1 ++ x2) #[] (List.replicate m its.toArray) = (List.replicate m its).flatten.toArray := fun m => by
   have := foldl_rep its m []
   rw [List.nil_append] at this
   exact this
  rw [f0]
  cases its with
  | nil => simp
  | cons a r' => rw [if_neg (by simp)]
 refine wpAny_binaryOp_repeat_ref (T := "list") (U := "int") (by decide) ⟨_, e, rfl⟩ (fun s' => typeIs_int s' k t) noFill_list_mul F.fills_int_mul F.slot_int_rmul repeat_list F.slot_int_index.lookup
  (call_meets F.slot_int_rmul (typeIs_int s k t) F.entry_int_rmul (F.args_int_rmul_2 _ _) (int___rmul___int_list k t l its.toArray n)
   ⟨e, rfl, ⟨_, e, rfl⟩, call_meets F.slot_list_mul ⟨_, e, rfl⟩ F.entry_list_mul (F.args_list_mul_2 _ _) (AutoListH.list___mul___list_int_3 l its.toArray n k t hfit hcap hlong) ⟨e, ?_⟩⟩)
 rw [hnew]
 exact ⟨.ref _, _, I.lnew (t' := s.toks) (r.rep k.toNat) (by rw [len_rep, Nat.mul_comm]; exact hz), rfl, q _ I.fresh⟩
end
end L2
namespace Att
open PySem PySem.W PySem.Calls PyProof.Rows
theorem ints_of_wellAll {P : Params} {h : Heap} : ∀ (ns : List Int) (vs : List Value), WellAll P h vs (ns.map WData.int) → IntsAre vs ns := by
 intro ns
 induction ns with
 | nil =>
  intro vs w
  rw [List.map_nil] at w
  cases w
  exact .nil
 | cons n ns ih =>
  intro vs w
  rw [List.map_cons] at w
  cases w with
  | cons a b =>
   cases a
   exact .cons _ _ (ih _ b)
theorem script_of {l : OpenLaw} {n : Nat} (hn : l.most = some n) {P : Params} {h : Heap} {args : List WData} {vals : List Value}
    (hpre : l.row.toRowW.claim.pre args = true) (hwl : WellAll P h vals args) :
    ∃ a vs ns, vals = [Value.ref a] ∧ args = [WData.list (ns.map WData.int)] ∧ h.get? a = some { cls := .type "list", data := .seq vs.toArray } ∧ IntsAre vs ns ∧ ns.length ≤ n := by
  have hsh : WShape.hasAll [] args [.list .int] = true := (pre_splitW hpre).1
  have hc : l.pre.holds [] { args := args } = true := (pre_splitW hpre).2
  obtain ⟨d, r, rfl, h1, h2⟩ := hasAllW_cons hsh
  obtain rfl := hasAllW_nil h2
  obtain ⟨xs, rfl, h3⟩ := hasW_list h1
  obtain ⟨ns, rfl⟩ := items_int h3
  have hlen : ns.length ≤ n := by
    unfold OpenLaw.pre at hc
    have h4 : (WTm.not (.lt (.lit (.int (n : Int))) (.len (.arg 0)))).holds [] { args := [.list (ns.map .int)] } = true := by
      have h4 := (holds_andW hc).1
      rw [hn] at h4
      exact h4
    have h5 := condW_of h4 (w_not (w_lt w_lit (w_len_list (w_arg rfl))))
    rw [List.length_map] at h5
    refine Nat.le_of_not_lt fun q => ?_
    have q' : (n : Int) < ((ns.length : Nat) : Int) := by omega
    first
      | (rw [decide_eq_true q'] at h5; exact absurd h5 (by decide))
      | (simp at h5; omega)
  cases hwl with
  | cons w1 w2 =>
    cases w2
    cases w1 with
    | list ho hall => exact ⟨_, _, ns, rfl, rfl, ho, ints_of_wellAll ns _ hall, hlen⟩
theorem post_true (l : OpenLaw) (args : List WData) : l.row.toRowW.claim.post args (.bool true) args = true :=
 postW_of (r := l.row.toRowW) (X := (true == true))
  (show WShape.has [] (.bool true) .bool = true by first | rfl | decide | simp [WShape.has, WShape.arms, WShape.armsAll])
  (show (WTm.eq .res (.lit (.bool true))).value [] { args := args, res := some (.bool true), after := args } = some (.bool (true == true)) from w_eq_bool (w_res rfl) w_lit) rfl
end Att
namespace L2
open PySem PySem.Spec PyProof.Rows
theorem vals_ints : ∀ {vs : List Value} {ns : List Int}, IntsAre vs ns → Vals (ns.map V.int) vs
 | _, _, .nil => .nil
 | _, _, .cons n t h => .cons ⟨t, rfl⟩ (vals_ints h)
noncomputable def Only (H : Hp) : Prop := ∀ b, H b = none ∨ ∃ o xs, H b = some (.frz o (.lst xs))
theorem law_call {P : Program} {w : World} {K : PySem.W.Frag} {mg mb : Str → Option Value} {CX : CXT} {k : Nat} {fa a : Addr} {fd : FuncData} {x : Str} {sp : Sp} {s₁ : Shared} {vs : List Value} {ns : List Int}
  (KX : K.In s₁.heap) (hns : s₁.heap.Ns mainGlobals mg) (hb : s₁.heap.Ns builtinsNs mb) (hbb : ∀ x : Str, x ≠ "__name__" → mb x = bootBuiltins x) (hlim : s₁.heap.NoLimit) (hg : s₁.gens = #[])
  (ha : s₁.heap.get? a = some { cls := .type "list", data := .seq vs.toArray }) (hi : IntsAre vs ns) (hl : ns.length ≤ sizeLine) (hr : Room k callerA)
  (F : ∀ base : Heap, K.In base → base.Ns mainGlobals mg → FnOk P w K mg base CX k fa fd [x] sp) (hbind : ∀ (s : Shared) (u : Value), BindsTo s fd ⟨[u], []⟩ [(x, u)])
  (hsp : ∀ H : Hp, Only H → SqL K H a (ns.map V.int) → sp [.ref a] H (fun v _ => v = .bl true) fun _ _ _ => False)
  (hCX : ∀ H e s', CX [] H s₁ (fun _ _ _ => False) e s' → False) :
  codeAny (model P w) callerA (.call (.ref fa) ⟨[.ref a], []⟩) (fun r s' => r = .ok (.ret (.bool true)) ∧ OldK s₁.heap s'.heap ∧ s'.os = s₁.os ∧ AllBare s'.gens) s₁ := by
 have rv := vals_ints hi
 have lenV := hi.length
 have core : ∀ H : Hp, Only H → SqL K H a (ns.map V.int) → HOk P w H s₁.heap → (∀ b, H b ≠ none → b = a) → (H a ≠ none → K.lookup a = none) →
   codeAny (model P w) callerA (.call (.ref fa) ⟨[.ref a], []⟩) (fun r s' => r = .ok (.ret (.bool true)) ∧ OldK s₁.heap s'.heap ∧ s'.os = s₁.os ∧ AllBare s'.gens) s₁ := by
  intro H hO hS hok hA hK
  have base_of : ∀ {b : Addr} {o : Obj}, s₁.heap.get? b = some o → H b = none → (hidT s₁.heap H).get? b = some o := fun e n => hidT_get e n
  have noA : ∀ {b : Addr} {o : Obj} {es : Array DictEntry} {ep : Nat}, s₁.heap.get? b = some o → o.data = .dict es ep → H b = none := fun {b o es ep} e d => by
   cases q : H b with
   | none => rfl
   | some u =>
    have e' : b = a := hA b (by rw [q]; simp)
    subst e'
    rw [ha] at e; cases e
    have d' : Data.seq vs.toArray _ = Data.dict es ep := d
    cases d'
  have nsK : ∀ {b : Addr} {m : Str → Option Value}, s₁.heap.Ns b m → (hidT s₁.heap H).Ns b m := fun {b m} ⟨o, es, ep, e, d, r⟩ => ⟨o, es, ep, base_of e (noA e d), d, r⟩
  have hKb : K.In (hidT s₁.heap H) := fun b o e => base_of (KX b o e) (by
   cases q : H b with
   | none => rfl
   | some u =>
    have e' : b = a := hA b (by rw [q]; simp)
    subst e'
    rw [hK (by rw [q]; simp)] at e; cases e)
  have hM : Mod K mg (hidT s₁.heap H) := ⟨hKb, nsK hns, ⟨mb, nsK hb, hbb⟩, let ⟨mc, h1, h2⟩ := hlim; ⟨mc, nsK h1, h2⟩⟩
  have e0 : Env0 P w K mg (hidT s₁.heap H) callerA [] s₁ H := ⟨rfl, hM, fun b o e => of_hidT e, Nat.le_of_eq (hidT_size _ _), trivial, fun b hb => absurd (show b ∈ ([] : List Addr) from hb) (by simp), hok, .of_eq hg⟩
  refine codeAny_mono ((F _ hKb (nsK hns)).run callerA [] s₁ H ⟨[.ref a], []⟩ [.ref a] [.ref a] _ _ hr e0 (hbind s₁ (.ref a)) (.cons rfl .nil) (hsp H hO hS)) fun r s' h => ?_
  cases r with
  | error e => exact (hCX H e s' h).elim
  | ok fl =>
   cases fl with
   | next => exact False.elim h
   | brk => exact False.elim h
   | cont => exact False.elim h
   | ret u =>
    obtain ⟨v, H', os, bare, un, hok', r', q⟩ := h
    have q' : v = .bl true := q
    subst q'
    obtain rfl : u = Value.bool true := r'
    refine ⟨rfl, OldK.of_keep fun b o e => ?_, os, bare⟩
    cases q : H b with
    | none => exact un.keep b o e q (by intro z; exact absurd (show b ∈ ([] : List Addr) from z) (by simp)) (by simp)
    | some u =>
     rcases hO b with z | ⟨ob, xs, z⟩
     ·rw [q] at z; cases z
     ·have z2 := un.frzs b ob _ z
      obtain ⟨e1, _⟩ := hok b _ z
      obtain ⟨e2, _⟩ := hok' b _ z2
      rw [e] at e1; cases e1
      exact e2
 cases hk : K.lookup a with
 | some o =>
  have e := KX a o hk
  rw [ha] at e
  cases e
  refine core (fun _ => none) (fun _ => .inl rfl) (.inr ⟨_, vs.toArray, _, hk, rfl, rfl, rfl, by rw [List.size_toArray, lenV]; exact hl, by simpa using rv⟩) (fun b u z => by have z' : (none : Option HO) = some u := z; cases z') (fun b z => absurd rfl z) fun z => absurd rfl z
 | none =>
  refine core (fun b => if b = a then some (.frz { cls := .type "list", data := .seq vs.toArray } (.lst (ns.map V.int))) else none) (fun b => ?_) (.inl (.inr ⟨{ cls := .type "list", data := .seq vs.toArray }, if_pos rfl⟩)) (fun b u z => ?_) (fun b z => ?_) fun _ => hk
  ·by_cases hb : b = a
   ·exact .inr ⟨_, _, if_pos hb⟩
   ·exact .inl (if_neg hb)
  ·by_cases hb : b = a
   ·have z' := (if_pos hb).symm.trans z
    cases z'
    subst hb
    exact ⟨ha, by rw [List.length_map]; exact hl, vs, _, rv, ha⟩
   ·have z' := (if_neg hb).symm.trans z
    cases z'
  ·by_cases hb : b = a
   ·exact hb
   ·exact absurd (if_neg hb) z
noncomputable def inClass (s : Stmt) (j : Nat) : Stmt := match s with
 | .ClassDef _ _ _ body _ _ _ _ _ _ _ => body.getD j (.Pass ⟨0, 0, 0, 0⟩)
 | _ => .Pass ⟨0, 0, 0, 0⟩
noncomputable def defArgs (s : Stmt) : Arguments := match s with
 | .FunctionDef _ a _ _ _ _ _ _ _ _ => a
 | _ => { posonlyargs := [], args := [], vararg := none, kwonlyargs := [], kw_defaults := [], kwarg := none, defaults := [] }
noncomputable def defBody (s : Stmt) : List Stmt := match s with
 | .FunctionDef _ _ b _ _ _ _ _ _ _ => b
 | _ => []
noncomputable def defScope (s : Stmt) : Scope := match s with
 | .FunctionDef _ _ _ _ _ _ sc _ _ _ => sc
 | _ => { kind := .function, names := [], isGenerator := false, isCoroutine := false }
noncomputable abbrev CX0 : CXT := fun _ _ _ _ _ _ => False
noncomputable abbrev E0 : XK := fun _ _ _ => False
theorem pass0 {X : Cx} : Passes CX0 X E0 := fun _ _ _ _ _ _ _ h => h.elim
section
variable {X : Cx}
theorem pv (i : Nat) {x : Str} {pos : Pos} (hN : X.N[i]? = some x := by rfl) (hv : Vis X.env.scope x := by first | exact Or.inl rfl | exact Or.inr (Or.inl rfl) | exact Or.inr (Or.inr rfl)) (hd : (x == ("__debug__" : Str)) = false := by decide)
  (hcd : (x == ("__classdict__" : Str)) = false := by decide) : PE X (.Name x pos) (tVar i) := pe_var hN hv hd hcd
end
theorem iteF {A B : Prop} (h : B) : if false = true then A else B := by
 rw [if_neg Bool.false_ne_true]
 exact h
theorem iteT {A B : Prop} (h : A) : if true = true then A else B := by
 rw [if_pos rfl]
 exact h
theorem ite2 {c A B : Prop} [Decidable c] (h1 : c → A) (h2 : ¬ c → B) : if c then A else B := by
 by_cases h : c
 ·rw [if_pos h]
  exact h1 h
 ·rw [if_neg h]
  exact h2 h
noncomputable def Same (H H' : Hp) : Prop := ∀ b o, H b = some o → H' b = some o
theorem Same.refl (H : Hp) : Same H H := fun _ _ h => h
theorem Same.trans {H H1 H2 : Hp} (a : Same H H1) (b : Same H1 H2) : Same H H2 := fun c o h => b c o (a c o h)
theorem Same.free {H H' : Hp} (e : Same H H') {l : Addr} (h : H' l = Option.none) : H l = Option.none := by
 cases q : H l with
 | none => rfl
 | some o =>
  rw [e l o q] at h
  cases h
theorem Same.seq {K : PySem.W.Frag} {H H' : Hp} {a : Addr} {xs : List V} (e : Same H H') (h : SqL K H a xs) : SqL K H' a xs := by
 rcases h with (h | ⟨o, h⟩) | h
 ·exact .inl (.inl (e _ _ h))
 ·exact .inl (.inr ⟨o, e _ _ h⟩)
 ·exact .inr h
end L2
namespace C5
open PySem
section
variable {M : Model} {A : Around} {E : Value → Shared → Prop} {s : Shared}
noncomputable def clGo (env : Env) : List (Str × NameKind) → List (Str × Addr) → List (Str × Addr)
  | [], cs => cs
  | (n, k) :: r, cs => clGo env r (if k == .free then (n, (env.cells.lookup n).getD 0) :: cs else cs)
theorem clGo_cons (env : Env) (n : Str) (k : NameKind) (r : List (Str × NameKind)) (cs : List (Str × Addr)) : clGo env ((n, k) :: r) cs = clGo env r (if k == .free then (n, (env.cells.lookup n).getD 0) :: cs else cs) := rfl
noncomputable def clOf (sc : Scope) (env : Env) : List (Str × Addr) := clGo env sc.names []
theorem clGo_run {env : Env} (f : Str × NameKind → List (Str × Addr) → Sem (ForInStep (List (Str × Addr))))
    (hf : ∀ n k cs, f (n, k) cs = if k == .free then (do let a ← cellOf env n; pure (.yield ((n, a) :: cs))) else pure (.yield cs)) :
    ∀ (l : List (Str × NameKind)) (cs : List (Str × Addr)), (∀ y ∈ l, y.2 = .free → ∃ c, env.cells.lookup y.1 = some c) → forIn l cs f = pure (clGo env l cs)
  | [], cs, _ => by rw [List.forIn_nil]; rfl
  | (n, k) :: r, cs, h => by
    rw [List.forIn_cons, hf]
    have hr := fun cs' => clGo_run f hf r cs' fun y hy => h y (List.mem_cons_of_mem _ hy)
    cases hk : k == NameKind.free with
    | false =>
      simp only [Bool.false_eq_true, if_false, pure_bind]
      rw [hr, clGo_cons, hk]; rfl
    | true =>
      obtain ⟨c, hc⟩ := h (n, k) List.mem_cons_self (by simpa using hk)
      have hc' : cellOf env n = pure c := by
        unfold cellOf
        rw [show env.cells.lookup n = some c from hc]
      simp only [if_true, hc', pure_bind]
      rw [hr, clGo_cons, hk, show env.cells.lookup n = some c from hc]; rfl
theorem clos_of {sc : Scope} {env : Env} (h : ∀ y ∈ sc.names, y.2 = .free → ∃ c, env.cells.lookup y.1 = some c) : closureFor sc env = pure (clOf sc env) := by
 unfold closureFor clOf
 dsimp only
 rw [clGo_run (env := env) _ (fun n k cs => by cases hk : k == NameKind.free <;> simp [hk]) sc.names [] h]
 exact pure_bind _ _
theorem clGo_mem {env : Env} : ∀ (l : List (Str × NameKind)) (cs : List (Str × Addr)) (x : Str) (c : Addr), (x, c) ∈ clGo env l cs → (x, c) ∈ cs ∨ ((x, NameKind.free) ∈ l ∧ c = (env.cells.lookup x).getD 0)
  | [], cs, x, c, h => .inl h
  | (n, k) :: r, cs, x, c, h => by
    unfold clGo at h
    rcases clGo_mem r _ x c h with h | ⟨h, e⟩
    · cases hk : k == NameKind.free with
      | false => rw [hk, if_neg Bool.false_ne_true] at h; exact .inl h
      | true =>
        rw [hk, if_pos rfl] at h
        have hk' : k = .free := by simpa using hk
        rcases List.mem_cons.mp h with e | h
        · cases e; subst hk'; exact .inr ⟨List.mem_cons_self, rfl⟩
        · exact .inl h
    · exact .inr ⟨List.mem_cons_of_mem _ h, e⟩
theorem clGo_keep {env : Env} : ∀ (l : List (Str × NameKind)) (cs : List (Str × Addr)) (p : Str × Addr), p ∈ cs → p ∈ clGo env l cs
  | [], _, _, h => h
  | (n, k) :: r, cs, p, h => by
    unfold clGo
    refine clGo_keep r _ p ?_
    split
    · exact List.mem_cons_of_mem _ h
    · exact h
theorem clGo_has {env : Env} : ∀ (l : List (Str × NameKind)) (cs : List (Str × Addr)) (x : Str), (x, NameKind.free) ∈ l → (x, (env.cells.lookup x).getD 0) ∈ clGo env l cs
  | (n, k) :: r, cs, x, h => by
    unfold clGo
    rcases List.mem_cons.mp h with e | h
    · cases e
      refine clGo_keep r _ _ ?_
      simp
    · exact clGo_has r _ x h
theorem lookup_of_mem {α : Type} : ∀ {l : List (Str × α)} {x : Str} {c : α}, (x, c) ∈ l → (∀ c', (x, c') ∈ l → c' = c) → l.lookup x = some c
  | (k, v) :: r, x, c, h, u => by
    rw [List.lookup_cons]
    cases hb : x == k with
    | true =>
      have e := beq_iff_eq.mp hb
      subst e
      rw [u v List.mem_cons_self]
    | false =>
      rcases List.mem_cons.mp h with e | h
      · cases e; simp at hb
      · exact lookup_of_mem h fun c' h' => u c' (List.mem_cons_of_mem _ h')
theorem clOf_sub {sc : Scope} {env : Env} (h : ∀ y ∈ sc.names, y.2 = .free → ∃ c, env.cells.lookup y.1 = some c) {x : Str} {c : Addr} (e : (clOf sc env).lookup x = some c) :
  env.cells.lookup x = some c ∧ (x, NameKind.free) ∈ sc.names := by
 rcases clGo_mem sc.names [] x c (mem_of_lookup e) with z | ⟨z, q⟩
 ·exact absurd z (by simp)
 ·obtain ⟨c', hc⟩ := h _ z rfl
  have hc : env.cells.lookup x = some c' := hc
  rw [hc] at q
  exact ⟨by rw [hc, q]; rfl, z⟩
theorem clOf_has {sc : Scope} {env : Env} {x : Str} (e : (x, NameKind.free) ∈ sc.names) : (clOf sc env).lookup x = some ((env.cells.lookup x).getD 0) :=
 lookup_of_mem (clGo_has sc.names [] x e) fun c' h' => by
  rcases clGo_mem sc.names [] x c' h' with z | ⟨_, q⟩
  ·exact absurd z (by simp)
  ·exact q
theorem cellsFrom_app : ∀ (names : List (Str × NameKind)) (n : Nat) (acc : List (Str × Addr)), cellsFrom n names acc = cellsFrom n names [] ++ acc
  | [], _, _ => rfl
  | (x, k) :: r, n, acc => by
    unfold cellsFrom
    split
    · rw [cellsFrom_app r (n + 1) ((x, n) :: acc), cellsFrom_app r (n + 1) [(x, n)]]; simp
    · exact cellsFrom_app r n acc
theorem cellsFrom_key : ∀ (names : List (Str × NameKind)) (n : Nat) (x : Str) (c : Addr), (x, c) ∈ cellsFrom n names [] → (x, NameKind.cell) ∈ names
  | [], _, _, _, h => by simp [cellsFrom] at h
  | (y, k) :: r, n, x, c, h => by
    unfold cellsFrom at h
    split at h
    · rename_i hk
      have hk' : k = .cell := by simpa using hk
      rw [cellsFrom_app] at h
      rcases List.mem_append.mp h with h | h
      · exact List.mem_cons_of_mem _ (cellsFrom_key r _ x c h)
      · have e : (x, c) = (y, n) := by simpa using h
        cases e; subst hk'; exact List.mem_cons_self
    · exact List.mem_cons_of_mem _ (cellsFrom_key r _ x c h)
noncomputable def bkEnv (sc : Scope) (cl : List (Str × Addr)) (C : Addr) (env : Env) : Env :=
 { scope := relabel sc env, locals := C, globals := env.globals, cells := cellsFrom (C + 1) sc.names cl, qual := env.qual, func := none, code := env.code, frame := env.frame, builtins := env.builtins }
theorem newBlock {sc : Scope} {cl : List (Str × Addr)} {env : Env} {Q : Env → Shared → Prop}
  (h : Q (newEnv sc s.heap.objs.size env.globals (cellsFrom (s.heap.objs.size + 1) sc.names cl) env.qual none .none (some env) builtinsNs) { s with heap := pushCells (s.heap.push { cls := .type "dict", data := .dict #[] }) sc.names }) :
  wpAny M A (newFunctionEnv sc env.globals cl [] env.qual none .none (some env)) Q E s := by
 simp only [newFunctionEnv, Option.isSome_some, if_true]
 refine wpAny_bind (wpAny_alloc ?_)
 refine wpAny_bind (wpAny_layCells _ (fun name kind cells => by cases hkc : kind == NameKind.cell <;> simp [hkc]) _ _ _ _ ?_)
 rw [show ({ s with heap := s.heap.push { cls := .type "dict", data := .dict #[] } } : Shared).heap.objs.size = s.heap.objs.size + 1 from Heap.size_push ..]
 rw [List.forIn_nil]
 exact wpAny_bind (wpAny_pure (wpAny_pure h))
theorem relabel_cell {sc : Scope} {env : Env} : ∀ {l : List (Str × NameKind)} {x : Str},
    (l.map fun (n, k) => if (k == NameKind.free && env.scope.kind == .function && env.kindOf n == some .cell) then (n, NameKind.cell) else (n, k)).lookup x = some .cell → l.lookup x = some .cell ∨ l.lookup x = some .free
  | [], x, h => by simp at h
  | (n, k) :: r, x, h => by
    rw [List.map_cons] at h
    rw [List.lookup_cons]
    cases hx : x == n with
    | true =>
      dsimp only at h
      split at h
      · rename_i hc
        rw [Bool.and_eq_true, Bool.and_eq_true] at hc
        have : k = .free := by simpa using hc.1.1
        rw [this]; exact .inr rfl
      · simp only [List.lookup_cons, hx] at h
        exact .inl h
    | false =>
      refine relabel_cell (sc := sc) (env := env) (l := r) ?_
      dsimp only at h
      split at h <;> simpa only [List.lookup_cons, hx] using h
theorem relabel_free {env : Env} : ∀ {l : List (Str × NameKind)} {x : Str},
    (l.map fun (n, k) => if (k == NameKind.free && env.scope.kind == .function && env.kindOf n == some .cell) then (n, NameKind.cell) else (n, k)).lookup x = some .free → l.lookup x = some .free
  | [], x, h => by simp at h
  | (n, k) :: r, x, h => by
    rw [List.map_cons] at h
    rw [List.lookup_cons]
    cases hx : x == n with
    | true =>
      dsimp only at h
      split at h
      · simp only [List.lookup_cons, hx] at h
        cases h
      · simp only [List.lookup_cons, hx] at h
        exact h
    | false =>
      refine relabel_free (env := env) (l := r) ?_
      dsimp only at h
      split at h <;> simpa only [List.lookup_cons, hx] using h
theorem relabel_of_free {env : Env} : ∀ {l : List (Str × NameKind)} {x : Str}, l.lookup x = some .free →
    (l.map fun (n, k) => if (k == NameKind.free && env.scope.kind == .function && env.kindOf n == some .cell) then (n, NameKind.cell) else (n, k)).lookup x = some .cell ∨
    (l.map fun (n, k) => if (k == NameKind.free && env.scope.kind == .function && env.kindOf n == some .cell) then (n, NameKind.cell) else (n, k)).lookup x = some .free
  | [], x, h => by simp at h
  | (n, k) :: r, x, h => by
    rw [List.map_cons]
    rw [List.lookup_cons] at h
    cases hx : x == n with
    | true =>
      rw [hx] at h
      cases h
      dsimp only
      split
      · exact .inl (by simp only [List.lookup_cons, hx])
      · exact .inr (by simp only [List.lookup_cons, hx])
    | false =>
      rw [hx] at h
      have := relabel_of_free (env := env) (l := r) h
      dsimp only
      split <;> simpa only [List.lookup_cons, hx] using this
end
section
variable {prog : Program} {w : World} {A : Around} {R : Result → Shared → Prop} {s : Shared}
theorem compLoop_go {elt target iter : Expr} {ifs : List Expr} {scope : Scope} {pos : Pos} {it acc : Value} {env : Env} (I : Nat → Shared → Prop)
  (turn : ∀ n s, I n s → wpAny (model prog w) A (pyNext it) (fun r s₁ => match r with
   | none => R (.ok .next) s₁
   | some v => wpAny (model prog w) A (letOwnedTupleGo target it v) (fun _ s₁' => wpAny (model prog w) A (assign target env v) (fun _ s₂ =>
     wpAny (model prog w) A (forIn ifs true fun c r => if r = true then do let ok ← isTrue c env (eval c env); pure (ForInStep.yield ok) else pure (ForInStep.yield r)) (fun ok s₃ =>
      if ok = true then wpAny (model prog w) A (eval elt env) (fun x s₄ =>
       wpAny (model prog w) A (call (.builtin "list.append") [acc, x]) (fun _ s₅ => ∃ m, m < n ∧ I m s₅) (fun _ _ => False) s₄) (fun _ _ => False) s₃
      else ∃ m, m < n ∧ I m s₃) (fun _ _ => False) s₂) (fun _ _ => False) s₁') (fun _ _ => False) s₁) (fun _ _ => False) s)
  (n : Nat) (h : I n s) :
  codeAny (model prog w) A (.compLoop (.ListComp elt [⟨target, iter, ifs, 0⟩] scope pos) 0 it acc env) R s := by
 refine codeAny_loop rfl I (fun n s hI => ?_) n h
 show wpAny _ A ((compTurn (.ListComp elt [⟨target, iter, ifs, 0⟩] scope pos) 0 it acc env).onRaise (fun x => do noteFrame x env; theTreesLotGoes x)) _ _ s
 refine wpAny_noted ?_
 rw [compTurn_list]
 refine wpAny_bind (wpAny_standAt (wpAny_bind (wpAny_mono (turn n s hI) (fun r s₁ h₁ => ?_) fun _ _ h' => h'.elim)))
 cases r with
 | none => exact wpAny_pure h₁
 | some v =>
  refine wpAny_bind (wpAny_mono h₁ (fun _ s₁' h₁' => ?_) fun _ _ h' => h'.elim)
  refine wpAny_bind (wpAny_mono h₁' (fun _ s₂ h₂ => wpAny_bind (wpAny_mono h₂ (fun ok s₃ h₃ => ?_) fun _ _ h' => h'.elim)) fun _ _ h' => h'.elim)
  cases ok with
  | false => exact wpAny_pure ⟨rfl, h₃⟩
  | true =>
   exact wpAny_bind (wpAny_bind (wpAny_mono h₃ (fun x s₄ h₄ => wpAny_bind (wpAny_mono h₄ (fun _ s₅ h₅ => wpAny_pure (wpAny_pure ⟨rfl, h₅⟩)) fun _ _ h' => h'.elim)) fun _ _ h' => h'.elim))
end
end C5
namespace L2
open PySem PySem.Spec PyProof.Rows C5
noncomputable def entry (src : List (Option Nat)) (σ : St) : St := src.map fun o => o.bind fun i => (σ[i]?).join
structure BkScope (so sc : Scope) (No N : List Str) (src : List (Option Nat)) : Prop where
  kind : sc.kind = .function
  free : sc.names.all (fun y => !(y.2 == .free) || (so.names.lookup y.1 == some .cell || so.names.lookup y.1 == some .free)) = true
  uniq : sc.names.all (fun y => sc.names.lookup y.1 == some y.2) = true
  len : src.length = N.length
  src : (src.zip N).all (fun p => match p.1 with | none => true | some i => No[i]? == some p.2 && sc.names.lookup p.2 == some .free) = true
  nd : N.Nodup
noncomputable def cxB (X : Cx) (sc : Scope) (N : List Str) (fp : List Addr) (C : Addr) (s : Shared) (H : Hp) : Cx :=
 { X with N := N, s₀ := s, H₀ := H, env := bkEnv sc (clOf sc X.env) C X.env, outer := X.stack, stack := X.stack, ex := fp, fn := fun x => sc.names.lookup x == some .cell, pn := [], xe := fun _ _ => False }
section
variable {X : Cx} {pins : List (Addr × Obj)} {σ : St} {H : Hp} {s : Shared} {sc : Scope} {N : List Str} {src : List (Option Nat)}
theorem BkScope.has {so : Scope} {No : List Str} (B : BkScope so sc No N src) (hso : X.env.scope = so) (ok : X.Ok) : ∀ y ∈ sc.names, y.2 = .free → ∃ c, X.env.cells.lookup y.1 = some c := by
 intro y hy hk
 have h := List.all_eq_true.mp B.free y hy
 rw [hk] at h
 simp only [beq_self_eq_true, Bool.not_true, Bool.false_or, Bool.or_eq_true, beq_iff_eq] at h
 rw [← hso] at h
 rcases h with h | h
 ·exact ok.has y.1 (.inl h)
 ·exact ok.has y.1 (.inr h)
theorem BkScope.look {so : Scope} {No : List Str} (B : BkScope so sc No N src) {x : Str} {k : NameKind} (h : (x, k) ∈ sc.names) : sc.names.lookup x = some k := by
 have := List.all_eq_true.mp B.uniq (x, k) h
 simpa using this
theorem lookup_app {α : Type} : ∀ {l r : List (Str × α)} {x : Str} {c : α}, (l ++ r).lookup x = some c → l.lookup x = some c ∨ r.lookup x = some c
  | [], _, _, _, h => .inr h
  | (k, v) :: l, r, x, c, h => by
    rw [List.cons_append, List.lookup_cons] at h
    rw [List.lookup_cons]
    cases hb : x == k with
    | true => rw [hb] at h; exact .inl h
    | false => rw [hb] at h; exact lookup_app h
theorem lookup_app_r {α : Type} : ∀ {l r : List (Str × α)} {x : Str}, (∀ c, (x, c) ∉ l) → (l ++ r).lookup x = r.lookup x
  | [], _, _, _ => rfl
  | (k, v) :: l, r, x, h => by
    rw [List.cons_append, List.lookup_cons]
    have hb : (x == k) = false := beq_eq_false_iff_ne.mpr fun e => h v (by rw [e]; exact List.mem_cons_self)
    rw [hb]
    exact lookup_app_r fun c hc => h c (List.mem_cons_of_mem _ hc)
theorem Inv.block {fp : List Addr} {h1 : Heap} {C : Nat} {t : Nat} (I : Inv X pins σ H s) (B : BkScope X.env.scope sc X.N N src) (hf : ∀ b ∈ fp, FpOk X pins H b) (hlt : ∀ b ∈ fp, b < s.heap.objs.size)
  (hC : C = s.heap.objs.size + 1) (e1 : h1 = pushCells ((s.heap.push { cls := .type "list", data := .seq #[] }).push { cls := .type "dict", data := .dict #[] }) sc.names) :
  Inv (cxB X sc N fp C s H) [] (entry src σ) (upd H s.heap.objs.size (.lst [])) { s with heap := h1, toks := t } := by
 have has := B.has rfl I.ok
 have szL : (s.heap.push { cls := .type "list", data := .seq #[] } : Heap).objs.size = C := by rw [Heap.size_push, hC]
 have szD : ((s.heap.push { cls := .type "list", data := .seq #[] }).push { cls := .type "dict", data := .dict #[] } : Heap).objs.size = C + 1 := by rw [Heap.size_push, szL]
 have own := cellsFrom_ok sc.names ((s.heap.push { cls := .type "list", data := .seq #[] }).push { cls := .type "dict", data := .dict #[] }) (C + 1) [] ⟨fun _ _ hm => (nomatch hm), List.Pairwise.nil⟩ (by rw [szD]; exact Nat.le_refl _)
 rw [szD, ← e1] at own
 have keep0 : ∀ b o, ((s.heap.push { cls := .type "list", data := .seq #[] }).push { cls := .type "dict", data := .dict #[] } : Heap).get? b = some o → h1.get? b = some o := fun b o e => by rw [e1]; exact pushCells_keeps _ _ b o e
 have keep : ∀ b o, s.heap.get? b = some o → h1.get? b = some o := fun b o e => keep0 b o (Heap.get?_push_of_some _ (Heap.get?_push_of_some _ e))
 have atD : h1.get? s.heap.objs.size = some { cls := .type "list", data := .seq #[] } := keep0 _ _ (Heap.get?_push_of_some _ (Heap.get?_push_size _ rfl))
 have nsC : h1.Ns C (fun _ => none) := by
  have q := Heap.Ns.new (s.heap.push { cls := .type "list", data := .seq #[] }) (.type "dict")
  rw [szL] at q
  exact q.keeps keep0
 have fresh : ∀ b, s.heap.objs.size ≤ b → H b = none := fun b hb => I.hok.fresh hb
 have cells : ∀ x c, (cellsFrom (C + 1) sc.names (clOf sc X.env)).lookup x = some c →
   ((x, c) ∈ cellsFrom (C + 1) sc.names [] ∧ h1.IsCell c none ∧ C + 1 ≤ c) ∨ (X.env.cells.lookup x = some c ∧ (x, NameKind.free) ∈ sc.names) := fun x c e => by
  rw [cellsFrom_app] at e
  rcases lookup_app e with e | e
  ·have hm := mem_of_lookup e
   obtain ⟨q1, q2⟩ := own.empty x c hm
   exact .inl ⟨hm, q1, q2⟩
  ·exact .inr (clOf_sub has e)
 have cellLt : ∀ x c, X.env.cells.lookup x = some c → @LT.lt Nat instLTNat c s.heap.objs.size := fun x c e => by
  obtain ⟨v, z⟩ := I.cell x c e
  exact z.lt
 have freeIn : ∀ x, (x, NameKind.free) ∈ sc.names → (cellsFrom (C + 1) sc.names (clOf sc X.env)).lookup x = X.env.cells.lookup x := fun x hx => by
  rw [cellsFrom_app, lookup_app_r (fun c hc => ?_), clOf_has hx]
  ·obtain ⟨c, hc⟩ := has _ hx rfl
   have hc : X.env.cells.lookup x = some c := hc
   rw [hc]; rfl
  ·have k1 := B.look (cellsFrom_key sc.names _ x c hc)
   have k2 := B.look hx
   rw [k1] at k2; cases k2
 have ex : (cxB X sc N fp C s H).ex = fp := rfl
 refine ⟨⟨I.ok.mod, B.kind, I.ok.glob, I.ok.blt, ?_, ?_, ?_, ?_, I.ok.hd, I.ok.frames, .inl rfl, ?_, I.bs, Nat.le_trans I.ok.bsz I.sz, ?_, ?_, I.stack, I.stkFree⟩, rfl, I.bare, Un.laid keep (Nat.le_refl _) (fresh _ (Nat.le_refl _)), ?_, ?_, ?_, ?_, ?_, ?_, ?_⟩
 ·-- above
  show s.heap.objs.size ≤ C
  omega
 ·-- inj
  intro x y c h1' h2'
  rcases cells x c h1' with ⟨m1, _, g1⟩ | ⟨e1', _⟩
  ·rcases cells y c h2' with ⟨m2, _, _⟩ | ⟨e2', _⟩
   ·exact name_of_addr own.apart m1 m2
   ·have := cellLt y c e2'; omega
  ·rcases cells y c h2' with ⟨_, _, g2⟩ | ⟨e2', _⟩
   ·have := cellLt x c e1'; omega
   ·exact I.ok.inj x y c e1' e2'
 ·-- has
  intro x hx
  show ∃ c, (cellsFrom (C + 1) sc.names (clOf sc X.env)).lookup x = some c
  have hx' : sc.names.lookup x = some .cell ∨ sc.names.lookup x = some .free := by
   rcases hx with hx | hx
   ·exact relabel_cell (sc := sc) (env := X.env) hx
   ·exact .inr (relabel_free (env := X.env) hx)
  rcases hx' with hx' | hx'
  ·exact Option.isSome_iff_exists.mp (PySem.W.cellsFrom_some sc.names (C + 1) (clOf sc X.env) (.inl hx'))
  ·rw [freeIn x (PySem.mem_of_lookup hx')]
   exact has _ (PySem.mem_of_lookup hx') rfl
 ·-- cab
  intro x c hfn hc
  have hfn' : sc.names.lookup x = some .cell := by simpa [cxB] using hfn
  show s.heap.objs.size ≤ c
  rcases cells x c hc with ⟨_, _, g⟩ | ⟨_, hfr⟩
  ·omega
  ·have := B.look hfr
   rw [hfn'] at this; cases this
 ·-- exf
  intro b hb
  rw [ex] at hb
  have hb' : @LT.lt Nat instLTNat b s.heap.objs.size := hlt b hb
  obtain ⟨f0, f1, f2, f3, f4, f5⟩ := hf b hb
  refine ⟨Nat.ne_of_lt (show @LT.lt Nat instLTNat b C by omega), fun x c hc => ?_⟩
  rcases cells x c hc with ⟨_, _, g⟩ | ⟨e, _⟩
  ·exact Nat.ne_of_gt (show @LT.lt Nat instLTNat b c by omega)
  ·exact f4 x c e
 ·-- noex
  intro b o e hb
  rw [ex] at hb
  obtain ⟨f0, f1, f2, f3, f4, f5⟩ := hf b hb
  rcases f3 with f3 | f3
  ·exact I.ok.noex b o e f3
  ·exact absurd (Nat.lt_of_lt_of_le (Heap.lt_size e) (Nat.le_trans I.ok.bsz f3)) (Nat.lt_irrefl _)
 ·-- exfs
  intro b hb hb2
  rw [ex] at hb
  obtain ⟨f0, f1, f2, f3, f4, f5⟩ := hf b hb
  rcases List.mem_cons.mp (I.stkSub b hb2) with z | z
  ·exact f1 z
  ·exact f2 z
 ·-- loc
  refine ⟨fun _ => none, nsC, fun j x v hj hv _ => ?_⟩
  have hj : N[j]? = some x := hj
  unfold entry at hv
  rw [List.getElem?_map] at hv
  cases hs : src[j]? with
  | none => rw [hs] at hv; cases hv
  | some o =>
   rw [hs] at hv
   cases o with
   | none => cases hv
   | some i =>
    have hv : ((σ[i]?).join) = some v := by simpa using hv
    have hm : (some i, x) ∈ src.zip N := by
     rw [List.mem_iff_getElem?]
     exact ⟨j, by rw [List.getElem?_zip_eq_some]; exact ⟨hs, hj⟩⟩
    have q := List.all_eq_true.mp B.src _ hm
    simp only [Bool.and_eq_true, beq_iff_eq] at q
    obtain ⟨q1, q2⟩ := q
    have hfr := PySem.mem_of_lookup q2
    have hσ : σ[i]? = some (some v) := by
     cases e : σ[i]? with
     | none => rw [e] at hv; cases hv
     | some u => rw [e] at hv; cases u with
      | none => cases hv
      | some w' => cases hv; rfl
    obtain ⟨m, hn, hl⟩ := I.loc
    have hso := List.all_eq_true.mp B.free _ hfr
    simp only [beq_self_eq_true, Bool.not_true, Bool.false_or, Bool.or_eq_true, beq_iff_eq] at hso
    have hvis : Vis X.env.scope x := by
     rcases hso with z | z
     ·exact .inr (.inl z)
     ·exact .inr (.inr z)
    obtain ⟨u, ru, lk⟩ := hl i x v q1 hσ hvis
    refine ⟨u, ru, .inr ⟨?_, ?_⟩⟩
    ·exact relabel_of_free (env := X.env) q2
    ·rcases lk with ⟨kk, _⟩ | ⟨_, c, hc, hcell⟩
     ·have kk : X.env.scope.names.lookup x = some .local := kk
      rcases hso with z | z
      ·rw [kk] at z; cases z
      ·rw [kk] at z; cases z
     ·refine ⟨c, ?_, hcell.keeps keep⟩
      show (cellsFrom (C + 1) sc.names (clOf sc X.env)).lookup x = some c
      rw [freeIn x hfr]; exact hc
 ·-- cell
  intro x c hc
  rcases cells x c hc with ⟨_, g, _⟩ | ⟨e, _⟩
  ·exact ⟨none, g⟩
  ·obtain ⟨v, z⟩ := I.cell x c e
   exact ⟨v, z.keeps keep⟩
 ·-- free
  show upd H s.heap.objs.size (.lst []) C = none
  rw [upd_ne (Nat.ne_of_gt (show @LT.lt Nat instLTNat s.heap.objs.size C by omega))]
  exact fresh _ (show @LE.le Nat instLENat s.heap.objs.size C by omega)
 ·-- freeC
  intro x c hc
  rcases cells x c hc with ⟨_, _, g⟩ | ⟨e, _⟩
  ·rw [upd_ne (Nat.ne_of_gt (show @LT.lt Nat instLTNat s.heap.objs.size c by omega))]; exact fresh _ (show @LE.le Nat instLENat s.heap.objs.size c by omega)
  ·rw [upd_ne (Nat.ne_of_lt (cellLt x c e))]; exact I.freeC x c e
 ·-- pin
  intro p hp
  exact absurd (show p ∈ ([] : List (Addr × Obj)) from hp) (by simp)
 ·-- hok
  refine I.hok.laid keep (Nat.le_refl _) ?_
  exact ⟨Nat.zero_le _, [], 0, .nil, atD⟩
 ·-- len
  unfold entry
  rw [List.length_map]
  exact B.len
noncomputable def PTs (X : Cx) (ifs : List Expr) (t : TT) : Prop :=
 ∀ (pins : List (Addr × Obj)) (s : Shared) (σ : St) (H : Hp) (Q : Bool → Hp → Prop), Inv X pins σ H s → t σ H Q →
  wpAny (model X.prog X.w) X.A (forIn ifs true fun c r => if r = true then do let ok ← isTrue c X.env (eval c X.env); pure (ForInStep.yield ok) else pure (ForInStep.yield r)) (TP X pins σ Q) X.xe s
noncomputable def tTrue : TT := fun _ H Q => Q true H
theorem pts_nil : PTs X [] tTrue := fun _ _ _ H _ I h => wpAny_tests_nil ⟨H, I, h⟩
theorem pts_one {c : Expr} {t : TT} (h : PT X c t) : PTs X [c] t := fun pins s σ H Q I hw => wpAny_tests_one (h pins s σ H Q I hw)
noncomputable def tComp (src : List (Option Nat)) (wi : TI) (g : TG) (tt : TT) (te : TE) : TE := fun σ H Q => wi σ H fun J H1 => ∀ D, H1 D = none →
 ∃ W : Nat → Nat → St → Hp → Prop, (∃ m, W 0 m (entry src σ) (upd H1 D (.lst []))) ∧ ∀ i m σ' H', W i m σ' H' →
  (J.stop i H' ∧ Q (.ref D) H') ∨ (J.go i H' ∧ ∃ N : St → Hp → Prop, (∀ σ2 H2, N σ2 H2 → ∃ m', m' < m ∧ W (i + 1) m' σ2 H2) ∧ ∀ x H2, J.yld i H' x H2 → g x σ' H2 fun σ3 H3 => tt σ3 H3 fun b H4 =>
   if b = true then te σ3 H4 fun v H5 => ∃ xs, H5 D = some (.lst xs) ∧ xs.length < sizeLine ∧ N σ3 (upd H5 D (.lst (xs ++ [v]))) else N σ3 H4)
theorem pe_comp {elt tgt iter : Expr} {ifs : List Expr} {wi : TI} {g : TG} {tt : TT} {te : TE} {pos : Pos} (hc : X.calm = true) (B : BkScope X.env.scope sc X.N N src) (hi : PI X tgt iter wi)
  (hg : ∀ (s : Shared) (H : Hp) (C : Addr) (fp : List Addr), PG (cxB X sc N fp C s H) tgt g) (ht : ∀ (s : Shared) (H : Hp) (C : Addr) (fp : List Addr), PTs (cxB X sc N fp C s H) ifs tt)
  (he : ∀ (s : Shared) (H : Hp) (C : Addr) (fp : List Addr), PE (cxB X sc N fp C s H) elt te) (hs : ∀ x, foldedSetIterable iter X.env x = pure x := by intro _; rfl) :
  PE X (.ListComp elt [⟨tgt, iter, ifs, 0⟩] sc pos) (tComp src wi g tt te) := by
 intro pins s σ H Q I h
 rw [eval_ListComp]
 have has := B.has rfl I.ok
 refine wpAny_comprehension_free (use := none) rfl hs (clos_of has) B.kind (fun y hy hk => by have := B.look (x := y.1) (k := y.2) hy; rw [hk] at this; exact this)
  (thn (hi pins s σ H _ I h) fun v s1 h1 => thn h1 fun itv s2 h2 => ?_)
 obtain ⟨it, fp, tn, J, H2, e, I2, T, st2, f2, q⟩ := h2
 subst e
 refine wpAny_newObj_type (newBlock ?_)
 obtain ⟨W, ⟨m0, w0⟩, turn⟩ := q s2.heap.objs.size (I2.hok.fresh (Nat.le_refl _))
 have hlt : ∀ b ∈ fp, b < s2.heap.objs.size := fun b hb => by
  obtain ⟨o, ho, _⟩ := T.obj 0 _ st2 b hb
  exact Heap.lt_size ho
 have szL : (s2.heap.push { cls := .type "list", dict := none, data := .seq ([] : List Value).toArray } : Heap).objs.size = s2.heap.objs.size + 1 := Heap.size_push ..
 generalize hh1 : pushCells ((s2.heap.push { cls := .type "list", dict := none, data := .seq ([] : List Value).toArray } : Heap).push { cls := .type "dict", data := .dict #[] }) sc.names = hB
 have IB := I2.block (C := (s2.heap.push { cls := .type "list", dict := none, data := .seq ([] : List Value).toArray } : Heap).objs.size) (t := s2.toks) B f2 hlt szL hh1.symm
 generalize (s2.heap.push { cls := .type "list", dict := none, data := .seq ([] : List Value).toArray } : Heap).objs.size = C at IB szL ⊢
 have keepB : ∀ b o, s2.heap.get? b = some o → hB.get? b = some o := fun b o e => by
  rw [← hh1]
  exact pushCells_keeps _ _ b o (Heap.get?_push_of_some _ (Heap.get?_push_of_some _ e))
 have stB : tn 0 hB := T.keep 0 _ _ st2 fun b _ o e => keepB b o e
 have frB : ∀ b ∈ fp, upd H2 s2.heap.objs.size (.lst []) b = none := fun b hb => by
  rw [upd_ne (Nat.ne_of_lt (hlt b hb))]
  exact (f2 b hb).1
 have stat : ∀ {H' : Hp}, (∀ b ∈ fp, H' b = none) → ∀ b ∈ fp, FpOk (cxB X sc N fp C s2 H2) [] H' b := fun {H'} hn b hb => by
  obtain ⟨z1, z2⟩ := IB.ok.exf b hb
  exact ⟨hn b hb, z1, IB.ok.exfs b hb, .inl hb, z2, fun p hp => absurd (show p ∈ ([] : List (Addr × Obj)) from hp) (by simp)⟩
 show codeAny (model X.prog X.w) X.A (.compStart (.ListComp elt [⟨tgt, iter, ifs, 0⟩] sc pos) 0 (.ref it) (.ref s2.heap.objs.size) (bkEnv sc (clOf sc X.env) C X.env)) (compPost (model X.prog X.w) X.A X.xe none (EP X pins σ Q) (.ref s2.heap.objs.size) C) { s2 with heap := hB }
 have loop : codeAny (model X.prog X.w) X.A (.compLoop (.ListComp elt [⟨tgt, iter, ifs, 0⟩] sc pos) 0 (.ref it) (.ref s2.heap.objs.size) (bkEnv sc (clOf sc X.env) C X.env))
   (compPost (model X.prog X.w) X.A X.xe none (EP X pins σ Q) (.ref s2.heap.objs.size) C) { s2 with heap := hB } := by
  refine compLoop_go (fun n s' => ∃ i σ' H', Inv (cxB X sc N fp C s2 H2) [] σ' H' s' ∧ tn i s'.heap ∧ (∀ b ∈ fp, H' b = none) ∧ W i n σ' H') ?_ m0 ⟨0, _, _, IB, stB, frB, w0⟩
  rintro n s3 ⟨i, σ3, H3, I3, st3, fr3, w3⟩
  rcases turn i n σ3 H3 w3 with ⟨stop, qn⟩ | ⟨go, N', hN, step⟩
  ·refine thn (T.done (cxB X sc N fp C s2 H2) rfl rfl rfl hc i [] s3 σ3 H3 _ I3 (stat fr3) st3 stop) fun r s4 ⟨hr, I4⟩ => ?_
   subst hr
   obtain ⟨m, hn, _⟩ := I4.loc
   refine ⟨m, hn, fun h' hs' => ?_⟩
   refine ⟨.ref s2.heap.objs.size, H3, ?_, rfl, qn⟩
   have ltC : ∀ b o, s2.heap.get? b = some o → b ≠ C := fun b o e => Nat.ne_of_lt (show @LT.lt Nat instLTNat b C by have : @LT.lt Nat instLTNat b s2.heap.objs.size := Heap.lt_size e; omega)
   have base := I4.base
   have freeC : H3 C = none := I4.free
   refine I2.call' (s' := { s4 with heap := h' }) (ch := fp) I4.os ⟨fun b o e n hb hx => ?_, fun b o e n hb hx => ?_, base.free, fun b o e hx => ?_, base.tups, base.frzs, base.tbls⟩ (fun b ob e => ?_) I4.bare (fun b hb => ?_)
   ·exact (hs'.2 b (ltC b o e)).trans (base.keep b o e n hb hx)
   ·obtain ⟨sl, e1⟩ := base.slot b o e n hb hx
    exact ⟨sl, (hs'.2 b (ltC b o e)).trans e1⟩
   ·obtain ⟨o', e1⟩ := base.there b o e hx
    exact ⟨o', (hs'.2 b (ltC b o e)).trans e1⟩
   ·refine (I4.hok b ob e).stay (fun c w' hc' q' => (hs'.2 c ?_).trans q') (fun _ q' => q') fun _ _ q' => q'
    intro z
    rcases hc' with z' | z'
    ·rw [← z', z, freeC] at e; cases e
    ·rw [z, freeC] at z'; cases z'
   ·obtain ⟨f0, f1, f2', f3, f4, f5⟩ := f2 b hb
    exact ⟨f3, f1, f4, f5⟩
  ·refine thn (T.item (cxB X sc N fp C s2 H2) rfl rfl rfl hc i [] s3 σ3 H3 _ I3 (stat fr3) st3 go) fun r s4 ⟨u, hr, h4⟩ => ?_
   subst hr
   refine thn h4 fun _ s5 ⟨x, H5, I5, r5, y5, st5, fr5⟩ => ?_
   have I5' := I5.pinned (stat fr5) (T.obj _ _ st5)
   have again : ∀ {s7 : Shared} {σ7 : St} {H7 : Hp}, Inv (cxB X sc N fp C s2 H2) ([] ++ pinsAt fp s5.heap) σ7 H7 s7 → N' σ7 H7 → ∃ m, m < n ∧ ∃ i σ' H', Inv (cxB X sc N fp C s2 H2) [] σ' H' s7 ∧ tn i s7.heap ∧ (∀ b ∈ fp, H' b = none) ∧ W i m σ' H' := fun {s7 σ7 H7} I7 n7 => by
    obtain ⟨m', hm, w7⟩ := hN σ7 H7 n7
    refine ⟨m', hm, i + 1, σ7, H7, I7.unpinned, T.keep _ _ _ st5 fun b hb o e => (I7.pin (b, o) (List.mem_append_right _ (List.mem_append_right _ (mem_pinsAt hb e)))).1, fun b hb => ?_, w7⟩
    obtain ⟨o, e, d⟩ := T.obj _ _ st5 b hb
    exact (I7.pin (b, o) (List.mem_append_right _ (List.mem_append_right _ (mem_pinsAt hb e)))).2.1
   refine thn (hg s2 H2 C fp _ s5 σ3 H5 x u _ I5' r5 (step x H5 y5)) fun _ s6 ⟨σ6, H6, I6, q6⟩ => ?_
   refine thn (ht s2 H2 C fp _ s6 σ6 H6 _ I6 q6) fun b s7 ⟨H7, I7, q7⟩ => ?_
   cases b with
   | false =>
    rw [if_neg Bool.false_ne_true] at q7 ⊢
    exact again I7 q7
   | true =>
    rw [if_pos rfl] at q7 ⊢
    refine thn (he s2 H2 C fp _ s7 σ6 H7 _ I7 q7) fun u8 s8 ⟨v8, H8, I8, r8, xs, hD, hz, n8⟩ => ?_
    exact thn (mt_append (X := cxB X sc N fp C s2 H2) _ s8 σ6 H8 (.ref s2.heap.objs.size) [v8] (.ref s2.heap.objs.size) [u8] (fun _ H => N' σ6 H) I8 rfl (.cons r8 .nil) ⟨_, xs, v8, rfl, rfl, hD, hz, n8⟩) fun _ s9 ⟨_, H9, I9, _, n9⟩ => again I9 n9
 exact codeAny_compStart_list loop (T.self _ 0 _ _ _ stB loop)
theorem comp_range {lo : Int} {n k : Nat} {tt : TT} {te : TE} {D : Addr} {σ0 : St} {H : Hp} {Fn : Hp → Prop} (hn : n ≤ sizeLine) (Pv : Nat → List V → Hp → Prop) (h0 : Pv 0 [] (upd H D (.lst [])))
  (hs : ∀ i ys H' (N : St → Hp → Prop), i < n → ys.length ≤ i → ys.length < sizeLine → H' D = some (.lst ys) → Pv i ys H' →
   (∀ H2 zs, H2 D = some (.lst zs) → zs.length ≤ i + 1 → Pv (i + 1) zs H2 → N (σ0.set k (some (.int (lo + i)))) H2) →
   tt (σ0.set k (some (.int (lo + i)))) H' fun b H4 => if b = true then te (σ0.set k (some (.int (lo + i)))) H4 fun v H5 => ∃ xs, H5 D = some (.lst xs) ∧ xs.length < sizeLine ∧ N (σ0.set k (some (.int (lo + i)))) (upd H5 D (.lst (xs ++ [v])))
    else N (σ0.set k (some (.int (lo + i)))) H4)
  (hd : ∀ ys H', H' D = some (.lst ys) → ys.length ≤ n → Pv n ys H' → Fn H') :
  ∃ W : Nat → Nat → St → Hp → Prop, (∃ m, W 0 m σ0 (upd H D (.lst []))) ∧ ∀ i m σ' H', W i m σ' H' →
   ((Itr lo n).stop i H' ∧ Fn H') ∨ ((Itr lo n).go i H' ∧ ∃ N : St → Hp → Prop, (∀ σ2 H2, N σ2 H2 → ∃ m', m' < m ∧ W (i + 1) m' σ2 H2) ∧ ∀ x H2, (Itr lo n).yld i H' x H2 → gName k x σ' H2 fun σ3 H3 => tt σ3 H3 fun b H4 =>
    if b = true then te σ3 H4 fun v H5 => ∃ xs, H5 D = some (.lst xs) ∧ xs.length < sizeLine ∧ N σ3 (upd H5 D (.lst (xs ++ [v]))) else N σ3 H4) := by
 refine ⟨fun i m σ' H' => m = n - i ∧ i ≤ n ∧ (∀ y, σ'.set k y = σ0.set k y) ∧ ∃ ys, H' D = some (.lst ys) ∧ ys.length ≤ i ∧ Pv i ys H', ⟨n, rfl, Nat.zero_le _, fun _ => rfl, [], upd_same, Nat.le_refl _, h0⟩, ?_⟩
 rintro i m σ' H' ⟨rfl, hi, hσ, ys, hD, hl, p⟩
 by_cases hlt : i < n
 ·refine .inr ⟨hlt, fun σ2 H2 => (∀ y, σ2.set k y = σ0.set k y) ∧ ∃ zs, H2 D = some (.lst zs) ∧ zs.length ≤ i + 1 ∧ Pv (i + 1) zs H2, ?_, ?_⟩
  ·rintro σ2 H2 ⟨q1, zs, q2, q3, q4⟩
   exact ⟨n - (i + 1), by omega, rfl, hlt, q1, zs, q2, q3, q4⟩
  ·rintro x H2 ⟨rfl, rfl⟩
   show tt (σ'.set k (some (.int (lo + i)))) H2 _
   rw [hσ]
   exact hs i ys H2 (fun σ2 H2 => (∀ y, σ2.set k y = σ0.set k y) ∧ ∃ zs, H2 D = some (.lst zs) ∧ zs.length ≤ i + 1 ∧ Pv (i + 1) zs H2) hlt hl (by omega) hD p fun H3 zs z1 z2 z3 => ⟨fun y => by rw [List.set_set], zs, z1, z2, z3⟩
 ·have e : i = n := by omega
  subst e
  exact .inl ⟨Nat.le_refl _, hd ys H' hD hl p⟩
end
section
variable {X : Cx}
noncomputable def rAll (K : PySem.W.Frag) : List V → Hp → VK → Prop := fun xs H Q => ∃ (p : Addr) (bs : List Bool), xs = [.ref p] ∧ SqL K H p (bs.map V.bl) ∧ Q (.bl (bs.all id)) H
theorem all_range (bs : List Bool) : ((List.range bs.length).all fun i => bs.getD i false) = bs.all id := by
 induction bs with
 | nil => rfl
 | cons b r ih =>
  rw [List.length_cons, List.range_succ_eq_map, List.all_cons, List.all_map, List.all_cons, ← ih]
  rfl
theorem call_all (hc : X.calm = true) : CallR X (.builtin "all") (rAll X.K) := by
 intro pins s σ H xs us Q I rs h
 obtain ⟨p, bs, rfl, hq, q⟩ := h
 obtain ⟨u, rfl, r1⟩ := vals1 rs
 cases r1
 obtain ⟨its, r, pl, hz⟩ := I.list hq
 have hlen : its.length = bs.length := by have := r.length; rw [List.length_map] at this; exact this.symm
 refine call_function_tree F.kind_all F.plain_all F.entry_all (F.args_all1 _) ?_
 show wpAny _ X.A.in1 (pyIter (.ref p) >>= _) _ _ s
 refine wpAny_bind (wpAny_pyIter_list pl.isList ?_)
 have hne : p ≠ s.heap.objs.size := by
  obtain ⟨o, ho, _⟩ := pl.isList
  exact Nat.ne_of_lt (Heap.lt_size ho)
 refine wpAny_pure ⟨plainId_quiet F.plain_all_loop _, ?_⟩
 refine codeAny_all_loop (Walks.list (A := X.A.in1) (I.ok.hd hc) s.heap.objs.size p hne its.toArray) (fun i => bs.getD i false) (fun i v s' Q' E' hP hQ' => ?_) its.toArray.size 0 _ rfl (Nat.zero_le _)
  ⟨⟨_, Heap.get?_push_size _ rfl, rfl, rfl⟩, (show s.heap.IsList p its.toArray from pl.isList).at fun o e => Heap.get?_push_of_some _ e⟩ fun h' tk hk => ?_
 ·have hP' : its[i]? = some v := by simpa using hP
  have hi : i < bs.length := by rw [← hlen]; exact (List.getElem?_eq_some_iff.mp hP').1
  obtain ⟨u, hu, ru⟩ := r.get (i := i) (x := V.bl (bs[i])) (by simp [hi])
  rw [hP'] at hu; cases hu
  obtain rfl : v = Value.bool bs[i] := ru
  have e : bs.getD i false = bs[i] := by simp [List.getD, hi]
  dsimp only at hQ'
  rw [e] at hQ'
  exact wpAny_truthy_bool hQ'
 ·refine ⟨.bl (bs.all id), H, I.kept (t' := tk) fun b o e => hk b o (fun z => ?_) (Heap.get?_push_of_some _ e), ?_, q⟩
  ·have z' : b = s.heap.objs.size := by simpa using z
   exact absurd (Heap.lt_size e) (by rw [z']; exact Nat.lt_irrefl _)
  ·show Value.bool _ = Value.bool _
   rw [List.drop_zero, List.size_toArray, hlen, all_range]
end
end L2
namespace L2
open PySem PySem.Spec PyProof.Rows
structure FunD (K : PySem.W.Frag) (x qual : Str) (st : Stmt) (dV : Value) (f : Addr) (fd : FuncData) : Prop where
 ex : ∃ (oc : Value) (od : Option Addr) (kV doc pm : Value) (an : Option Addr) (cdv ct : Value) (osl : Array (Option Value)),
  fd = PySem.W.fnOf x qual (defArgs st) (defBody st) (defScope st) dV kV doc pm an cdv ct ∧ K.lookup f = some ⟨oc, od, .func fd, osl⟩ ∧ PySem.W.codeIn K cdv qual = true
 kp : PySem.W.keepIn K (.ref f) = true
theorem funD_mk {K : PySem.W.Frag} {x qual : Str} {st : Stmt} {dV : Value} {f : Addr} {oc : Value} {od an : Option Addr} {osl : Array (Option Value)} {kV doc pm cdv ct : Value}
  (l : K.lookup f = some ⟨oc, od, .func (PySem.W.fnOf x qual (defArgs st) (defBody st) (defScope st) dV kV doc pm an cdv ct), osl⟩)
  (c : PySem.W.codeIn K cdv qual = true) (k : PySem.W.keepIn K (.ref f) = true) : FunD K x qual st dV f (PySem.W.fnOf x qual (defArgs st) (defBody st) (defScope st) dV kV doc pm an cdv ct) := ⟨⟨oc, od, kV, doc, pm, an, cdv, ct, osl, rfl, l, c⟩, k⟩
structure Def (P : Program) (w : World) (K : PySem.W.Frag) (mg : Str → Option Value) (base : Heap) (k : Nat) (x : Str) (ps : List Str) (ds : List V) (sp : Sp) : Prop where
 ex : ∃ (f : Addr) (fd : FuncData) (dvs : List Value), FnOk P w K mg base CX0 k f fd ps sp ∧ mg x = some (.ref f) ∧ PySem.W.keepIn K (.ref f) = true ∧ Binds K fd ps dvs ∧ Vals ds dvs
section
variable {P : Program} {w : World} {K : PySem.W.Frag} {mg : Str → Option Value} {base : Heap}
theorem FunD.ok {x qual : Str} {st : Stmt} {dV : Value} {f : Addr} {fd : FuncData} {N ps : List Str} {k : Nat} {sp : Sp} (F : FunD K x qual st dV f fd) (S : FnScope N ps (defScope st)) (len : ∀ vs H Q E, sp vs H Q E → vs.length = ps.length)
  (hbody : ∀ (cdv : Value) (A : Around) (outer : List Env) (s : Shared) (H : Hp) (vs : List V) (Q : VK) (E : XK), Room k (A.deeper (envOfC qual (defScope st) s.heap.objs.size f cdv)) → sp vs H Q E →
   ∃ t, PSs (cxOf CX0 P w K mg base N qual (defScope st) f cdv A outer s H E).nox (defBody st) t ∧ t { nx := fun _ H' => Q .non H', rt := Q } (start N vs) H) : FnOk P w K mg base CX0 (k + 1) f fd ps sp := by
 obtain ⟨oc, od, kV, doc, pm, an, cdv, ct, osl, rfl, lk, hcd⟩ := F.ex
 refine fn_of lk hcd S len fun A outer s H vs Q E hr hsp => ?_
 obtain ⟨t, h, q⟩ := hbody cdv A outer s H vs Q E hr hsp
 exact ⟨t, h.nox, q⟩
theorem FunD.def {x qual : Str} {st : Stmt} {f : Addr} {fd : FuncData} {ps : List Str} {k : Nat} {sp : Sp} (F : FunD K x qual st .none f fd) (G : FnOk P w K mg base CX0 k f fd ps sp) (hm : mg x = some (.ref f))
  (h : ∀ (kV doc pm : Value) (an : Option Addr) (cdv ct : Value) (us : List Value), us.length = ps.length → bindArgs (PySem.W.fnOf x qual (defArgs st) (defBody st) (defScope st) .none kV doc pm an cdv ct) ⟨us, []⟩ = pure (ps.zip us)) : Def P w K mg base k x ps [] sp := by
 obtain ⟨oc, od, kV, doc, pm, an, cdv, ct, osl, rfl, lk, hcd⟩ := F.ex
 exact ⟨f, _, [], G, hm, F.kp, .all (h kV doc pm an cdv ct), .nil⟩
end
section
variable {X : Cx}
theorem pe_callD {k : Nat} {x : Str} {ps : List Str} {ds : List V} {sp : Sp} {e : Expr} {es : List Expr} {t : TA} {p pos : Pos} (D : Def X.prog X.w X.K X.mg X.base k x ps ds sp) (hr : Room k X.A) (hg : Gl X x)
  (ha : PA X (e :: es) t) (hdb : (x == ("__debug__" : Str)) = false := by decide) (he : starEach (e :: es) X.env = (false, eval e X.env) :: starEach es X.env := by rfl) (hpl : (backTo pos (starEach es X.env)).any (·.1) = false := by rfl) :
  PE X (.Call (.Name x p) (e :: es) [] pos) (tCall sp ds E0 t) := by
 obtain ⟨f, fd, dvs, F, hm, hk, hb, hd⟩ := D.ex
 exact pe_call F hr hg hm hk hb hd pass0 ha hdb he hpl
end
end L2
namespace Att
open PySem PySem.W PySem.Calls PyProof.Rows
theorem weight_mem : ∀ {ns : List Int} {x : Int}, x ∈ ns → Builtin.Int.intBits x ≤ WData.weightAll (ns.map WData.int)
 | n :: r, x, h => by
  rw [List.map_cons]
  unfold WData.weightAll
  rcases List.mem_cons.mp h with e | h
  ·subst e
   have : WData.weight (.int x) = Builtin.Int.intBits x := by unfold WData.weight Builtin.Int.intBits; rfl
   omega
  ·have := weight_mem h
   omega
theorem bits_of_lay {ns : List Int} (h : WData.layableAll [WData.list (ns.map WData.int)] = true) : ∀ x ∈ ns, Builtin.Int.intBits x ≤ 2 ^ 20 := fun x hx => by
 have h1 : WData.layable (WData.list (ns.map WData.int)) = true := by simpa [WData.layableAll] using h
 unfold WData.layable at h1
 rw [Bool.and_eq_true] at h1
 have h2 : WData.weight (WData.list (ns.map WData.int)) ≤ 2 ^ 20 := of_decide_eq_true h1.2
 have h3 : WData.weight (WData.list (ns.map WData.int)) = WData.weightAll (ns.map WData.int) := by unfold WData.weight; rfl
 have h4 := weight_mem hx
 omega
theorem attach_callB {l : OpenLaw} {n : Nat} {q : Program} {loose : List Str} {XP : (Str → Option Value) → Heap → Prop} {YP : World → Heap → Prop} {d : DefRec}
  (hn : l.most = some n) (hdf : d.params.defaults = [])
  (call : ∀ (w : World) (s₀ s₁ : Shared) (mg mb : Str → Option Value) (fa : Addr) (o : Obj) (pm cd doc : Value) (a : Addr) (vs : List Value) (ns : List Int),
   Ground q loose [] XP w s₀ mg mb s₁.heap → YP w s₁.heap →
   s₁.heap.get? fa = some o → o.data = .func (docDef d.name d.params d.body d.scope pm cd doc) → s₁.heap.CodeRec cd d.name → mg d.name = some (.ref fa) →
   s₁.heap.get? a = some { cls := .type "list", data := .seq vs.toArray } → IntsAre vs ns → ns.length ≤ n → (∀ x ∈ ns, Builtin.Int.intBits x ≤ 2 ^ 20) → s₁.gens = #[] →
   codeAny (model l.prog w) callerA (.call (.ref fa) ⟨[.ref a], []⟩) (fun r s' => r = .ok (.ret (.bool true)) ∧ OldK s₁.heap s'.heap ∧ s'.os = s₁.os ∧ AllBare s'.gens) s₁) :
  WalkO q loose XP YP l.row.toRowW d [] (fun f vs => PySem.call f vs) := by
 intro w s₀ s₁ mg mb G Y fa o pm cd doc dV kV ho hd hcd hD hmg hg args vals as hpre hlay hrd hwl hlo
 obtain rfl : dV = .none := Dflts.none hD hdf
 obtain rfl : kV = .none := Dflts.noKw hD
 obtain ⟨a, vs, ns, rfl, rfl, hobj, hints, hlen⟩ := script_of hn hpre hwl
 refine enter_call (codeAny_mono (call w s₀ s₁ mg mb fa o pm cd doc a vs ns G Y ho (fd_plain hd) hcd hmg hobj hints hlen (bits_of_lay hlay) hg) fun r s' hq => ?_)
 obtain ⟨rfl, h2, h3, h4⟩ := hq
 exact ⟨.inl ⟨.bool true, .bool true, [], rfl, fun _ => rfl, .bool true, post_true l _, fun _ => ⟨List.Pairwise.nil, fun _ hm => (nomatch hm)⟩⟩, h2, h3, h4⟩
end Att
namespace L2
open PySem PySem.Spec PyProof.Rows
theorem walk_ofB {l : PySem.W.OpenLaw} {n k : Nat} {q : Program} {loose : List Str} {XP : (Str → Option Value) → Heap → Prop} {YP : World → Heap → Prop} {d : DefRec} {K : Params → PySem.W.Frag} {CX : CXT} {sp : PySem.W.Frag → Sp} {x : Str}
  (hn : l.most = some n) (hn2 : n ≤ sizeLine) (hdf : d.params.defaults = []) (hr : Room k callerA)
  (hY : ∀ (w : World) (h : Heap), YP w h → (K w.params).In h)
  (F : ∀ (w : World) (mg : Str → Option Value) (fa : Addr) (h : Heap), (K w.params).In h → h.Ns mainGlobals mg → mg d.name = some (.ref fa) →
   ∃ fd : FuncData, (∀ (s : Shared) (u : Value), BindsTo s fd ⟨[u], []⟩ [(x, u)]) ∧
    ∀ base : Heap, (K w.params).In base → base.Ns mainGlobals mg → FnOk l.prog w (K w.params) mg base CX k fa fd [x] (sp (K w.params)))
  (hsp : ∀ (K : PySem.W.Frag) (H : Hp) (a : Addr) (ns : List Int), ns.length ≤ n → (∀ x ∈ ns, Builtin.Int.intBits x ≤ 2 ^ 20) → Only H → SqL K H a (ns.map V.int) → sp K [.ref a] H (fun v _ => v = .bl true) fun _ _ _ => False)
  (hCX : ∀ (H : Hp) (s : Shared) (e : Value) (s' : Shared), CX [] H s (fun _ _ _ => False) e s' → False) :
  PySem.W.WalkO q loose XP YP l.row.toRowW d [] (fun f vs => PySem.call f vs) := by
 refine Att.attach_callB hn hdf fun w s₀ s₁ mg mb fa o pm cd doc a vs ns G Y ho hd hcd hmg hobj hints hlen hbits hg => ?_
 have KX := hY w _ Y
 obtain ⟨fd, hb, hF⟩ := F w mg fa _ KX G.T.g hmg
 exact law_call KX G.T.g G.T.b G.T.builtins G.T.nolimit hg hobj hints (Nat.le_trans hlen hn2) hr hF hb (fun H hO hS => hsp (K w.params) H a ns hlen hbits hO hS) fun H e s' => hCX H s₁ e s'
end L2
namespace L2
open PySem
theorem len0 {us : List Value} (h : us.length = 0) : us = [] := List.eq_nil_of_length_eq_zero h
theorem lenS {us : List Value} {n : Nat} (h : us.length = n + 1) : ∃ a r, us = a :: r ∧ r.length = n := by
 cases us with
 | nil => exact absurd h (Nat.succ_ne_zero n).symm
 | cons a r => exact ⟨a, r, rfl, Nat.succ.inj h⟩
theorem len1 {us : List Value} (h : us.length = 1) : ∃ a, us = [a] := by
 obtain ⟨a, r, rfl, h2⟩ := lenS h; cases len0 h2; exact ⟨a, rfl⟩
theorem len2 {us : List Value} (h : us.length = 2) : ∃ a b, us = [a, b] := by
 obtain ⟨a, r, rfl, h2⟩ := lenS h; obtain ⟨b, rfl⟩ := len1 h2; exact ⟨a, b, rfl⟩
theorem len3 {us : List Value} (h : us.length = 3) : ∃ a b c, us = [a, b, c] := by
 obtain ⟨a, r, rfl, h2⟩ := lenS h; obtain ⟨b, c, rfl⟩ := len2 h2; exact ⟨a, b, c, rfl⟩
theorem len4 {us : List Value} (h : us.length = 4) : ∃ a b c d, us = [a, b, c, d] := by
 obtain ⟨a, r, rfl, h2⟩ := lenS h; obtain ⟨b, c, d, rfl⟩ := len3 h2; exact ⟨a, b, c, d, rfl⟩
end L2
namespace L2
open PySem PySem.Spec PyProof.Rows
open Sem (wp)
noncomputable def NoCtx (h : Heap) (ea : Addr) : Prop := ∃ o vs, h.get? ea = some o ∧ o.data = .fields vs ∧ vs[2]? = some Value.none
theorem NoCtx.keeps {h h' : Heap} {ea : Addr} (c : NoCtx h ea) (k : ∀ o, h.get? ea = some o → h'.get? ea = some o) : NoCtx h' ea := by
 obtain ⟨o, vs, e, d, n⟩ := c
 exact ⟨o, vs, k o e, d, n⟩
noncomputable def Keeps {α : Type} (P : Heap → Prop) : Sem α → Prop
 | .pure _ => True
 | .raise _ => True
 | .unsupported _ => True
 | .finish _ => True
 | .rule _ k => Keeps P (k ())
 | .at _ k => Keeps P (k ())
 | .load _ _ k => ∀ o, Keeps P (k o)
 | .update a _ f k => (∀ h, P h → P (h.update a f)) ∧ Keeps P (k ())
 | .alloc o k => (∀ h, P h → P (h.push o)) ∧ ∀ a, Keeps P (k a)
 | .loadIfAlive _ k => ∀ o, Keeps P (k o)
 | .point _ k => Keeps P (k ())
 | .register _ _ => True
 | .fresh k => ∀ n, Keeps P (k n)
 | .ask k => ∀ x, Keeps P (k x)
 | .choose _ _ k => ∀ n, Keeps P (k n)
 | .os _ _ k => ∀ x, Keeps P (k x)
 | .call .. => False
 | .handled _ k => ∀ x, Keeps P (k x)
 | .newGen _ k => ∀ n, Keeps P (k n)
 | .genState _ k => ∀ x, Keeps P (k x)
 | .resume .. => False
 | .yield .. => True
 | .stack k => ∀ l, Keeps P (k l)
 | .fork .. => True
 | .thread k => ∀ n, Keeps P (k n)
 | .await .. => True
section
variable {α β : Type} {P : Heap → Prop} {M : Model} {Γ : PySem.Ctx} {A : Around}
theorem Keeps.wp {t : Sem α} {Q : α → Pos → Shared → Prop} {E : Value → Pos → Shared → Prop} {p : Pos} {s : Shared} (hk : Keeps P t) (h : wp M Γ t Q E p s) (hp : P s.heap) :
  Sem.wp M Γ t (fun a p' s' => Q a p' s' ∧ P s'.heap) (fun e p' s' => E e p' s' ∧ P s'.heap) p s := by
 induction t generalizing p s with
 | pure a => exact ⟨h, hp⟩
 | raise e => exact ⟨h, hp⟩
 | unsupported w => exact h
 | finish e => exact h
 | rule tag k ih => exact ih () hk h hp
 | «at» q k ih => exact ih () hk h hp
 | load a part k ih => obtain ⟨o, ho, h⟩ := h; exact ⟨o, ho, ih o (hk o) h hp⟩
 | update a part f k ih => exact ⟨h.1, ih () hk.2 h.2 (hk.1 _ hp)⟩
 | alloc o k ih => exact ih _ (hk.2 _) h (hk.1 _ hp)
 | loadIfAlive a k ih => exact ih _ (hk _) h hp
 | point l k ih => exact ih () hk h hp
 | register a k ih => exact h
 | fresh k ih => exact ih _ (hk _) h hp
 | ask k ih => exact ih _ (hk _) h hp
 | choose src n k ih => exact ⟨h.1, ih _ (hk _) h.2 hp⟩
 | os q l k ih => exact ih _ (hk _) h hp
 | call c hd g l k ih => exact hk.elim
 | handled own k ih => exact ih _ (hk _) h hp
 | newGen c k ih => exact ih _ (hk _) h hp
 | genState g k ih => obtain ⟨st, e, h⟩ := h; exact ⟨st, e, ih _ (hk _) h hp⟩
 | resume g r l k ih => exact hk.elim
 | yield v g l k ih => exact h
 | stack k ih => exact ih _ (hk _) h hp
 | fork c k ih => exact h
 | thread k ih => exact ih _ (hk _) h hp
 | await a t b l k ih => exact h
theorem Keeps.any {t : Sem α} {Q : α → Shared → Prop} {E : Value → Shared → Prop} {s : Shared} (hk : Keeps P t) (hp : P s.heap) (h : wpAny M A t Q E s) : wpAny M A t (fun a s' => Q a s' ∧ P s'.heap) (fun e s' => E e s' ∧ P s'.heap) s :=
 fun Γ p hΓ => hk.wp (h Γ p hΓ) hp
theorem Keeps.bind {m : Sem α} {f : α → Sem β} (hm : Keeps P m) (hf : ∀ a, Keeps P (f a)) : Keeps P (m >>= f) := by
 show Keeps P (Sem.bind m f)
 induction m with
 | pure a => exact hf a
 | raise e => trivial
 | unsupported w => trivial
 | finish e => trivial
 | rule tag k ih => exact ih () hm
 | «at» q k ih => exact ih () hm
 | load a part k ih => exact fun o => ih o (hm o)
 | update a part g k ih => exact ⟨hm.1, ih () hm.2⟩
 | alloc o k ih => exact ⟨hm.1, fun a => ih a (hm.2 a)⟩
 | loadIfAlive a k ih => exact fun o => ih o (hm o)
 | point l k ih => exact ih () hm
 | register a k ih => trivial
 | fresh k ih => exact fun o => ih o (hm o)
 | ask k ih => exact fun o => ih o (hm o)
 | choose src n k ih => exact fun o => ih o (hm o)
 | os q l k ih => exact fun o => ih o (hm o)
 | call c hd g l k ih => exact hm.elim
 | handled own k ih => exact fun o => ih o (hm o)
 | newGen c k ih => exact fun o => ih o (hm o)
 | genState g k ih => exact fun o => ih o (hm o)
 | resume g r l k ih => exact hm.elim
 | yield v g l k ih => trivial
 | stack k ih => exact fun o => ih o (hm o)
 | fork c k ih => trivial
 | thread k ih => exact fun o => ih o (hm o)
 | await a t b l k ih => trivial
end
section
variable {ea : Addr}
theorem noctx_update {h : Heap} {a : Addr} {f : Obj → Obj} (c : NoCtx h ea) (hf : ∀ o vs, o.data = .fields vs → ∃ ws, (f o).data = .fields ws ∧ ws[2]? = vs[2]?) : NoCtx (h.update a f) ea := by
 obtain ⟨o, vs, e, d, n⟩ := c
 by_cases q : a = ea
 ·subst q
  obtain ⟨ws, d2, n2⟩ := hf o vs d
  exact ⟨f o, ws, Heap.get?_update_self _ e (Obj.isFreed_of_fields d2), d2, n2.trans n⟩
 ·exact ⟨o, vs, (Heap.get?_update_other _ _ q).trans e, d, n⟩
theorem noctx_push {h : Heap} {o : Obj} (c : NoCtx h ea) : NoCtx (h.push o) ea := c.keeps fun _ e => Heap.get?_push_of_some _ e
theorem noctx_field {h : Heap} {a : Addr} {i : Nat} {v : Value} (hi : i ≠ 2) (c : NoCtx h ea) : NoCtx (h.update a (Obj.mapFields (·.setIfInBounds i v))) ea :=
 noctx_update c fun o vs d => ⟨_, Obj.data_mapFields d _, by rw [Array.getElem?_setIfInBounds_ne hi]⟩
theorem keep_load {P : Heap → Prop} {a : Addr} : Keeps P (load a) := fun _ => trivial
theorem keep_stack {P : Heap → Prop} : Keeps P (stack : Sem (List (Code × Pos))) := fun _ => trivial
theorem keep_ite {P : Heap → Prop} {α : Type} {c : Prop} [Decidable c] {x y : Sem α} (h1 : Keeps P x) (h2 : Keeps P y) : Keeps P (if c then x else y) := by
 by_cases h : c
 ·rw [if_pos h]; exact h1
 ·rw [if_neg h]; exact h2
theorem keep_field {v : Value} {i : Nat} : Keeps (NoCtx · ea) (field v i) := by
  unfold field fieldsOf
  repeat' first
    | exact trivial
    | exact keep_load
    | (refine Keeps.bind ?_ fun _ => ?_)
    | split
theorem keep_setField {v x : Value} {i : Nat} (hi : i ≠ 2) : Keeps (NoCtx · ea) (setField v i x) := by
 unfold setField updateField
 cases v with
 | ref a =>
  refine keep_load.bind fun o => ?_
  cases o.data with
  | fields vs => exact keep_ite ⟨fun h c => noctx_field hi c, trivial⟩ trivial
  | _ => trivial
 | _ => trivial
theorem keep_setFlight {e : Value} {f : Option Addr} : Keeps (NoCtx · ea) (setFlight e f) := by
 unfold setFlight
 exact keep_field.bind fun tb => keep_ite (keep_setField (by decide)) trivial
theorem keep_entry {a b c d e : Value} {l : List Value} : Keeps (NoCtx · ea) (EntryCells.newEntry a b c d e l) := by
  unfold EntryCells.newEntry newFields newObj
  dsimp only
  repeat' first
    | exact trivial
    | exact ⟨fun h c => noctx_push c, fun _ => trivial⟩
    | (refine Keeps.bind ?_ fun _ => ?_)
    | (refine keep_ite ?_ ?_)
    | split
theorem keep_place {f : Addr} {b : Bool} : Keeps (NoCtx · ea) (entryPlaceOf f b) := by
 unfold entryPlaceOf
 refine keep_stack.bind fun l => ?_
 split <;> trivial
theorem keep_ready : ∀ (l : List Env), Keeps (NoCtx · ea) (readyFrames l)
  | [] => trivial
  | env :: outer => by
    unfold readyFrames
    cases env.frame with
    | none => trivial
    | some f =>
      refine keep_load.bind fun o => keep_ite trivial ?_
      refine Keeps.bind ?_ fun im => Keeps.bind ?_ fun bk => Keeps.bind ⟨fun h c => noctx_update c fun o vs d => ⟨vs, d, rfl⟩, trivial⟩ fun _ => keep_ready outer
      · unfold behindIsImport
        repeat' first
          | exact trivial
          | exact keep_field
          | (refine Keeps.bind ?_ fun _ => ?_)
          | (refine keep_ite ?_ ?_)
      · unfold keptBack underTheClaimsCaller
        repeat' first
          | exact trivial
          | exact keep_stack
          | (refine Keeps.bind ?_ fun _ => ?_)
          | (refine keep_ite ?_ ?_)
          | split
theorem keep_frameOf {env : Env} : Keeps (NoCtx · ea) (PySem.frameOf env) := by
  unfold PySem.frameOf frameEnvs frameObject
  repeat' first
    | exact trivial
    | exact keep_stack
    | exact keep_ready _
    | (refine Keeps.bind ?_ fun _ => ?_)
    | split
theorem keep_note {e : Value} {env : Env} : Keeps (NoCtx · ea) (noteFrame e env) := by
 unfold noteFrame
 cases env.frame with
 | none => trivial
 | some f =>
  refine keep_field.bind fun hd => ?_
  have fin : Keeps (NoCtx · ea) (do setField e 1 (← EntryCells.newEntry hd (← PySem.frameOf env) .none (rawInt f) .none (← entryPlaceOf f (hd != .none)))) :=
   keep_frameOf.bind fun fr => keep_place.bind fun pl => keep_entry.bind fun en => keep_setField (by decide)
  exact keep_ite (keep_field.bind fun x => keep_ite trivial ((keep_setField (by decide)).bind fun _ => fin)) fin
theorem keep_leaving {e : Value} {env : Env} : Keeps (NoCtx · ea) (leaving env e) := keep_note.bind fun _ => keep_setFlight
end
section
variable {M : Model} {A : Around} {E : Value → Shared → Prop} {s : Shared} {base : Heap} {env : Env} {outer l : List Env} {L e : Addr} {cls a0 : Value} {Q : Unit → Shared → Prop}
theorem leaves_onC (hfr : A.frames = some (env :: outer)) (hf : env.frame = some L) (hfl : Heap.FlyingW base (env :: outer) e cls a0 s.heap) (nc : NoCtx s.heap e)
  (hQ : ∀ h', Heap.FlyingW base outer e cls a0 h' → NoCtx h' e → s.heap.UpToSlots h' → Q () { s with heap := h' }) : wpAny M A (leaving env (.ref e)) Q E s :=
 wpAny_mono (keep_leaving.any nc (wpAny_leaves_onW (Q := fun _ s' => ∃ h', s' = { s with heap := h' } ∧ Heap.FlyingW base outer e cls a0 h' ∧ s.heap.UpToSlots h') (E := fun _ _ => False) hfr hf hfl fun h' a b => ⟨h', rfl, a, b⟩))
  (fun _ s' ⟨⟨h', e', a, b⟩, n⟩ => by subst e'; exact hQ h' a n b) fun _ _ z => z.1.elim
theorem leaves_madeC {h : Heap} {args : List Value} (hfr : A.frames = some (env :: outer)) (hf : env.frame = some L) (hkb : base.StaysIn h) (hl : h.FunFrames base (env :: outer)) (hx : Heap.MadeExcOf h s.heap e cls args)
  (hQ : ∀ h' t, Heap.FlyingW base outer e cls (.ref t) h' → NoCtx h' e → h'.TupAt t args → base.get? t = none → s.heap.UpToSlots h' → Q () { s with heap := h' }) : wpAny M A (leaving env (.ref e)) Q E s := by
 have nc : NoCtx s.heap e := by
  obtain ⟨t, he, _⟩ := hx.there
  exact ⟨_, _, he, rfl, rfl⟩
 exact wpAny_mono (keep_leaving.any nc (wpAny_leaves_madeW (Q := fun _ s' => ∃ h' t, s' = { s with heap := h' } ∧ Heap.FlyingW base outer e cls (.ref t) h' ∧ h'.TupAt t args ∧ base.get? t = none ∧ s.heap.UpToSlots h') (E := fun _ _ => False) hfr hf hkb hl hx fun h' t a b c d => ⟨h', t, rfl, a, b, c, d⟩))
  (fun _ s' ⟨⟨h', t, e', a, b, c, d⟩, n⟩ => by subst e'; exact hQ h' t a n b c d) fun _ _ z => z.1.elim
theorem looks_onC (hfr : A.frames = some (env :: outer)) (hf : env.frame = some L) (hfl : Heap.FlyingW base (env :: outer) e cls a0 s.heap) (nc : NoCtx s.heap e)
  (hQ : ∀ h', Heap.HeldW base (env :: outer) e cls a0 L h' → NoCtx h' e → s.heap.UpToSlots h' → Q () { s with heap := h' }) : wpAny M A (noteFrame (.ref e) env) Q E s :=
 wpAny_mono (keep_note.any nc (wpAny_looks_onW (Q := fun _ s' => ∃ h', s' = { s with heap := h' } ∧ Heap.HeldW base (env :: outer) e cls a0 L h' ∧ s.heap.UpToSlots h') (E := fun _ _ => False) hfr hf hfl fun h' a b => ⟨h', rfl, a, b⟩))
  (fun _ s' ⟨⟨h', e', a, b⟩, n⟩ => by subst e'; exact hQ h' a n b) fun _ _ z => z.1.elim
theorem landsC (hh : Heap.HeldW base l e cls a0 L s.heap) (nc : NoCtx s.heap e)
  (hQ : ∀ h', Heap.FlyingW base l e cls a0 h' → NoCtx h' e → s.heap.UpToSlots h' → Q () { s with heap := h' }) : wpAny M A (setFlight (.ref e) none) Q E s :=
 wpAny_mono (keep_setFlight.any nc (wpAny_landsW (Q := fun _ s' => ∃ h', s' = { s with heap := h' } ∧ Heap.FlyingW base l e cls a0 h' ∧ s.heap.UpToSlots h') (E := fun _ _ => False) hh fun h' a b => ⟨h', rfl, a, b⟩))
  (fun _ s' ⟨⟨h', e', a, b⟩, n⟩ => by subst e'; exact hQ h' a n b) fun _ _ z => z.1.elim
theorem lands_againC (hh : Heap.FlyingW base l e cls a0 s.heap) (nc : NoCtx s.heap e)
  (hQ : ∀ h', Heap.FlyingW base l e cls a0 h' → NoCtx h' e → s.heap.UpToSlots h' → Q () { s with heap := h' }) : wpAny M A (setFlight (.ref e) none) Q E s :=
 wpAny_mono (keep_setFlight.any nc (lands_againW (Q := fun _ s' => ∃ h', s' = { s with heap := h' } ∧ Heap.FlyingW base l e cls a0 h' ∧ s.heap.UpToSlots h') (E := fun _ _ => False) hh fun h' a b => ⟨h', rfl, a, b⟩))
  (fun _ s' ⟨⟨h', e', a, b⟩, n⟩ => by subst e'; exact hQ h' a n b) fun _ _ z => z.1.elim
end
structure Flew (P : Program) (w : World) (outer : List Env) (H H' : Hp) (h B h' : Heap) (ea : Addr) : Prop where
 hok : HOk P w H' B
 keep : ∀ b o, h.get? b = some o → H b = none → b ∉ frs outer → B.get? b = some o
 slot : ∀ b o, h.get? b = some o → b ∈ frs outer → ∃ sl, h'.get? b = some { o with slots := sl }
 free : ∀ b o, h.get? b = some o → H b = none → H' b = none
 there : ∀ b o, h.get? b = some o → b ∉ frs outer → ∃ o', B.get? b = some o'
 tups : ∀ b xs, H b = some (.tup xs) → H' b = some (.tup xs)
 frzs : ∀ b o u, H b = some (.frz o u) → H' b = some (.frz o u)
 tbls : ∀ b ps, H b = some (.tbl ps) → ∃ more, H' b = some (.tbl (ps ++ more))
 exc : H' ea = none
noncomputable def CX1 (P : Program) (w : World) : CXT := fun outer H s E e s' =>
 ∃ (ea : Addr) (cls a0 : Value) (H' : Hp) (B : Heap), e = .ref ea ∧ Heap.FlyingW B outer ea cls a0 s'.heap ∧ NoCtx s'.heap ea ∧ s'.os = s.os ∧ AllBare s'.gens ∧ Flew P w outer H H' s.heap B s'.heap ea ∧ E cls none H'
section
variable {P : Program} {w : World} {outer : List Env} {H H' : Hp} {h B h' h'' : Heap} {ea : Addr}
theorem Flew.up {cls a0 : Value} (f : Flew P w outer H H' h B h' ea) (fl : Heap.FlyingW B outer ea cls a0 h') (up : h'.UpToSlots h'') : Flew P w outer H H' h B h'' ea :=
 ⟨f.hok, f.keep, fun b o e hb => by
  obtain ⟨sl, e1⟩ := f.slot b o e hb
  obtain ⟨_, o1, e2, nf⟩ := fl.2.2.1.mem hb
  rw [e1] at e2
  cases e2
  obtain ⟨sl', e3⟩ := up b _ e1 nf
  exact ⟨sl', e3⟩, f.free, f.there, f.tups, f.frzs, f.tbls, f.exc⟩
theorem Flew.un (f : Flew P w outer H H' h B h' ea) (st : B.StaysIn h') : Un (frs outer) [] H H' h h' where
 keep := fun b o e n hb _ => st b o (f.keep b o e n hb)
 slot := fun b o e _ hb _ => f.slot b o e hb
 free := fun b o e n _ => f.free b o e n
 there := fun b o e _ => by
  by_cases hb : b ∈ frs outer
  ·obtain ⟨sl, e1⟩ := f.slot b o e hb
   exact ⟨_, e1⟩
  ·obtain ⟨o', e1⟩ := f.there b o e hb
   exact ⟨o', st b o' e1⟩
 tups := f.tups
 frzs := f.frzs
 tbls := f.tbls
theorem Flew.ok (f : Flew P w outer H H' h B h' ea) (st : B.StaysIn h') : HOk P w H' h' := f.hok.kept st
end
section
variable {P : Program} {w : World} {K : PySem.W.Frag} {mg : Str → Option Value} {base : Heap} {N : List Str} {qual : Str} {scope : Scope} {f : Addr} {cd : Value} {A : Around} {outer : List Env} {s₀ : Shared} {H₀ : Hp} {E : XK}
theorem passes1 : Passes (CX1 P w) (cxOf (CX1 P w) P w K mg base N qual scope f cd A outer s₀ H₀ E) E := by
 intro pins σ H s e s' I hc
 obtain ⟨ea, cls, a0, H', B, rfl, fl, nc, os, bare, fw, q⟩ := hc
 have fr : frs (envOfC qual scope s₀.heap.objs.size f cd :: outer) = s₀.heap.objs.size :: frs outer := rfl
 have neL : ∀ b o, s₀.heap.get? b = some o → b ∉ frs outer → b ∉ frs (envOfC qual scope s₀.heap.objs.size f cd :: outer) := fun b o e hb z => by
  rw [fr] at z
  rcases List.mem_cons.mp z with z | z
  ·have := Heap.lt_size e
   rw [z] at this
   exact absurd this (Nat.lt_irrefl _)
  ·exact hb z
 show wpAny (model P w) (A.deeper (envOfC qual scope s₀.heap.objs.size f cd)) (leaving (envOfC qual scope s₀.heap.objs.size f cd) (.ref ea)) (fun _ s'' => CX1 P w outer H₀ s₀ E (.ref ea) s'') (fun e' s'' => CX1 P w outer H₀ s₀ E e' s'') s'
 refine leaves_onC I.ok.frames rfl fl nc fun h'' fl'' nc'' up => ?_
 have fu := fw.up fl up
 have ub : Un (frs outer) [] H₀ H s₀.heap s.heap := I.base
 refine ⟨ea, cls, a0, H', B, rfl, fl'', nc'', os.trans I.os, bare, ⟨fw.hok, fun b o e n hb => ?_, fun b o e hb => ?_, fun b o e n => ?_, fun b o e hb => ?_, fun b xs e => fw.tups b xs (ub.tups b xs e), fun b o u e => fw.frzs b o u (ub.frzs b o u e), fun b ps e => ?_, fw.exc⟩, q⟩
 ·exact fw.keep b o (ub.keep b o e n hb (by simp)) (ub.free b o e n (by simp)) (neL b o e hb)
 ·obtain ⟨sl, e1⟩ := ub.slot b o e (I.ok.frf b hb) hb (by simp)
  obtain ⟨sl', e2⟩ := fu.slot b _ e1 (show b ∈ frs (envOfC qual scope s₀.heap.objs.size f cd :: outer) by rw [fr]; exact List.mem_cons_of_mem _ hb)
  exact ⟨sl', e2⟩
 ·obtain ⟨o', e1⟩ := ub.there b o e (by simp)
  exact fw.free b o' e1 (ub.free b o e n (by simp))
 ·obtain ⟨o', e1⟩ := ub.there b o e (by simp)
  exact fw.there b o' e1 (neL b o e hb)
 ·obtain ⟨m1, e1⟩ := ub.tbls b ps e
  obtain ⟨m2, e2⟩ := fw.tbls b _ e1
  exact ⟨m1 ++ m2, by rw [e2, Array.append_assoc]⟩
noncomputable def Raises (X : Cx) (E : XK) (cls : Value) : Prop := ∀ (pins : List (Addr × Obj)) (σ : St) (H : Hp) (s : Shared) (ea : Addr) (h' : Heap) (vs : List Value), Inv X pins σ H s → Heap.MadeExcOf s.heap h' ea cls vs → E cls none H → X.xe (.ref ea) { s with heap := h' }
theorem raises1 {cls : Value} : Raises (cxOf (CX1 P w) P w K mg base N qual scope f cd A outer s₀ H₀ E) E cls := by
 intro pins σ H s ea h' vs I hx q
 have fr : frs (envOfC qual scope s₀.heap.objs.size f cd :: outer) = s₀.heap.objs.size :: frs outer := rfl
 have neL : ∀ b o, s₀.heap.get? b = some o → b ∉ frs outer → b ∉ frs (envOfC qual scope s₀.heap.objs.size f cd :: outer) := fun b o e hb z => by
  rw [fr] at z
  rcases List.mem_cons.mp z with z | z
  ·have := Heap.lt_size e
   rw [z] at this
   exact absurd this (Nat.lt_irrefl _)
  ·exact hb z
 have stk : s.heap.FunFrames base (envOfC qual scope s₀.heap.objs.size f cd :: outer) := I.stack
 have hin : ∀ env ∈ (envOfC qual scope s₀.heap.objs.size f cd :: outer), ∀ b, env.frame = some b → b ∈ frs (envOfC qual scope s₀.heap.objs.size f cd :: outer) := fun env he b hb => List.mem_filterMap.mpr ⟨env, he, hb⟩
 have sf : ∀ b u, H b = some u → b ∉ frs (envOfC qual scope s₀.heap.objs.size f cd :: outer) := fun b u e z => by
  have n := I.stkFree b z
  rw [e] at n; cases n
 show wpAny (model P w) (A.deeper (envOfC qual scope s₀.heap.objs.size f cd)) (leaving (envOfC qual scope s₀.heap.objs.size f cd) (.ref ea)) (fun _ s'' => CX1 P w outer H₀ s₀ E (.ref ea) s'') (fun e' s'' => CX1 P w outer H₀ s₀ E e' s'') { s with heap := h' }
 refine leaves_madeC (base := PySem.W.hideAll s.heap (frs (envOfC qual scope s₀.heap.objs.size f cd :: outer))) (h := s.heap) I.ok.frames rfl (fun b o e => PySem.W.of_hideAll _ e) (PySem.W.funFrames_hide stk hin) hx fun h'' t fl nc tup hbt up => ?_
 have ub : Un (frs outer) [] H₀ H s₀.heap s.heap := I.base
 have toB : ∀ b o, s.heap.get? b = some o → b ∉ frs (envOfC qual scope s₀.heap.objs.size f cd :: outer) → (PySem.W.hideAll s.heap (frs (envOfC qual scope s₀.heap.objs.size f cd :: outer))).get? b = some o := fun b o e hb => PySem.W.hideAll_get _ e hb
 refine ⟨ea, cls, .ref t, H, _, rfl, fl, nc, I.os, I.bare, ⟨fun a o e => ?_, fun b o e n hb => ?_, fun b o e hb => ?_, fun b o e n => ?_, fun b o e hb => ?_, ub.tups, ub.frzs, ub.tbls, ?_⟩, q⟩
 ·refine (I.hok a o e).stay (fun b u hb g => toB b u g ?_) (fun _ g => g) fun _ _ g => g
  rcases hb with hb | hb
  ·rw [hb]; exact sf a o e
  ·exact sf b _ hb
 ·exact toB b o (ub.keep b o e n hb (by simp)) (neL b o e hb)
 ·obtain ⟨sl, e1⟩ := ub.slot b o e (I.ok.frf b hb) hb (by simp)
  obtain ⟨_, o1, e2, nf⟩ := I.funs.mem hb
  rw [e1] at e2
  cases e2
  obtain ⟨sl', e3⟩ := up b _ (hx.keeps b _ e1) nf
  exact ⟨sl', e3⟩
 ·exact ub.free b o e n (by simp)
 ·obtain ⟨o', e1⟩ := ub.there b o e (by simp)
  exact ⟨o', toB b o' e1 (neL b o e hb)⟩
 ·cases g : H ea with
  | none => rfl
  | some u =>
   have z : ∃ o, s.heap.get? ea = some o := by
    have := (I.hok ea u g)
    cases u with
    | lst xs => obtain ⟨_, _, _, _, e⟩ := this; exact ⟨_, e⟩
    | tup xs => obtain ⟨_, _, _, o, e, _⟩ := this; exact ⟨o, e⟩
    | dK kvs => obtain ⟨_, _, _, _, o, _, _, e, _⟩ := this; exact ⟨o, e⟩
    | dT kvs => obtain ⟨_, _, _, _, o, _, _, e, _⟩ := this; exact ⟨o, e⟩
    | set S n => obtain ⟨o, _, _, _, e, _⟩ := this; exact ⟨o, e⟩
    | ins C dx fs => obtain ⟨_, _, _, e, _⟩ := this; exact ⟨_, e⟩
    | own y => exact this
    | xd fs => obtain ⟨_, ⟨o, _, _, e, _⟩, _⟩ := this; exact ⟨o, e⟩
    | rng lo hi => obtain ⟨_, _, _, e⟩ := this; exact ⟨_, e⟩
    | frz ob u => obtain ⟨e, _⟩ := this; exact ⟨_, e⟩
    | tbl ps => exact ⟨_, this⟩
    | met f y => exact ⟨_, this⟩
    | ext φ => obtain ⟨_, e, _⟩ := this; exact e
   obtain ⟨o, e⟩ := z
   rw [hx.new] at e; cases e
end
theorem exc_obj {K : PySem.W.Frag} {h : Heap} {C : Addr} {bmB : List Value} {newId : String} (KX : K.In h) (q : PySem.W.excIn K C bmB newId = true) :
  ∃ bm nsA nm qn bs hd sn sub ab col dd k0 k1 k2 k3 k5 mN, h.get? C = some (excClassObj nm qn C nsA bs bm hd sn sub ab col dd k0 k1 k2 k3 k5 newId) ∧ h.Ns nsA mN ∧ mN "__init__" = none ∧ OwnTail h bmB bm := by
 unfold PySem.W.excIn at q
 split at q
 ·rename_i dd cd sl look
  split at q
  ·rename_i C2 bm k0 k1 k2 k3 n k5 hmro hsl
   simp only [Bool.and_eq_true, beq_iff_eq, Bool.not_eq_true'] at q
   obtain ⟨⟨⟨⟨⟨qC, qn'⟩, qdel⟩, qtail⟩, qok⟩, qinit⟩ := q
   cases qC
   cases qn'
   obtain ⟨nm, bs, mro, nsA, qn, hd, sn, sub, ab, col, del⟩ := cd
   have hmro' : mro = _ :: bm := hmro
   have qdel' : del = false := qdel
   cases hmro'
   cases qdel'
   have esl : sl = #[k0, k1, k2, k3, some (.builtin newId), k5] := by
    cases sl with
    | mk l => exact congrArg Array.mk hsl
   cases esl
   exact ⟨bm, nsA, nm, qn, bs, hd, sn, sub, ab, col, dd, k0, k1, k2, k3, k5, _, KX _ _ look, .of_isNs (PySem.W.isNs_of_in KX qok), PySem.W.nsMap_none_of_in KX qok qinit, PySem.W.tail_of_in KX qtail⟩
  ·exact absurd q Bool.false_ne_true
 ·exact absurd q Bool.false_ne_true
abbrev mroVE : List Value := [.type "ValueError", .type "Exception", .type "BaseException", .type "object"]
section
variable {X : Cx} {E : XK} {C : Addr} {x : Str}
noncomputable def tRaise (E : XK) (cls : Value) (t : TA) : TS := fun _ σ H => t σ H fun vs H1 => vs.length ≤ sizeLine ∧ E cls none H1
theorem ps_raise {e : Expr} {es : List Expr} {t : TA} {np cpos pos : Pos} (hc : X.calm = true) (hR : Raises X E (.ref C)) (hg : Gl X x) (hm : X.mg x = some (.ref C)) (hE : PySem.W.excIn X.K C mroVE "ValueError.__new__" = true)
    (ha : PA X (e :: es) t) (hdb : (x == ("__debug__" : Str)) = false := by decide) (he : starEach (e :: es) X.env = (false, eval e X.env) :: starEach es X.env := by rfl) (hpl : (backTo cpos (starEach es X.env)).any (·.1) = false := by rfl) :
    PS X (.Raise (some (.Call (.Name x np) (e :: es) [] cpos)) none pos) (tRaise E (.ref C) t) := by
  intro pins s σ H D I hq
  obtain ⟨bm, nsA, nm, qn, bs, hd, sn, sub, ab, col, dd, k0, k1, k2, k3, k5, mN, hC, hN, hni, T⟩ := exc_obj (h := X.base) I.ok.mod.kin hE
  refine wpAny_Raise_call_subU (C := C) (nm := nm) (q := qn) (N := nsA) (bs := bs) (bm := bm) (hdct := hd) (sn := sn) (sub := sub) (ab := ab) (col := col) (dd := dd) (k0 := k0) (k1 := k1) (k2 := k2) (k3 := k3) (k5 := k5)
    PySem.F.excBase_ValueError (by decide) PySem.F.excBase_ValueError (mN := mN) (T.hasType (by decide)) (I.ok.hd hc) (by rw [he]; show (false || (backTo cpos (starEach es X.env)).any (·.1)) = false; rw [hpl]; rfl) hni (ld_glob I hg hm ⟨rfl, ?_⟩ hdb)
  have h1 := ha cpos pins s σ H _ I hq
  rw [he] at h1 ⊢
  refine Calls.evalArgs_plain (thn h1 fun us s2 ⟨vs, H2, I2, r, hz, q⟩ => ⟨rfl, ?_, ?_⟩)
  · show us.length ≤ sizeLine
    rw [← r.length]; exact hz
  · exact ⟨I2.bk _ _ hC, hN.keeps I2.bk, T.keeps I2.bk, fun h' ea hx => hR pins σ H2 s2 ea h' us I2 hx q⟩
end
noncomputable def ExcO (ea C : Addr) : HO := .ext fun h => ∃ o vs, h.get? ea = some o ∧ o.cls = .ref C ∧ o.data = .fields vs ∧ vs[2]? = some Value.none
noncomputable def Cx.marked (X : Cx) (ea : Addr) : Cx := { X with A := X.A.mark (some (.ref ea)), calm := false, xe := fun _ _ => False }
section
variable {X : Cx} {pins : List (Addr × Obj)} {σ : St} {H : Hp} {s : Shared} {ea : Addr}
theorem Cx.Ok.marked (ok : X.Ok) (ea : Addr) : (X.marked ea).Ok :=
 ⟨ok.mod, ok.kind, ok.glob, ok.blt, ok.above, ok.inj, ok.has, ok.cab, (fun z => absurd (show false = true from z) (by decide)), ok.frames, ok.stk, ok.exf, ok.bs, ok.bsz, ok.noex, ok.exfs, ok.funs, ok.frf⟩
theorem Inv.marked (I : Inv X pins σ H s) (ea : Addr) : Inv (X.marked ea) pins σ H s := ⟨I.ok.marked ea, I.os, I.bare, I.base, I.loc, I.cell, I.free, I.freeC, I.pin, I.hok, I.len⟩
theorem Inv.unmarked (ok : X.Ok) (I : Inv (X.marked ea) pins σ H s) : Inv X pins σ H s := ⟨ok, I.os, I.bare, I.base, I.loc, I.cell, I.free, I.freeC, I.pin, I.hok, I.len⟩
theorem Inv.gone {i : Nat} {n : Str} {h' : Heap} {v : Option Value} {m : Str → Option Value} {t : Nat} (I : Inv X pins σ H s) (hN : X.N.Nodup) (hi : X.N[i]? = some n) (hk : X.env.scope.names.lookup n = some .local)
  (hl : ∀ (j : Nat) (x : Str) (v : V), X.N[j]? = some x → σ[j]? = some (some v) → Vis X.env.scope x → ∃ u, RelV v u ∧ Look X.env s.heap m x u)
  (hn' : h'.Ns X.env.locals (fun x => if x = n then v else m x)) (hs : Heap.SameBut X.env.locals s.heap h') : Inv X pins (σ.set i none) H { s with heap := h', toks := t } := by
 have ltL : ∀ b o, X.s₀.heap.get? b = some o → b ≠ X.env.locals := fun b o e => Nat.ne_of_lt (Nat.lt_of_lt_of_le (Heap.lt_size e) I.ok.above)
 refine ⟨I.ok, I.os, I.bare, ⟨fun b o e q hb hx => ?_, fun b o e q hb hx => ?_, I.base.free, fun b o e hx => ?_, I.base.tups, I.base.frzs, I.base.tbls⟩, ⟨_, hn', fun j y v' e1 e2 e3 => ?_⟩, fun y c e => ?_, I.free, I.freeC, fun p hp => ?_, fun b u e => ?_, by rw [List.length_set]; exact I.len⟩
 ·exact (hs.2 b (ltL b o e)).trans (I.base.keep b o e q hb hx)
 ·obtain ⟨sl, e1⟩ := I.base.slot b o e q hb hx
  exact ⟨sl, (hs.2 b (ltL b o e)).trans e1⟩
 ·obtain ⟨o', e1⟩ := I.base.there b o e hx
  exact ⟨o', (hs.2 b (ltL b o e)).trans e1⟩
 ·by_cases hj : j = i
  ·subst hj
   rw [List.getElem?_set] at e2
   simp at e2
  ·rw [List.getElem?_set_ne (Ne.symm hj)] at e2
   obtain ⟨u, r, q⟩ := hl j y v' e1 e2 e3
   refine ⟨u, r, ?_⟩
   rcases q with ⟨k, e⟩ | ⟨k, c, e, z⟩
   ·refine .inl ⟨k, ?_⟩
    have ne : y ≠ n := fun z => hj (nodup_ix hN e1 (z ▸ hi))
    simp [ne, e]
   ·exact .inr ⟨k, c, e, z.sameBut hs (I.cne y c e)⟩
 ·obtain ⟨w', z⟩ := I.cell y c e
  exact ⟨w', z.sameBut hs (I.cne y c e)⟩
 ·obtain ⟨e, q, ne, nf, d⟩ := I.pin p hp
  exact ⟨(hs.2 p.1 ne).trans e, q, ne, nf, d⟩
 ·refine (I.hok b u e).stay (fun c w' hc q => (hs.2 c ?_).trans q) (fun _ q => q) fun _ _ q => q
  intro z
  rcases hc with hc | hc
  ·rw [← hc, z, I.free] at e; cases e
  ·rw [z, I.free] at hc; cases hc
noncomputable def endsX (i : Nat) (D : Ends) : Ends := { nx := fun σ H => D.nx (σ.set i none) H, rt := D.rt, bk := fun σ H => D.bk (σ.set i none) H, ct := fun σ H => D.ct (σ.set i none) H }
end
noncomputable def EqL (K : PySem.W.Frag) (H : Hp) (rec : V → V → Bool → Prop) (p q : Addr) (b : Bool) : Prop :=
 ∃ xs ys, (SqL K H p xs ∧ SqL K H q ys ∧ xs.length ≠ ys.length ∧ b = false) ∨
  (((SqL K H p xs ∧ SqL K H q ys) ∨ (SqT K H p xs ∧ SqT K H q ys)) ∧ xs.length = ys.length ∧ ∃ e : Nat → Bool, (∀ i x y, xs[i]? = some x → ys[i]? = some y → rec x y (e i)) ∧ b = (List.range xs.length).all e)
noncomputable def EqD (K : PySem.W.Frag) (H : Hp) : Nat → V → V → Bool → Prop
 | 0, x, y, b => (∃ a, x = .ref a ∧ y = .ref a ∧ b = true) ∨ (flatV x = true ∧ flatV y = true ∧ b = eqV x y)
 | n + 1, x, y, b => EqD K H n x y b ∨ ∃ p q, x = .ref p ∧ y = .ref q ∧ p ≠ q ∧ EqL K H (EqD K H n) p q b
section
variable {X : Cx} {pins : List (Addr × Obj)} {σ : St} {H : Hp} {s : Shared}
theorem eqL_at {A : Around} {rec : V → V → Bool → Prop} {p q : Addr} {b : Bool} (I : Inv X pins σ H s) (hu : A.units < cLine) (hr : ∀ x y b u v, rec x y b → RelV x u → RelV y v → SeqAt.EqAt A.in1 s u v b) (h : EqL X.K H rec p q b) :
  SeqAt.RcAt A s (.ref p) (.ref q) b ∧ SeqAt.RcNeAt A s (.ref p) (.ref q) (!b) := by
 obtain ⟨xs, ys, ⟨h1, h2, hl, rfl⟩ | ⟨hk, hl, e, he, rfl⟩⟩ := h
 ·obtain ⟨its, r, pl, _⟩ := I.list h1
  obtain ⟨its2, r2, pl2, _⟩ := I.list h2
  have e1 := r.length
  have e2 := r2.length
  have hne : (its.toArray.size != its2.toArray.size) = true := by
   rw [bne_iff_ne]; simp only [List.size_toArray]; omega
  exact ⟨SeqAt.RcAt.lists_lengths pl.isList pl2.isList hne hu, SeqAt.RcNeAt.lists_lengths pl.isList pl2.isList hne hu⟩
 ·have items : ∀ (its its2 : List Value), Vals xs its → Vals ys its2 → ∀ j (h1 : j < its.toArray.size) (h2 : j < its2.toArray.size), SeqAt.EqAt A.in1 s its.toArray[j] its2.toArray[j] (e j) := by
   intro its its2 r r2 j h1 h2
   have l1 := r.length
   have l2 := r2.length
   simp only [List.size_toArray] at h1 h2
   have g1 : j < xs.length := by omega
   have g2 : j < ys.length := by omega
   obtain ⟨u, hu1, ru⟩ := r.get (i := j) (x := xs[j]) (by simp [g1])
   obtain ⟨v, hv1, rv⟩ := r2.get (i := j) (x := ys[j]) (by simp [g2])
   have eu : its.toArray[j] = u := by
    have : its[j]? = some its[j] := by simp [h1]
    rw [this] at hu1
    simpa using hu1
   have ev : its2.toArray[j] = v := by
    have : its2[j]? = some its2[j] := by simp [h2]
    rw [this] at hv1
    simpa using hv1
   rw [eu, ev]
   exact hr _ _ _ _ _ (he j _ _ (by simp [g1]) (by simp [g2])) ru rv
  rcases hk with ⟨h1, h2⟩ | ⟨h1, h2⟩
  ·obtain ⟨its, r, pl, _⟩ := I.list h1
   obtain ⟨its2, r2, pl2, _⟩ := I.list h2
   have l1 := r.length
   have l2 := r2.length
   have hsz : its.toArray.size = its2.toArray.size := by simp only [List.size_toArray]; omega
   have a1 := SeqAt.RcAt.lists pl.isList pl2.isList hsz hu (items its its2 r r2)
   have a2 := SeqAt.RcNeAt.lists pl.isList pl2.isList hsz hu (items its its2 r r2)
   have es : its.toArray.size = xs.length := by simp only [List.size_toArray]; omega
   rw [es] at a1 a2
   exact ⟨a1, a2⟩
  ·obtain ⟨its, r, pl, _⟩ := I.tuple h1
   obtain ⟨its2, r2, pl2, _⟩ := I.tuple h2
   have l1 := r.length
   have l2 := r2.length
   have t1 : s.heap.IsTuple p its.toArray := pl
   have t2 : s.heap.IsTuple q its2.toArray := pl2
   have a1 := SeqAt.RcAt.tuples t1 t2 hu (items its its2 r r2)
   have a2 := SeqAt.RcNeAt.tuples t1 t2 hu (items its its2 r r2)
   have es : min its.toArray.size its2.toArray.size = xs.length := by simp only [List.size_toArray]; omega
   have ez : (its.toArray.size == its2.toArray.size) = true := by rw [beq_iff_eq]; simp only [List.size_toArray]; omega
   rw [es, ez, Bool.and_true] at a1 a2
   exact ⟨a1, a2⟩
theorem eqD_at (I : Inv X pins σ H s) : ∀ (n : Nat) (A : Around), A.units + n < cLine → ∀ x y b u v, EqD X.K H n x y b → RelV x u → RelV y v → SeqAt.EqAt A s u v b
 | 0, A, hu, x, y, b, u, v, h, rx, ry => by
  rcases h with ⟨a, rfl, rfl, rfl⟩ | ⟨f1, f2, rfl⟩
  ·cases rx; cases ry; exact SeqAt.EqAt.same _
  ·exact eqAt_V rx ry f1 f2
 | n + 1, A, hu, x, y, b, u, v, h, rx, ry => by
  rcases h with h | ⟨p, q, rfl, rfl, ne, h⟩
  ·exact eqD_at I n A (by omega) x y b u v h rx ry
  ·cases rx; cases ry
   refine SeqAt.EqAt.of_refs ne (eqL_at (A := A) I (by omega) (fun x y b u v h rx ry => eqD_at I n A.in1 ?_ x y b u v h rx ry) h).1
   show A.units + 1 + n < cLine
   omega
noncomputable def rEqD (K : PySem.W.Frag) (neg : Bool) : R2 := fun x y H Q => ∃ n p q b, n ≤ 8 ∧ x = .ref p ∧ y = .ref q ∧ EqL K H (EqD K H n) p q b ∧ Q (.bl (if neg then !b else b)) H
theorem op_eqD (hu : X.A.units + 64 < cLine) : OpR X (compareOp .Eq) (rEqD X.K false) := by
 intro pins s σ H x y v u Q I rx ry h
 obtain ⟨n, p, q, b, hn, rfl, rfl, he, k⟩ := h
 cases rx; cases ry
 refine (eqL_at (A := X.A) I (by omega) (fun x y b u v h rx ry => eqD_at I n X.A.in1 ?_ x y b u v h rx ry) he).1 _ _ _ _ ⟨.bl b, H, I, rfl, k⟩
 show X.A.units + 1 + n < cLine
 omega
theorem op_neD (hu : X.A.units + 64 < cLine) : OpR X (compareOp .NotEq) (rEqD X.K true) := by
 intro pins s σ H x y v u Q I rx ry h
 obtain ⟨n, p, q, b, hn, rfl, rfl, he, k⟩ := h
 cases rx; cases ry
 refine (eqL_at (A := X.A) I (by omega) (fun x y b u v h rx ry => eqD_at I n X.A.in1 ?_ x y b u v h rx ry) he).2 _ _ _ _ ⟨.bl (!b), H, I, rfl, k⟩
 show X.A.units + 1 + n < cLine
 omega
end
section
variable {X : Cx} {tg : Expr}
noncomputable def DictO (_ : Addr) : HO := .dK []
theorem Inv.big {pins : List (Addr × Obj)} {σ : St} {H : Hp} {s : Shared} (I : Inv X pins σ H s) : sysModules < s.heap.objs.size := by
 have h : mainGlobals < s.heap.objs.size := (I.mod.glob.keeps I.bk).lt
 exact Nat.lt_trans (by decide) h
noncomputable def tDict0 : TE := fun _ H Q => ∀ p, H p = none → Q (.ref p) (upd H p (DictO p))
theorem pe_dict0 {pos : Pos} : PE X (.Dict [] [] pos) tDict0 := fun pins s σ H Q I h =>
 wpAny_Dict_empty ⟨.ref s.heap.objs.size, _, I.laid (a := s.heap.objs.size) (o := DictO s.heap.objs.size) (t' := s.toks) (fun _ _ q => Heap.get?_push_of_some _ q) (Nat.le_refl _)
  ⟨Nat.zero_le _, beq_eq_false_iff_ne.mpr (Ne.symm (Nat.ne_of_lt I.big)), [], .nil, Heap.DictOf.new s.heap⟩, rfl, h _ (I.hok.fresh (Nat.le_refl _))⟩
end
noncomputable def PassesR (CX : CXT) (X : Cx) (R : St → XK) : Prop := ∀ (pins : List (Addr × Obj)) (σ : St) (H : Hp) (s : Shared) (e : Value) (s' : Shared), Inv X pins σ H s → CX X.stack H s (R σ) e s' → X.xe e s'
structure DefX (P : Program) (w : World) (K : PySem.W.Frag) (mg : Str → Option Value) (base : Heap) (k : Nat) (x : Str) (ps : List Str) (ds : List V) (sp : Sp) : Prop where
 ex : ∃ (f : Addr) (fd : FuncData) (dvs : List Value), FnOk P w K mg base (CX1 P w) k f fd ps sp ∧ mg x = some (.ref f) ∧ PySem.W.keepIn K (.ref f) = true ∧ Binds K fd ps dvs ∧ Vals ds dvs
noncomputable def tCallR (sp : Sp) (dvs : List V) (R : St → XK) (t : TA) : TE := fun σ H Q => t σ H fun vs H1 => sp (vs ++ dvs) H1 Q (R σ)
section
variable {X : Cx}
theorem pe_callX {k : Nat} {x : Str} {ps : List Str} {ds : List V} {sp : Sp} {e : Expr} {es : List Expr} {t : TA} {p pos : Pos} {R : St → XK} (D : DefX X.prog X.w X.K X.mg X.base k x ps ds sp) (hr : Room k X.A) (hx : PassesR (CX1 X.prog X.w) X R) (hg : Gl X x)
  (ha : PA X (e :: es) t) (hdb : (x == ("__debug__" : Str)) = false := by decide) (he : starEach (e :: es) X.env = (false, eval e X.env) :: starEach es X.env := by rfl) (hpl : (backTo pos (starEach es X.env)).any (·.1) = false := by rfl) :
  PE X (.Call (.Name x p) (e :: es) [] pos) (tCallR sp ds R t) := by
 obtain ⟨f, fd, dvs, F, hm, hk, hb, hd⟩ := D.ex
 intro pins s σ H Q I h
 refine wpAny_Call_Name_kw (ld_glob I hg hm ?_ hdb)
 refine PySem.W.callWith_K (h₀ := X.base) I.ok.mod.kin hk (thn (ha pos pins s σ H _ I h) fun us s1 ⟨vs, H1, I1, r, q⟩ => ⟨I1.kIn, ?_⟩) he hpl
 have r2 : Vals (vs ++ ds) (us ++ dvs) := r.append hd
 have hl : (us ++ dvs).length = ps.length := by rw [← r2.length]; exact F.len _ _ _ _ q
 refine wpAny_call (codeAny_mono (F.run X.A X.stack s1 H1 ⟨us, []⟩ (us ++ dvs) (vs ++ ds) Q (R σ) hr I1.env0 (hb s1 us I1.kIn hl) r2 q) fun res s' hq => ?_)
 cases res with
 | error er => exact hx pins σ H1 s1 er s' I1 hq
 | ok fl =>
  cases fl with
  | ret u => exact I1.after hq
  | next => exact False.elim hq
  | brk => exact False.elim hq
  | cont => exact False.elim hq
theorem passF {P : Program} {w : World} : PassesR (CX1 P w) X fun _ => E0 := fun _ _ _ _ _ _ _ h => by
 obtain ⟨_, _, _, _, _, _, _, _, _, _, _, q⟩ := h
 exact False.elim q
theorem PS.nox {st : Stmt} {t : TS} (h : PS X.nox st t) : PS X st t := fun pins s σ H D I hw =>
 wpAny_mono (h pins s σ H D (I.wish _) hw) (fun _ _ q => q.unwish) fun _ _ z => False.elim z
end
section
variable {P : Program} {w : World} {K : PySem.W.Frag} {mg : Str → Option Value} {base : Heap}
theorem passes1R {N : List Str} {qual : Str} {scope : Scope} {f : Addr} {cd : Value} {A : Around} {outer : List Env} {s₀ : Shared} {H₀ : Hp} {E : XK} :
  PassesR (CX1 P w) (cxOf (CX1 P w) P w K mg base N qual scope f cd A outer s₀ H₀ E) fun _ => E := fun pins σ H s e s' I h => passes1 pins σ H s e s' I h
theorem FunD.okX {x qual : Str} {st : Stmt} {dV : Value} {f : Addr} {fd : FuncData} {N ps : List Str} {k : Nat} {sp : Sp} (F : FunD K x qual st dV f fd) (S : FnScope N ps (defScope st)) (len : ∀ vs H Q E, sp vs H Q E → vs.length = ps.length)
  (hbody : ∀ (cdv : Value) (A : Around) (outer : List Env) (s : Shared) (H : Hp) (vs : List V) (Q : VK) (E : XK), Room k (A.deeper (envOfC qual (defScope st) s.heap.objs.size f cdv)) → sp vs H Q E →
   ∃ t, PSs (cxOf (CX1 P w) P w K mg base N qual (defScope st) f cdv A outer s H E) (defBody st) t ∧ t { nx := fun _ H' => Q .non H', rt := Q } (start N vs) H) : FnOk P w K mg base (CX1 P w) (k + 1) f fd ps sp := by
 obtain ⟨oc, od, kV, doc, pm, an, cdv, ct, osl, rfl, lk, hcd⟩ := F.ex
 exact fn_of lk hcd S len fun A outer s H vs Q E hr hsp => hbody cdv A outer s H vs Q E hr hsp
theorem FunD.defX {x qual : Str} {st : Stmt} {f : Addr} {fd : FuncData} {ps : List Str} {k : Nat} {sp : Sp} (F : FunD K x qual st .none f fd) (G : FnOk P w K mg base (CX1 P w) k f fd ps sp) (hm : mg x = some (.ref f))
  (h : ∀ (kV doc pm : Value) (an : Option Addr) (cdv ct : Value) (us : List Value), us.length = ps.length → bindArgs (PySem.W.fnOf x qual (defArgs st) (defBody st) (defScope st) .none kV doc pm an cdv ct) ⟨us, []⟩ = pure (ps.zip us)) : DefX P w K mg base k x ps [] sp := by
 obtain ⟨oc, od, kV, doc, pm, an, cdv, ct, osl, rfl, lk, hcd⟩ := F.ex
 exact ⟨f, _, [], G, hm, F.kp, .all (h kV doc pm an cdv ct), .nil⟩
end
section
variable {X : Cx} {pins pn : List (Addr × Obj)} {σ : St} {H : Hp} {s : Shared} {XE : Value → Shared → Prop}
noncomputable abbrev Cx.at (X : Cx) (pn : List (Addr × Obj)) (XE : Value → Shared → Prop) : Cx := { X with pn := pn, xe := XE }
theorem Cx.Ok.at (ok : X.Ok) : (X.at pn XE).Ok :=
 ⟨ok.mod, ok.kind, ok.glob, ok.blt, ok.above, ok.inj, ok.has, ok.cab, ok.hd, ok.frames, ok.stk, ok.exf, ok.bs, ok.bsz, ok.noex, ok.exfs, ok.funs, ok.frf⟩
theorem Cx.Ok.unat (ok : (X.at pn XE).Ok) : X.Ok :=
 ⟨ok.mod, ok.kind, ok.glob, ok.blt, ok.above, ok.inj, ok.has, ok.cab, ok.hd, ok.frames, ok.stk, ok.exf, ok.bs, ok.bsz, ok.noex, ok.exfs, ok.funs, ok.frf⟩
theorem Inv.at (I : Inv X pins σ H s) : Inv (X.at (X.pn ++ pins) XE) [] σ H s := ⟨I.ok.at, I.os, I.bare, I.base, I.loc, I.cell, I.free, I.freeC, fun p hp => I.pin p (by simpa using hp), I.hok, I.len⟩
theorem Inv.unat {pins' : List (Addr × Obj)} (I : Inv (X.at (X.pn ++ pins) XE) pins' σ H s) : Inv X pins σ H s := ⟨I.ok.unat, I.os, I.bare, I.base, I.loc, I.cell, I.free, I.freeC, fun p hp => I.pin p (List.mem_append_left _ hp), I.hok, I.len⟩
end
structure XCls (K : PySem.W.Frag) (D : Addr) : Prop where
 ga : PySem.W.findIn K (.ref D) "__getattribute__" = some (some (.builtin "BaseException.__getattribute__"))
 gx : PySem.W.findIn K (.ref D) "__getattr__" = some none
 cl : PySem.W.findIn K (.ref D) "__class__" = some (some (.builtin "object.__class__"))
 mB : PySem.W.mroIn K D (.type "BaseException") = some true
 mo : PySem.W.mroIn K D (.type "object") = some true
 isc : (PySem.W.clsIn K D).isSome = true
noncomputable def ExcAt (x D : Addr) (h : Heap) : Prop := ∃ o vs, h.get? x = some o ∧ o.cls = .ref D ∧ o.data = .fields vs
section
variable {prog : Program} {w : World} {A : Around} {E : Value → Shared → Prop} {s : Shared} {K : PySem.W.Frag} {x D : Addr}
theorem ExcAt.ty {M : Model} {h : Heap} (e : ExcAt x D h) : PySem.W.Looks M h (typeOf (.ref x)) (.ref D) := by
 obtain ⟨o, vs, h1, h2, _⟩ := e
 exact h2 ▸ (PySem.W.Looks.ld h1).andThen .now
theorem exc_class_get {R : Result → Shared → Prop} (KX : K.In s.heap) (e : ExcAt x D s.heap) (c : XCls K D) (h : R (.ok (.ret (.ref D))) s) :
    codeAny (model prog w) A (.call (.builtin "getset_descriptor.__get__") ⟨[.builtin "object.__class__", .ref x, .ref D], []⟩) R s := by
  obtain ⟨hh, g, dr, t, os⟩ := s
  have L0 : PySem.W.Looks (model prog w) hh (typeOf (.ref x)) (.ref D) := e.ty
  have L1 : PySem.W.Looks (model prog w) hh (isSubtype (.ref D) (.type (".".intercalate ("object.__class__".cutAt '.').dropLast))) true := by rw [F.owner_object_class]; exact PySem.W.looks_mroIn KX c.mo
  have LI : PySem.W.Looks (model prog w) hh (isInstance (.ref x) (.type (".".intercalate ("object.__class__".cutAt '.').dropLast))) true := L0.andThen L1
  have hT5 : (⟨hh, g, dr, t, os⟩ : Shared).TypeIs (.builtin "object.__class__") "getset_descriptor" := F.typeOf_object_class
  refine codeAny_call_builtin F.slot_gs_get.plain F.entry_gs_get (F.slot_gs_get.check _ _ _ _ _ _ _ _ hT5 (F.args_gs_get _ _ _) ?_)
  repeat (any_goals (first | assumption | (with_reducible refine LI.at ?_) | (with_reducible refine L0.at ?_) | (with_reducible refine L1.at ?_) | wp_step))
  refine ⟨Code.quiet_builtin _ (by decide +kernel), codeAny_builtin F.entry_object_class ?_⟩
  repeat (any_goals (first | assumption | (with_reducible refine L0.at ?_) | wp_step))
theorem exc_entry {tk : Tok} {Q : Fin → Shared → Prop} (KX : K.In s.heap) (e : ExcAt x D s.heap) (c : XCls K D) (h : Q (.done (.ret (.ref D))) s) :
    wpAny (model prog w) A (Builtin.«object.__getattribute__» ⟨[.ref x, .str "__class__" tk], []⟩) Q E s := by
  obtain ⟨hh, g, dr, t, os⟩ := s
  have L0 : PySem.W.Looks (model prog w) hh (typeOf (.ref x)) (.ref D) := e.ty
  have L4 := PySem.W.looks_findIn (M := model prog w) KX c.cl
  have hT5 : (⟨hh, g, dr, t, os⟩ : Shared).TypeIs (.builtin "object.__class__") "getset_descriptor" := F.typeOf_object_class
  have f5 := F.typeOf_object_class
  have f6 := F.slot_gs_get.lookup
  have f7 := F.slot_gs_set.lookup
  repeat (any_goals (first | assumption | (with_reducible refine L0.at ?_) | (with_reducible refine L4.at ?_) | wp_step))
  refine exc_class_get KX e c ?_
  exact wpAny_pure h
theorem bega_split : splitId "BaseException.__getattribute__" = some ("BaseException", "__getattribute__") := by decide +kernel
theorem bega_kind : builtinKind "BaseException.__getattribute__" = some .slot := by decide +kernel
theorem exc_check {M : Model} {v : Value} {Q : Unit → Shared → Prop} (KX : K.In s.heap) (e : ExcAt x D s.heap) (c : XCls K D) (h : Q () s) :
  wpAny M A (checkBuiltinCall "BaseException.__getattribute__" ⟨[.ref x, v], []⟩) Q E s := by
 have L0 : PySem.W.Looks M s.heap (typeOf (.ref x)) (.ref D) := e.ty
 have LI : PySem.W.Looks M s.heap (isInstance (.ref x) (.type "BaseException")) true := L0.andThen (PySem.W.looks_mroIn KX c.mB)
 have hA := F.args_bexc_ga (.ref x) v
 simp only [checkBuiltinCall, bega_split, bega_kind]
 refine wpAny_bind (LI.at ?_)
 unfold argsOk at hA
 cases hsig : Manifest.signature? "BaseException.__getattribute__" with
 | none =>
  rw [hsig] at hA
  simp only [Bool.not_true, Bool.false_eq_true, if_false]
  exact wpAny_pure h
 | some sig =>
  rw [hsig] at hA
  simp only [Bool.not_true, Bool.false_eq_true, if_false]
  exact wpAny_of_eq hA h
theorem exc_class {Q : Option Value → Shared → Prop} (KX : K.In s.heap) (e : ExcAt x D s.heap) (c : XCls K D) (h : Q (some (.ref D)) { s with toks := s.toks + 1 }) :
    wpAny (model prog w) A (getAttr? (.ref x) "__class__") Q E s := by
  obtain ⟨hh, g, dr, t, os⟩ := s
  have L0 : PySem.W.Looks (model prog w) hh (typeOf (.ref x)) (.ref D) := e.ty
  have L1 := PySem.W.looks_findIn (M := model prog w) KX c.ga
  have L2 := PySem.W.looks_findIn (M := model prog w) KX c.gx
  have hbind := F.excAttr_ValueError.ga.bind (.ref x)
  unfold getAttr? getAttrBy?
  repeat (any_goals (first | assumption | (with_reducible refine L0.at ?_) | (with_reducible refine L1.at ?_) | (with_reducible refine L2.at ?_) | wp_step))
  refine codeAny_call_builtin F.excAttr_ValueError.ga.plain F.entry_bexc_ga (exc_check (s := ⟨hh, g, dr, t + 1, os⟩) KX e c (exc_entry (s := ⟨hh, g, dr, t + 1, os⟩) KX e c ?_))
  repeat (any_goals (first | assumption | wp_step))
theorem kitx_exc (c : XCls K D) : PySem.W.KitX K (.ref x) (.ref D) (ExcAt x D) where
 ty := fun _ _ _ e => e.ty
 it := fun M h KX _ => by
  have hc := c.isc
  unfold PySem.W.clsIn at hc
  split at hc
  ·rename_i c' d' cd' sl' ho
   intro A' Q' E' s' k q
   unfold isType loadHead
   exact wpAny_bind (wpAny_loadPart (k _ _ (KX _ _ ho)) (wpAny_pure q))
  ·cases hc
 ne := fun h tp dd its n sl KX htp => by
  have hc := c.isc
  refine Bool.eq_false_iff.mpr fun q => ?_
  have e : D = tp := Value.ref.inj (beq_iff_eq.mp q)
  subst e
  unfold PySem.W.clsIn at hc
  split at hc
  ·rename_i c' d' cd' sl' ho
   have z := (KX _ _ ho).symm.trans htp
   cases z
  ·cases hc
 ca := fun KX e k => exc_class KX e c k
end
inductive TyX (K : PySem.W.Frag) (H : Hp) : V → Value → Prop where
 | of {x : V} {t : Value} (h : TyOf K H x t) : TyX K H x t
 | exc {a C : Addr} (e : H a = some (ExcO a C)) (c : XCls K C) : TyX K H (.ref a) (.ref C)
 | dict {a : Addr} (e : H a = some (DictO a)) : TyX K H (.ref a) (.type "dict")
noncomputable def IsX (K : PySem.W.Frag) (H : Hp) (x : V) (c : Value) (b : Bool) : Prop := ∃ t, TyX K H x t ∧ PySem.W.kitOne K t c = some b
noncomputable def rIsX (K : PySem.W.Frag) : List V → Hp → VK → Prop := fun xs H Q => match xs with
 | [x, .ty n] => ∃ b, IsX K H x (.type n) b ∧ Q (.bl b) H
 | [x, .ref C] => ∃ b, IsX K H x (.ref C) b ∧ Q (.bl b) H
 | _ => False
section
variable {X : Cx}
theorem isX_ok {A : Around} {E : Value → Shared → Prop} {Q : Value → Shared → Prop} {pins : List (Addr × Obj)} {σ : St} {H : Hp} {s : Shared} {x : V} {u c : Value} {b : Bool} (I : Inv X pins σ H s) (rx : RelV x u) (h : IsX X.K H x c b) (k : ∀ tk, Q (.bool b) { s with toks := tk }) :
  wpAny (model X.prog X.w) A (call (.builtin "isinstance") [u, c]) Q E s := by
 obtain ⟨t, ty, e⟩ := h
 cases ty with
 | of ty => exact isinst_ok I rx ty e k
 | @exc a C ea cc =>
  cases (show u = Value.ref a from rx)
  obtain ⟨⟨ox, vx, p1, p2, p3, _⟩, _, _⟩ := (show ObjOk X.prog X.w H s.heap a (ExcO a C) from I.hok a _ ea)
  have p : ∃ o vs, s.heap.get? a = some o ∧ o.cls = Value.ref C ∧ o.data = Data.fields vs := ⟨ox, vx, p1, p2, p3⟩
  exact PySem.W.kia_one (kitx_exc cc) I.kIn p e (fun z => nomatch z) k
 | @dict a ea =>
  cases (show u = Value.ref a from rx)
  obtain ⟨_, _, vs, _, p⟩ := (show ObjOk X.prog X.w H s.heap a (.dK []) from I.hok a _ ea)
  obtain ⟨o, es, ep, h1, h2, _⟩ := p
  exact PySem.W.kia_one PySem.W.kitx_dict I.kIn ⟨o, h1, h2.1⟩ e (fun z => nomatch z) k
theorem call_isX : CallR X (.builtin "isinstance") (rIsX X.K) := by
 intro pins s σ H xs us Q I rs h
 unfold rIsX at h
 split at h
 ·obtain ⟨u, w', rfl, r1, r2⟩ := vals2 rs
  cases r2
  obtain ⟨b, hb, q⟩ := h
  exact isX_ok I r1 hb fun tk => ⟨.bl b, H, I.tok tk, rfl, q⟩
 ·obtain ⟨u, w', rfl, r1, r2⟩ := vals2 rs
  cases r2
  obtain ⟨b, hb, q⟩ := h
  exact isX_ok I r1 hb fun tk => ⟨.bl b, H, I.tok tk, rfl, q⟩
 ·exact h.elim
theorem pe_isiX {e : Expr} {te : TE} {T : Str} {n : String} {p p2 pos : Pos} (he : PE X e te) (h1 : Gl X "isinstance") (h2 : X.mg "isinstance" = none) (h3 : Gl X T) (h4 : X.mg T = none) (h5 : bootBuiltins T = some (.type n)) (h6 : T ≠ "__name__" := by decide) (h7 : (T == ("__debug__" : Str)) = false := by decide)
  (s1 : starEach [e, .Name T p2] X.env = (false, eval e X.env) :: starEach [.Name T p2] X.env := by rfl) (s2 : starEach [.Name T p2] X.env = (false, eval (.Name T p2) X.env) :: starEach [] X.env := by rfl) (hpl : (backTo pos (starEach [.Name T p2] X.env)).any (·.1) = false := by rfl) :
  PE X (.Call (.Name "isinstance" p) [e, .Name T p2] [] pos) (tCB (rIsX X.K) (tCons te (tCons (tC (.ty n)) tNil))) :=
 pe_callB call_isX h1 h2 PyProof.Rows.boot_isinstance (pa_cons he (pa_cons (pe_bltn h3 h4 h5 rfl h6 h7) pa_nil s2) s1) (by decide) (by decide) s1 hpl
theorem pe_isiC {e : Expr} {te : TE} {T : Str} {C : Addr} {p p2 pos : Pos} (he : PE X e te) (h1 : Gl X "isinstance") (h2 : X.mg "isinstance" = none) (h3 : Gl X T) (h4 : X.mg T = some (.ref C)) (h7 : (T == ("__debug__" : Str)) = false := by decide)
  (s1 : starEach [e, .Name T p2] X.env = (false, eval e X.env) :: starEach [.Name T p2] X.env := by rfl) (s2 : starEach [.Name T p2] X.env = (false, eval (.Name T p2) X.env) :: starEach [] X.env := by rfl) (hpl : (backTo pos (starEach [.Name T p2] X.env)).any (·.1) = false := by rfl) :
  PE X (.Call (.Name "isinstance" p) [e, .Name T p2] [] pos) (tCB (rIsX X.K) (tCons te (tCons (tC (.ref C)) tNil))) :=
 pe_callB call_isX h1 h2 PyProof.Rows.boot_isinstance (pa_cons he (pa_cons (pe_glob h3 h4 rfl h7) pa_nil s2) s1) (by decide) (by decide) s1 hpl
end
theorem same_upd {H H' : Hp} {D : Addr} {o : HO} (s : Same H H') (h : H D = none) : Same H (upd H' D o) := fun b u e => by rw [upd_ne (ne_of_none e h)]; exact s b u e
theorem same_new {H : Hp} {D : Addr} {o : HO} (h : H D = none) : Same H (upd H D o) := same_upd (Same.refl H) h
inductive Kd (K : PySem.W.Frag) (H : Hp) : V → Prop where
 | non : Kd K H .non
 | bl (b : Bool) : Kd K H (.bl b)
 | int (i : Int) : Kd K H (.int i)
 | str (x : Str) : Kd K H (.str x)
 | lst {a : Addr} {xs : List V} (e : H a = some (.lst xs)) : Kd K H (.ref a)
 | tup {a : Addr} {xs : List V} (e : H a = some (.tup xs)) : Kd K H (.ref a)
 | dict {a : Addr} (e : H a = some (DictO a)) : Kd K H (.ref a)
theorem Kd.mono {K : PySem.W.Frag} {H H' : Hp} {x : V} (k : Kd K H x) (s : Same H H') : Kd K H' x := by
 cases k with
 | non => exact .non
 | bl b => exact .bl b
 | int i => exact .int i
 | str y => exact .str y
 | lst e => exact .lst (s _ _ e)
 | tup e => exact .tup (s _ _ e)
 | dict e => exact .dict (s _ _ e)
noncomputable def isI : V → Bool
 | .int _ => true
 | .bl _ => true
 | _ => false
noncomputable def isB : V → Bool
 | .bl _ => true
 | _ => false
noncomputable def isL (H : Hp) : V → Bool
 | .ref a => match H a with
  | some (.lst _) => true
  | _ => false
 | _ => false
section
variable {K : PySem.W.Frag}
theorem k_ii : PySem.W.kitOne K (.type "int") (.type "int") = some true := by kernel_rfl
theorem k_ib : PySem.W.kitOne K (.type "int") (.type "bool") = some false := by kernel_rfl
theorem k_il : PySem.W.kitOne K (.type "int") (.type "list") = some false := by kernel_rfl
theorem k_bi : PySem.W.kitOne K (.type "bool") (.type "int") = some true := by kernel_rfl
theorem k_bb : PySem.W.kitOne K (.type "bool") (.type "bool") = some true := by kernel_rfl
theorem k_bL : PySem.W.kitOne K (.type "bool") (.type "list") = some false := by kernel_rfl
theorem k_ni : PySem.W.kitOne K (.type "NoneType") (.type "int") = some false := by kernel_rfl
theorem k_nb : PySem.W.kitOne K (.type "NoneType") (.type "bool") = some false := by kernel_rfl
theorem k_nl : PySem.W.kitOne K (.type "NoneType") (.type "list") = some false := by kernel_rfl
theorem k_si : PySem.W.kitOne K (.type "str") (.type "int") = some false := by kernel_rfl
theorem k_sb : PySem.W.kitOne K (.type "str") (.type "bool") = some false := by kernel_rfl
theorem k_sl : PySem.W.kitOne K (.type "str") (.type "list") = some false := by kernel_rfl
theorem k_li : PySem.W.kitOne K (.type "list") (.type "int") = some false := by kernel_rfl
theorem k_lb : PySem.W.kitOne K (.type "list") (.type "bool") = some false := by kernel_rfl
theorem k_ll : PySem.W.kitOne K (.type "list") (.type "list") = some true := by kernel_rfl
theorem k_ti : PySem.W.kitOne K (.type "tuple") (.type "int") = some false := by kernel_rfl
theorem k_tb : PySem.W.kitOne K (.type "tuple") (.type "bool") = some false := by kernel_rfl
theorem k_tl : PySem.W.kitOne K (.type "tuple") (.type "list") = some false := by kernel_rfl
theorem k_di : PySem.W.kitOne K (.type "dict") (.type "int") = some false := by kernel_rfl
theorem k_db : PySem.W.kitOne K (.type "dict") (.type "bool") = some false := by kernel_rfl
theorem k_dl : PySem.W.kitOne K (.type "dict") (.type "list") = some false := by kernel_rfl
variable {H : Hp} {x : V}
theorem Kd.isInt (k : Kd K H x) : IsX K H x (.type "int") (isI x) := by
 cases k with
 | non => exact ⟨_, .of .non, k_ni⟩
 | bl b => exact ⟨_, .of (.bl b), k_bi⟩
 | int i => exact ⟨_, .of (.int i), k_ii⟩
 | str y => exact ⟨_, .of (.str y), k_si⟩
 | lst e => exact ⟨_, .of (.lst e), k_li⟩
 | tup e => exact ⟨_, .of (.tup e), k_ti⟩
 | dict e => exact ⟨_, .dict e, k_di⟩
theorem Kd.isBool (k : Kd K H x) : IsX K H x (.type "bool") (isB x) := by
 cases k with
 | non => exact ⟨_, .of .non, k_nb⟩
 | bl b => exact ⟨_, .of (.bl b), k_bb⟩
 | int i => exact ⟨_, .of (.int i), k_ib⟩
 | str y => exact ⟨_, .of (.str y), k_sb⟩
 | lst e => exact ⟨_, .of (.lst e), k_lb⟩
 | tup e => exact ⟨_, .of (.tup e), k_tb⟩
 | dict e => exact ⟨_, .dict e, k_db⟩
theorem Kd.isList (k : Kd K H x) : IsX K H x (.type "list") (isL H x) := by
 cases k with
 | non => exact ⟨_, .of .non, k_nl⟩
 | bl b => exact ⟨_, .of (.bl b), k_bL⟩
 | int i => exact ⟨_, .of (.int i), k_il⟩
 | str y => exact ⟨_, .of (.str y), k_sl⟩
 | lst e => refine ⟨_, .of (.lst e), ?_⟩; simp only [isL, e]; exact k_ll
 | tup e => refine ⟨_, .of (.tup e), ?_⟩; simp only [isL, e]; exact k_tl
 | dict e => refine ⟨_, .dict e, ?_⟩; simp only [isL, e, DictO]; exact k_dl
theorem isList_lst {a : Addr} {xs : List V} (e : H a = some (.lst xs)) : IsX K H (.ref a) (.type "list") true := ⟨_, .of (.lst e), k_ll⟩
end
noncomputable def Src (J : It) (L : List V) (H : Hp) : Prop := ∀ H', Same H H' → (∀ i x, L[i]? = some x → J.go i H' ∧ ∀ y H2, J.yld i H' y H2 → y = x ∧ H2 = H') ∧ J.stop L.length H'
theorem src_list {K : PySem.W.Frag} {a : Addr} {xs : List V} {H : Hp} (h : SqL K H a xs) : Src (Itl K a) xs H := fun H' sm =>
 ⟨fun i x e => ⟨⟨xs, x, sm.seq h, e⟩, fun y H2 ⟨q1, q2⟩ => ⟨by have := q2 xs (sm.seq h); rw [e] at this; exact (Option.some.inj this).symm, q1⟩⟩, ⟨xs, sm.seq h, Nat.le_refl _⟩⟩
theorem src_range {lo : Int} {n : Nat} {H : Hp} : Src (Itr lo n) ((List.range n).map fun (i : Nat) => V.int (lo + i)) H := fun H' sm => by
 refine ⟨fun i x e => ?_, ?_⟩
 ·have hi : i < n := by
   have := (List.getElem?_eq_some_iff.mp e).1
   simpa using this
  refine ⟨hi, fun y H2 ⟨q1, q2⟩ => ⟨?_, q1⟩⟩
  rw [List.getElem?_map, List.getElem?_range hi] at e
  rw [q2]
  exact Option.some.inj e
 ·show n ≤ _
  simp
theorem comp_fm {J : It} {L : List V} {k : Nat} {tt : TT} {te : TE} {D : Addr} {σ0 : St} {H : Hp} {Fn : Hp → Prop} (f : V → V) (p : V → Bool) (S : Src J L H) (hn : L.length ≤ sizeLine) (hD : H D = none)
  (ht : ∀ x ∈ L, ∀ (H' : Hp) (Qb : Bool → Hp → Prop), Same H H' → (∀ H'', Same H' H'' → Qb (p x) H'') → tt (σ0.set k (some x)) H' Qb)
  (he : ∀ x ∈ L, p x = true → ∀ (H' : Hp) (Q : VK), Same H H' → (∀ H'', Same H' H'' → Q (f x) H'') → te (σ0.set k (some x)) H' Q)
  (hd : ∀ H', Same H H' → H' D = some (.lst ((L.filter p).map f)) → Fn H') :
  ∃ W : Nat → Nat → St → Hp → Prop, (∃ m, W 0 m σ0 (upd H D (.lst []))) ∧ ∀ i m σ' H', W i m σ' H' →
   (J.stop i H' ∧ Fn H') ∨ (J.go i H' ∧ ∃ N : St → Hp → Prop, (∀ σ2 H2, N σ2 H2 → ∃ m', m' < m ∧ W (i + 1) m' σ2 H2) ∧ ∀ x H2, J.yld i H' x H2 → gName k x σ' H2 fun σ3 H3 => tt σ3 H3 fun b H4 =>
    if b = true then te σ3 H4 fun v H5 => ∃ xs, H5 D = some (.lst xs) ∧ xs.length < sizeLine ∧ N σ3 (upd H5 D (.lst (xs ++ [v]))) else N σ3 H4) := by
 refine ⟨fun i m σ' H' => m = L.length - i ∧ i ≤ L.length ∧ (∀ y, σ'.set k y = σ0.set k y) ∧ Same H H' ∧ H' D = some (.lst (((L.take i).filter p).map f)), ⟨L.length, rfl, Nat.zero_le _, fun _ => rfl, same_new hD, by rw [upd_same]; rfl⟩, ?_⟩
 rintro i m σ' H' ⟨rfl, hi, hσ, sm, hH⟩
 by_cases hlt : i < L.length
 ·have hx : L[i]? = some L[i] := by simp [hlt]
  obtain ⟨go, yl⟩ := (S H' sm).1 i _ hx
  refine .inr ⟨go, fun σ2 H2 => (∀ y, σ2.set k y = σ0.set k y) ∧ Same H H2 ∧ H2 D = some (.lst (((L.take (i + 1)).filter p).map f)), ?_, ?_⟩
  ·rintro σ2 H2 ⟨q1, q2, q3⟩
   exact ⟨L.length - (i + 1), by omega, rfl, hlt, q1, q2, q3⟩
  ·intro x H2 y
   obtain ⟨rfl, rfl⟩ := yl x H2 y
   show tt (σ'.set k (some L[i])) H2 _
   rw [hσ]
   have hm : L[i] ∈ L := List.getElem_mem hlt
   have tk : L.take (i + 1) = L.take i ++ [L[i]] := by rw [List.take_add_one, hx]; rfl
   refine ht _ hm H2 _ sm fun H4 s4 => ?_
   cases hp : p L[i] with
   | true =>
    refine iteT (he _ hm hp H4 _ (sm.trans s4) fun H5 s5 => ⟨_, s5 D _ (s4 D _ hH), ?_, fun y => by rw [List.set_set], same_upd (sm.trans (s4.trans s5)) hD, ?_⟩)
    ·have h1 : (((L.take i).filter p).map f).length ≤ (L.take i).length := by rw [List.length_map]; exact List.length_filter_le _ _
     rw [List.length_take] at h1
     omega
    ·rw [upd_same, tk, List.filter_append, List.map_append]
     simp [hp]
   | false =>
    refine iteF ⟨fun y => by rw [List.set_set], sm.trans s4, ?_⟩
    rw [tk, List.filter_append, List.filter_cons_of_neg (by simp [hp])]
    simpa using s4 D _ hH
 ·have e : i = L.length := by omega
  subst e
  exact .inl ⟨(S H' sm).2, hd H' sm (by rw [hH, List.take_length])⟩
structure PicV (H : Hp) (a : Addr) (ps : List Addr) (R : List (List V)) : Prop where
 top : H a = some (.lst (ps.map V.ref))
 row : Paired (fun p r => H p = some (.lst r)) ps R
 nd : ps.Nodup
 out : a ∉ ps
noncomputable def Fresh (H : Hp) (ps : List Addr) : Prop := ∀ q ∈ ps, H q = none
theorem Paired.mapI {α β : Type} {F G : α → β → Prop} : ∀ {l₁ : List α} {l₂ : List β}, Paired F l₁ l₂ → (∀ a b, a ∈ l₁ → F a b → G a b) → Paired G l₁ l₂
 | _, _, .nil, _ => .nil
 | _, _, .cons r t, f => .cons (f _ _ List.mem_cons_self r) (Paired.mapI t fun a b h => f a b (List.mem_cons_of_mem _ h))
theorem Paired.app {α β : Type} {F : α → β → Prop} : ∀ {l₁ m₁ : List α} {l₂ m₂ : List β}, Paired F l₁ l₂ → Paired F m₁ m₂ → Paired F (l₁ ++ m₁) (l₂ ++ m₂)
 | _, _, _, _, .nil, q => q
 | _, _, _, _, .cons r t, q => .cons r (Paired.app t q)
theorem Paired.getL {α β : Type} {F : α → β → Prop} : ∀ {l₁ : List α} {l₂ : List β} {i : Nat} {a : α}, Paired F l₁ l₂ → l₁[i]? = some a → ∃ b, l₂[i]? = some b ∧ F a b
 | _, _, _, _, .nil, e => by simp at e
 | _, _, 0, _, .cons r t, e => by simp at e; subst e; exact ⟨_, rfl, r⟩
 | _, _, i + 1, a, .cons r t, e => by
  obtain ⟨b, h1, h2⟩ := Paired.getL (i := i) (a := a) t (by simpa using e)
  exact ⟨b, by simpa using h1, h2⟩
section
variable {H H' : Hp} {a : Addr} {ps : List Addr} {R : List (List V)}
theorem PicV.mono (p : PicV H a ps R) (s : Same H H') : PicV H' a ps R := ⟨s _ _ p.top, Paired.mapI p.row fun _ _ _ e => s _ _ e, p.nd, p.out⟩
theorem PicV.len (p : PicV H a ps R) : ps.length = R.length := Paired.length p.row
theorem PicV.at {i : Nat} {q : Addr} (p : PicV H a ps R) (h : ps[i]? = some q) : ∃ r, R[i]? = some r ∧ H q = some (.lst r) := Paired.getL p.row h
theorem PicV.mem (p : PicV H a ps R) {q : Addr} (hq : q ∈ ps) : ∃ r, r ∈ R ∧ H q = some (.lst r) := by
 obtain ⟨i, hi⟩ := List.mem_iff_getElem?.mp hq
 obtain ⟨r, hr, e⟩ := p.at hi
 exact ⟨r, List.mem_of_getElem? hr, e⟩
end
theorem comp_rows {J : It} {L : List V} {k : Nat} {te : TE} {D : Addr} {σ0 : St} {H : Hp} {Fn : Hp → Prop} (g : V → List V) (S : Src J L H) (hn : L.length ≤ sizeLine) (hD : H D = none)
  (he : ∀ x ∈ L, ∀ (H' : Hp) (Q : VK), Same H H' → (∀ q H'', Same H' H'' → H' q = none → H'' q = some (.lst (g x)) → Q (.ref q) H'') → te (σ0.set k (some x)) H' Q)
  (hd : ∀ ps H', Same H H' → Fresh H ps → PicV H' D ps (L.map g) → Fn H') :
  ∃ W : Nat → Nat → St → Hp → Prop, (∃ m, W 0 m σ0 (upd H D (.lst []))) ∧ ∀ i m σ' H', W i m σ' H' →
   (J.stop i H' ∧ Fn H') ∨ (J.go i H' ∧ ∃ N : St → Hp → Prop, (∀ σ2 H2, N σ2 H2 → ∃ m', m' < m ∧ W (i + 1) m' σ2 H2) ∧ ∀ x H2, J.yld i H' x H2 → gName k x σ' H2 fun σ3 H3 => tTrue σ3 H3 fun b H4 =>
    if b = true then te σ3 H4 fun v H5 => ∃ xs, H5 D = some (.lst xs) ∧ xs.length < sizeLine ∧ N σ3 (upd H5 D (.lst (xs ++ [v]))) else N σ3 H4) := by
 refine ⟨fun i m σ' H' => m = L.length - i ∧ i ≤ L.length ∧ (∀ y, σ'.set k y = σ0.set k y) ∧ Same H H' ∧ ∃ ps, Fresh H ps ∧ PicV H' D ps ((L.take i).map g), ⟨L.length, rfl, Nat.zero_le _, fun _ => rfl, same_new hD, [], (fun q h => nomatch h), ⟨by rw [upd_same]; rfl, .nil, List.nodup_nil, by simp⟩⟩, ?_⟩
 rintro i m σ' H' ⟨rfl, hi, hσ, sm, ps, fr, pic⟩
 by_cases hlt : i < L.length
 ·have hx : L[i]? = some L[i] := by simp [hlt]
  obtain ⟨go, yl⟩ := (S H' sm).1 i _ hx
  refine .inr ⟨go, fun σ2 H2 => (∀ y, σ2.set k y = σ0.set k y) ∧ Same H H2 ∧ ∃ ps, Fresh H ps ∧ PicV H2 D ps ((L.take (i + 1)).map g), ?_, ?_⟩
  ·rintro σ2 H2 ⟨q1, q2, q3⟩
   exact ⟨L.length - (i + 1), by omega, rfl, hlt, q1, q2, q3⟩
  ·intro x H2 y
   obtain ⟨rfl, rfl⟩ := yl x H2 y
   simp only [gName, tTrue, if_true]
   rw [hσ]
   have hm : L[i] ∈ L := List.getElem_mem hlt
   have tk : L.take (i + 1) = L.take i ++ [L[i]] := by rw [List.take_add_one, hx]; rfl
   have hl : ps.length = i := by have := pic.len; rw [List.length_map, List.length_take] at this; omega
   refine he _ hm H2 _ sm fun q H5 s5 hq hq5 => ⟨_, s5 D _ pic.top, by rw [List.length_map, hl]; omega, fun y => by rw [List.set_set], same_upd (sm.trans s5) hD, ps ++ [q], ?_, ?_⟩
   ·intro c hc
    rcases List.mem_append.mp hc with hc | hc
    ·exact fr c hc
    ·have e : c = q := by simpa using hc
     subst e
     exact sm.free hq
   ·have nq : q ∉ ps := fun z => by
     obtain ⟨r, _, e⟩ := pic.mem z
     rw [hq] at e; cases e
    have nD : D ≠ q := ne_of_none pic.top hq
    refine ⟨by rw [upd_same, List.map_append]; rfl, ?_, ?_, ?_⟩
    ·rw [tk, List.map_append]
     refine Paired.app (Paired.mapI pic.row fun c r hc e => ?_) (.cons ?_ .nil)
     ·have ne : c ≠ D := fun z => pic.out (by rw [← z]; exact hc)
      rw [upd_ne ne]
      exact s5 _ _ e
     ·rw [upd_ne (Ne.symm nD)]
      exact hq5
    ·rw [List.nodup_append]
     exact ⟨pic.nd, by simp, fun c hc d hd z => by
      have e : d = q := by simpa using hd
      subst e; subst z
      exact nq hc⟩
    ·intro z
     rcases List.mem_append.mp z with z | z
     ·exact pic.out z
     ·exact nD (by simpa using z)
 ·have e : i = L.length := by omega
  subst e
  exact .inl ⟨(S H' sm).2, hd ps H' sm fr (by rw [List.take_length] at pic; exact pic)⟩
section
variable {X : Cx} (K : PySem.W.Frag)
theorem ixK (h : X.K = K) : IxR X (rIxL K) := by subst h; exact ix_list
theorem slK (h : X.K = K) : SlR X (rSlL K) := by subst h; exact sl_list
theorem lenK (h : X.K = K) : CallR X (.builtin "len") (fun xs H Q => ∃ p ys, xs = [.ref p] ∧ (SqL K H p ys ∨ SqT K H p ys) ∧ Q (.int ys.length) H) := by subst h; exact call_len_seq
theorem listK (h : X.K = K) : CallR X (.type "list") (fun xs H Q => ∃ p ys, xs = [.ref p] ∧ (SqL K H p ys ∨ SqT K H p ys) ∧ ∀ l, H l = none → Q (.ref l) (upd H l (.lst ys))) := by subst h; exact call_list_of
theorem allK (h : X.K = K) (hc : X.calm = true) : CallR X (.builtin "all") (rAll K) := by subst h; exact call_all hc
theorem eqDK (h : X.K = K) (hu : X.A.units + 64 < cLine) : OpR X (compareOp .Eq) (rEqD K false) := by subst h; exact op_eqD hu
theorem neDK (h : X.K = K) (hu : X.A.units + 64 < cLine) : OpR X (compareOp .NotEq) (rEqD K true) := by subst h; exact op_neD hu
theorem piK {tg l : Expr} {tl : TE} (h : X.K = K) (hl : PE X l tl) : PI X tg l (iList K tl) := by subst h; exact pi_list hl
theorem isiK {e : Expr} {te : TE} {T : Str} {n : String} {p p2 pos : Pos} (h : X.K = K) (he : PE X e te) (h1 : Gl X "isinstance") (h2 : X.mg "isinstance" = none) (h3 : Gl X T) (h4 : X.mg T = none) (h5 : bootBuiltins T = some (.type n)) (h6 : T ≠ "__name__" := by decide) (h7 : (T == ("__debug__" : Str)) = false := by decide)
  (s1 : starEach [e, .Name T p2] X.env = (false, eval e X.env) :: starEach [.Name T p2] X.env := by rfl) (s2 : starEach [.Name T p2] X.env = (false, eval (.Name T p2) X.env) :: starEach [] X.env := by rfl) (hpl : (backTo pos (starEach [.Name T p2] X.env)).any (·.1) = false := by rfl) :
  PE X (.Call (.Name "isinstance" p) [e, .Name T p2] [] pos) (tCB (rIsX K) (tCons te (tCons (tC (.ty n)) tNil))) := by
 subst h; exact pe_isiX he h1 h2 h3 h4 h5 h6 h7 s1 s2 hpl
theorem isiCK {e : Expr} {te : TE} {T : Str} {C : Addr} {p p2 pos : Pos} (h : X.K = K) (he : PE X e te) (h1 : Gl X "isinstance") (h2 : X.mg "isinstance" = none) (h3 : Gl X T) (h4 : X.mg T = some (.ref C)) (h7 : (T == ("__debug__" : Str)) = false := by decide)
  (s1 : starEach [e, .Name T p2] X.env = (false, eval e X.env) :: starEach [.Name T p2] X.env := by rfl) (s2 : starEach [.Name T p2] X.env = (false, eval (.Name T p2) X.env) :: starEach [] X.env := by rfl) (hpl : (backTo pos (starEach [.Name T p2] X.env)).any (·.1) = false := by rfl) :
  PE X (.Call (.Name "isinstance" p) [e, .Name T p2] [] pos) (tCB (rIsX K) (tCons te (tCons (tC (.ref C)) tNil))) := by
 subst h; exact pe_isiC he h1 h2 h3 h4 h7 s1 s2 hpl
end
open C5
section
variable {X : Cx} {sc : Scope} {N : List Str} {src : List (Option Nat)}
structure TurnG (Cp : Cx → Prop) (P : Program) (w : World) (K : PySem.W.Frag) (tg : Expr) (J : It) (fp : List Addr) (it : Addr) (tn : Nat → Heap → Prop) : Prop where
 mem : it ∈ fp
 obj : ∀ i h, tn i h → ∀ b ∈ fp, ∃ o, h.get? b = some o ∧ ∀ v, o.data ≠ .cell v
 keep : ∀ i h h', tn i h → (∀ b ∈ fp, ∀ o, h.get? b = some o → h'.get? b = some o) → tn i h'
 item : ∀ (X : Cx), X.prog = P → X.w = w → X.K = K → Cp X → ∀ (i : Nat) (pins : List (Addr × Obj)) (s : Shared) (σ : St) (H : Hp) (E : Value → Shared → Prop), Inv X pins σ H s → (∀ b ∈ fp, FpOk X pins H b) → tn i s.heap → J.go i H →
  wpAny (model P w) X.A (pyNext (.ref it)) (fun r s1 => ∃ u, r = some u ∧ wpAny (model P w) X.A (letOwnedTupleGo tg (.ref it) u) (fun _ s2 => ∃ x H', Inv X pins σ H' s2 ∧ RelV x u ∧ J.yld i H x H' ∧ tn (i + 1) s2.heap ∧ ∀ b ∈ fp, H' b = none) E s1) E s
 done : ∀ (X : Cx), X.prog = P → X.w = w → X.K = K → Cp X → ∀ (i : Nat) (pins : List (Addr × Obj)) (s : Shared) (σ : St) (H : Hp) (E : Value → Shared → Prop), Inv X pins σ H s → (∀ b ∈ fp, FpOk X pins H b) → tn i s.heap → J.stop i H →
  wpAny (model P w) X.A (pyNext (.ref it)) (fun r s1 => r = none ∧ Inv X pins σ H s1) E s
 self : ∀ (A : Around) (i : Nat) (s : Shared) (Q : Value → Shared → Prop) (E : Value → Shared → Prop), tn i s.heap → Q (.ref it) s → wpAny (model P w) A (pyIter (.ref it)) Q E s
noncomputable def PIG (Cp : Cx → Prop) (X : Cx) (tg iter : Expr) (wi : TI) : Prop :=
 ∀ (pins : List (Addr × Obj)) (s : Shared) (σ : St) (H : Hp) (R : It → Hp → Prop), Inv X pins σ H s → wi σ H R →
  wpAny (model X.prog X.w) X.A (eval iter X.env) (fun v s1 => wpAny (model X.prog X.w) X.A (pyIter v) (fun itv s2 => ∃ (it : Addr) (fp : List Addr) (tn : Nat → Heap → Prop) (J : It) (H' : Hp), itv = .ref it ∧ Inv X pins σ H' s2 ∧ TurnG Cp X.prog X.w X.K tg J fp it tn ∧ tn 0 s2.heap ∧ (∀ b ∈ fp, FpOk X pins H' b) ∧ R J H') X.xe s1) X.xe s
theorem PI.g {X : Cx} {tg iter : Expr} {wi : TI} (h : PI X tg iter wi) : PIG (fun X => X.calm = true) X tg iter wi := fun pins s σ H R I hw =>
 thn (h pins s σ H R I hw) fun _ _ h1 => thn h1 fun _ _ ⟨it, fp, tn, J, H', e, I2, T, st, f, r⟩ => ⟨it, fp, tn, J, H', e, I2, ⟨T.mem, T.obj, T.keep, T.item, T.done, T.self⟩, st, f, r⟩
theorem ps_setCG (Cp : Cx → Prop) {x : Str} {ix : Nat} {p1 spos : Pos} {elt tgt iter : Expr} {ifs : List Expr} {wi : TI} {g : TG} {tt : TT} {te : TE} {pos : Pos} (hN : X.N.Nodup) (hix : X.N[ix]? = some x) (hxl : X.env.scope.names.lookup x = some .local) (hc : ∀ (s : Shared) (H : Hp) (C : Addr) (fp : List Addr), Cp (cxB X sc N fp C s H)) (B : BkScope X.env.scope sc X.N N src) (hi : PIG Cp X tgt iter wi)
  (hg : ∀ (s : Shared) (H : Hp) (C : Addr) (fp : List Addr), PG (cxB X sc N fp C s H) tgt g) (ht : ∀ (s : Shared) (H : Hp) (C : Addr) (fp : List Addr), PTs (cxB X sc N fp C s H) ifs tt)
  (he : ∀ (s : Shared) (H : Hp) (C : Addr) (fp : List Addr), PE (cxB X sc N fp C s H) elt te) (hs : ∀ x, foldedSetIterable iter X.env x = pure x := by intro _; rfl)
  (hsw : swapsWith (.ListComp elt [⟨tgt, iter, ifs, 0⟩] sc pos) (some (.Name x p1)) spos.line X.env = pure true := by rfl) :
  PS X (.Assign [.Name x p1] (.ListComp elt [⟨tgt, iter, ifs, 0⟩] sc pos) spos) (tAsg (tComp src wi g tt te) (gName ix)) := by
 intro pins s σ H D I h
 rw [exec_Assign_Name_used _ _ _ _ hsw]
 refine wpAny_bind (wpAny_standAt (wpAny_bind ?_))
 show wpAny _ X.A (do let _ ← comprehension (.ListComp elt [⟨tgt, iter, ifs, 0⟩] sc pos) sc X.env _ (newList []) false (eval iter X.env) (some (assign (.Name x p1) X.env))) _ _ s
 have has := B.has rfl I.ok
 refine wpAny_bind (wpAny_mono (wpAny_comprehension_free (use := some (assign (.Name x p1) X.env)) (Q := fun _ s' => SP X pins D .next s') rfl hs (clos_of has) B.kind (fun y hy hk => by have := B.look (x := y.1) (k := y.2) hy; rw [hk] at this; exact this)
  (thn (hi pins s σ H _ I h) fun v s1 h1 => thn h1 fun itv s2 h2 => ?_)) (fun _ s' hq => wpAny_pure (wpAny_pure hq)) fun _ _ z => z)
 obtain ⟨it, fp, tn, J, H2, e, I2, T, st2, f2, q⟩ := h2
 subst e
 refine wpAny_newObj_type (newBlock ?_)
 obtain ⟨W, ⟨m0, w0⟩, turn⟩ := q s2.heap.objs.size (I2.hok.fresh (Nat.le_refl _))
 have hlt : ∀ b ∈ fp, b < s2.heap.objs.size := fun b hb => by
  obtain ⟨o, ho, _⟩ := T.obj 0 _ st2 b hb
  exact Heap.lt_size ho
 have szL : (s2.heap.push { cls := .type "list", dict := none, data := .seq ([] : List Value).toArray } : Heap).objs.size = s2.heap.objs.size + 1 := Heap.size_push ..
 generalize hh1 : pushCells ((s2.heap.push { cls := .type "list", dict := none, data := .seq ([] : List Value).toArray } : Heap).push { cls := .type "dict", data := .dict #[] }) sc.names = hB
 have IB := I2.block (C := (s2.heap.push { cls := .type "list", dict := none, data := .seq ([] : List Value).toArray } : Heap).objs.size) (t := s2.toks) B f2 hlt szL hh1.symm
 generalize (s2.heap.push { cls := .type "list", dict := none, data := .seq ([] : List Value).toArray } : Heap).objs.size = C at IB szL ⊢
 have keepB : ∀ b o, s2.heap.get? b = some o → hB.get? b = some o := fun b o e => by
  rw [← hh1]
  exact pushCells_keeps _ _ b o (Heap.get?_push_of_some _ (Heap.get?_push_of_some _ e))
 have stB : tn 0 hB := T.keep 0 _ _ st2 fun b _ o e => keepB b o e
 have frB : ∀ b ∈ fp, upd H2 s2.heap.objs.size (.lst []) b = none := fun b hb => by
  rw [upd_ne (Nat.ne_of_lt (hlt b hb))]
  exact (f2 b hb).1
 have stat : ∀ {H' : Hp}, (∀ b ∈ fp, H' b = none) → ∀ b ∈ fp, FpOk (cxB X sc N fp C s2 H2) [] H' b := fun {H'} hn b hb => by
  obtain ⟨z1, z2⟩ := IB.ok.exf b hb
  exact ⟨hn b hb, z1, IB.ok.exfs b hb, .inl hb, z2, fun p hp => absurd (show p ∈ ([] : List (Addr × Obj)) from hp) (by simp)⟩
 show codeAny (model X.prog X.w) X.A (.compStart (.ListComp elt [⟨tgt, iter, ifs, 0⟩] sc pos) 0 (.ref it) (.ref s2.heap.objs.size) (bkEnv sc (clOf sc X.env) C X.env)) (compPost (model X.prog X.w) X.A X.xe (some (assign (.Name x p1) X.env)) (fun _ s' => SP X pins D .next s') (.ref s2.heap.objs.size) C) { s2 with heap := hB }
 have loop : codeAny (model X.prog X.w) X.A (.compLoop (.ListComp elt [⟨tgt, iter, ifs, 0⟩] sc pos) 0 (.ref it) (.ref s2.heap.objs.size) (bkEnv sc (clOf sc X.env) C X.env))
   (compPost (model X.prog X.w) X.A X.xe (some (assign (.Name x p1) X.env)) (fun _ s' => SP X pins D .next s') (.ref s2.heap.objs.size) C) { s2 with heap := hB } := by
  refine compLoop_go (fun n s' => ∃ i σ' H', Inv (cxB X sc N fp C s2 H2) [] σ' H' s' ∧ tn i s'.heap ∧ (∀ b ∈ fp, H' b = none) ∧ W i n σ' H') ?_ m0 ⟨0, _, _, IB, stB, frB, w0⟩
  rintro n s3 ⟨i, σ3, H3, I3, st3, fr3, w3⟩
  rcases turn i n σ3 H3 w3 with ⟨stop, qn⟩ | ⟨go, N', hN, step⟩
  ·refine thn (T.done (cxB X sc N fp C s2 H2) rfl rfl rfl (hc _ _ _ _) i [] s3 σ3 H3 _ I3 (stat fr3) st3 stop) fun r s4 ⟨hr, I4⟩ => ?_
   subst hr
   obtain ⟨m, hn, _⟩ := I4.loc
   have ltC : ∀ b o, s2.heap.get? b = some o → b ≠ C := fun b o e => Nat.ne_of_lt (show @LT.lt Nat instLTNat b C by have : @LT.lt Nat instLTNat b s2.heap.objs.size := Heap.lt_size e; omega)
   have base := I4.base
   have freeC : H3 C = none := I4.free
   have J : Inv X pins σ H3 s4 := by
    refine I2.call' (s' := s4) (ch := fp) I4.os ⟨base.keep, base.slot, base.free, base.there, base.tups, base.frzs, base.tbls⟩ I4.hok I4.bare (fun b hb => ?_)
    obtain ⟨f0, f1, f2', f3, f4, f5⟩ := f2 b hb
    exact ⟨f3, f1, f4, f5⟩
   have neL : C ≠ X.env.locals := fun z => by
    obtain ⟨m', ⟨o, _, _, ho, _⟩, _⟩ := I2.loc
    exact ltC _ o ho z.symm
   have neCell : ∀ y c, X.env.cells.lookup y = some c → c ≠ C := fun y c e => by
    obtain ⟨v', o, ho, _⟩ := I2.cell y c e
    exact ltC c o ho
   show wpAny (model X.prog X.w) X.A (assign (.Name x p1) X.env (.ref s2.heap.objs.size)) _ _ s4
   refine wpAny_assign_Name (store_ok2 J hN hix (.inl hxl) (show RelV (.ref s2.heap.objs.size) (.ref s2.heap.objs.size) from rfl) (fun s5 J5 hsb => ?_) (.inr hxl))
   obtain ⟨a, sb, ha⟩ := hsb
   have neA : C ≠ a := by
    rcases ha with z | z
    ·rw [z]; exact neL
    ·exact fun q => neCell _ _ z q.symm
   refine ⟨m, hn.sameBut sb neA, fun h' hs' => ?_⟩
   refine ⟨_, H3, J5.turned (t' := s5.toks) (it := C) (fun b o hb e => (hs'.2 b hb).trans e) freeC neL (.inr ?_) neCell (fun p hp => ltC p.1 p.2 (I2.pin p hp).1), qn⟩
   exact Nat.le_trans I2.sz (show @LE.le Nat instLENat s2.heap.objs.size C by omega)
  ·refine thn (T.item (cxB X sc N fp C s2 H2) rfl rfl rfl (hc _ _ _ _) i [] s3 σ3 H3 _ I3 (stat fr3) st3 go) fun r s4 ⟨u, hr, h4⟩ => ?_
   subst hr
   refine thn h4 fun _ s5 ⟨x, H5, I5, r5, y5, st5, fr5⟩ => ?_
   have I5' := I5.pinned (stat fr5) (T.obj _ _ st5)
   have again : ∀ {s7 : Shared} {σ7 : St} {H7 : Hp}, Inv (cxB X sc N fp C s2 H2) ([] ++ pinsAt fp s5.heap) σ7 H7 s7 → N' σ7 H7 → ∃ m, m < n ∧ ∃ i σ' H', Inv (cxB X sc N fp C s2 H2) [] σ' H' s7 ∧ tn i s7.heap ∧ (∀ b ∈ fp, H' b = none) ∧ W i m σ' H' := fun {s7 σ7 H7} I7 n7 => by
    obtain ⟨m', hm, w7⟩ := hN σ7 H7 n7
    refine ⟨m', hm, i + 1, σ7, H7, I7.unpinned, T.keep _ _ _ st5 fun b hb o e => (I7.pin (b, o) (List.mem_append_right _ (List.mem_append_right _ (mem_pinsAt hb e)))).1, fun b hb => ?_, w7⟩
    obtain ⟨o, e, d⟩ := T.obj _ _ st5 b hb
    exact (I7.pin (b, o) (List.mem_append_right _ (List.mem_append_right _ (mem_pinsAt hb e)))).2.1
   refine thn (hg s2 H2 C fp _ s5 σ3 H5 x u _ I5' r5 (step x H5 y5)) fun _ s6 ⟨σ6, H6, I6, q6⟩ => ?_
   refine thn (ht s2 H2 C fp _ s6 σ6 H6 _ I6 q6) fun b s7 ⟨H7, I7, q7⟩ => ?_
   cases b with
   | false =>
    rw [if_neg Bool.false_ne_true] at q7 ⊢
    exact again I7 q7
   | true =>
    rw [if_pos rfl] at q7 ⊢
    refine thn (he s2 H2 C fp _ s7 σ6 H7 _ I7 q7) fun u8 s8 ⟨v8, H8, I8, r8, xs, hD, hz, n8⟩ => ?_
    exact thn (mt_append (X := cxB X sc N fp C s2 H2) _ s8 σ6 H8 (.ref s2.heap.objs.size) [v8] (.ref s2.heap.objs.size) [u8] (fun _ H => N' σ6 H) I8 rfl (.cons r8 .nil) ⟨_, xs, v8, rfl, rfl, hD, hz, n8⟩) fun _ s9 ⟨_, H9, I9, _, n9⟩ => again I9 n9
 exact codeAny_compStart_list loop (T.self _ 0 _ _ _ stB loop)
theorem ps_setC {x : Str} {ix : Nat} {p1 spos : Pos} {elt tgt iter : Expr} {ifs : List Expr} {wi : TI} {g : TG} {tt : TT} {te : TE} {pos : Pos} (hN : X.N.Nodup) (hix : X.N[ix]? = some x) (hxl : X.env.scope.names.lookup x = some .local) (hc : X.calm = true) (B : BkScope X.env.scope sc X.N N src) (hi : PI X tgt iter wi)
  (hg : ∀ (s : Shared) (H : Hp) (C : Addr) (fp : List Addr), PG (cxB X sc N fp C s H) tgt g) (ht : ∀ (s : Shared) (H : Hp) (C : Addr) (fp : List Addr), PTs (cxB X sc N fp C s H) ifs tt)
  (he : ∀ (s : Shared) (H : Hp) (C : Addr) (fp : List Addr), PE (cxB X sc N fp C s H) elt te) (hs : ∀ x, foldedSetIterable iter X.env x = pure x := by intro _; rfl)
  (hsw : swapsWith (.ListComp elt [⟨tgt, iter, ifs, 0⟩] sc pos) (some (.Name x p1)) spos.line X.env = pure true := by rfl) :
  PS X (.Assign [.Name x p1] (.ListComp elt [⟨tgt, iter, ifs, 0⟩] sc pos) spos) (tAsg (tComp src wi g tt te) (gName ix)) :=
 ps_setCG (fun X => X.calm = true) hN hix hxl (fun _ _ _ _ => hc) B hi.g hg ht he hs hsw
end
end L2
namespace L2
open PySem
theorem exm_mk {K : PySem.W.Frag} {C F : Addr} (h1 : PySem.W.subIn K (.ref F) (.type "BaseException") = some true) (h2 : PySem.W.isClsIn K F = true) (h3 : PySem.W.typeIn K (.ref F) = some (.type "type")) (h4 : PySem.W.subIn K (.ref C) (.ref F) = some true) : PySem.W.exmOne K (.ref C) (.ref F) = some true := by
 unfold PySem.W.exmOne PySem.W.kitCls
 have h2' : (PySem.W.clsIn K F).isSome = true := h2
 rw [h1, if_pos (by decide)]
 dsimp only
 rw [h2', h3, if_pos (by simp), h4]
end L2
namespace L2
open PySem PySem.Spec PyProof.Rows
end L2
namespace PySem
namespace F
end F
end PySem
namespace L2
open PySem PySem.Spec PyProof.Rows
noncomputable def Sl (e : Expr) : Prop := ∀ es env, starEach (e :: es) env = (false, eval e env) :: starEach es env
structure ShE (X : Cx) (e : Expr) (t : TE) : Prop where
 pe : PE X e t
structure ShA (X : Cx) (es : List Expr) (t : TA) : Prop where
 pa : PA X es t
structure ShS (X : Cx) (st : Stmt) (t : TS) : Prop where
 ps : PS X st t
structure ShB (X : Cx) (l : List Stmt) (t : TS) : Prop where
 pss : PSs X l t
section
variable {X : Cx} {a b c e : Expr} {es : List Expr} {ta tb te : TE} {t : TA} {p pos : Pos}
theorem slSub : Sl (.Subscript a b p) := fun _ _ => rfl
theorem slLst {xs : List Expr} : Sl (.List xs p) := fun _ _ => rfl
theorem slTup {xs : List Expr} {k : Nat} : Sl (.Tuple xs k p) := fun _ _ => rfl
theorem slBin {o : Operator} : Sl (.BinOp a o b p) := fun _ _ => rfl
theorem slCall {xs : List Expr} {ks : List Keyword} : Sl (.Call a xs ks p) := fun _ _ => rfl
theorem slC {k : Const} {n : Nat} : Sl (.Constant k n p) := fun _ _ => rfl
theorem slN {x : Str} : Sl (.Name x p) := fun _ _ => rfl
theorem qpe_int {i : Int} {j : Nat} : ShE X (.Constant (.int i) j pos) (tC (.int i)) := ⟨pe_int⟩
theorem qpa_nil : ShA X [] tNil := ⟨pa_nil⟩
theorem qpa_cons (ha : ShE X e te) (hs : Sl e) (hr : ShA X es t) : ShA X (e :: es) (tCons te t) := ⟨pa_cons ha.pe hr.pa (hs _ _)⟩
theorem qpe_lst (h : ShA X es t) : ShE X (.List es pos) (tLst t) := ⟨pe_lst h.pa⟩
theorem qpe_tup {k : Nat} (h : ShA X es t) : ShE X (.Tuple es k pos) (tTup t) := ⟨pe_tup h.pa⟩
theorem qpss_one {st : Stmt} {t : TS} (h1 : ShS X st t) : ShB X [st] t := ⟨pss_one h1.ps⟩
theorem qps_ret (he : ShE X e te) : ShS X (.Return (some e) pos) (tRet te) := ⟨ps_ret he.pe⟩
end
section
variable {prog : Program} {w : World} {A : Around} {E : Value → Shared → Prop} {s : Shared}
theorem entry_unchain : entryFor table "proto.unchain" = some Builtin.«proto.unchain» := entryFor_of_tree (by kernel_rfl)
theorem wp_unchain {e : Value} {ea : Addr} {Q : Value → Shared → Prop} (hc : NoCtx s.heap ea) (h : ∀ v, Q v s) : wpAny (model prog w) A (runValue (.builtin "proto.unchain" ⟨[e, .ref ea, .ref ea, .bool false], []⟩)) Q E s := by
 obtain ⟨o, vs, ho, hd, h2⟩ := hc
 refine wpAny_runValue (codeAny_builtin entry_unchain ?_)
 show wpAny _ _ (field (.ref ea) 2 >>= _) _ _ s
 refine wpAny_bind (wpAny_field ho hd h2 ?_)
 rw [if_pos (show (Value.none == Value.none) = true from rfl)]
 exact wpAny_pure (h _)
theorem wp_raiseMarked {α : Type} {x ea : Addr} {o : Obj} {vs : Array Value} {Q : α → Shared → Prop} (hh : A.handled = some (.ref ea)) (ne : x ≠ ea) (hc : NoCtx s.heap ea) (ho : s.heap.get? x = some o) (hd : o.data = .fields vs) (hz : 2 < vs.size)
  (h : E (.ref x) { s with heap := s.heap.update x (Obj.mapFields (·.setIfInBounds 2 (.ref ea))) }) : wpAny (model prog w) A (raiseNew (.ref x) : Sem α) Q E s := by
 unfold raiseNew
 refine wpAny_bind (wpAny_handled ?_)
 rw [hh]
 dsimp only
 rw [if_pos (show (Value.ref ea != Value.ref x) = true from by simp [bne, Ne.symm ne])]
 exact wpAny_bind (wpAny_holding (wp_unchain hc fun v => wpAny_bind (wpAny_setField (x := .ref ea) ho hd hz (wpAny_throw h))))
end
section
variable {prog : Program} {w : World} {A : Around} {E : Value → Shared → Prop} {s : Shared}
theorem wp_stopM {α : Type} {ea : Addr} {Q : α → Shared → Prop} (hh : A.handled = some (.ref ea)) (hc : NoCtx s.heap ea)
    (h : ∀ x h', (∀ b o, s.heap.get? b = some o → h'.get? b = some o) → (∃ o, h'.get? x = some o ∧ o.cls = .type "StopIteration") → E (.ref x) { s with heap := h' }) :
    wpAny (model prog w) A (do raiseNew (← newExc (.type "StopIteration") []) : Sem α) Q E s := by
  refine wpAny_bind ?_
  simp only [newExc, newTuple]
  refine wpAny_bind (wpAny_newObj_type (wpAny_bind (m := firstArgMember _ _) (wpAny_of_eq (a := Value.none) (by first | rfl | (simp only [firstArgMember]; rfl)) (wpAny_newObj_type ?_ (by size_fits)))) (by size_fits))
  have k1 : ∀ b o, s.heap.get? b = some o → (s.heap.push { cls := Value.type "tuple", data := Data.seq #[] } : Heap).get? b = some o := fun b o e => Heap.get?_push_of_some _ e
  show wpAny _ _ (raiseNew (.ref (s.heap.push { cls := Value.type "tuple", data := Data.seq #[] } : Heap).objs.size)) Q E { s with heap := (s.heap.push { cls := Value.type "tuple", data := Data.seq #[] } : Heap).push _ }
  generalize (s.heap.push { cls := Value.type "tuple", data := Data.seq #[] } : Heap) = h1 at k1 ⊢
  obtain ⟨oe, vs, he, hd, h2⟩ := hc
  have lt : ∀ b o, s.heap.get? b = some o → b ≠ h1.objs.size := fun b o e => Nat.ne_of_lt (Heap.lt_size (k1 b o e))
  refine wp_raiseMarked hh (lt ea oe he).symm ⟨oe, vs, Heap.get?_push_of_some _ (k1 ea oe he), hd, h2⟩ (Heap.get?_push_size _ rfl) rfl (by simp only [Array.size_append]; exact Nat.lt_of_lt_of_le (by decide) (Nat.le_add_right 6 _)) (h _ _ (fun b o e => ?_) ?_)
  · rw [Heap.get?_update_other _ _ (lt b o e).symm]
    exact Heap.get?_push_of_some _ (k1 b o e)
  · exact ⟨_, Heap.get?_update_self _ (Heap.get?_push_size _ rfl) (Obj.isFreed_of_fields (Obj.data_mapFields rfl _)), rfl⟩
end
section
variable {prog : Program} {w : World} {A : Around} {E : Value → Shared → Prop} {s : Shared}
theorem next_list_endM {it l ea : Addr} {i : Nat} {items : Array Value} {Q : Option Value → Shared → Prop} (hh : A.handled = some (.ref ea)) (hc : NoCtx s.heap ea) (ne : ea ≠ it)
  (hit : s.heap.IsListIter it l i) (hl : s.heap.IsList l items) (hx : items[i]? = none)
  (hQ : ∀ h', Heap.ExtBut it s.heap h' → Q none { s with heap := h' }) : wpAny (model prog w) A (pyNext (.ref it)) Q E s := by
 obtain ⟨oi, g1, _, g2⟩ := id hit
 obtain ⟨ol, g3, _, nl, g4⟩ := hl
 unfold pyNext
 refine wpAny_bind (wpAny_attempt (wpAny_callSpecial?_slot hit.typeIs (name := Str.ofString "__next__") slot_listiter_next (wpAny_call_entry slot_listiter_next hit.typeIs entry_listiter_next ?_ (args_listiter_next _))))
 refine wpAny_bind (m := field (.ref it) 0) (wpAny_field g1 g2 rfl (x := .ref l) ?_)
 rw [if_neg (show ¬ ((Value.ref l == Value.none) = true) from Bool.noConfusion)]
 refine wpAny_bind (m := field (.ref it) 1) (wpAny_field g1 g2 rfl (x := .int i 0) ?_)
 refine wpAny_bind (m := seqItems? (.ref l)) (wpAny_seqItems g3 g4 ?_)
 simp only [Int.toNat_natCast, hx]
 refine wpAny_bind (wpAny_rule (wpAny_bind (wpAny_setField g1 g2 (by simp) ?_)))
 have ob := Heap.SameBut.update (a := it) (h := s.heap) (f := Obj.mapFields (·.setIfInBounds 0 Value.none))
 show wpAny _ A.in1 (do raiseNew (← newExc (.type "StopIteration") []) : Sem _) _ _ _
 refine wp_stopM (show A.in1.handled = some (.ref ea) from hh) (hc.keeps fun o e => (ob.2 ea ne).trans e) fun x h' kp ⟨ox, ex, cx⟩ => ?_
 refine wpAny_bind (wpAny_isInstance ⟨ox, ex, cx⟩ isSubtype_stop (T := "StopIteration") (b := true) ?_)
 exact wpAny_pure (hQ h' fun b o hb e => kp b o ((ob.2 b hb).trans e))
end
section
variable {prog : Program} {w : World} {A : Around} {E : Value → Shared → Prop} {s : Shared}
theorem next_tuple_endM {it t ea : Addr} {i : Nat} {items : Array Value} {Q : Option Value → Shared → Prop} (hh : A.handled = some (.ref ea)) (hc : NoCtx s.heap ea) (ne : ea ≠ it)
  (hit : IsTupIter s.heap it t i) (ht : IsTup s.heap t items) (hx : items[i]? = none)
  (hQ : ∀ h', Heap.ExtBut it s.heap h' → Q none { s with heap := h' }) : wpAny (model prog w) A (pyNext (.ref it)) Q E s := by
 obtain ⟨oi, g1, _, g2⟩ := id hit
 obtain ⟨ol, g3, _, nl, g4⟩ := ht
 unfold pyNext
 refine wpAny_bind (wpAny_attempt (wpAny_callSpecial?_slot hit.typeIs (name := Str.ofString "__next__") slot_tupleiter_next (wpAny_call_entry slot_tupleiter_next hit.typeIs entry_tupleiter_next ?_ (args_tupleiter_next _))))
 refine wpAny_bind (m := field (.ref it) 0) (wpAny_field g1 g2 rfl (x := .ref t) ?_)
 rw [if_neg (show ¬ ((Value.ref t == Value.none) = true) from Bool.noConfusion)]
 refine wpAny_bind (m := field (.ref it) 1) (wpAny_field g1 g2 rfl (x := .int i 0) ?_)
 refine wpAny_bind (m := seqItems? (.ref t)) (wpAny_seqItems g3 g4 ?_)
 simp only [Int.toNat_natCast, hx]
 refine wpAny_bind (wpAny_rule (wpAny_bind (wpAny_setField g1 g2 (by simp) ?_)))
 have ob := Heap.SameBut.update (a := it) (h := s.heap) (f := Obj.mapFields (·.setIfInBounds 0 Value.none))
 show wpAny _ A.in1 (do raiseNew (← newExc (.type "StopIteration") []) : Sem _) _ _ _
 refine wp_stopM (show A.in1.handled = some (.ref ea) from hh) (hc.keeps fun o e => (ob.2 ea ne).trans e) fun x h' kp ⟨ox, ex, cx⟩ => ?_
 refine wpAny_bind (wpAny_isInstance ⟨ox, ex, cx⟩ isSubtype_stop (T := "StopIteration") (b := true) ?_)
 exact wpAny_pure (hQ h' fun b o hb e => kp b o ((ob.2 b hb).trans e))
theorem assign_TupleM {env : Env} {elts : List Expr} {k : Nat} {pos : Pos} {t ea : Addr} {items : Array Value} {Q : Unit → Shared → Prop} (hh : A.handled = some (.ref ea)) (hc : NoCtx s.heap ea) (ht : IsTup s.heap t items)
  (hn : (assignEach elts env).length = items.size) (hstar : (assignEach elts env).findIdx? (·.1) = none)
  (h : ∀ h', Heap.ExtBut s.heap.objs.size s.heap h' → wpAny (model prog w) A (assignInOrder ((assignEach elts env).map (·.2)) items.toList) Q E { s with heap := h' }) :
  wpAny (model prog w) A (assign (.Tuple elts k pos) env (.ref t)) Q E s := by
 have lt : t ≠ s.heap.objs.size := by obtain ⟨o, ho, _⟩ := ht; exact Nat.ne_of_lt (Heap.lt_size ho)
 have lte : ea ≠ s.heap.objs.size := by obtain ⟨o, _, ho, _⟩ := hc; exact Nat.ne_of_lt (Heap.lt_size ho)
 rw [assign_Tuple]
 refine wpAny_bind (wpAny_standAt ?_)
 unfold unpack
 rw [hn, hstar]
 refine wpAny_bind (wpAny_holding ?_)
 unfold unpackItems notIterableAtAll
 refine wpAny_bind (wpAny_bind (wpAny_specialOf ht.typeIs slot_tuple_iter.lookup (wpAny_pure ?_)))
 simp only [Bool.false_eq_true, if_false]
 refine wpAny_bind (wpAny_holding (iter_tuple ht (wpAny_bind (wpAny_holding (draw_tuple lt items.size 0 _ _ ⟨_, Heap.get?_push_size _ rfl, rfl, rfl⟩ (ht.push _) (by omega) fun h1 it1 sb => ?_)))))
 rw [List.drop_zero, List.take_of_length_le (by simp), if_neg (by simp)]
 have c1 : NoCtx h1 ea := hc.keeps fun o e => (sb.2 ea lte).trans (Heap.get?_push_of_some _ e)
 refine wpAny_bind (wpAny_holding (next_tuple_endM hh c1 lte it1 ((ht.push _).extBut sb.extBut lt) (by simp) fun h2 e2 => ?_))
 simp only [Option.isSome_none, Bool.false_eq_true, if_false]
 exact wpAny_pure (h h2 fun b o hb e => e2 b o hb (sb.extBut b o hb (Heap.get?_push_of_some _ e)))
end
end L2
namespace L2
open PySem PySem.Spec PyProof.Rows C5
structure FlewX (X : Cx) (H' : Hp) (B h' : Heap) (ea : Addr) : Prop where
 hok : HOk X.prog X.w H' B
 keep : ∀ b o, X.s₀.heap.get? b = some o → X.H₀ b = none → b ∉ frs X.stack → b ∉ X.ex → B.get? b = some o
 slot : ∀ b o, X.s₀.heap.get? b = some o → b ∈ frs X.stack → ∃ sl, h'.get? b = some { o with slots := sl }
 free : ∀ b o, X.s₀.heap.get? b = some o → X.H₀ b = none → b ∉ X.ex → H' b = none
 there : ∀ b o, X.s₀.heap.get? b = some o → b ∉ frs X.stack → b ∉ X.ex → ∃ o', B.get? b = some o'
 tups : ∀ b xs, X.H₀ b = some (.tup xs) → H' b = some (.tup xs)
 frzs : ∀ b o u, X.H₀ b = some (.frz o u) → H' b = some (.frz o u)
 tbls : ∀ b ps, X.H₀ b = some (.tbl ps) → ∃ more, H' b = some (.tbl (ps ++ more))
 exc : H' ea = none
 loc : X.env.locals ∉ frs X.stack → H' X.env.locals = none ∧ ∃ m, B.Ns X.env.locals m
noncomputable def Esc (X : Cx) (Ec : XK) (e : Value) (s' : Shared) : Prop :=
 ∃ (ea : Addr) (cls a0 fl : Value) (H' : Hp) (B : Heap), e = .ref ea ∧ B.StaysIn s'.heap ∧ B.get? ea = none ∧ s'.heap.FunFrames B X.stack ∧ s'.heap.TracedAtW B ea cls a0 fl ∧ NoCtx s'.heap ea ∧ s'.os = X.s₀.os ∧ AllBare s'.gens ∧ FlewX X H' B s'.heap ea ∧ Ec cls none H'
noncomputable def PassesE (X : Cx) (Ec : XK) : Prop := X.Ok → ∀ e s', Esc X Ec e s' → X.xe e s'
section
variable {X : Cx} {Ec : XK}
theorem stk_out (ok : X.Ok) : ∀ b ∈ X.fs, b ∈ frs X.stack := fun b hb => by
 rcases ok.stk with e | ⟨e, _⟩
 ·rw [e]; exact hb
 ·rw [e]
  unfold frs
  rw [List.filterMap_cons]
  cases X.env.frame with
  | none => exact hb
  | some f => exact List.mem_cons_of_mem _ hb
theorem esc_of {pins : List (Addr × Obj)} {σ : St} {H : Hp} {s : Shared} {e : Value} {s' : Shared} (I : Inv X pins σ H s) (h : CX1 X.prog X.w X.stack H s Ec e s') : Esc X Ec e s' := by
 obtain ⟨ea, cls, a0, H', B, rfl, fl, nc, os, bare, fw, q⟩ := h
 have ub := I.base
 have neL : ∀ b o, X.s₀.heap.get? b = some o → b ≠ X.env.locals := fun b o e => Nat.ne_of_lt (Nat.lt_of_lt_of_le (Heap.lt_size e) I.ok.above)
 have nf : ∀ b, b ∉ frs X.stack → b ∉ X.fs := fun b hb z => hb (stk_out I.ok b z)
 refine ⟨ea, cls, a0, .none, H', B, rfl, fl.1, fl.2.1, fl.2.2.1, fl.2.2.2, nc, os.trans I.os, bare, ⟨fw.hok, fun b o e n hb hx => ?_, fun b o e hb => ?_, fun b o e n hx => ?_, fun b o e hb hx => ?_, fun b xs e => fw.tups b xs (ub.tups b xs e), fun b o u e => fw.frzs b o u (ub.frzs b o u e), fun b ps e => ?_, fw.exc, fun hb => ?_⟩, q⟩
 ·exact fw.keep b o (ub.keep b o e n (nf b hb) hx) (ub.free b o e n hx) hb
 ·have hb2 : b ∈ X.fs := by
   rcases List.mem_cons.mp (I.stkSub b hb) with z | z
   ·exact absurd z (neL b o e)
   ·exact z
  obtain ⟨sl, e1⟩ := ub.slot b o e (I.ok.frf b hb2) hb2 (fun z => I.ok.exfs b z hb2)
  obtain ⟨sl', e2⟩ := fw.slot b _ e1 hb
  exact ⟨sl', e2⟩
 ·obtain ⟨o', e1⟩ := ub.there b o e hx
  exact fw.free b o' e1 (ub.free b o e n hx)
 ·obtain ⟨o', e1⟩ := ub.there b o e hx
  exact fw.there b o' e1 hb
 ·obtain ⟨m1, e1⟩ := ub.tbls b ps e
  obtain ⟨m2, e2⟩ := fw.tbls b _ e1
  exact ⟨m1 ++ m2, by rw [e2, Array.append_assoc]⟩
 ·obtain ⟨m, ⟨o, es, ep, ho, r⟩, _⟩ := I.loc
  exact ⟨fw.free _ o ho I.free, m, o, es, ep, fw.keep _ o ho I.free hb, r⟩
theorem PassesE.R (h : PassesE X Ec) : PassesR (CX1 X.prog X.w) X fun _ => Ec := fun pins σ H s e s' I hc => h I.ok e s' (esc_of I hc)
end
section
variable {M : Model} {A : Around} {E : Value → Shared → Prop} {s : Shared} {B : Heap} {env : Env} {outer : List Env} {L ea : Addr} {cls a0 fl : Value} {Q : Unit → Shared → Prop}
theorem note_any (hfr : A.frames = some (env :: outer)) (hf : env.frame = some L) (st : B.StaysIn s.heap) (new : B.get? ea = none) (ff : s.heap.FunFrames B (env :: outer)) (tr : s.heap.TracedAtW B ea cls a0 fl)
  (k : ∀ h', Heap.HeldW B (env :: outer) ea cls a0 L h' → s.heap.UpToSlots h' → Q () { s with heap := h' }) : wpAny M A (noteFrame (.ref ea) env) Q E s := by
 by_cases hL : fl = rawInt L
 ·subst hL
  exact wpAny_noteFrame_againW hf tr (k s.heap ⟨st, new, ff, tr⟩ (.refl _))
 ·obtain ⟨oe, vs, T, oT, ts, he, ⟨hc, z0⟩, hd, z1, nT, ne, hT, dT, z3⟩ := tr
  subst hc
  have lt3 := (Array.getElem?_eq_some_iff.mp z3).1
  unfold noteFrame
  simp only [hf]
  refine wpAny_bind (wpAny_field he hd z1 ?_)
  have b1 : (Value.ref T != Value.none) = true := by simp
  rw [if_pos b1]
  refine wpAny_bind (wpAny_field hT dT z3 ?_)
  have b2 : ¬ (fl == rawInt L) = true := fun z => hL (by simpa using z)
  rw [if_neg b2]
  refine wpAny_bind (wpAny_setField hT dT lt3 ?_)
  have oth : ∀ b, T ≠ b → (s.heap.update T (Obj.mapFields (·.setIfInBounds 3 .none))).get? b = s.heap.get? b := fun b hb => Heap.get?_update_other _ _ hb
  have rec' : ∀ b o, s.heap.get? b = some o → (∀ vs, o.data ≠ .fields vs) → T ≠ b := fun b o hb hn z => by
   subst z
   rw [hT] at hb
   cases hb
   exact hn ts dT
  refine wpAny_entryW hfr (ff.of_keeps fun b o hb hn => ⟨o, by rw [oth b (rec' b o hb hn)]; exact hb, rfl⟩) hf (by rw [oth ea ne]; exact he) (fun b o hb => ?_) new hd (Array.getElem?_eq_some_iff.mp z1).1 z0 fun h' hN => ?_
  ·rw [oth b (fun z => by subst z; rw [nT] at hb; cases hb)]
   exact st b o hb
  ·obtain ⟨k1, k2, k3, k4⟩ := hN
   exact k h' ⟨k1, new, k2, k3⟩ fun b o hb hn => k4 b o (by rw [oth b (rec' b o hb hn)]; exact hb) hn
theorem leaves_any (hfr : A.frames = some (env :: outer)) (hf : env.frame = some L) (st : B.StaysIn s.heap) (new : B.get? ea = none) (ff : s.heap.FunFrames B (env :: outer)) (tr : s.heap.TracedAtW B ea cls a0 fl)
  (k : ∀ h', Heap.FlyingW B outer ea cls a0 h' → s.heap.UpToSlots h' → Q () { s with heap := h' }) : wpAny M A (leaving env (.ref ea)) Q E s := by
 unfold leaving
 refine wpAny_bind (note_any hfr hf st new ff tr fun h1 held up1 => ?_)
 refine wpAny_landsW (s := { s with heap := h1 }) held fun h2 fl2 up2 => ?_
 obtain ⟨k1, k2, ⟨_, _, k3⟩, k4⟩ := fl2
 exact k h2 ⟨k1, k2, k3, k4⟩ (up1.trans up2)
theorem flag_any {fr : Option Addr} (tr : s.heap.TracedAtW B ea cls a0 fl) (st : B.StaysIn s.heap) (ff : s.heap.FunFrames B outer)
  (k : ∀ h' fl', B.StaysIn h' → h'.FunFrames B outer → h'.TracedAtW B ea cls a0 fl' → s.heap.UpToSlots h' → Q () { s with heap := h' }) : wpAny M A (setFlight (.ref ea) fr) Q E s := by
 obtain ⟨oe, vs, T, oT, ts, he, hc, hd, z1, nT, ne, hT, dT, z3⟩ := tr
 have lt3 := (Array.getElem?_eq_some_iff.mp z3).1
 unfold setFlight
 refine wpAny_bind (wpAny_field he hd z1 ?_)
 have b1 : (Value.ref T != Value.none) = true := by simp
 rw [if_pos b1]
 have oth : ∀ (y : Value) b, T ≠ b → (s.heap.update T (Obj.mapFields (·.setIfInBounds 3 y))).get? b = s.heap.get? b := fun y b hb => Heap.get?_update_other _ _ hb
 have rec' : ∀ b o, s.heap.get? b = some o → (∀ vs, o.data ≠ .fields vs) → T ≠ b := fun b o hb hn z => by
  subst z
  rw [hT] at hb
  cases hb
  exact hn ts dT
 refine wpAny_setField hT dT lt3 (k _ _ (fun b o hb => ?_) (ff.of_keeps fun b o hb hn => ⟨o, by rw [oth _ b (rec' b o hb hn)]; exact hb, rfl⟩)
  ⟨oe, vs, T, _, _, by rw [oth _ ea ne]; exact he, hc, hd, z1, nT, ne, Heap.get?_update_self _ hT (Obj.isFreed_of_fields (Obj.data_mapFields dT _)), Obj.data_mapFields dT _, by rw [Array.getElem?_setIfInBounds]; simp [lt3]; rfl⟩
  fun b o hb hn => ⟨o.slots, by rw [oth _ b (rec' b o hb hn)]; exact hb⟩)
 rw [oth _ b (fun z => by subst z; rw [nT] at hb; cases hb)]
 exact st b o hb
theorem note_anyC (hfr : A.frames = some (env :: outer)) (hf : env.frame = some L) (st : B.StaysIn s.heap) (new : B.get? ea = none) (ff : s.heap.FunFrames B (env :: outer)) (tr : s.heap.TracedAtW B ea cls a0 fl) (nc : NoCtx s.heap ea)
  (k : ∀ h', Heap.HeldW B (env :: outer) ea cls a0 L h' → NoCtx h' ea → s.heap.UpToSlots h' → Q () { s with heap := h' }) : wpAny M A (noteFrame (.ref ea) env) Q E s :=
 wpAny_mono (keep_note.any nc (note_any (Q := fun _ s' => ∃ h', s' = { s with heap := h' } ∧ Heap.HeldW B (env :: outer) ea cls a0 L h' ∧ s.heap.UpToSlots h') (E := fun _ _ => False) hfr hf st new ff tr fun h' a b => ⟨h', rfl, a, b⟩))
  (fun _ s' ⟨⟨h', e', a, b⟩, n⟩ => by subst e'; exact k h' a n b) fun _ _ z => z.1.elim
theorem leaves_anyC (hfr : A.frames = some (env :: outer)) (hf : env.frame = some L) (st : B.StaysIn s.heap) (new : B.get? ea = none) (ff : s.heap.FunFrames B (env :: outer)) (tr : s.heap.TracedAtW B ea cls a0 fl) (nc : NoCtx s.heap ea)
  (k : ∀ h', Heap.FlyingW B outer ea cls a0 h' → NoCtx h' ea → s.heap.UpToSlots h' → Q () { s with heap := h' }) : wpAny M A (leaving env (.ref ea)) Q E s :=
 wpAny_mono (keep_leaving.any nc (leaves_any (Q := fun _ s' => ∃ h', s' = { s with heap := h' } ∧ Heap.FlyingW B outer ea cls a0 h' ∧ s.heap.UpToSlots h') (E := fun _ _ => False) hfr hf st new ff tr fun h' a b => ⟨h', rfl, a, b⟩))
  (fun _ s' ⟨⟨h', e', a, b⟩, n⟩ => by subst e'; exact k h' a n b) fun _ _ z => z.1.elim
theorem flag_anyC {fr : Option Addr} (tr : s.heap.TracedAtW B ea cls a0 fl) (st : B.StaysIn s.heap) (ff : s.heap.FunFrames B outer) (nc : NoCtx s.heap ea)
  (k : ∀ h' fl', B.StaysIn h' → h'.FunFrames B outer → h'.TracedAtW B ea cls a0 fl' → NoCtx h' ea → s.heap.UpToSlots h' → Q () { s with heap := h' }) : wpAny M A (setFlight (.ref ea) fr) Q E s :=
 wpAny_mono (keep_setFlight.any nc (flag_any (Q := fun _ s' => ∃ h' fl', s' = { s with heap := h' } ∧ B.StaysIn h' ∧ h'.FunFrames B outer ∧ h'.TracedAtW B ea cls a0 fl' ∧ s.heap.UpToSlots h') (E := fun _ _ => False) tr st ff fun h' fl' a b c d => ⟨h', fl', rfl, a, b, c, d⟩))
  (fun _ s' ⟨⟨h', fl', e', a, b, c, d⟩, n⟩ => by subst e'; exact k h' fl' a b c n d) fun _ _ z => z.1.elim
end
theorem note_env {e : Value} {env env' : Env} (h : env.frame = env'.frame) : noteFrame e env = noteFrame e env' := by
 unfold noteFrame PySem.frameOf
 rw [h]
section
variable {P : Program} {w : World} {K : PySem.W.Frag} {mg : Str → Option Value} {base : Heap} {N : List Str} {qual : Str} {scope : Scope} {f : Addr} {cd : Value} {A : Around} {outer : List Env} {s₀ : Shared} {H₀ : Hp} {E : XK}
theorem passesE1 : PassesE (cxOf (CX1 P w) P w K mg base N qual scope f cd A outer s₀ H₀ E) E := by
 intro ok e s' h
 obtain ⟨ea, cls, a0, fl, H', B, rfl, st, new, ff, tr, nc, os, bare, fw, q⟩ := h
 have fr : frs (envOfC qual scope s₀.heap.objs.size f cd :: outer) = s₀.heap.objs.size :: frs outer := rfl
 have neL : ∀ b o, s₀.heap.get? b = some o → b ∉ frs outer → b ∉ frs (envOfC qual scope s₀.heap.objs.size f cd :: outer) := fun b o e hb z => by
  rw [fr] at z
  rcases List.mem_cons.mp z with z | z
  ·have := Heap.lt_size e
   rw [z] at this
   exact absurd this (Nat.lt_irrefl _)
  ·exact hb z
 show wpAny (model P w) (A.deeper (envOfC qual scope s₀.heap.objs.size f cd)) (leaving (envOfC qual scope s₀.heap.objs.size f cd) (.ref ea)) (fun _ s'' => CX1 P w outer H₀ s₀ E (.ref ea) s'') (fun e' s'' => CX1 P w outer H₀ s₀ E e' s'') s'
 refine leaves_anyC ok.frames rfl st new ff tr nc fun h'' fl'' nc'' up => ?_
 refine ⟨ea, cls, a0, H', B, rfl, fl'', nc'', os, bare, ⟨fw.hok, fun b o e n hb => fw.keep b o e n (neL b o e hb) (fun z => nomatch z), fun b o e hb => ?_, fun b o e n => fw.free b o e n (fun z => nomatch z), fun b o e hb => fw.there b o e (neL b o e hb) (fun z => nomatch z), fw.tups, fw.frzs, fw.tbls, fw.exc⟩, q⟩
 have hb' : b ∈ frs (envOfC qual scope s₀.heap.objs.size f cd :: outer) := by rw [fr]; exact List.mem_cons_of_mem _ hb
 obtain ⟨sl, e1⟩ := fw.slot b o e hb'
 obtain ⟨_, o1, e2, nf⟩ := Heap.FunFrames.mem ff hb'
 rw [e1] at e2
 cases e2
 obtain ⟨sl', e3⟩ := up b _ e1 nf
 exact ⟨sl', e3⟩
end
end L2
namespace C5
open PySem
section
variable {prog : Program} {w : World} {A : Around} {R : Result → Shared → Prop} {s : Shared}
theorem compLoop_goX {elt target iter : Expr} {ifs : List Expr} {scope : Scope} {pos : Pos} {it acc : Value} {env : Env} (I : Nat → Shared → Prop) (EE : Value → Shared → Prop) (hEE : ∀ e s', EE e s' → notedBy (model prog w) A env (fun x s' => R (.error x) s') e s')
  (turn : ∀ n s, I n s → wpAny (model prog w) A (pyNext it) (fun r s₁ => match r with
   | none => R (.ok .next) s₁
   | some v => wpAny (model prog w) A (letOwnedTupleGo target it v) (fun _ s₁' => wpAny (model prog w) A (assign target env v) (fun _ s₂ =>
     wpAny (model prog w) A (forIn ifs true fun c r => if r = true then do let ok ← isTrue c env (eval c env); pure (ForInStep.yield ok) else pure (ForInStep.yield r)) (fun ok s₃ =>
      if ok = true then wpAny (model prog w) A (eval elt env) (fun x s₄ =>
       wpAny (model prog w) A (call (.builtin "list.append") [acc, x]) (fun _ s₅ => ∃ m, m < n ∧ I m s₅) EE s₄) EE s₃
      else ∃ m, m < n ∧ I m s₃) EE s₂) EE s₁') EE s₁) EE s)
  (n : Nat) (h : I n s) :
  codeAny (model prog w) A (.compLoop (.ListComp elt [⟨target, iter, ifs, 0⟩] scope pos) 0 it acc env) R s := by
 refine codeAny_loop rfl I (fun n s hI => ?_) n h
 show wpAny _ A ((compTurn (.ListComp elt [⟨target, iter, ifs, 0⟩] scope pos) 0 it acc env).onRaise (fun x => do noteFrame x env; theTreesLotGoes x)) _ _ s
 refine wpAny_noted ?_
 rw [compTurn_list]
 refine wpAny_bind (wpAny_standAt (wpAny_bind (wpAny_mono (turn n s hI) (fun r s₁ h₁ => ?_) hEE)))
 cases r with
 | none => exact wpAny_pure h₁
 | some v =>
  refine wpAny_bind (wpAny_mono h₁ (fun _ s₁' h₁' => ?_) hEE)
  refine wpAny_bind (wpAny_mono h₁' (fun _ s₂ h₂ => wpAny_bind (wpAny_mono h₂ (fun ok s₃ h₃ => ?_) hEE)) hEE)
  cases ok with
  | false => exact wpAny_pure ⟨rfl, h₃⟩
  | true =>
   exact wpAny_bind (wpAny_bind (wpAny_mono h₃ (fun x s₄ h₄ => wpAny_bind (wpAny_mono h₄ (fun _ s₅ h₅ => wpAny_pure (wpAny_pure ⟨rfl, h₅⟩)) hEE)) hEE))
end
end C5
namespace L2
open PySem PySem.Spec PyProof.Rows C5
section
variable {X : Cx} {pins : List (Addr × Obj)} {σ : St} {H : Hp} {s : Shared} {sc : Scope} {N : List Str} {src : List (Option Nat)}
noncomputable def CErr (X : Cx) (C : Addr) (x : Value) (s' : Shared) : Prop := ∃ m, s'.heap.Ns C m ∧ ∀ h', Heap.SameBut C s'.heap h' → ∀ cenv : Env, cenv.locals = C → wpAny (model X.prog X.w) X.A (passOn "comprehension.variables-let-go" x cenv : Sem Value) (fun _ _ => False) X.xe { s' with heap := h' }
theorem funFrames_but {h h' B : Heap} {C : Addr} (sb : Heap.SameBut C h h') : ∀ {l : List Env}, h.FunFrames B l → (∀ env ∈ l, env.frame ≠ some C) → h'.FunFrames B l
 | [], _, _ => trivial
 | env :: r, ⟨hk, ⟨L, o, hf, hn, ho, hd⟩, hr⟩, ne => ⟨hk, ⟨L, o, hf, hn, (sb.2 L (fun z => ne env (.head _) (by rw [hf, z]))).trans ho, hd⟩, funFrames_but sb hr fun e he => ne e (.tail _ he)⟩
theorem block_passes {Ec : XK} {fp : List Addr} {C : Addr} (hp : PassesE X Ec) (hst : ∃ e0 rest L, X.stack = e0 :: rest ∧ e0.frame = X.env.frame ∧ X.env.frame = some L) (I2 : Inv X pins σ H s) (f2 : ∀ b ∈ fp, FpOk X pins H b) (hC : s.heap.objs.size ≤ C) :
  PassesE ((cxB X sc N fp C s H).wish (notedBy (model X.prog X.w) X.A (bkEnv sc (clOf sc X.env) C X.env) (CErr X C))) Ec := by
 intro okB e s' hE
 obtain ⟨ea, cls, a0, fl, H', B, rfl, st, new, ff, tr, nc, os, bare, fw, q⟩ := hE
 obtain ⟨e0, rest, L, hs, hf0, hfL⟩ := hst
 have hCn : C ∉ frs X.stack := fun z => by
  obtain ⟨_, o, ho, _⟩ := (I2.stack).mem z
  exact absurd (Nat.lt_of_lt_of_le (Heap.lt_size ho) hC) (Nat.lt_irrefl _)
 obtain ⟨hC0, m, hNs⟩ : H' C = none ∧ ∃ m, B.Ns C m := fw.loc hCn
 replace ff : s'.heap.FunFrames B X.stack := ff
 show wpAny (model X.prog X.w) X.A (noteFrame (.ref ea) (bkEnv sc (clOf sc X.env) C X.env)) _ _ s'
 rw [note_env (env' := e0) (show (bkEnv sc (clOf sc X.env) C X.env).frame = e0.frame from hf0.symm)]
 have hfr : X.A.frames = some (e0 :: rest) := by rw [I2.ok.frames, hs]
 rw [hs] at ff
 refine note_anyC hfr (hf0.trans hfL) st new ff tr nc fun h4 held nc4 up4 => ?_
 obtain ⟨st4, _, ff4, tr4⟩ := held
 obtain ⟨oC, es, ep, hoC, hr⟩ := hNs
 refine ⟨m, ⟨oC, es, ep, st4 _ _ hoC, hr⟩, fun h5 sb cenv hcv => ?_⟩
 have toB : ∀ b o, B.get? b = some o → b ≠ C → (PySem.W.hideAll B [C]).get? b = some o := fun b o e hb => PySem.W.hideAll_get _ e (by simpa using hb)
 have st5 : (PySem.W.hideAll B [C]).StaysIn h5 := fun b o e => by
  have hb : b ≠ C := fun z => by subst z; rw [PySem.W.hideAll_none [b] (List.mem_singleton.mpr rfl)] at e; cases e
  exact (sb.2 b hb).trans (st4 b o (PySem.W.of_hideAll _ e))
 have hid : (PySem.W.hideAll B [C]).StaysIn B := fun b o e => PySem.W.of_hideAll _ e
 have none5 : ∀ b, B.get? b = none → (PySem.W.hideAll B [C]).get? b = none := fun b hb => by
  cases z : (PySem.W.hideAll B [C]).get? b with
  | none => rfl
  | some o => rw [hid b o z] at hb; cases hb
 have neC : ∀ b, B.get? b = none → b ≠ C := fun b hb z => by subst z; rw [hoC] at hb; cases hb
 have ff5 : h5.FunFrames (PySem.W.hideAll B [C]) (e0 :: rest) := by
  refine PySem.W.funFrames_base hid (funFrames_but sb ff4 fun env he z => hCn ?_)
  rw [hs]
  exact List.mem_filterMap.mpr ⟨env, he, z⟩
 have tr5 : h5.TracedAtW (PySem.W.hideAll B [C]) ea cls a0 (rawInt L) := by
  obtain ⟨oe, vs, T, oT, ts, he, hc, hd, z1, nT, ne, hT, dT, z3⟩ := tr4
  exact ⟨oe, vs, T, oT, ts, (sb.2 ea (neC ea new)).trans he, hc, hd, z1, none5 T nT, ne, (sb.2 T (neC T nT)).trans hT, dT, z3⟩
 have nc5 : NoCtx h5 ea := nc4.keeps fun o e => (sb.2 ea (neC ea new)).trans e
 unfold PySem.passOn
 have tr5' := tr5
 obtain ⟨oe, vs, T, oT, ts, he, hc, hd, z1, nT, ne, hT, dT, z3⟩ := tr5'
 refine wpAny_bind (wpAny_field (s := { s' with heap := h5 }) he hd z1 ?_)
 have bn : ¬ (Value.ref T == Value.none) = true := by simp
 rw [if_neg bn]
 refine wpAny_bind (flag_anyC (s := { s' with heap := h5 }) tr5 st5 ff5 nc5 fun h6 fl6 st6 ff6 tr6 nc6 up6 => ?_)
 refine wpAny_throw (hp I2.ok _ _ ?_)
 have ub := I2.base
 have neL : ∀ b o, X.s₀.heap.get? b = some o → b ≠ X.env.locals := fun b o e => Nat.ne_of_lt (Nat.lt_of_lt_of_le (Heap.lt_size e) I2.ok.above)
 have nf : ∀ b, b ∉ frs X.stack → b ∉ X.fs := fun b hb z => hb (stk_out I2.ok b z)
 have ltC : ∀ b o, s.heap.get? b = some o → b ≠ C := fun b o e => Nat.ne_of_lt (Nat.lt_of_lt_of_le (Heap.lt_size e) hC)
 have nfp : ∀ b o, X.s₀.heap.get? b = some o → b ∉ X.ex → b ∉ fp := fun b o e hx hb => by
  obtain ⟨_, _, _, f3, _, _⟩ := f2 b hb
  rcases f3 with z | z
  ·exact hx z
  ·exact absurd (Nat.lt_of_lt_of_le (Heap.lt_size e) z) (Nat.lt_irrefl _)
 have upto : ∀ b o, s'.heap.get? b = some o → (∀ vs, o.data ≠ .fields vs) → b ≠ C → ∃ sl, h6.get? b = some { o with slots := sl } := fun b o e hn hb => by
  obtain ⟨sl4, e4⟩ := up4 b o e hn
  obtain ⟨sl6, e6⟩ := up6 b _ ((sb.2 b hb).trans e4) hn
  exact ⟨sl6, e6⟩
 refine ⟨ea, cls, a0, fl6, H', PySem.W.hideAll B [C], rfl, st6, none5 ea new, (by rw [hs]; exact ff6), tr6, nc6, os.trans I2.os, bare, ⟨fun a o e => ?_, fun b o e n hb hx => ?_, fun b o e hb => ?_, fun b o e n hx => ?_, fun b o e hb hx => ?_, fun b xs e => fw.tups b xs (ub.tups b xs e), fun b o u e => fw.frzs b o u (ub.frzs b o u e), fun b ps e => ?_, fw.exc, fun hb => ?_⟩, q⟩
 ·refine (fw.hok a o e).stay (fun b u hb g => toB b u g ?_) (fun _ g => g) fun _ _ g => g
  rintro rfl
  rcases hb with hb | hb
  ·subst hb; rw [hC0] at e; cases e
  ·rw [hC0] at hb; cases hb
 ·have e1 := ub.keep b o e n (nf b hb) hx
  exact toB b o (fw.keep b o e1 (ub.free b o e n hx) hb (nfp b o e hx)) (ltC b o e1)
 ·have hb2 : b ∈ X.fs := by
   rcases List.mem_cons.mp (I2.stkSub b hb) with z | z
   ·exact absurd z (neL b o e)
   ·exact z
  obtain ⟨sl, e1⟩ := ub.slot b o e (I2.ok.frf b hb2) hb2 (fun z => I2.ok.exfs b z hb2)
  obtain ⟨sl', e2⟩ := fw.slot b _ e1 hb
  obtain ⟨_, o1, e3, hn⟩ := Heap.FunFrames.mem ff (b := b) (by rw [hs] at hb; exact hb)
  rw [e2] at e3
  cases e3
  obtain ⟨sl6, e6⟩ := upto b _ e2 hn (ltC b _ e1)
  exact ⟨sl6, e6⟩
 ·obtain ⟨o', e1⟩ := ub.there b o e hx
  exact fw.free b o' e1 (ub.free b o e n hx) (nfp b o e hx)
 ·obtain ⟨o', e1⟩ := ub.there b o e hx
  obtain ⟨o2, e2⟩ := fw.there b o' e1 hb (nfp b o e hx)
  exact ⟨o2, toB b o2 e2 (ltC b o' e1)⟩
 ·obtain ⟨m1, e1⟩ := ub.tbls b ps e
  obtain ⟨m2, e2⟩ := fw.tbls b _ e1
  exact ⟨m1 ++ m2, by rw [e2, Array.append_assoc]⟩
 ·obtain ⟨mX, ⟨o, es', ep', ho, r⟩, _⟩ := I2.loc
  have nfl : X.env.locals ∉ fp := fun z => (f2 _ z).2.1 rfl
  exact ⟨fw.free _ o ho I2.free nfl, mX, o, es', ep', toB _ o (fw.keep _ o ho I2.free hb nfl) (ltC _ o ho), r⟩
theorem ps_setCX {x : Str} {ix : Nat} {p1 spos : Pos} {elt tgt iter : Expr} {ifs : List Expr} {wi : TI} {g : TG} {tt : TT} {te : TE} {pos : Pos} (hN : X.N.Nodup) (hix : X.N[ix]? = some x) (hxl : X.env.scope.names.lookup x = some .local) {Ec : XK} (hp : PassesE X Ec) (hst : ∃ e0 rest L, X.stack = e0 :: rest ∧ e0.frame = X.env.frame ∧ X.env.frame = some L) (hc : X.calm = true) (B : BkScope X.env.scope sc X.N N src) (hi : PI X tgt iter wi)
  (hg : ∀ (s : Shared) (H : Hp) (C : Addr) (fp : List Addr) (XE : Value → Shared → Prop), PassesE ((cxB X sc N fp C s H).wish XE) Ec → PG ((cxB X sc N fp C s H).wish XE) tgt g) (ht : ∀ (s : Shared) (H : Hp) (C : Addr) (fp : List Addr) (XE : Value → Shared → Prop), PassesE ((cxB X sc N fp C s H).wish XE) Ec → PTs ((cxB X sc N fp C s H).wish XE) ifs tt)
  (he : ∀ (s : Shared) (H : Hp) (C : Addr) (fp : List Addr) (XE : Value → Shared → Prop), PassesE ((cxB X sc N fp C s H).wish XE) Ec → PE ((cxB X sc N fp C s H).wish XE) elt te) (hs : ∀ x, foldedSetIterable iter X.env x = pure x := by intro _; rfl)
  (hsw : swapsWith (.ListComp elt [⟨tgt, iter, ifs, 0⟩] sc pos) (some (.Name x p1)) spos.line X.env = pure true := by rfl) :
  PS X (.Assign [.Name x p1] (.ListComp elt [⟨tgt, iter, ifs, 0⟩] sc pos) spos) (tAsg (tComp src wi g tt te) (gName ix)) := by
 intro pins s σ H D I h
 rw [exec_Assign_Name_used _ _ _ _ hsw]
 refine wpAny_bind (wpAny_standAt (wpAny_bind ?_))
 show wpAny _ X.A (do let _ ← comprehension (.ListComp elt [⟨tgt, iter, ifs, 0⟩] sc pos) sc X.env _ (newList []) false (eval iter X.env) (some (assign (.Name x p1) X.env))) _ _ s
 have has := B.has rfl I.ok
 refine wpAny_bind (wpAny_mono (wpAny_comprehension_free (use := some (assign (.Name x p1) X.env)) (Q := fun _ s' => SP X pins D .next s') rfl hs (clos_of has) B.kind (fun y hy hk => by have := B.look (x := y.1) (k := y.2) hy; rw [hk] at this; exact this)
  (thn (hi pins s σ H _ I h) fun v s1 h1 => thn h1 fun itv s2 h2 => ?_)) (fun _ s' hq => wpAny_pure (wpAny_pure hq)) fun _ _ z => z)
 obtain ⟨it, fp, tn, J, H2, e, I2, T, st2, f2, q⟩ := h2
 subst e
 refine wpAny_newObj_type (newBlock ?_)
 obtain ⟨W, ⟨m0, w0⟩, turn⟩ := q s2.heap.objs.size (I2.hok.fresh (Nat.le_refl _))
 have hlt : ∀ b ∈ fp, b < s2.heap.objs.size := fun b hb => by
  obtain ⟨o, ho, _⟩ := T.obj 0 _ st2 b hb
  exact Heap.lt_size ho
 have szL : (s2.heap.push { cls := .type "list", dict := none, data := .seq ([] : List Value).toArray } : Heap).objs.size = s2.heap.objs.size + 1 := Heap.size_push ..
 generalize hh1 : pushCells ((s2.heap.push { cls := .type "list", dict := none, data := .seq ([] : List Value).toArray } : Heap).push { cls := .type "dict", data := .dict #[] }) sc.names = hB
 have IB := I2.block (C := (s2.heap.push { cls := .type "list", dict := none, data := .seq ([] : List Value).toArray } : Heap).objs.size) (t := s2.toks) B f2 hlt szL hh1.symm
 generalize (s2.heap.push { cls := .type "list", dict := none, data := .seq ([] : List Value).toArray } : Heap).objs.size = C at IB szL ⊢
 obtain ⟨XE, hXE⟩ : ∃ XE : Value → Shared → Prop, XE = notedBy (model X.prog X.w) X.A (bkEnv sc (clOf sc X.env) C X.env) (CErr X C) := ⟨_, rfl⟩
 have IB := IB.wish XE
 have hC : s2.heap.objs.size ≤ C := by rw [szL]; exact Nat.le_succ _
 have hpB : PassesE ((cxB X sc N fp C s2 H2).wish XE) Ec := by
  subst hXE
  exact block_passes hp hst I2 f2 hC
 have keepB : ∀ b o, s2.heap.get? b = some o → hB.get? b = some o := fun b o e => by
  rw [← hh1]
  exact pushCells_keeps _ _ b o (Heap.get?_push_of_some _ (Heap.get?_push_of_some _ e))
 have stB : tn 0 hB := T.keep 0 _ _ st2 fun b _ o e => keepB b o e
 have frB : ∀ b ∈ fp, upd H2 s2.heap.objs.size (.lst []) b = none := fun b hb => by
  rw [upd_ne (Nat.ne_of_lt (hlt b hb))]
  exact (f2 b hb).1
 have stat : ∀ {H' : Hp}, (∀ b ∈ fp, H' b = none) → ∀ b ∈ fp, FpOk ((cxB X sc N fp C s2 H2).wish XE) [] H' b := fun {H'} hn b hb => by
  obtain ⟨z1, z2⟩ := IB.ok.exf b hb
  exact ⟨hn b hb, z1, IB.ok.exfs b hb, .inl hb, z2, fun p hp => absurd (show p ∈ ([] : List (Addr × Obj)) from hp) (by simp)⟩
 show codeAny (model X.prog X.w) X.A (.compStart (.ListComp elt [⟨tgt, iter, ifs, 0⟩] sc pos) 0 (.ref it) (.ref s2.heap.objs.size) (bkEnv sc (clOf sc X.env) C X.env)) (compPost (model X.prog X.w) X.A X.xe (some (assign (.Name x p1) X.env)) (fun _ s' => SP X pins D .next s') (.ref s2.heap.objs.size) C) { s2 with heap := hB }
 have loop : codeAny (model X.prog X.w) X.A (.compLoop (.ListComp elt [⟨tgt, iter, ifs, 0⟩] sc pos) 0 (.ref it) (.ref s2.heap.objs.size) (bkEnv sc (clOf sc X.env) C X.env))
   (compPost (model X.prog X.w) X.A X.xe (some (assign (.Name x p1) X.env)) (fun _ s' => SP X pins D .next s') (.ref s2.heap.objs.size) C) { s2 with heap := hB } := by
  refine compLoop_goX (EE := XE) (hEE := fun e s' h => by rw [hXE] at h; exact h) (fun n s' => ∃ i σ' H', Inv ((cxB X sc N fp C s2 H2).wish XE) [] σ' H' s' ∧ tn i s'.heap ∧ (∀ b ∈ fp, H' b = none) ∧ W i n σ' H') ?_ m0 ⟨0, _, _, IB, stB, frB, w0⟩
  rintro n s3 ⟨i, σ3, H3, I3, st3, fr3, w3⟩
  rcases turn i n σ3 H3 w3 with ⟨stop, qn⟩ | ⟨go, N', hN, step⟩
  ·refine thn (T.done ((cxB X sc N fp C s2 H2).wish XE) rfl rfl rfl hc i [] s3 σ3 H3 _ I3 (stat fr3) st3 stop) fun r s4 ⟨hr, I4⟩ => ?_
   subst hr
   obtain ⟨m, hn, _⟩ := I4.loc
   have ltC : ∀ b o, s2.heap.get? b = some o → b ≠ C := fun b o e => Nat.ne_of_lt (show @LT.lt Nat instLTNat b C by have : @LT.lt Nat instLTNat b s2.heap.objs.size := Heap.lt_size e; omega)
   have base := I4.base
   have freeC : H3 C = none := I4.free
   have J : Inv X pins σ H3 s4 := by
    refine I2.call' (s' := s4) (ch := fp) I4.os ⟨base.keep, base.slot, base.free, base.there, base.tups, base.frzs, base.tbls⟩ I4.hok I4.bare (fun b hb => ?_)
    obtain ⟨f0, f1, f2', f3, f4, f5⟩ := f2 b hb
    exact ⟨f3, f1, f4, f5⟩
   have neL : C ≠ X.env.locals := fun z => by
    obtain ⟨m', ⟨o, _, _, ho, _⟩, _⟩ := I2.loc
    exact ltC _ o ho z.symm
   have neCell : ∀ y c, X.env.cells.lookup y = some c → c ≠ C := fun y c e => by
    obtain ⟨v', o, ho, _⟩ := I2.cell y c e
    exact ltC c o ho
   show wpAny (model X.prog X.w) X.A (assign (.Name x p1) X.env (.ref s2.heap.objs.size)) _ _ s4
   refine wpAny_assign_Name (store_ok2 J hN hix (.inl hxl) (show RelV (.ref s2.heap.objs.size) (.ref s2.heap.objs.size) from rfl) (fun s5 J5 hsb => ?_) (.inr hxl))
   obtain ⟨a, sb, ha⟩ := hsb
   have neA : C ≠ a := by
    rcases ha with z | z
    ·rw [z]; exact neL
    ·exact fun q => neCell _ _ z q.symm
   refine ⟨m, hn.sameBut sb neA, fun h' hs' => ?_⟩
   refine ⟨_, H3, J5.turned (t' := s5.toks) (it := C) (fun b o hb e => (hs'.2 b hb).trans e) freeC neL (.inr ?_) neCell (fun p hp => ltC p.1 p.2 (I2.pin p hp).1), qn⟩
   exact Nat.le_trans I2.sz (show @LE.le Nat instLENat s2.heap.objs.size C by omega)
  ·refine thn (T.item ((cxB X sc N fp C s2 H2).wish XE) rfl rfl rfl hc i [] s3 σ3 H3 _ I3 (stat fr3) st3 go) fun r s4 ⟨u, hr, h4⟩ => ?_
   subst hr
   refine thn h4 fun _ s5 ⟨x, H5, I5, r5, y5, st5, fr5⟩ => ?_
   have I5' := I5.pinned (stat fr5) (T.obj _ _ st5)
   have again : ∀ {s7 : Shared} {σ7 : St} {H7 : Hp}, Inv ((cxB X sc N fp C s2 H2).wish XE) ([] ++ pinsAt fp s5.heap) σ7 H7 s7 → N' σ7 H7 → ∃ m, m < n ∧ ∃ i σ' H', Inv ((cxB X sc N fp C s2 H2).wish XE) [] σ' H' s7 ∧ tn i s7.heap ∧ (∀ b ∈ fp, H' b = none) ∧ W i m σ' H' := fun {s7 σ7 H7} I7 n7 => by
    obtain ⟨m', hm, w7⟩ := hN σ7 H7 n7
    refine ⟨m', hm, i + 1, σ7, H7, I7.unpinned, T.keep _ _ _ st5 fun b hb o e => (I7.pin (b, o) (List.mem_append_right _ (List.mem_append_right _ (mem_pinsAt hb e)))).1, fun b hb => ?_, w7⟩
    obtain ⟨o, e, d⟩ := T.obj _ _ st5 b hb
    exact (I7.pin (b, o) (List.mem_append_right _ (List.mem_append_right _ (mem_pinsAt hb e)))).2.1
   refine thn (hg s2 H2 C fp _ hpB _ s5 σ3 H5 x u _ I5' r5 (step x H5 y5)) fun _ s6 ⟨σ6, H6, I6, q6⟩ => ?_
   refine thn (ht s2 H2 C fp _ hpB _ s6 σ6 H6 _ I6 q6) fun b s7 ⟨H7, I7, q7⟩ => ?_
   cases b with
   | false =>
    rw [if_neg Bool.false_ne_true] at q7 ⊢
    exact again I7 q7
   | true =>
    rw [if_pos rfl] at q7 ⊢
    refine thn (he s2 H2 C fp _ hpB _ s7 σ6 H7 _ I7 q7) fun u8 s8 ⟨v8, H8, I8, r8, xs, hD, hz, n8⟩ => ?_
    exact thn (mt_append (X := (cxB X sc N fp C s2 H2).wish XE) _ s8 σ6 H8 (.ref s2.heap.objs.size) [v8] (.ref s2.heap.objs.size) [u8] (fun _ H => N' σ6 H) I8 rfl (.cons r8 .nil) ⟨_, xs, v8, rfl, rfl, hD, hz, n8⟩) fun _ s9 ⟨_, H9, I9, _, n9⟩ => again I9 n9
 exact codeAny_compStart_list loop (T.self _ 0 _ _ _ stB loop)
end
end L2
namespace L2
open PySem PySem.Spec PyProof.Rows
noncomputable def g2 (K : PySem.W.Frag) (k1 k2 : Nat) : TG := gTup K 2 (gCons (gName k1) (gCons (gName k2) gNil))
section
variable {K : PySem.W.Frag} {H : Hp} {k1 k2 : Nat}
noncomputable def enumL (xs : List V) : List (V × V) := (List.range xs.length).map fun (i : Nat) => (V.int (i : Int), xs.getD i .non)
end
end L2
namespace PySem
open Sem (wp)
open AutoSeq1 (wpAny_loadPart')
end PySem
namespace L2
open PySem PySem.Spec PyProof.Rows
section
variable {K : PySem.W.Frag} {H : Hp} {k1 k2 : Nat}
theorem Same.seqT {K : PySem.W.Frag} {H H' : Hp} {a : Addr} {xs : List V} (e : Same H H') (h : SqT K H a xs) : SqT K H' a xs := by
 rcases h with (h | ⟨o, h⟩) | h
 ·exact .inl (.inl (e _ _ h))
 ·exact .inl (.inr ⟨o, e _ _ h⟩)
 ·exact .inr h
end
noncomputable def Hd (H : Hp) (ea : Addr) : Prop := ∃ C, H ea = some (ExcO ea C)
theorem Hd.mono {H H' : Hp} {ea : Addr} (h : Hd H ea) (s : Same H H') : Hd H' ea := by
 obtain ⟨C, e⟩ := h
 exact ⟨C, s _ _ e⟩
theorem Inv.noctx {X : Cx} {pins : List (Addr × Obj)} {σ : St} {H : Hp} {s : Shared} {ea : Addr} (I : Inv X pins σ H s) (h : Hd H ea) : NoCtx s.heap ea := by
 obtain ⟨C, e⟩ := h
 obtain ⟨⟨o, vs, p1, _, p3, p4⟩, _⟩ := (show ObjOk X.prog X.w H s.heap ea (ExcO ea C) from I.hok ea _ e)
 exact ⟨o, vs, p1, p3, p4⟩
noncomputable abbrev Marked (ea : Addr) : Cx → Prop := fun X => X.A.handled = some (.ref ea)
noncomputable def ItlM (K : PySem.W.Frag) (a ea : Addr) : It := ⟨(Itl K a).go, (Itl K a).yld, fun i H => (Itl K a).stop i H ∧ Hd H ea⟩
theorem turn_listM {P : Program} {w : World} {K : PySem.W.Frag} {tg : Expr} {ea : Addr} (a it : Addr) : TurnG (Marked ea) P w K tg (ItlM K a ea) [it] it (fun i h => h.IsListIter it a i) where
 mem := List.mem_singleton.mpr rfl
 obj := fun i h st b hb => by
  rw [List.mem_singleton.mp hb]
  obtain ⟨o, e, _, d⟩ := st
  exact ⟨o, e, fun v z => by rw [d] at z; cases z⟩
 keep := fun i h h' st k => st.at fun o e => k it (List.mem_singleton.mpr rfl) o e
 item := by
  rintro X rfl rfl rfl hc i pins s σ H E I hf st ⟨xs, x, hq, hx⟩
  obtain ⟨its, rv, p, _⟩ := I.list hq
  obtain ⟨u, hu, ru⟩ := rv.get hx
  obtain ⟨f0, f1, f2, f3, f4, f5⟩ := hf it (List.mem_singleton.mpr rfl)
  refine wpAny_pyNext_list_item st p.isList (x := u) (by simpa using hu) fun h' st' sb => ⟨u, rfl, ?_⟩
  have J : Inv X pins σ H { s with heap := h' } := I.turned (t' := s.toks) (fun b o hb e => (sb.2 b hb).trans e) f0 f1 f3 f4 f5
  obtain ⟨o, e, c, d⟩ := id st'
  exact go_of (s := { s with heap := h' }) e c d (by decide) ⟨x, H, J, ru, ⟨rfl, fun ys hy => by rw [I.list_inj hy hq]; exact hx⟩, st', fun b hb => (hf b hb).1⟩
 done := by
  rintro X rfl rfl rfl hc i pins s σ H E I hf st ⟨⟨xs, hq, hx⟩, he⟩
  obtain ⟨its, rv, p, _⟩ := I.list hq
  obtain ⟨f0, f1, f2, f3, f4, f5⟩ := hf it (List.mem_singleton.mpr rfl)
  have hl := rv.length
  obtain ⟨C, e⟩ := id he
  exact next_list_endM hc (I.noctx he) (ne_of_none e f0) st p.isList (by simp; omega) fun h' eb => ⟨rfl, I.turned (t' := s.toks) (fun b o hb e => eb b o hb e) f0 f1 f3 f4 f5⟩
 self := fun _ _ _ _ _ st h => wpAny_pyIter_listiter st h
noncomputable def iListM (K : PySem.W.Frag) (ea : Addr) (tl : TE) : TI := fun σ H R => tl σ H fun x H1 => ∃ a, x = .ref a ∧ (∃ xs, SqL K H1 a xs) ∧ R (ItlM K a ea) H1
section
variable {X : Cx} {ea : Addr}
theorem pi_listM {tg l : Expr} {tl : TE} (K : PySem.W.Frag) (hK : X.K = K) (hl : PE X l tl) : PIG (Marked ea) X tg l (iListM K ea tl) := by
 subst hK
 intro pins s σ H R I h
 refine thn (hl pins s σ H _ I h) fun v s1 ⟨x, H1, J, r1, a, e, ⟨xs, hq⟩, q⟩ => ?_
 subst e
 cases r1
 obtain ⟨its, rv, p, _⟩ := J.list hq
 refine wpAny_pyIter_list p.isList ⟨s1.heap.objs.size, [s1.heap.objs.size], _, _, H1, rfl, J.kept (t' := s1.toks) fun b o e => Heap.get?_push_of_some _ e, turn_listM a _, ⟨_, Heap.get?_push_size _ rfl, rfl, rfl⟩, fun b hb => ?_, q⟩
 rw [List.mem_singleton.mp hb]
 exact J.fpOk (Nat.le_refl _) (J.hok.fresh (Nat.le_refl _))
noncomputable def gTupM (K : PySem.W.Frag) (ea : Addr) (n : Nat) (t : TGs) : TG := fun v σ H Q => Hd H ea ∧ gTup K n t v σ H Q
theorem pg_tupM {es : List Expr} {k n : Nat} {pos : Pos} {t : TGs} (K : PySem.W.Frag) (hK : X.K = K) (hc : Marked ea X) (h : PGs X es t) (hn : (assignEach es X.env).length = n := by rfl) (hst : (assignEach es X.env).findIdx? (·.1) = none := by rfl) : PG X (.Tuple es k pos) (gTupM K ea n t) := by
 subst hK
 intro pins s σ H v u Q I r ⟨he, a, xs, e1, hq, hl, hw⟩
 subst e1
 cases r
 obtain ⟨its, rv, ht, _⟩ := I.tuple hq
 refine assign_TupleM hc (I.noctx he) ht (by simp [hn, ← hl, rv.length]) hst fun h' hx => ?_
 exact h pins _ σ H xs _ Q (I.kept (t' := s.toks) fun b o e => hx b o (Nat.ne_of_lt (Heap.lt_size e)) e) (by simpa using rv) hw
end
theorem comp_word {K : PySem.W.Frag} {a ea D : Addr} {L : List (Addr × Str × Bool)} {σ0 : St} {H : Hp} {Fn : Hp → Prop} (hS : SqL K H a (L.map fun t => V.ref t.1)) (hT : ∀ t ∈ L, SqT K H t.1 [.str t.2.1, .bl t.2.2]) (hE : Hd H ea) (hn : L.length ≤ sizeLine) (h2 : σ0.length = 2) (hD : H D = none)
  (hd : ∀ H', Same H H' → H' D = some (.lst ((L.filter fun t => t.2.2).map fun t => V.str t.2.1)) → Fn H') :
  ∃ W : Nat → Nat → St → Hp → Prop, (∃ m, W 0 m σ0 (upd H D (.lst []))) ∧ ∀ i m σ' H', W i m σ' H' →
   ((ItlM K a ea).stop i H' ∧ Fn H') ∨ ((ItlM K a ea).go i H' ∧ ∃ N : St → Hp → Prop, (∀ σ2 H2, N σ2 H2 → ∃ m', m' < m ∧ W (i + 1) m' σ2 H2) ∧ ∀ x H2, (ItlM K a ea).yld i H' x H2 → gTupM K ea 2 (gCons (gName 0) (gCons (gName 1) gNil)) x σ' H2 fun σ3 H3 => tB (tVar 1) σ3 H3 fun b H4 =>
    if b = true then tVar 0 σ3 H4 fun v H5 => ∃ xs, H5 D = some (.lst xs) ∧ xs.length < sizeLine ∧ N σ3 (upd H5 D (.lst (xs ++ [v]))) else N σ3 H4) := by
 refine ⟨fun i m σ' H' => m = L.length - i ∧ i ≤ L.length ∧ σ'.length = 2 ∧ Same H H' ∧ H' D = some (.lst (((L.take i).filter fun t => t.2.2).map fun t => V.str t.2.1)), ⟨L.length, rfl, Nat.zero_le _, h2, same_new hD, by rw [upd_same]; rfl⟩, ?_⟩
 rintro i m σ' H' ⟨rfl, hi, hσ, sm, hH⟩
 by_cases hlt : i < L.length
 ·have hx : L[i]? = some L[i] := List.getElem?_eq_getElem hlt
  have hx' : (L.map fun t => V.ref t.1)[i]? = some (.ref L[i].1) := by rw [List.getElem?_map, hx]; rfl
  have hS' := sm.seq hS
  refine .inr ⟨⟨_, _, hS', hx'⟩, fun σ2 H2 => σ2.length = 2 ∧ Same H H2 ∧ H2 D = some (.lst (((L.take (i + 1)).filter fun t => t.2.2).map fun t => V.str t.2.1)), fun σ2 H2 ⟨q1, q2, q3⟩ => ⟨L.length - (i + 1), by omega, rfl, hlt, q1, q2, q3⟩, ?_⟩
  rintro x H2 ⟨rfl, hy⟩
  have e := hy _ hS'
  rw [hx'] at e
  cases e
  have tk : (L.take (i + 1)).filter (fun t => t.2.2) = (L.take i).filter (fun t => t.2.2) ++ [L[i]].filter fun t => t.2.2 := by rw [List.take_succ_eq_append_getElem hlt, List.filter_append]
  obtain ⟨v0, v1, rfl⟩ : ∃ v0 v1, σ' = [v0, v1] := by
   match σ', hσ with
   | [a, b], _ => exact ⟨a, b, rfl⟩
  refine ⟨hE.mono sm, _, _, rfl, sm.seqT (hT _ (List.getElem_mem hlt)), rfl, _, _, rfl, _, _, rfl, rfl, _, rfl, _, rfl, ?_⟩
  have lf : ((L.take i).filter fun t => t.2.2).length ≤ i := Nat.le_trans (List.length_filter_le _ _) (by rw [List.length_take]; omega)
  cases hb : L[i].2.2 with
  | false =>
   refine iteF ?_
   refine ⟨rfl, sm, ?_⟩
   rw [tk, List.filter_cons_of_neg (by simp [hb]), List.filter_nil, List.append_nil]
   exact hH
  | true =>
   refine iteT ?_
   refine ⟨_, rfl, _, hH, by rw [List.length_map]; omega, rfl, same_upd sm hD, ?_⟩
   rw [upd_same, tk, List.filter_cons_of_pos (by simp [hb]), List.filter_nil, List.map_append]
   rfl
 ·have e : i = L.length := by omega
  subst e
  rw [List.take_length] at hH
  exact .inl ⟨⟨⟨_, sm.seq hS, by rw [List.length_map]; exact Nat.le_refl _⟩, hE.mono sm⟩, hd H' sm hH⟩
noncomputable def signsOf (x : Str) : List V := x.cps.toList.map fun c => .str ⟨#[c]⟩
end L2
namespace L2
open PySem
end L2
namespace L2
open PySem PySem.Spec PyProof.Rows
theorem pe_bmK {X : Cx} {T : String} {name : Str} {id : String} {r : V → List V → Hp → VK → Prop} {o e : Expr} {es : List Expr} {to : TE} {t : TA} {apos cpos : Pos} (K : PySem.W.Frag) (hK : X.K = K) (pa : PlainAttrs T) (slot : Slot T name id) (hty : typeOf (.builtin id) = pure (.type "method_descriptor")) (hm : MtR X id r) (ho : PE X o to) (ha : PA X (e :: es) t)
  (hbase : attributeBase o name X.env (eval o X.env) = eval o X.env := by rfl)
  (hfew : ((backTo cpos (starEach (e :: es) X.env)).all (fun x => !x.1) && (backToKw cpos (keywordEach [] X.env)).all (fun x => x.1.isSome) && decide ((e :: es).length + ([] : List Keyword).length + (if ([] : List Keyword).isEmpty then 0 else 1) < 30)) = true := by rfl)
  (hline : (apos.endLine == cpos.line) = true := by rfl) (hs : starEach (e :: es) X.env = (false, eval e X.env) :: starEach es X.env := by rfl) (hplain : (backTo cpos (starEach es X.env)).any (·.1) = false := by rfl) :
  PE X (.Call (.Attribute o name apos) (e :: es) [] cpos) (tBM K T r to t) := by
 subst hK; exact pe_bm pa slot hty hm ho ha hbase hfew hline hs hplain
section
variable {X : Cx} {pins pn : List (Addr × Obj)} {σ : St} {H : Hp} {s : Shared} {XE : Value → Shared → Prop}
noncomputable def catchXG (K : PySem.W.Frag) (CF : Addr) (i : Nat) (ts : Addr → TS) (D : Ends) (σ : St) : XK := fun cls _ H1 =>
 ∃ C, cls = .ref C ∧ PySem.W.exmOne K (.ref C) (.ref CF) = some true ∧ ∀ ea, H1 ea = none → ts ea (endsX i D) (σ.set i (some (.ref ea))) (upd H1 ea (ExcO ea C))
noncomputable def tTryG (K : PySem.W.Frag) (CF : Addr) (i : Nat) (tb : (St → XK) → TS) (ts : Addr → TS) : TS := fun D σ H => tb (fun σ' => catchXG K CF i ts D σ') D σ H
theorem ps_tryG {body : List Stmt} {cx n : Str} {CF : Addr} {i : Nat} {b0 : Stmt} {suite : List Stmt} {np hpos pos : Pos} {tb : (St → XK) → TS} {ts : Addr → TS}
  (hN : X.N.Nodup) (hi : X.N[i]? = some n) (hl : X.env.scope.names.lookup n = some .local) (hg : Gl X cx) (hm : X.mg cx = some (.ref CF)) (hst : X.stack = X.env :: X.outer) (hf : X.env.frame = some X.env.locals)
  (hb : ∀ (pn : List (Addr × Obj)) (XE : Value → Shared → Prop) (R : St → XK), PassesR (CX1 X.prog X.w) (X.at pn XE) R → PSs (X.at pn XE) body (tb R))
  (hs : ∀ ea, PSs (X.marked ea) (b0 :: suite) (ts ea)) (hdb : (cx == ("__debug__" : Str)) = false := by decide) :
  PS X (.Try body [.ExceptHandler (some (.Name cx np)) (some n) (b0 :: suite) hpos] [] [] pos) (tTryG X.K CF i tb ts) := by
 intro pins s σ H D I hq
 refine wpAny_Try_except (wpAny_mono (hb (X.pn ++ pins) _ (fun σ' => catchXG X.K CF i ts D σ') ?_ [] s σ H D I.at hq) (fun f s1 q => ?_) fun e s1 q => q)
 ·intro pins0 σ0 H0 s0 e s' I0' hc
  have I0 : Inv X pins σ0 H0 s0 := I0'.unat
  obtain ⟨ea, cls, a0, H', B, rfl, fl, nc, os, bare, fw, C, rfl, hex, q⟩ := hc
  replace fl : Heap.FlyingW B (X.env :: X.outer) ea (.ref C) a0 s'.heap := by rw [← hst]; exact fl
  replace fw : Flew X.prog X.w (X.env :: X.outer) H0 H' s0.heap B s'.heap ea := by rw [← hst]; exact fw
  have fr0 : X.A.frames = some (X.env :: X.outer) := by rw [I0.ok.frames, hst]
  have new0 : s0.heap.get? ea = none := by
   cases g : s0.heap.get? ea with
   | none => rfl
   | some o =>
    by_cases hb : ea ∈ frs (X.env :: X.outer)
    ·obtain ⟨_, o1, e1, nf⟩ := fl.2.2.1.mem hb
     obtain ⟨oe, vs, e2, _, d2, _⟩ := fl.first
     rw [e1] at e2; cases e2
     exact absurd d2 (nf vs)
    ·obtain ⟨o', e1⟩ := fw.there ea o g hb
     rw [fl.2.1] at e1; cases e1
  refine looks_onC fr0 hf fl nc fun h4 held4 nc4 up4 => ?_
  refine landsC held4 nc4 fun h5 fl5 nc5 up5 => ?_
  have inv : ∀ {h6 : Heap} {tk : Nat}, Heap.FlyingW B (X.env :: X.outer) ea (.ref C) a0 h6 → NoCtx h6 ea → s'.heap.UpToSlots h6 → Inv X pins σ0 (upd H' ea (ExcO ea C)) { s' with heap := h6, toks := tk } := fun {h6 tk} fl6 nc6 up6 => by
   have f6 := fw.up fl up6
   have u6 := f6.un fl6.1
   obtain ⟨oe, vs, e6, c6, d6, _⟩ := fl6.first
   obtain ⟨on, wn, en, dn, nn⟩ := nc6
   rw [e6] at en; cases en
   rw [d6] at dn; cases dn
   refine I0.call' (s' := { s' with heap := h6, toks := tk }) (ch := []) os (by
    rw [hst]
    exact ⟨u6.keep, u6.slot, fun b o e n hx => by
     rw [upd_ne (fun z => by rw [z, new0] at e; cases e)]
     exact u6.free b o e n hx, u6.there, fun b xs e => by
     have z := u6.tups b xs e
     rw [upd_ne (ne_of_none z fw.exc)]; exact z, fun b o u e => by
     have z := u6.frzs b o u e
     rw [upd_ne (ne_of_none z fw.exc)]; exact z, fun b ps e => by
     obtain ⟨more, z⟩ := u6.tbls b ps e
     exact ⟨more, by rw [upd_ne (ne_of_none z fw.exc)]; exact z⟩⟩) (fun b u e => ?_) bare (fun b hb => absurd hb (by simp))
   by_cases hbe : b = ea
   ·subst hbe
    rw [upd_same] at e
    cases e
    refine ⟨⟨oe, vs, e6, c6, d6, nn⟩, ⟨oe, e6⟩, fun h1 h2 p k => ?_⟩
    obtain ⟨o, ws, p1, p2, p3, p4⟩ := p
    exact ⟨o, ws, k o p1, p2, p3, p4⟩
   ·rw [upd_ne hbe] at e
    refine (f6.ok fl6.1 b u e).stay (fun _ _ _ g => g) (fun c g => ?_) fun c xs g => ?_
    ·rw [upd_ne (ne_of_none g fw.exc)]; exact g
    ·rw [upd_ne (ne_of_none g fw.exc)]; exact g
  have I5 := inv (tk := s'.toks) fl5 nc5 (up4.trans up5)
  refine wpAny_handleBy_cons (codeAny_handlers_test (ld_glob (X := X.marked ea) (I5.marked ea) hg hm ?_ hdb)) (by intro z; cases z)
  obtain ⟨ob, hob, hobc⟩ := fl5.there
  have LT : PySem.W.Looks (model X.prog X.w) h5 (typeOf (.ref ea)) (.ref C) := by
   rw [← hobc]
   exact (PySem.W.Looks.ld hob).andThen .now
  refine (PySem.W.exm_one (h := h5) I5.kIn LT hex).here ?_
  refine codeAny_handlers_suite_as ?_
  refine lands_againC fl5 nc5 fun h6 fl6 nc6 up6 => ?_
  have I6 := inv (tk := s'.toks) fl6 nc6 ((up4.trans up5).trans up6)
  refine store_ok I6 hN hi (Or.inl hl) (show RelV (.ref ea) (.ref ea) from rfl) (fun s7 I7 => ?_) (.inr hl)
  refine wpAny_mono (hs ea pins s7 _ _ _ (I7.marked ea) (q ea fw.exc)) (fun f s8 sp => ?_) fun _ _ z => z.elim
  have fin : ∀ {σ8 : St} {H8 : Hp} {Q8 : Shared → Prop}, Inv (X.marked ea) pins σ8 H8 s8 → (∀ s9, Inv X pins (σ8.set i none) H8 s9 → Q8 s9) →
    wpAny (model X.prog X.w) X.A (do bindName X.env n .none; unbindBehindTheSuite X.env n hpos) (fun _ s9 => Q8 s9) X.xe s8 := fun {σ8 H8 Q8} J k => by
   have J' := J.unmarked I0.ok
   obtain ⟨m, hn, hlk⟩ := J'.loc
   refine wpAny_nameGoes_keeps hl hn (by rw [I0.ok.kind]; rfl) fun h9 v hn9 sb9 => k _ ?_
   exact J'.gone hN hi hl hlk hn9 sb9
  cases f with
  | next =>
   obtain ⟨σ8, H8, J, z⟩ := sp
   exact fin J fun s9 I9 => ⟨_, H8, I9, z⟩
  | brk =>
   obtain ⟨σ8, H8, J, z⟩ := sp
   exact fin J fun s9 I9 => ⟨_, H8, I9, z⟩
  | cont =>
   obtain ⟨σ8, H8, J, z⟩ := sp
   exact fin J fun s9 I9 => ⟨_, H8, I9, z⟩
  | ret u =>
   obtain ⟨v, σ8, H8, J, r, z⟩ := sp
   exact fin J fun s9 I9 => ⟨v, _, H8, I9, r, z⟩
 ·cases f with
  | next => obtain ⟨σ1, H1, J, z⟩ := q; exact wpAny_execs_nil ⟨σ1, H1, J.unat, z⟩
  | brk => obtain ⟨σ1, H1, J, z⟩ := q; exact ⟨σ1, H1, J.unat, z⟩
  | cont => obtain ⟨σ1, H1, J, z⟩ := q; exact ⟨σ1, H1, J.unat, z⟩
  | ret u => obtain ⟨v, σ1, H1, J, r, z⟩ := q; exact ⟨v, σ1, H1, J.unat, r, z⟩
end
end L2
namespace STb
open PySem PySem.SetTable
noncomputable def meets (m e : Nat) : Nat → Nat → Nat → Bool
 | 0, i, _ => i == e
 | k + 1, i, p => i == e || meets m e k (leap m i p).1 (leap m i p).2
theorem meets_zero7 : ∀ e : Fin 8, ∀ i : Fin 8, meets 7 e.val 31 i.val 0 = true := by decide +kernel
theorem meets_zero31 : ∀ e : Fin 32, ∀ i : Fin 32, meets 31 e.val 31 i.val 0 = true := by decide +kernel
noncomputable def GoodM (m : Nat) : Prop := m = 7 ∨ m = 31
theorem meets_zero {m e i : Nat} (hm : GoodM m) (he : e ≤ m) (hi : i ≤ m) : meets m e 31 i 0 = true := by
 rcases hm with rfl | rfl
 ·exact meets_zero7 ⟨e, by omega⟩ ⟨i, by omega⟩
 ·exact meets_zero31 ⟨e, by omega⟩ ⟨i, by omega⟩
theorem leap_le (m i p : Nat) : (leap m i p).1 ≤ m := by
 unfold leap
 exact Nat.le_of_lt_succ (Nat.mod_lt _ (Nat.succ_pos m))
theorem meets_pre {m e : Nat} (hm : GoodM m) (he : e ≤ m) : ∀ (k i p : Nat), i ≤ m → p < 32 ^ k → meets m e (31 + k) i p = true
 | 0, i, p, hi, hp => by
  have : p = 0 := by simpa using hp
  subst this
  exact meets_zero hm he hi
 | k + 1, i, p, hi, hp => by
  show (i == e || meets m e (31 + k) (leap m i p).1 (leap m i p).2) = true
  rw [meets_pre hm he k _ _ (leap_le m i p) (by
   show p / 32 < 32 ^ k
   rw [Nat.pow_succ] at hp
   exact Nat.div_lt_of_lt_mul (by rw [Nat.mul_comm]; exact hp))]
  simp
theorem bits_lt (h : Int) : bits h < 32 ^ 13 := by
 unfold bits
 have h1 : h % (2 ^ 64 : Int) < 2 ^ 64 := Int.emod_lt_of_pos _ (by decide)
 have h0 : 0 ≤ h % (2 ^ 64 : Int) := Int.emod_nonneg _ (by decide)
 have : (32 : Nat) ^ 13 = 36893488147419103232 := by decide
 omega
theorem meets_all {m e i : Nat} (h : Int) (hm : GoodM m) (he : e ≤ m) (hi : i ≤ m) : meets m e 44 i (bits h) = true := meets_pre hm he 13 i _ hi (bits_lt h)
noncomputable def adv (m : Nat) (p : Probe) : Probe :=
 if p.more > 0 then { p with j := p.j + 1, more := p.more - 1 } else
 { p with j := (leap m p.i p.perturb).1, more := runEnd m (leap m p.i p.perturb).1 - (leap m p.i p.perturb).1, i := (leap m p.i p.perturb).1, perturb := (leap m p.i p.perturb).2 }
theorem advance_eq (t : SetTable) (p : Probe) : t.advance p = adv t.mask p := rfl
noncomputable def blk (m i p : Nat) : Probe := ⟨i, runEnd m i - i, i, p, none⟩
theorem start_eq (t : SetTable) (h : Int) : t.probeStart h = blk t.mask (bits h % (t.mask + 1)) (bits h) := rfl
inductive Way (m : Nat) (sl : Nat → Option Nat) : Probe → List Nat → Nat → Prop
 | stop {p : Probe} : sl p.j = none → Way m sl p [] p.j
 | live {p : Probe} {i : Nat} {l : List Nat} {e : Nat} : sl p.j = some i → Way m sl (adv m p) l e → Way m sl p (i :: l) e
variable {m : Nat} {sl : Nat → Option Nat}
theorem Way.free {p : Probe} {l : List Nat} {e : Nat} (w : Way m sl p l e) : sl e = none := by
 induction w with
 | stop h => exact h
 | live _ _ ih => exact ih
theorem run {i q : Nat} : ∀ (r j : Nat), (∃ l e, Way m sl ⟨j, r, i, q, none⟩ l e ∧ l.length ≤ r) ∨
  ((∀ k, k ≤ r → ∃ x, sl (j + k) = some x) ∧ ∀ l e, Way m sl (blk m (leap m i q).1 (leap m i q).2) l e → ∃ l2, Way m sl ⟨j, r, i, q, none⟩ l2 e ∧ l2.length = l.length + r + 1)
 | 0, j => by
  cases hs : sl j with
  | none => exact .inl ⟨[], j, .stop (p := ⟨j, 0, i, q, none⟩) hs, Nat.le_refl _⟩
  | some x =>
   refine .inr ⟨fun k hk => ?_, fun l e w => ⟨x :: l, .live (p := ⟨j, 0, i, q, none⟩) hs w, rfl⟩⟩
   have : k = 0 := by omega
   subst this
   exact ⟨x, hs⟩
 | r + 1, j => by
  cases hs : sl j with
  | none => exact .inl ⟨[], j, .stop (p := ⟨j, r + 1, i, q, none⟩) hs, Nat.zero_le _⟩
  | some x =>
   rcases run (i := i) (q := q) r (j + 1) with ⟨l, e, w, hl⟩ | ⟨hk, h⟩
   ·exact .inl ⟨x :: l, e, .live (p := ⟨j, r + 1, i, q, none⟩) hs w, Nat.succ_le_succ hl⟩
   ·refine .inr ⟨fun k hk' => ?_, fun l e w => ?_⟩
    ·cases k with
     | zero => exact ⟨x, hs⟩
     | succ k => have := hk k (by omega); rwa [show j + 1 + k = j + (k + 1) by omega] at this
    ·obtain ⟨l2, w2, h2⟩ := h l e w
     exact ⟨x :: l2, .live (p := ⟨j, r + 1, i, q, none⟩) hs w2, by simp [h2]; omega⟩
theorem runEnd_le (m i : Nat) : runEnd m i - i ≤ 9 := by unfold runEnd; split <;> omega
theorem way_ex {e0 c : Nat} (hc : ∀ i, runEnd m i - i ≤ c) (hf : sl e0 = none) : ∀ (k i q : Nat), meets m e0 k i q = true → ∃ l e, Way m sl (blk m i q) l e ∧ l.length ≤ k * (c + 1) + c
 | 0, i, q, h => by
  have : i = e0 := by simpa [meets] using h
  subst this
  exact ⟨[], i, .stop (p := blk m i q) hf, Nat.zero_le _⟩
 | k + 1, i, q, h => by
  rcases run (m := m) (sl := sl) (i := i) (q := q) (runEnd m i - i) i with ⟨l, e, w, hl⟩ | ⟨hk, hw⟩
  ·exact ⟨l, e, w, by have := hc i; omega⟩
  ·have h' : (i == e0 || meets m e0 k (leap m i q).1 (leap m i q).2) = true := h
   rw [Bool.or_eq_true] at h'
   rcases h' with h' | h'
   ·obtain ⟨x, hx⟩ := hk 0 (Nat.zero_le _)
    have : i = e0 := by simpa using h'
    rw [Nat.add_zero, this, hf] at hx; cases hx
   ·obtain ⟨l, e, w, hl⟩ := way_ex hc hf k _ _ h'
    obtain ⟨l2, w2, h2⟩ := hw l e w
    exact ⟨l2, e, w2, by have := hc i; rw [Nat.succ_mul]; omega⟩
theorem way_start {e0 : Nat} (hm : GoodM m) (he : e0 ≤ m) (hf : sl e0 = none) (h : Int) :
  ∃ l e, Way m sl (blk m (bits h % (m + 1)) (bits h)) l e ∧ l.length < 10 * turns m := by
 have hx := meets_all (i := bits h % (m + 1)) h hm he (Nat.le_of_lt_succ (Nat.mod_lt _ (Nat.succ_pos m)))
 rcases hm with rfl | rfl
 ·obtain ⟨l, e, w, hl⟩ := way_ex (c := 0) (fun i => by unfold runEnd; split <;> omega) hf 44 _ _ hx
  exact ⟨l, e, w, by unfold turns; omega⟩
 ·obtain ⟨l, e, w, hl⟩ := way_ex (c := 9) (fun i => runEnd_le 31 i) hf 44 _ _ hx
  exact ⟨l, e, w, by unfold turns; omega⟩
theorem Way.le {p : Probe} {l : List Nat} {e : Nat} (w : Way m sl p l e) (hp : p.j + p.more ≤ m) : e ≤ m := by
 induction w with
 | @stop p _ => omega
 | @live p i l e h _ ih =>
  refine ih ?_
  unfold adv
  split
  ·show p.j + 1 + (p.more - 1) ≤ m; omega
  ·show (leap m p.i p.perturb).1 + (runEnd m (leap m p.i p.perturb).1 - (leap m p.i p.perturb).1) ≤ m
   have := leap_le m p.i p.perturb
   unfold runEnd; split <;> omega
theorem blk_le {i q : Nat} (hi : i ≤ m) : (blk m i q).j + (blk m i q).more ≤ m := by
 show i + (runEnd m i - i) ≤ m
 unfold runEnd; split <;> omega
theorem Way.ren {sl' : Nat → Option Nat} {ρ : Nat → Nat} (hs : ∀ j, sl' j = (sl j).map ρ) {p : Probe} {l : List Nat} {e : Nat} (w : Way m sl p l e) : Way m sl' p (l.map ρ) e := by
 induction w with
 | stop h => exact .stop (by rw [hs, h]; rfl)
 | live h _ ih => exact .live (by rw [hs, h]; rfl) ih
theorem Way.more {sl' : Nat → Option Nat} {ρ : Nat → Nat} {e0 x : Nat} (h0 : sl e0 = none) (h1 : sl' e0 = some x) (hs : ∀ j, j ≠ e0 → sl' j = (sl j).map ρ) {p : Probe} {l l' : List Nat} {e e' : Nat}
  (w : Way m sl p l e) (w' : Way m sl' p l' e') : (∀ i ∈ l, ρ i ∈ l') ∧ (e = e0 → x ∈ l') := by
 induction w generalizing l' e' with
 | @stop p h =>
  refine ⟨fun i hi => (by cases hi), fun he => ?_⟩
  cases w' with
  | stop h' => rw [he, h1] at h'; cases h'
  | live h' _ => rw [he, h1] at h'; cases h'; exact List.mem_cons_self
 | @live p i l e h _ ih =>
  have hne : p.j ≠ e0 := fun z => by rw [z, h0] at h; cases h
  have hq := hs p.j hne
  rw [h] at hq
  cases w' with
  | stop h' => rw [hq] at h'; cases h'
  | live h' t =>
   rw [hq] at h'; cases h'
   obtain ⟨a, b⟩ := ih t
   exact ⟨fun k hk => by
    rcases List.mem_cons.mp hk with rfl | hk
    ·exact List.mem_cons_self
    ·exact List.mem_cons_of_mem _ (a k hk), fun he => List.mem_cons_of_mem _ (b he)⟩
end STb
namespace STb
open PySem PySem.SetTable
noncomputable def Ris (xs : Array Nat) : Prop := ∀ i k u v : Nat, i < k → xs[i]? = some u → xs[k]? = some v → u < v
theorem get_lt {α : Type} {xs : Array α} {i : Nat} {v : α} (h : xs[i]? = some v) : i < xs.size := by
 rcases Nat.lt_or_ge i xs.size with q | q
 ·exact q
 ·rw [Array.getElem?_eq_none q] at h; cases h
theorem below_go {xs : Array Nat} {j : Nat} (hr : Ris xs) : ∀ (fuel lo hi : Nat), lo ≤ hi → hi ≤ xs.size → hi - lo ≤ fuel →
  (∀ i u, i < lo → xs[i]? = some u → u < j) → (∀ i u, hi ≤ i → xs[i]? = some u → j ≤ u) →
  below.go xs j fuel lo hi ≤ xs.size ∧ (∀ i u, i < below.go xs j fuel lo hi → xs[i]? = some u → u < j) ∧ ∀ i u, below.go xs j fuel lo hi ≤ i → xs[i]? = some u → j ≤ u
 | 0, lo, hi, h1, h2, h3, a, b => by
  have : lo = hi := by omega
  subst this
  exact ⟨h2, a, b⟩
 | fuel + 1, lo, hi, h1, h2, h3, a, b => by
  unfold below.go
  by_cases hl : lo < hi
  ·rw [if_pos hl]
   dsimp only
   have hmid : (lo + hi) / 2 < xs.size := by omega
   obtain ⟨v, hv⟩ : ∃ v, xs[(lo + hi) / 2]? = some v := ⟨_, Array.getElem?_eq_getElem hmid⟩
   have hg : xs.getD ((lo + hi) / 2) j = v := by rw [Array.getD_eq_getD_getElem?, hv]; rfl
   rw [hg]
   by_cases hc : v < j
   ·rw [if_pos hc]
    refine below_go hr fuel _ _ (by omega) h2 (by omega) (fun i u hi' hu => ?_) b
    rcases Nat.lt_or_ge i ((lo + hi) / 2) with q | q
    ·exact Nat.lt_trans (hr i _ u v q hu hv) hc
    ·have : i = (lo + hi) / 2 := by omega
     subst this
     rw [hv] at hu; cases hu; exact hc
   ·rw [if_neg hc]
    refine below_go hr fuel _ _ (by omega) (by omega) (by omega) a (fun i u hi' hu => ?_)
    rcases Nat.lt_or_ge ((lo + hi) / 2) i with q | q
    ·have := hr _ i v u q hv hu; omega
    ·have : i = (lo + hi) / 2 := by omega
     subst this
     rw [hv] at hu; cases hu; omega
  ·rw [if_neg hl]
   have : lo = hi := by omega
   subst this
   exact ⟨h2, a, b⟩
theorem below_ok {xs : Array Nat} (hr : Ris xs) (j : Nat) : below xs j ≤ xs.size ∧ (∀ i u, i < below xs j → xs[i]? = some u → u < j) ∧ ∀ i u, below xs j ≤ i → xs[i]? = some u → j ≤ u :=
 below_go hr xs.size 0 xs.size (Nat.zero_le _) (Nat.le_refl _) (Nat.le_refl _) (fun i u h => absurd h (Nat.not_lt_zero _)) (fun i u h q => by have := get_lt q; omega)
theorem Ris.inj {xs : Array Nat} (hr : Ris xs) {i k u : Nat} (a : xs[i]? = some u) (b : xs[k]? = some u) : i = k := by
 rcases Nat.lt_trichotomy i k with q | q | q
 ·have := hr _ _ _ _ q a b; omega
 ·exact q
 ·have := hr _ _ _ _ q b a; omega
theorem below_at {xs : Array Nat} (hr : Ris xs) {i j : Nat} (h : xs[i]? = some j) : below xs j = i := by
 obtain ⟨h1, h2, h3⟩ := below_ok hr j
 rcases Nat.lt_trichotomy (below xs j) i with q | q | q
 ·obtain ⟨v, hv⟩ : ∃ v, xs[below xs j]? = some v := ⟨_, Array.getElem?_eq_getElem (Nat.lt_trans q (get_lt h))⟩
  have := h3 _ _ (Nat.le_refl _) hv
  have := hr _ _ _ _ q hv h
  omega
 ·exact q
 ·have := h2 _ _ q h; omega
noncomputable def sl (t : SetTable) (j : Nat) : Option Nat := match t.slot j with | .live i => some i | _ => none
theorem has_none (j : Nat) : has #[] j = false := by
 unfold has
 simp
theorem slot_of {t : SetTable} (hd : t.dummies = #[]) (hr : Ris t.place) (j : Nat) :
  (∃ i : Nat, t.place[i]? = some j ∧ t.slot j = .live i ∧ sl t j = some i) ∨ ((∀ i : Nat, t.place[i]? ≠ some j) ∧ t.slot j = .empty ∧ sl t j = none) := by
 by_cases h : ∃ i : Nat, t.place[i]? = some j
 ·obtain ⟨i, hi⟩ := h
  have e : t.slot j = .live i := by
   unfold slot
   rw [below_at hr hi]
   dsimp only
   rw [hi]
   simp
  exact .inl ⟨i, hi, e, by unfold sl; rw [e]⟩
 ·have h' : ∀ i : Nat, t.place[i]? ≠ some j := fun i q => h ⟨i, q⟩
  have e : t.slot j = .empty := by
   unfold slot
   have : (t.place[below t.place j]? == some j) = false := by
    cases q : (t.place[below t.place j]? == some j)
    ·rfl
    ·exact absurd (eq_of_beq q) (h' _)
   simp only [this, hd, has_none]
   simp
  exact .inr ⟨h', e, by unfold sl; rw [e]⟩
theorem sl_some {t : SetTable} (hd : t.dummies = #[]) (hr : Ris t.place) {j i : Nat} : sl t j = some i ↔ t.place[i]? = some j := by
 rcases slot_of hd hr j with ⟨k, a, _, b⟩ | ⟨a, _, b⟩
 ·rw [b]
  constructor
  ·intro q; cases q; exact a
  ·intro q; rw [hr.inj q a]
 ·rw [b]
  constructor
  ·intro q; cases q
  ·intro q; exact absurd q (a i)
theorem slot_live {t : SetTable} (hd : t.dummies = #[]) (hr : Ris t.place) {j i : Nat} (h : sl t j = some i) : t.slot j = .live i := by
 rcases slot_of hd hr j with ⟨k, a, c, b⟩ | ⟨a, _, b⟩
 ·rw [b] at h; cases h; exact c
 ·rw [b] at h; cases h
theorem slot_empty {t : SetTable} (hd : t.dummies = #[]) (hr : Ris t.place) {j : Nat} (h : sl t j = none) : t.slot j = .empty := by
 rcases slot_of hd hr j with ⟨k, a, c, b⟩ | ⟨a, c, b⟩
 ·rw [b] at h; cases h
 ·exact c
structure Tab (es : Array (Int × Value)) (t : SetTable) : Prop where
 sz : t.place.size = es.size
 dm : t.dummies = #[]
 ris : Ris t.place
 le : ∀ i j : Nat, t.place[i]? = some j → j ≤ t.mask
 m : GoodM t.mask
 room : es.size * 5 < t.mask * 3
 reach : ∀ (i : Nat) (h : Int) (x : Value), es[i]? = some (h, x) → ∀ l e, Way t.mask (sl t) (t.probeStart h) l e → i ∈ l
theorem Tab.fill {es : Array (Int × Value)} {t : SetTable} (T : Tab es t) : t.fill = es.size := by
 unfold SetTable.fill; rw [T.dm, T.sz]; rfl
theorem Tab.fits {es : Array (Int × Value)} {t : SetTable} (T : Tab es t) : t.fits es.size = true := by
 unfold SetTable.fits
 rw [T.fill, T.sz]
 have := T.room
 simp
 omega
theorem Tab.odd {es : Array (Int × Value)} {t : SetTable} (T : Tab es t) : t.gaveWay = false := by
 unfold SetTable.gaveWay
 rcases T.m with h | h <;> rw [h] <;> rfl
theorem free_ex {t : SetTable} (hd : t.dummies = #[]) (hr : Ris t.place) (hs : t.place.size ≤ t.mask) : ∃ e, e ≤ t.mask ∧ sl t e = none := by
 apply Classical.byContradiction
 intro hn
 have all : ∀ e, e ≤ t.mask → ∃ i : Nat, t.place[i]? = some e := fun e he => by
  rcases slot_of hd hr e with ⟨k, a, _, _⟩ | ⟨_, _, b⟩
  ·exact ⟨k, a⟩
  ·exact absurd ⟨e, he, b⟩ hn
 have up : ∀ e, e ≤ t.mask → ∃ i : Nat, e ≤ i ∧ t.place[i]? = some e := by
  intro e
  induction e with
  | zero => intro he; obtain ⟨i, hi⟩ := all 0 he; exact ⟨i, Nat.zero_le _, hi⟩
  | succ e ih =>
   intro he
   obtain ⟨i, h1, h2⟩ := ih (by omega)
   obtain ⟨k, hk⟩ := all (e + 1) he
   refine ⟨k, ?_, hk⟩
   rcases Nat.lt_trichotomy k i with q | q | q
   ·have := hr _ _ _ _ q hk h2; omega
   ·subst q; rw [h2] at hk; cases hk
   ·omega
 obtain ⟨i, h1, h2⟩ := up t.mask (Nat.le_refl _)
 have := get_lt h2
 omega
theorem Tab.way {es : Array (Int × Value)} {t : SetTable} (T : Tab es t) (h : Int) : ∃ l e, Way t.mask (sl t) (t.probeStart h) l e ∧ l.length < 10 * turns t.mask := by
 obtain ⟨e, he, hf⟩ := free_ex T.dm T.ris (by rw [T.sz]; have := T.room; omega)
 exact way_start T.m he hf h
theorem start_le (t : SetTable) (h : Int) : (t.probeStart h).j + (t.probeStart h).more ≤ t.mask := by
 rw [start_eq]
 exact blk_le (Nat.le_of_lt_succ (Nat.mod_lt _ (Nat.succ_pos _)))
theorem insert_at {α : Type} {xs : Array α} {p : Nat} {x : α} (hp : p ≤ xs.size) (i : Nat) :
  (insertAt xs p x)[i]? = if i < p then xs[i]? else if i = p then some x else xs[i - 1]? := by
 have e : (insertAt xs p x)[i]? = (xs.toList.take p ++ x :: xs.toList.drop p)[i]? := by
  rw [← Array.getElem?_toList]
  congr 1
  simp [insertAt, List.extract_eq_take_drop, List.take_of_length_le]
 rw [e]
 have hl : (xs.toList.take p).length = p := by rw [List.length_take]; simp; omega
 by_cases h1 : i < p
 ·rw [if_pos h1, List.getElem?_append_left (by rw [hl]; exact h1), List.getElem?_take_of_lt h1, Array.getElem?_toList]
 ·rw [if_neg h1, List.getElem?_append_right (by rw [hl]; omega), hl]
  by_cases h2 : i = p
  ·rw [if_pos h2, h2, Nat.sub_self]; rfl
  ·rw [if_neg h2]
   obtain ⟨k, hk⟩ : ∃ k, i - p = k + 1 := ⟨i - p - 1, by omega⟩
   rw [hk, List.getElem?_cons_succ, List.getElem?_drop, Array.getElem?_toList]
   congr 1; omega
theorem insert_size {α : Type} {xs : Array α} {p : Nat} {x : α} (hp : p ≤ xs.size) : (insertAt xs p x).size = xs.size + 1 := by
 have e : (insertAt xs p x).toList = xs.toList.take p ++ x :: xs.toList.drop p := by
  simp [insertAt, List.extract_eq_take_drop, List.take_of_length_le]
 rw [← Array.length_toList, e]
 simp; omega
structure Tab0 (es : Array (Int × Value)) (t : SetTable) : Prop where
 sz : t.place.size = es.size
 dm : t.dummies = #[]
 ris : Ris t.place
 le : ∀ i j : Nat, t.place[i]? = some j → j ≤ t.mask
 m : GoodM t.mask
 reach : ∀ (i : Nat) (h : Int) (x : Value), es[i]? = some (h, x) → ∀ l e, Way t.mask (sl t) (t.probeStart h) l e → i ∈ l
theorem Tab0.tab {es : Array (Int × Value)} {t : SetTable} (T : Tab0 es t) (h : es.size * 5 < t.mask * 3) : Tab es t := ⟨T.sz, T.dm, T.ris, T.le, T.m, h, T.reach⟩
theorem put_eq {es : Array (Int × Value)} {t : SetTable} (T : Tab es t) (e : Nat) : t.put e = ({ t with place := insertAt t.place (below t.place e) e }, below t.place e) := by
 unfold put
 rw [T.dm, has_none]
 cases t
 have := T.dm
 dsimp only at this
 subst this
 rfl
theorem Tab.put {es : Array (Int × Value)} {t : SetTable} (T : Tab es t) {h : Int} {x : Value} {l : List Nat} {e : Nat} (w : Way t.mask (sl t) (t.probeStart h) l e) :
  Tab0 (insertAt es (below t.place e) (h, x)) { t with place := insertAt t.place (below t.place e) e } := by
 obtain ⟨b1, b2, b3⟩ := below_ok T.ris e
 have hfree := w.free
 have hno : ∀ i : Nat, t.place[i]? ≠ some e := fun i q => by rw [(sl_some T.dm T.ris).2 q] at hfree; cases hfree
 have hle : e ≤ t.mask := w.le (start_le t h)
 have hpe : below t.place e ≤ es.size := by rw [← T.sz]; exact b1
 have hris : Ris (insertAt t.place (below t.place e) e) := by
  intro i k u v hik hu hv
  rw [insert_at b1] at hu hv
  by_cases i1 : i < below t.place e
  ·rw [if_pos i1] at hu
   by_cases k1 : k < below t.place e
   ·rw [if_pos k1] at hv; exact T.ris _ _ _ _ hik hu hv
   ·rw [if_neg k1] at hv
    by_cases k2 : k = below t.place e
    ·rw [if_pos k2] at hv; cases hv; exact b2 _ _ i1 hu
    ·rw [if_neg k2] at hv; exact T.ris _ _ _ _ (by omega) hu hv
  ·rw [if_neg i1] at hu
   rw [if_neg (by omega)] at hv
   rw [if_neg (by omega)] at hv
   by_cases i2 : i = below t.place e
   ·rw [if_pos i2] at hu; cases hu
    have := b3 _ _ (by omega) hv
    rcases Nat.lt_or_ge e v with q | q
    ·exact q
    ·have : e = v := by omega
     subst this
     exact absurd hv (hno _)
   ·rw [if_neg i2] at hu
    exact T.ris _ _ _ _ (by omega) hu hv
 refine ⟨?_, T.dm, hris, ?_, T.m, ?_⟩
 ·show (insertAt t.place _ e).size = _
  rw [insert_size b1, insert_size hpe, T.sz]
 ·intro i j hj
  have hj' : (insertAt t.place (below t.place e) e)[i]? = some j := hj
  rw [insert_at b1] at hj'
  split at hj'
  ·exact T.le _ _ hj'
  ·split at hj'
   ·cases hj'; exact hle
   ·exact T.le _ _ hj'
 ·intro i h' x' hi l' e' w'
  have hs1 : sl { t with place := insertAt t.place (below t.place e) e } e = some (below t.place e) :=
   (sl_some (t := { t with place := insertAt t.place (below t.place e) e }) T.dm hris).2 (by
    show (insertAt t.place (below t.place e) e)[below t.place e]? = some e
    rw [insert_at b1, if_neg (Nat.lt_irrefl _), if_pos rfl])
  have hs2 : ∀ j, j ≠ e → sl { t with place := insertAt t.place (below t.place e) e } j = (sl t j).map fun i => if i < below t.place e then i else i + 1 := by
   intro j hj
   rcases slot_of T.dm T.ris j with ⟨k, a, _, b⟩ | ⟨a, _, b⟩
   ·rw [b]
    refine (sl_some (t := { t with place := insertAt t.place (below t.place e) e }) T.dm hris).2 ?_
    show (insertAt t.place (below t.place e) e)[if k < below t.place e then k else k + 1]? = some j
    rw [insert_at b1]
    split
    ·exact a
    ·rename_i hk; rw [if_neg (by omega), if_neg (by omega)]; exact a
   ·rw [b]
    rcases slot_of (t := { t with place := insertAt t.place (below t.place e) e }) T.dm hris j with ⟨k, a', _, b'⟩ | ⟨a', _, b'⟩
    ·exfalso
     have a2 : (insertAt t.place (below t.place e) e)[k]? = some j := a'
     rw [insert_at b1] at a2
     split at a2
     ·exact a _ a2
     ·split at a2
      ·cases a2; exact hj rfl
      ·exact a _ a2
    ·rw [b']; rfl
  rw [insert_at hpe] at hi
  by_cases i1 : i < below t.place e
  ·rw [if_pos i1] at hi
   obtain ⟨l0, e0, w0, _⟩ := T.way h'
   have := (w0.more hfree hs1 hs2 w').1 i (T.reach i h' x' hi _ _ w0)
   rwa [if_pos i1] at this
  ·rw [if_neg i1] at hi
   by_cases i2 : i = below t.place e
   ·rw [if_pos i2] at hi
    cases hi
    rw [i2]
    exact (w.more hfree hs1 hs2 w').2 rfl
   ·rw [if_neg i2] at hi
    obtain ⟨l0, e0, w0, _⟩ := T.way h'
    have := (w0.more hfree hs1 hs2 w').1 (i - 1) (T.reach (i - 1) h' x' hi _ _ w0)
    rw [if_neg (by omega)] at this
    rwa [show i - 1 + 1 = i by omega] at this
end STb
namespace STb
open PySem PySem.SetTable
theorem pigeon : ∀ (n : Nat) (f : Nat → Nat), (∀ i j, i ≤ n → j ≤ n → f i = f j → i = j) → (∀ i, i ≤ n → f i < n) → False
 | 0, f, _, hl => absurd (hl 0 (Nat.le_refl _)) (Nat.not_lt_zero _)
 | n + 1, f, hi, hl => by
  refine pigeon n (fun i => if f i = n then f (n + 1) else f i) (fun i j h1 h2 h => ?_) (fun i h1 => ?_)
  ·have a1 : f i ≠ f (n + 1) := fun q => by have := hi i (n + 1) (by omega) (by omega) q; omega
   have a2 : f j ≠ f (n + 1) := fun q => by have := hi j (n + 1) (by omega) (by omega) q; omega
   have a3 := hi i j (by omega) (by omega)
   split at h
   ·split at h
    ·exact a3 (by omega)
    ·exact absurd h.symm a2
   ·split at h
    ·exact absurd h a1
    ·exact a3 h
  ·have a1 : f i ≠ f (n + 1) := fun q => by have := hi i (n + 1) (by omega) (by omega) q; omega
   have a2 := hl i (by omega)
   have a3 := hl (n + 1) (by omega)
   split <;> omega
noncomputable def osl (ow : Array (Option Nat)) (j : Nat) : Option Nat := ow.getD j none
structure Own (m : Nat) (hs : List Int) (ow : Array (Option Nat)) : Prop where
 sz : ow.size = m + 1
 lt : ∀ j k : Nat, osl ow j = some k → k < hs.length
 inj : ∀ j j' k : Nat, osl ow j = some k → osl ow j' = some k → j = j'
 ex : ∀ k : Nat, k < hs.length → ∃ j, osl ow j = some k
 reach : ∀ (k : Nat) (h : Int), hs[k]? = some h → ∀ l e, Way m (osl ow) (blk m (bits h % (m + 1)) (bits h)) l e → k ∈ l
theorem osl_le {m : Nat} {ow : Array (Option Nat)} (hs : ow.size = m + 1) {j k : Nat} (h : osl ow j = some k) : j ≤ m := by
 unfold osl at h
 rcases Nat.lt_or_ge j ow.size with q | q
 ·omega
 ·rw [Array.getD_eq_getD_getElem?, Array.getElem?_eq_none q] at h; cases h
theorem own_free {m : Nat} {hs : List Int} {ow : Array (Option Nat)} (O : Own m hs ow) (hl : hs.length ≤ m) : ∃ e, e ≤ m ∧ osl ow e = none := by
 apply Classical.byContradiction
 intro hn
 have all : ∀ e, e ≤ m → ∃ k, osl ow e = some k := fun e he => by
  cases q : osl ow e with
  | none => exact absurd ⟨e, he, q⟩ hn
  | some k => exact ⟨k, rfl⟩
 refine pigeon m (fun e => (osl ow e).getD 0) (fun i j hi hj h => ?_) (fun i hi => ?_)
 ·obtain ⟨k, hk⟩ := all i hi
  obtain ⟨k', hk'⟩ := all j hj
  rw [hk, hk'] at h
  have : k = k' := h
  subst this
  exact O.inj _ _ _ hk hk'
 ·obtain ⟨k, hk⟩ := all i hi
  rw [hk]
  exact Nat.lt_of_lt_of_le (O.lt _ _ hk) hl
theorem getD_some0 {ow : Array (Option Nat)} {j : Nat} (h : j < ow.size) : (ow.getD j (some 0)).isNone = (osl ow j).isNone := by
 unfold osl
 rw [Array.getD_eq_getD_getElem?, Array.getD_eq_getD_getElem?, Array.getElem?_eq_getElem h]; rfl
theorem free_way {m : Nat} {ow : Array (Option Nat)} (hz : ow.size = m + 1) : ∀ (fuel i q j : Nat), i ≤ m → layClean.free m ow fuel i q = some j → ∃ l, Way m (osl ow) (blk m i q) l j
 | 0, i, q, j, hi, h => by unfold layClean.free at h; cases h
 | fuel + 1, i, q, j, hi, h => by
  unfold layClean.free at h
  have hrun : ∀ r j0 : Nat, j0 + r ≤ m → ∀ k, (List.range (r + 1)).find? (fun k => (ow.getD (j0 + k) (some 0)).isNone) = some k → ∃ l, Way m (osl ow) ⟨j0, r, i, q, none⟩ l (j0 + k) := by
   intro r
   induction r with
   | zero =>
    intro j0 hj k hk
    have h1 := List.find?_some hk
    have h2 : k ∈ List.range (0 + 1) := List.mem_of_find?_eq_some hk
    rw [List.mem_range] at h2
    have : k = 0 := by omega
    subst this
    rw [getD_some0 (by rw [hz]; omega)] at h1
    exact ⟨[], .stop (p := ⟨j0, 0, i, q, none⟩) (by simpa using h1)⟩
   | succ r ih =>
    intro j0 hj k hk
    rw [List.range_succ_eq_map, List.find?_cons] at hk
    cases hs : osl ow j0 with
    | none =>
     rw [getD_some0 (by rw [hz]; omega), Nat.add_zero, hs] at hk
     cases hk
     exact ⟨[], .stop (p := ⟨j0, r + 1, i, q, none⟩) hs⟩
    | some x =>
     rw [getD_some0 (by rw [hz]; omega), Nat.add_zero, hs] at hk
     simp only [Option.isNone_some, List.find?_map] at hk
     cases hf : (List.range (r + 1)).find? (fun k => (ow.getD (j0 + 1 + k) (some 0)).isNone) with
     | none =>
      have : (List.range (r + 1)).find? ((fun k => (ow.getD (j0 + k) (some 0)).isNone) ∘ Nat.succ) = none := by
       rw [← hf]; congr 1; funext k; show (ow.getD (j0 + (k + 1)) (some 0)).isNone = _; rw [show j0 + (k + 1) = j0 + 1 + k by omega]
      rw [this] at hk; cases hk
     | some k' =>
      have : (List.range (r + 1)).find? ((fun k => (ow.getD (j0 + k) (some 0)).isNone) ∘ Nat.succ) = some k' := by
       rw [← hf]; congr 1; funext k; show (ow.getD (j0 + (k + 1)) (some 0)).isNone = _; rw [show j0 + (k + 1) = j0 + 1 + k by omega]
      rw [this] at hk
      have : k = k' + 1 := by cases hk; rfl
      subst this
      obtain ⟨l, w⟩ := ih (j0 + 1) (by omega) k' hf
      exact ⟨x :: l, .live (p := ⟨j0, r + 1, i, q, none⟩) hs (by rw [show j0 + (k' + 1) = j0 + 1 + k' by omega]; exact w)⟩
  have hre : i ≤ runEnd m i := by unfold runEnd; split <;> omega
  have hrm : runEnd m i ≤ m := by unfold runEnd; split <;> omega
  have hn : runEnd m i + 1 - i = (runEnd m i - i) + 1 := by omega
  rw [hn] at h
  cases hf : (List.range (runEnd m i - i + 1)).find? (fun k => (ow.getD (i + k) (some 0)).isNone) with
  | some k =>
   rw [hf] at h
   have : j = i + k := by cases h; rfl
   subst this
   exact hrun _ i (by omega) k hf
  | none =>
   rw [hf] at h
   obtain ⟨l, w⟩ := free_way hz fuel _ _ j (leap_le m i q) h
   rcases run (m := m) (sl := osl ow) (i := i) (q := q) (runEnd m i - i) i with ⟨l', e', w', hl'⟩ | ⟨_, hw⟩
   ·exfalso
    have key : ∀ (r j0 : Nat) (l' : List Nat) (e' : Nat), j0 + r ≤ m → (∀ k, k ≤ r → (osl ow (j0 + k)).isNone = false) → Way m (osl ow) ⟨j0, r, i, q, none⟩ l' e' → r + 1 ≤ l'.length := by
     intro r
     induction r with
     | zero =>
      intro j0 l' e' _ ha w
      cases w with
      | stop hs => have := ha 0 (Nat.le_refl _); rw [Nat.add_zero, hs] at this; cases this
      | live _ _ => simp
     | succ r ih =>
      intro j0 l' e' hj ha w
      cases w with
      | stop hs => have := ha 0 (Nat.zero_le _); rw [Nat.add_zero, hs] at this; cases this
      | live _ w2 =>
       have := ih (j0 + 1) _ _ (by omega) (fun k hk => by have := ha (k + 1) (by omega); rwa [show j0 + 1 + k = j0 + (k + 1) by omega]) w2
       simp; omega
    have := key _ i l' e' (by omega) (fun k hk => by
     rw [← getD_some0 (by rw [hz]; omega)]
     have := List.find?_eq_none.mp hf k (List.mem_range.mpr (by omega))
     exact Bool.eq_false_iff.mpr this) w'
    omega
   ·obtain ⟨l2, w2, _⟩ := hw l j w
    exact ⟨l2, w2⟩
theorem free_ex2 {m e0 : Nat} {ow : Array (Option Nat)} (hz : ow.size = m + 1) (hf : osl ow e0 = none) (he : e0 ≤ m) : ∀ (k fuel i q : Nat), k < fuel → meets m e0 k i q = true → ∃ j, layClean.free m ow fuel i q = some j
 | k, 0, i, q, hk, h => absurd hk (Nat.not_lt_zero _)
 | k, fuel + 1, i, q, hk, h => by
  unfold layClean.free
  cases hs : (List.range (runEnd m i + 1 - i)).find? (fun k => (ow.getD (i + k) (some 0)).isNone) with
  | some k => exact ⟨i + k, rfl⟩
  | none =>
   dsimp only
   have hne : i ≠ e0 := fun z => by
    subst z
    have := List.find?_eq_none.mp hs 0 (List.mem_range.mpr (by unfold runEnd; split <;> omega))
    rw [Nat.add_zero, getD_some0 (by rw [hz]; omega), hf] at this
    exact this rfl
   cases k with
   | zero => exact absurd (by simpa [meets] using h) hne
   | succ k =>
    have h' : (i == e0 || meets m e0 k (leap m i q).1 (leap m i q).2) = true := h
    rw [Bool.or_eq_true] at h'
    rcases h' with h' | h'
    ·exact absurd (by simpa using h') hne
    ·exact free_ex2 hz hf he k fuel _ _ (by omega) h'
theorem osl_set {ow : Array (Option Nat)} {j k : Nat} (hj : j < ow.size) (j' : Nat) : osl (ow.setIfInBounds j (some k)) j' = if j' = j then some k else osl ow j' := by
 unfold osl
 rw [Array.getD_eq_getD_getElem?, Array.getD_eq_getD_getElem?, Array.getElem?_setIfInBounds]
 by_cases h : j' = j
 ·subst h; simp [hj]
 ·rw [if_neg (fun z => h z.symm), if_neg h]
theorem own_step {m : Nat} {hs : List Int} {ow : Array (Option Nat)} (hm : m = 31) (O : Own m hs ow) (hl : hs.length ≤ m) (h : Int) :
  ∃ j, layClean.free m ow (turns m) (bits h % (m + 1)) (bits h) = some j ∧ Own m (hs ++ [h]) (ow.setIfInBounds j (some hs.length)) := by
 obtain ⟨e, he, hf⟩ := own_free O hl
 have hi : bits h % (m + 1) ≤ m := Nat.le_of_lt_succ (Nat.mod_lt _ (Nat.succ_pos m))
 obtain ⟨j, hj⟩ := free_ex2 O.sz hf he 44 (turns m) _ _ (by unfold turns; omega) (meets_all h (.inr hm) he hi)
 obtain ⟨l, w⟩ := free_way O.sz _ _ _ _ hi hj
 have hjm : j ≤ m := w.le (blk_le hi)
 have hjs : j < ow.size := by rw [O.sz]; omega
 have hfr := w.free
 have hset := fun j' => osl_set (k := hs.length) hjs j'
 refine ⟨j, hj, ⟨by simp [O.sz], ?_, ?_, ?_, ?_⟩⟩
 ·intro j' k hk
  rw [hset] at hk
  rw [List.length_append]
  show k < hs.length + 1
  split at hk
  ·cases hk; omega
  ·have := O.lt _ _ hk; omega
 ·intro a b k ha hb
  rw [hset] at ha hb
  split at ha
  ·split at hb
   ·omega
   ·cases ha; have := O.lt _ _ hb; omega
  ·split at hb
   ·cases hb; have := O.lt _ _ ha; omega
   ·exact O.inj _ _ _ ha hb
 ·intro k hk
  rw [List.length_append] at hk
  have hk' : k < hs.length + 1 := hk
  by_cases q : k = hs.length
  ·exact ⟨j, by rw [hset, if_pos rfl, q]⟩
  ·obtain ⟨j', hj'⟩ := O.ex k (by omega)
   refine ⟨j', ?_⟩
   rw [hset, if_neg (fun z => by rw [z, hfr] at hj'; cases hj')]
   exact hj'
 ·intro k h' hk l' e' w'
  have hs1 : osl (ow.setIfInBounds j (some hs.length)) j = some hs.length := by rw [hset, if_pos rfl]
  have hs2 : ∀ j', j' ≠ j → osl (ow.setIfInBounds j (some hs.length)) j' = (osl ow j').map id := fun j' q => by rw [hset, if_neg q, Option.map_id]; rfl
  by_cases q : k < hs.length
  ·rw [List.getElem?_append_left q] at hk
   obtain ⟨l0, e0, w0, _⟩ := way_start (m := m) (sl := osl ow) (.inr hm) he hf h'
   exact (w0.more hfr hs1 hs2 w').1 k (O.reach k h' hk _ _ w0)
  ·rw [List.getElem?_append_right (by omega)] at hk
   have hkk : k = hs.length := by
    rcases Nat.lt_or_ge (k - hs.length) 1 with z | z
    ·omega
    ·rw [List.getElem?_eq_none (by simpa using z)] at hk; cases hk
   subst hkk
   rw [Nat.sub_self] at hk
   cases hk
   exact (w.more hfr hs1 hs2 w').2 rfl
theorem own_nil (m : Nat) : Own m [] (Array.replicate (m + 1) none) := by
 have h0 : ∀ j, osl (Array.replicate (m + 1) none) j = none := fun j => by
  unfold osl
  rw [Array.getD_eq_getD_getElem?, Array.getElem?_replicate]
  split <;> rfl
 refine ⟨by simp, fun j k h => ?_, fun j j' k h => ?_, fun k hk => ?_, fun k h hk => ?_⟩
 ·rw [h0] at h; cases h
 ·rw [h0] at h; cases h
 ·exact absurd hk (Nat.not_lt_zero _)
 ·cases hk
theorem lay_fold {m : Nat} (hm : m = 31) : ∀ (todo done : List Int) (ow : Array (Option Nat)), Own m done ow → done.length + todo.length ≤ m →
  ∃ ow', todo.foldl (fun acc h => do
   let (owner, k) ← acc
   let j ← layClean.free m owner (turns m) (bits h % (m + 1)) (bits h)
   pure (owner.setIfInBounds j (some k), k + 1)) (some (ow, done.length)) = some (ow', done.length + todo.length) ∧ Own m (done ++ todo) ow'
 | [], done, ow, O, _ => ⟨ow, rfl, by rw [List.append_nil]; exact O⟩
 | h :: todo, done, ow, O, hl => by
  rw [List.length_cons] at hl
  obtain ⟨j, hj, O'⟩ := own_step hm O (by omega) h
  obtain ⟨ow', e, O2⟩ := lay_fold hm todo (done ++ [h]) _ O' (by rw [List.length_append, List.length_singleton]; omega)
  refine ⟨ow', ?_, by rw [List.append_assoc] at O2; exact O2⟩
  rw [List.foldl_cons]
  simp only [Option.bind_eq_bind, Option.bind_some, hj, List.length_append, List.length_singleton, Option.pure_def] at e ⊢
  rw [e, List.length_cons]
  congr 2; omega
theorem layClean_ok {m : Nat} (hm : m = 31) (hs : Array Int) (hl : hs.size ≤ m) : ∃ ow, layClean m hs = some ow ∧ Own m hs.toList ow := by
 obtain ⟨ow, e, O⟩ := lay_fold hm hs.toList [] _ (own_nil m) (by simpa using hl)
 refine ⟨ow, ?_, by simpa using O⟩
 unfold layClean
 rw [← Array.foldl_toList]
 have e' := e
 simp only [List.length_nil] at e'
 rw [e']
 rfl
end STb
namespace STb
open PySem PySem.SetTable
noncomputable def lives (m : Nat) (ow : Array (Option Nat)) : List (Nat × Nat) := (List.range (m + 1)).filterMap fun j => (ow.getD j none).map (j, ·)
theorem mem_lives {m : Nat} {ow : Array (Option Nat)} (hz : ow.size = m + 1) (j k : Nat) : (j, k) ∈ lives m ow ↔ osl ow j = some k := by
 unfold lives
 rw [List.mem_filterMap]
 constructor
 ·rintro ⟨i, _, h⟩
  cases q : ow.getD i none with
  | none => rw [q] at h; cases h
  | some x =>
   rw [q] at h
   have h1 : i = j := congrArg Prod.fst (Option.some.inj h)
   have h2 : x = k := congrArg Prod.snd (Option.some.inj h)
   rw [← h1, ← h2]; exact q
 ·intro h
  refine ⟨j, List.mem_range.mpr (by have := osl_le hz h; omega), ?_⟩
  have : ow.getD j none = some k := h
  rw [this]; rfl
theorem lives_rise (m : Nat) (ow : Array (Option Nat)) : (lives m ow).Pairwise (fun a b => a.1 < b.1) := by
 unfold lives
 rw [List.pairwise_filterMap]
 refine List.Pairwise.imp ?_ (List.pairwise_lt_range (n := m + 1))
 intro a b hab x hx y hy
 cases q : ow.getD a none with
 | none => rw [q] at hx; cases hx
 | some u =>
  cases q' : ow.getD b none with
  | none => rw [q'] at hy; cases hy
  | some v =>
   rw [q] at hx; rw [q'] at hy
   have h1 : (a, u) = x := Option.some.inj hx
   have h2 : (b, v) = y := Option.some.inj hy
   rw [← h1, ← h2]; exact hab
theorem lives_order {m : Nat} {hs : List Int} {ow : Array (Option Nat)} (O : Own m hs ow) : List.Perm ((lives m ow).map (·.2)) (List.range hs.length) := by
 rw [List.perm_ext_iff_of_nodup]
 ·intro k
  rw [List.mem_map, List.mem_range]
  constructor
  ·rintro ⟨⟨j, k'⟩, h, rfl⟩
   exact O.lt j k' ((mem_lives O.sz j k').mp h)
  ·intro h
   obtain ⟨j, hj⟩ := O.ex k h
   exact ⟨(j, k), (mem_lives O.sz j k).mpr hj, rfl⟩
 ·unfold List.Nodup
  rw [List.pairwise_map]
  refine List.Pairwise.imp_of_mem ?_ (lives_rise m ow)
  rintro ⟨a, k⟩ ⟨b, k'⟩ ha hb hab z
  have z' : k = k' := z
  subst z'
  have := O.inj _ _ _ ((mem_lives O.sz _ _).mp ha) ((mem_lives O.sz _ _).mp hb)
  have hab' : a < b := hab
  omega
 ·exact List.nodup_range
theorem Way.mem {m : Nat} {sl : Nat → Option Nat} {p : Probe} {l : List Nat} {e : Nat} (w : Way m sl p l e) : ∀ i ∈ l, ∃ j, sl j = some i := by
 induction w with
 | stop _ => intro i hi; cases hi
 | live h _ ih =>
  intro i hi
  rcases List.mem_cons.mp hi with rfl | hi
  ·exact ⟨_, h⟩
  ·exact ih i hi
theorem relaid_ok {es : Array (Int × Value)} {t : SetTable} (hsz : es.size ≤ 18) (wanted : Nat) (hw : sizeAbove wanted = 32) :
  ∃ t' order, t.relaid (es.map (·.1)) wanted = some (t', order) ∧ (order.filterMap (es[·]?)).size = es.size ∧ List.Perm (order.filterMap (es[·]?)).toList es.toList ∧
   Tab (order.filterMap (es[·]?)) t' ∧ t'.mask = 31 ∧ t'.led = t.led ∧ t'.plain = t.plain := by
 obtain ⟨ow, hlay, O⟩ := layClean_ok rfl (es.map (·.1)) (by simp; omega)
 have hlen : (es.map (·.1)).toList.length = es.size := by simp
 have hp := lives_order O
 rw [hlen] at hp
 have hmem := fun j k => mem_lives O.sz j k
 have hris := lives_rise 31 ow
 generalize hL : lives 31 ow = L at hp hmem hris
 have hLlen : L.length = es.size := by have := hp.length_eq; simpa using this
 have hat : ∀ n j k : Nat, L[n]? = some (j, k) → osl ow j = some k := fun n j k h => (hmem j k).mp (List.mem_of_getElem? h)
 have hval : ∀ k, k ∈ L.map (·.2) → k < es.size := fun k hk => List.mem_range.mp (hp.mem_iff.mp hk)
 have hfm : (L.map (·.2)).filterMap (fun k => es[k]?) = (L.map (·.2)).map (fun k => (es[k]?).getD (0, .none)) := by
  have : ∀ l : List Nat, (∀ k ∈ l, k < es.size) → l.filterMap (fun k => es[k]?) = l.map (fun k => (es[k]?).getD (0, .none)) := by
   intro l
   induction l with
   | nil => intro _; rfl
   | cons a l ih =>
    intro h
    rw [List.map_cons, ← ih (fun k hk => h k (List.mem_cons_of_mem _ hk)), List.filterMap_cons_some (b := (es[a]?).getD (0, .none))]
    rw [Array.getElem?_eq_getElem (h a List.mem_cons_self)]; rfl
  exact this _ hval
 have hes : ((L.map (·.2)).toArray.filterMap (es[·]?)).toList = L.map (fun q => (es[q.2]?).getD (0, .none)) := by
  rw [Array.toList_filterMap]
  show (L.map (·.2)).filterMap (fun k => es[k]?) = _
  rw [hfm, List.map_map]; rfl
 have hss : ((L.map (·.2)).toArray.filterMap (es[·]?)).size = es.size := by
  rw [← Array.length_toList, hes, List.length_map, hLlen]
 have hget : ∀ (n : Nat) (q : Int × Value), ((L.map (·.2)).toArray.filterMap (es[·]?))[n]? = some q → ∃ j k : Nat, L[n]? = some (j, k) ∧ es[k]? = some q := by
  intro n q h
  rw [← Array.getElem?_toList, hes, List.getElem?_map] at h
  cases hq : L[n]? with
  | none => rw [hq] at h; cases h
  | some jk =>
   obtain ⟨j, k⟩ := jk
   rw [hq] at h
   have hk : k < es.size := hval k (List.mem_map.mpr ⟨(j, k), List.mem_of_getElem? hq, rfl⟩)
   have h' : (es[k]?).getD (0, .none) = q := Option.some.inj h
   rw [Array.getElem?_eq_getElem hk] at h'
   exact ⟨j, k, rfl, by rw [Array.getElem?_eq_getElem hk]; exact congrArg some h'⟩
 have hpl : ∀ n j : Nat, (L.map (·.1)).toArray[n]? = some j ↔ ∃ k, L[n]? = some (j, k) := by
  intro n j
  rw [← Array.getElem?_toList]
  show (L.map (·.1))[n]? = some j ↔ _
  rw [List.getElem?_map]
  cases hq : L[n]? with
  | none => exact ⟨fun h => (by cases h), fun ⟨k, h⟩ => (by cases h)⟩
  | some jk =>
   obtain ⟨j', k⟩ := jk
   exact ⟨fun h => by have : j' = j := Option.some.inj h; exact ⟨k, by rw [this]⟩, fun ⟨k', h⟩ => by cases h; rfl⟩
 have hR : Ris (L.map (·.1)).toArray := by
  intro i k u v hik hu hv
  obtain ⟨a, ha⟩ := (hpl _ _).mp hu
  obtain ⟨b, hb⟩ := (hpl _ _).mp hv
  have hi := List.getElem?_eq_some_iff.mp ha
  have hk := List.getElem?_eq_some_iff.mp hb
  obtain ⟨h1, e1⟩ := hi
  obtain ⟨h2, e2⟩ := hk
  have := List.pairwise_iff_getElem.mp hris i k h1 h2 hik
  rw [e1, e2] at this
  exact this
 refine ⟨{ mask := 31, place := (L.map (·.1)).toArray, dummies := #[], finger := t.finger, led := t.led, moves := t.movedTo 31, plain := t.plain }, (L.map (·.2)).toArray, ?_, hss, ?_, ?_, rfl, rfl, rfl⟩
 ·unfold relaid laid
  rw [hw, hlay]
  have : (List.range (32 - 1 + 1)).filterMap (fun j => (ow.getD j none).map (j, ·)) = L := hL
  simp only [Option.bind_eq_bind, Option.bind_some, Option.pure_def]
  rw [this]
 ·rw [hes]
  have h1 : L.map (fun q => (es[q.2]?).getD (0, .none)) = (L.map (·.2)).map (fun k => (es[k]?).getD (0, .none)) := by rw [List.map_map]; rfl
  rw [h1]
  refine (hp.map _).trans ?_
  have : (List.range es.size).map (fun k => (es[k]?).getD (0, Value.none)) = es.toList := by
   refine List.ext_getElem? fun n => ?_
   rw [List.getElem?_map, Array.getElem?_toList (xs := es)]
   rcases Nat.lt_or_ge n es.size with q | q
   ·rw [List.getElem?_range q, Array.getElem?_eq_getElem q]
    show some ((es[n]?).getD (0, .none)) = _
    rw [Array.getElem?_eq_getElem q]; rfl
   ·rw [List.getElem?_eq_none (by simpa using q), Array.getElem?_eq_none q]; rfl
  rw [this]
 ·refine ⟨by rw [hss]; simp [hLlen], rfl, hR, ?_, .inr rfl, by rw [hss]; show es.size * 5 < 31 * 3; omega, ?_⟩
  ·intro i j h
   obtain ⟨k, hk⟩ := (hpl _ _).mp h
   exact osl_le O.sz (hat _ _ _ hk)
  ·intro n h x hn l e w
   obtain ⟨j, k, hLn, hek⟩ := hget n _ hn
   have hren : ∀ j', osl ow j' = (sl { mask := 31, place := (L.map (·.1)).toArray, dummies := #[], finger := t.finger, led := t.led, moves := t.movedTo 31, plain := t.plain } j').map (fun n => ((L[n]?).map (·.2)).getD 0) := by
    intro j'
    rcases slot_of (t := { mask := 31, place := (L.map (·.1)).toArray, dummies := #[], finger := t.finger, led := t.led, moves := t.movedTo 31, plain := t.plain }) rfl hR j' with ⟨i, a, _, b⟩ | ⟨a, _, b⟩
    ·rw [b]
     obtain ⟨k', hk'⟩ := (hpl _ _).mp a
     rw [hat _ _ _ hk', Option.map_some, hk']; rfl
    ·rw [b]
     cases hq : osl ow j' with
     | none => rfl
     | some k' =>
      obtain ⟨n', hn'⟩ := List.getElem?_of_mem ((hmem j' k').mpr hq)
      exact absurd ((hpl _ _).mpr ⟨k', hn'⟩) (a n')
   have w2 := w.ren hren
   have hin := O.reach k h (by
    rw [Array.getElem?_toList, Array.getElem?_map, hek]; rfl) _ _ w2
   obtain ⟨n', hn', hk'⟩ := List.mem_map.mp hin
   obtain ⟨j', hj'⟩ := w.mem n' hn'
   have hp' := (sl_some (t := { mask := 31, place := (L.map (·.1)).toArray, dummies := #[], finger := t.finger, led := t.led, moves := t.movedTo 31, plain := t.plain }) rfl hR).mp hj'
   obtain ⟨k2, hk2⟩ := (hpl _ _).mp hp'
   rw [hk2] at hk'
   have : k2 = k := hk'
   subst this
   have ej : j' = j := O.inj _ _ _ (hat _ _ _ hk2) (hat _ _ _ hLn)
   subst ej
   have : n' = n := hR.inj ((hpl _ _).mpr ⟨_, hk2⟩) ((hpl _ _).mpr ⟨_, hLn⟩)
   rw [← this]; exact hn'
theorem tab_fresh (led : Bool) : Tab #[] (.fresh 0 0 led) :=
 ⟨rfl, rfl, fun i k u v _ h => (by cases h), fun i j h => (by cases h), .inl rfl, (by show 0 * 5 < 7 * 3; decide), fun i h x hi => (by cases hi)⟩
end STb
namespace STb
open PySem PySem.SetTable
theorem probe_way {t : SetTable} (hd : t.dummies = #[]) (hr : Ris t.place) {f : Nat → Int} {h : Int} : ∀ {l : List Nat} {p : Probe} {e : Nat} (fuel : Nat), Way t.mask (sl t) p l e → p.dummy = none → l.length < fuel →
  (probe.go t f h fuel p = some (.empty e none) ∧ ∀ i ∈ l, f i ≠ h) ∨
  ∃ l1 i l2 q, l = l1 ++ i :: l2 ∧ (∀ k ∈ l1, f k ≠ h) ∧ f i = h ∧ sl t q.j = some i ∧ q.dummy = none ∧ Way t.mask (sl t) (t.advance q) l2 e ∧ probe.go t f h fuel p = some (.candidate q.j i (t.advance q)) := by
 intro l
 induction l with
 | nil =>
  intro p e fuel w hp hf
  cases fuel with
  | zero => exact absurd hf (Nat.not_lt_zero _)
  | succ fuel =>
   cases w with
   | stop hs =>
    refine .inl ⟨?_, fun i hi => (by cases hi)⟩
    unfold probe.go
    rw [slot_empty hd hr hs, hp]
 | cons i l ih =>
  intro p e fuel w hp hf
  cases fuel with
  | zero => exact absurd hf (Nat.not_lt_zero _)
  | succ fuel =>
   cases w with
   | live hs w2 =>
    have hdum : (t.advance p).dummy = none := by
     rw [advance_eq]; unfold adv; split <;> exact hp
    by_cases hh : f i = h
    ·refine .inr ⟨[], i, l, p, rfl, fun k hk => (by cases hk), hh, hs, hp, w2, ?_⟩
     unfold probe.go
     rw [slot_live hd hr hs]
     simp [hh]
    ·have hgo : probe.go t f h (fuel + 1) p = probe.go t f h fuel (t.advance p) := by
      rw [probe.go, slot_live hd hr hs]
      simp [hh]
     rcases ih fuel w2 hdum (by simpa using hf) with ⟨a, b⟩ | ⟨l1, k, l2, q, a, b, c, d, d2, e', g⟩
     ·refine .inl ⟨by rw [hgo]; exact a, fun k hk => ?_⟩
      rcases List.mem_cons.mp hk with rfl | hk
      ·exact hh
      ·exact b k hk
     ·refine .inr ⟨i :: l1, k, l2, q, by rw [a]; rfl, fun k' hk => ?_, c, d, d2, e', by rw [hgo]; exact g⟩
      rcases List.mem_cons.mp hk with rfl | hk
      ·exact hh
      ·exact b k' hk
section
variable {prog : Program} {w : World} {K : Type} [DecidableEq K] {knd : KeyKind prog w K} {A : Around} {E : Value → Shared → Prop} {s : Shared}
noncomputable def Tups (knd : KeyKind prog w K) (h : Heap) (es : Array (Int × Value)) : Prop := ∀ (i : Nat) (c : Int) (x : Value), es[i]? = some (c, x) → ∃ k b, c = tupleKeyHash knd k ∧ x = .ref b ∧ IsTupleKey knd h k b
theorem not_class {k : List K} {a : Addr} {Q : Bool → Shared → Prop} (hk : IsTupleKey knd s.heap k a) (h : Q false s) : wpAny (model prog w) A (ofAClassStatement 8 (.ref a)) Q E s := by
  have hT := hk.typeIs
  obtain ⟨o, items, n, ho, _, hd, hi⟩ := hk
  unfold ofAClassStatement
  refine wpAny_bind (wpAny_typeOf hT ?_)
  dsimp only
  refine wpAny_bind (wpAny_pure ?_)
  simp only [Bool.not_true, Bool.false_eq_true, if_false]
  refine wpAny_bind (wpAny_seqItems ho hd ?_)
  refine wpAny_bind ?_
  show wpAny _ _ (forIn items _ _) _ _ s
  rw [← Array.forIn_toList]
  refine wpAny_forIn_list _ (fun rest r s' => r.1 = none ∧ s' = s ∧ ∀ v ∈ rest, carriedByValue v = true) _ ?_ ?_ _ _ ⟨rfl, rfl, hi.byValue⟩
  · rintro v rest r s' ⟨hr, rfl, hall⟩
    have hv : ofAClassStatement 7 v = pure false := by
      have := hall v List.mem_cons_self
      cases v with
      | ref a => simp [carriedByValue] at this
      | _ => first | rfl | simp [ofAClassStatement] | (unfold ofAClassStatement; rfl)
    rw [hv]
    refine wpAny_bind (wpAny_pure ?_)
    simp only [Bool.false_eq_true, if_false]
    exact wpAny_pure ⟨rfl, rfl, fun u hu' => hall u (List.mem_cons_of_mem _ hu')⟩
  · rintro ⟨r1, r2⟩ s' ⟨hr, rfl, _⟩
    simp only at hr
    subst hr
    exact wpAny_pure h
theorem not_seen {k : List K} {a : Addr} {Q : Bool → Shared → Prop} (hk : IsTupleKey knd s.heap k a) (ys : List Value) (hy : ∀ y ∈ ys, ∃ k b, y = .ref b ∧ IsTupleKey knd s.heap k b) (h : Q false s) :
  wpAny (model prog w) A (searchCouldBeSeen (.ref a) ys) Q E s := by
 unfold searchCouldBeSeen
 refine wpAny_bind ?_
 refine wpAny_forIn_list _ (fun rest r s' => r.1 = none ∧ s' = s ∧ ∀ y ∈ rest, y ∈ ys) _ ?_ ?_ _ _ ⟨rfl, rfl, fun y hy => hy⟩
 ·rintro v rest r s' ⟨hr, rfl, hall⟩
  obtain ⟨k', b, rfl, hb⟩ := hy v (hall v List.mem_cons_self)
  simp only [carriedByValue, Bool.false_and, Bool.or_false]
  have fin : (⟨none, ()⟩ : Option Bool × Unit).fst = none ∧ s' = s' ∧ ∀ y ∈ rest, y ∈ ys := ⟨rfl, rfl, fun y hy => hall y (List.mem_cons_of_mem _ hy)⟩
  split
  ·exact wpAny_pure fin
  ·refine wpAny_bind (wpAny_eqIsQuiet_tuple hk ?_)
   simp only [Bool.not_true, Bool.false_eq_true, if_false]
   refine wpAny_bind (wpAny_eqIsQuiet_tuple hb ?_)
   simp only [Bool.not_true, Bool.false_eq_true, if_false]
   refine wpAny_bind (not_class hk ?_)
   simp only [Bool.false_eq_true, if_false]
   refine wpAny_bind (not_class hb ?_)
   simp only [Bool.false_eq_true, if_false]
   exact wpAny_pure fin
 ·rintro ⟨r1, r2⟩ s' ⟨hr, rfl, _⟩
  simp only at hr
  subst hr
  exact wpAny_pure h
theorem search {a b : Addr} {o : Obj} {es : Array (Int × Value)} {ep : Nat} {t : SetTable} {k : List K} {Q : SetFound → Shared → Prop} {e : Nat}
  (hu : A.units < cLine) (ho : s.heap.get? a = some o) (hd : o.data = .set es ep t) (T : Tab es t) (hE : Tups knd s.heap es) (hk : IsTupleKey knd s.heap k b) :
  ∀ (n : Nat) (l : List Nat) (stand : Option Probe) (fuel : Nat), l.length < n → Way t.mask (sl t) (stand.getD (t.probeStart (tupleKeyHash knd k))) l e → (stand.getD (t.probeStart (tupleKeyHash knd k))).dummy = none →
   n ≤ fuel → l.length < 10 * turns t.mask →
   ((∃ i ∈ l, ∃ c, es[i]? = some (tupleKeyHash knd k, .ref c) ∧ IsTupleKey knd s.heap k c) → Q (.there none) s) →
   ((∀ i ∈ l, ∀ c, es[i]? = some (tupleKeyHash knd k, .ref c) → ¬ IsTupleKey knd s.heap k c) → Q (.free e false) s) →
   wpAny (model prog w) A (setSearchFrom a (.ref b) (tupleKeyHash knd k) true fuel stand) Q E s := by
 intro n
 induction n with
 | zero => intro l _ _ h; exact absurd h (Nat.not_lt_zero _)
 | succ n ih =>
  intro l stand fuel hl hw hdum hf hn h1 h2
  cases fuel with
  | zero => exact absurd hf (Nat.not_succ_le_zero _)
  | succ fuel =>
   unfold setSearchFrom
   refine wpAny_bind (wpAny_setState_of ho hd T.fits ?_)
   dsimp only
   rw [T.odd]
   simp only [Bool.false_eq_true, if_false]
   have hlive : ∀ i ∈ l, ∃ k' c, es[i]? = some (tupleKeyHash knd k', .ref c) ∧ IsTupleKey knd s.heap k' c := by
    intro i hi
    obtain ⟨j, hj⟩ := hw.mem i hi
    have hlt : i < es.size := by rw [← T.sz]; exact get_lt ((sl_some T.dm T.ris).mp hj)
    obtain ⟨⟨c, x⟩, hq⟩ : ∃ q, es[i]? = some q := ⟨_, Array.getElem?_eq_getElem hlt⟩
    obtain ⟨k', b', rfl, rfl, hb⟩ := hE i c x hq
    exact ⟨k', b', hq, hb⟩
   rcases probe_way (f := fun i => (es[i]?.map (·.1)).getD 0) (h := tupleKeyHash knd k) T.dm T.ris (10 * turns t.mask) hw hdum hn with ⟨hp, hno⟩ | ⟨l1, i, l2, q, hl12, hno, hfi, hsl, hqd, hw2, hp⟩
   ·split
    ·rename_i met hm
     have hm' : some (Met.empty e none) = some met := hp.symm.trans hm
     cases hm'
     dsimp only
     refine wpAny_pure (h2 fun i hi c hc hkc => hno i hi ?_)
     rw [hc]; rfl
    ·rename_i x hm
     exact (hm _ hp).elim
   ·split
    ·rename_i met hm
     have hm' : some (Met.candidate q.j i (t.advance q)) = some met := hp.symm.trans hm
     cases hm'
     dsimp only
     have hil : i ∈ l := by rw [hl12]; exact List.mem_append_right _ List.mem_cons_self
     obtain ⟨k', c, hei, hck⟩ := hlive i hil
     have hslot := slot_live T.dm T.ris hsl
     have hsame : t.sameMemory t.moves t.mask = some true := by unfold sameMemory; simp
     have hdq : (t.advance q).dummy = none := by rw [advance_eq]; unfold adv; split <;> exact hqd
     have hseen : ∀ y ∈ (es.filter (·.1 == tupleKeyHash knd k)).toList.map (·.2), ∃ k b, y = .ref b ∧ IsTupleKey knd s.heap k b := by
      intro y hy
      obtain ⟨⟨c', y'⟩, hq, rfl⟩ := List.mem_map.mp hy
      have hq' : (c', y') ∈ es := (Array.mem_filter.mp (Array.mem_toList_iff.mp hq)).1
      obtain ⟨n', hn'⟩ := Array.getElem?_of_mem hq'
      obtain ⟨k2, b2, _, hb2, hb3⟩ := hE _ _ _ hn'
      exact ⟨k2, b2, hb2, hb3⟩
     split
     all_goals try (refine wpAny_bind (not_seen hk _ hseen ?_); simp only [Bool.false_eq_true, if_false])
     all_goals
      rw [hei]
      dsimp only
      refine wpAny_bind (wpAny_holding (wpAny_eqBool_tuple hu hck hk ?_))
      refine wpAny_bind (wpAny_setState_of ho hd T.fits ?_)
      dsimp only
      rw [Bool.true_and]
      split
      ·rename_i hdec
       have hkk : k' = k := of_decide_eq_true hdec
       subst hkk
       exact wpAny_pure (h1 ⟨i, hil, c, hei, hck⟩)
      ·rename_i hdec
       have hkk : k' ≠ k := fun z => hdec (decide_eq_true z)
       rw [hsame]
       dsimp only
       rw [if_pos rfl, hslot]
       dsimp only
       rw [hei]
       dsimp only
       refine wpAny_bind (wpAny_isSame_ref_self ?_)
       refine wpAny_bind (wpAny_pure ?_)
       simp only [if_true]
       have hll : l2.length < l.length := by rw [hl12, List.length_append, List.length_cons]; omega
       refine ih l2 (some (t.advance q)) fuel (by omega) hw2 hdq (by omega) (by omega) (fun ⟨i', hi', hx⟩ => h1 ⟨i', by rw [hl12]; exact List.mem_append_right _ (List.mem_cons_of_mem _ hi'), hx⟩) (fun hx => h2 fun i' hi' c' hc' hkc => ?_)
       rw [hl12] at hi'
       rcases List.mem_append.mp hi' with hi' | hi'
       ·refine hno i' hi' ?_
        rw [hc']; rfl
       ·rcases List.mem_cons.mp hi' with rfl | hi'
        ·rw [hei] at hc'
         have hcc : c = c' := Value.ref.inj (congrArg Prod.snd (Option.some.inj hc'))
         rw [← hcc] at hkc
         exact hkk (hck.inj hkc)
        ·exact hx i' hi' c' hc' hkc
    ·rename_i x hm
     exact (hm _ hp).elim
end
end STb
namespace STb
open PySem PySem.SetTable
section
variable {prog : Program} {w : World} {K : Type} [DecidableEq K] {knd : KeyKind prog w K} {A : Around} {E : Value → Shared → Prop} {s : Shared}
noncomputable def dstep (σ : List (List K)) (k : List K) : List (List K) := if k ∈ σ then σ else σ ++ [k]
noncomputable def SetT (knd : KeyKind prog w K) (h : Heap) (a : Addr) (ks : List (List K)) : Prop :=
 ∃ o es ep t, h.get? a = some o ∧ o.ExactSet ∧ o.data = .set es ep t ∧ Tab es t ∧ Tups knd h es ∧ es.size = ks.length ∧
  ∀ k, k ∈ ks ↔ ∃ (i : Nat) (c : Addr), es[i]? = some (tupleKeyHash knd k, .ref c) ∧ IsTupleKey knd h k c
theorem IsTupleKey.kept {h h' : Heap} {k : List K} {b : Addr} (x : IsTupleKey knd h k b) (q : ∀ o, h.get? b = some o → h'.get? b = some o) : IsTupleKey knd h' k b := by
 obtain ⟨o, items, n, ho, hc, hd, hi⟩ := x
 exact ⟨o, items, n, q o ho, hc, hd, hi⟩
theorem IsTupleKey.ne {h : Heap} {k : List K} {a b : Addr} {o : Obj} {es ep t} (x : IsTupleKey knd h k b) (ho : h.get? a = some o) (hd : o.data = .set es ep t) : b ≠ a := by
 rintro rfl
 obtain ⟨o', items, n, ho', _, hd', _⟩ := x
 rw [ho] at ho'
 cases ho'
 rw [hd] at hd'; cases hd'
theorem by_value {k : List K} {a : Addr} {Q : Bool → Shared → Prop} (hk : IsTupleKey knd s.heap k a) (h : ∀ b, Q b s) : wpAny (model prog w) A (hashByValue 8 (.ref a)) Q E s := by
 have hT := hk.typeIs
 obtain ⟨o, items, n, ho, _, hd, hi⟩ := hk
 unfold hashByValue
 refine wpAny_bind (wpAny_specialOf hT F.slot_tuple_hash.lookup ?_)
 show wpAny _ _ (seqItems? (.ref a) >>= _) _ _ s
 refine wpAny_bind (wpAny_seqItems ho hd ?_)
 refine wpAny_bind ?_
 show wpAny _ _ (forIn items _ _) _ _ s
 rw [← Array.forIn_toList]
 refine wpAny_forIn_list _ (fun rest r s' => r.1 = none ∧ s' = s ∧ ∀ v ∈ rest, carriedByValue v = true) _ ?_ ?_ _ _ ⟨rfl, rfl, hi.byValue⟩
 ·rintro v rest r s' ⟨hr, rfl, hall⟩
  have hv : ∃ q, hashByValue 7 v = pure q := by
   have := hall v List.mem_cons_self
   cases v with
   | ref a => simp [carriedByValue] at this
   | _ => first | exact ⟨_, rfl⟩ | exact ⟨_, by unfold hashByValue; rfl⟩
  obtain ⟨q, hv⟩ := hv
  rw [hv]
  refine wpAny_bind (wpAny_pure ?_)
  split
  ·refine wpAny_pure ?_
   exact wpAny_pure (h _)
  ·exact wpAny_pure ⟨rfl, rfl, fun u hu' => hall u (List.mem_cons_of_mem _ hu')⟩
 ·rintro ⟨r1, r2⟩ s' ⟨hr, rfl, _⟩
  simp only at hr
  subst hr
  exact wpAny_pure (h _)
theorem relay {a : Addr} {o : Obj} {es : Array (Int × Value)} {ep : Nat} {t : SetTable} {Q : Unit → Shared → Prop} (ho : s.heap.get? a = some o) (hd : o.data = .set es ep t)
  (T : Tab0 es t) (hz : es.size ≤ 18) (hf : t.fits es.size = true) (wanted : Nat) (hw : sizeAbove wanted = 32)
  (h : ∀ es' t', List.Perm es'.toList es.toList → es'.size = es.size → Tab es' t' → Q () { s with heap := s.heap.update a (Obj.putSet es' t') }) :
  wpAny (model prog w) A (setRelay a wanted) Q E s := by
 obtain ⟨t', order, hrel, hsz, hperm, T', _⟩ := relaid_ok (t := t) hz wanted hw
 unfold setRelay
 refine wpAny_bind (wpAny_setState_of ho hd hf ?_)
 dsimp only
 rw [hw, if_neg (by rw [sizeLine_eq]; decide), hrel]
 have hif : ((order.filterMap (es[·]?)).size != es.size) = false := by rw [hsz]; simp
 refine wpAny_bind ?_
 show wpAny _ _ (if ((order.filterMap (es[·]?)).size != es.size) = true then _ else pure (order.filterMap (es[·]?), t')) _ _ _
 rw [hif]
 simp only [Bool.false_eq_true, if_false]
 refine wpAny_pure ?_
 exact wpAny_storeSet_of ho hd (h _ _ hperm hsz T') (by rw [hsz, sizeLine_eq]; omega)
theorem Tups.kept {h h' : Heap} {es : Array (Int × Value)} {a : Addr} {o : Obj} {es0 ep t} (ho : h.get? a = some o) (hd : o.data = .set es0 ep t) (hs : Heap.SameBut a h h') (x : Tups knd h es) : Tups knd h' es := fun i c v hi => by
 obtain ⟨k, b, e1, e2, hb⟩ := x i c v hi
 exact ⟨k, b, e1, e2, IsTupleKey.kept hb fun o' ho' => by rw [hs.2 b (IsTupleKey.ne hb ho hd)]; exact ho'⟩
theorem memList {α : Type} {xs : Array α} {x : α} : (∃ i : Nat, xs[i]? = some x) ↔ x ∈ xs.toList := by
 constructor
 ·rintro ⟨i, h⟩
  rw [← Array.getElem?_toList] at h
  exact List.mem_of_getElem? h
 ·intro h
  obtain ⟨i, hi⟩ := List.getElem?_of_mem h
  exact ⟨i, by rw [← Array.getElem?_toList]; exact hi⟩
theorem Tups.perm {h : Heap} {es es' : Array (Int × Value)} (p : List.Perm es'.toList es.toList) (x : Tups knd h es) : Tups knd h es' := fun i c v hi => by
 obtain ⟨j, hj⟩ := memList.mpr (p.mem_iff.mp (memList.mp ⟨i, hi⟩))
 exact x j c v hj
theorem add {a b : Addr} {ks : List (List K)} {k : List K} {Q : Bool → Shared → Prop} (hu : A.units < cLine) (hS : SetT knd s.heap a ks) (hk : IsTupleKey knd s.heap k b) (hz : ks.length < 18)
  (h : ∀ h' r, Heap.SameBut a s.heap h' → SetT knd h' a (dstep ks k) → Q r { s with heap := h' }) :
  wpAny (model prog w) A (setAddHashed a (.ref b) (tupleKeyHash knd k)) Q E s := by
 obtain ⟨o, es, ep, t, ho, hex, hd, T, hE, hn, hm⟩ := hS
 unfold setAddHashed setAddHashedIn
 refine wpAny_holding (wpAny_bind (wpAny_setState_of ho hd T.fits ?_))
 dsimp only
 have hbs : byScan (.ref b) es = false := by unfold byScan; simp [Value.scannable]
 rw [hbs]
 simp only [Bool.false_eq_true, if_false]
 unfold setSearch
 obtain ⟨l, e, hw, hl⟩ := T.way (tupleKeyHash knd k)
 have ht460 : 10 * turns t.mask ≤ 460 := by rcases T.m with z | z <;> rw [z] <;> decide
 refine wpAny_bind (search hu ho hd T hE hk 1000 l none 100000 (by omega) hw rfl (by omega) hl (fun ⟨i, hi, c, hc, hkc⟩ => ?_) (fun hno => ?_))
 ·dsimp only
  refine wpAny_pure ?_
  have hin : k ∈ ks := (hm k).mpr ⟨i, c, hc, hkc⟩
  have := h s.heap false (Heap.SameBut.refl a s.heap) (by
   unfold dstep; rw [if_pos hin]; exact ⟨o, es, ep, t, ho, hex, hd, T, hE, hn, hm⟩)
  exact this
 ·dsimp only
  have hnin : k ∉ ks := fun hin => by
   obtain ⟨i, c, hc, hkc⟩ := (hm k).mp hin
   exact hno i (T.reach i _ _ hc _ _ hw) c hc hkc
  refine wpAny_bind (wpAny_setState_of ho hd T.fits ?_)
  dsimp only
  rw [put_eq T]
  dsimp only
  obtain ⟨b1, _, _⟩ := below_ok T.ris e
  have b1' : below t.place e ≤ es.size := by rw [← T.sz]; exact b1
  have T0 := T.put (x := .ref b) hw
  have hsz : (insertAt es (below t.place e) (tupleKeyHash knd k, Value.ref b)).size = es.size + 1 := insert_size b1'
  have hperm := SetTable.insertAt_perm es (below t.place e) (tupleKeyHash knd k, Value.ref b)
  rw [Array.toList_push] at hperm
  have hfit0 : ({ t with place := insertAt t.place (below t.place e) e } : SetTable).fits (es.size + 1) = true := by
   unfold SetTable.fits SetTable.fill
   simp only [T.dm, insert_size b1, T.sz]
   have := T.room
   simp
   omega
  generalize hes1 : insertAt es (below t.place e) (tupleKeyHash knd k, Value.ref b) = es1 at T0 hsz hperm
  have hE1 : Tups knd s.heap es1 := fun i c v hi => by
   rcases List.mem_append.mp (hperm.mem_iff.mp (memList.mp ⟨i, hi⟩)) with q | q
   ·obtain ⟨j, hj⟩ := memList.mpr q
    exact hE j c v hj
   ·rw [List.mem_singleton] at q
    cases q
    exact ⟨k, b, rfl, rfl, hk⟩
  have hm1 : ∀ k', k' ∈ dstep ks k ↔ ∃ (i : Nat) (c : Addr), es1[i]? = some (tupleKeyHash knd k', .ref c) ∧ IsTupleKey knd s.heap k' c := by
   intro k'
   unfold dstep
   rw [if_neg hnin, List.mem_append, List.mem_singleton, hm k']
   constructor
   ·rintro (⟨i, c, hc, hkc⟩ | rfl)
    ·obtain ⟨j, hj⟩ := memList.mpr (hperm.mem_iff.mpr (List.mem_append_left _ (memList.mp ⟨i, hc⟩)))
     exact ⟨j, c, hj, hkc⟩
    ·obtain ⟨j, hj⟩ := memList.mpr (hperm.mem_iff.mpr (List.mem_append_right _ List.mem_cons_self))
     exact ⟨j, b, hj, hk⟩
   ·rintro ⟨i, c, hc, hkc⟩
    rcases List.mem_append.mp (hperm.mem_iff.mp (memList.mp ⟨i, hc⟩)) with q | q
    ·obtain ⟨j, hj⟩ := memList.mpr q
     exact .inl ⟨j, c, hj, hkc⟩
    ·rw [List.mem_singleton] at q
     have : c = b := Value.ref.inj (congrArg Prod.snd q)
     subst this
     exact .inr (hkc.inj hk)
  have hdl : (dstep ks k).length = es1.size := by unfold dstep; rw [if_neg hnin, hsz, hn]; simp
  have hfin : ∀ (pl : Bool), wpAny (model prog w) A (do
    storeSet a es1 { t with place := insertAt t.place (below t.place e) e, plain := pl }
    if (!false && ({ t with place := insertAt t.place (below t.place e) e, plain := pl } : SetTable).tooFull) = true then do
     setRelay a (SetTable.grown (es.size + 1))
     pure true
    else pure true) Q E s := by
   intro pl
   have T1 : Tab0 es1 { t with place := insertAt t.place (below t.place e) e, plain := pl } := ⟨T0.sz, T0.dm, T0.ris, T0.le, T0.m, T0.reach⟩
   have hf1 : ({ t with place := insertAt t.place (below t.place e) e, plain := pl } : SetTable).fits es1.size = true := by rw [hsz]; exact hfit0
   refine wpAny_bind (wpAny_storeSet_of ho hd ?_ (by rw [hsz, sizeLine_eq, hn]; omega))
   have hsb1 := Heap.SameBut.update s.heap a (Obj.putSet es1 { t with place := insertAt t.place (below t.place e) e, plain := pl })
   have hg : (s.heap.update a (Obj.putSet es1 { t with place := insertAt t.place (below t.place e) e, plain := pl })).get? a = some { o with data := .set es1 (ep + 1) { t with place := insertAt t.place (below t.place e) e, plain := pl } } := by
    have := Heap.get?_update_self (Obj.putSet es1 { t with place := insertAt t.place (below t.place e) e, plain := pl }) ho (by rw [putSet_of _ _ hd]; rfl)
    rw [putSet_of _ _ hd] at this; exact this
   have hfill : ({ t with place := insertAt t.place (below t.place e) e, plain := pl } : SetTable).fill = es.size + 1 := by
    unfold SetTable.fill
    simp only [T.dm, insert_size b1, T.sz]
    rfl
   have hk1 : ∀ k' c, IsTupleKey knd s.heap k' c → ∀ h', Heap.SameBut a s.heap h' → IsTupleKey knd h' k' c := fun k' c hc h' hs => IsTupleKey.kept hc fun o' ho' => by rw [hs.2 c (IsTupleKey.ne hc ho hd)]; exact ho'
   have hback : ∀ k' c, ∀ h', Heap.SameBut a s.heap h' → c ≠ a → IsTupleKey knd h' k' c → IsTupleKey knd s.heap k' c := fun k' c h' hs hne hc => IsTupleKey.kept hc fun o' ho' => by rw [hs.2 c hne] at ho'; exact ho'
   have hmk : ∀ (es2 : Array (Int × Value)) (h' : Heap), List.Perm es2.toList es1.toList → Heap.SameBut a s.heap h' → ∀ k', k' ∈ dstep ks k ↔ ∃ (i : Nat) (c : Addr), es2[i]? = some (tupleKeyHash knd k', .ref c) ∧ IsTupleKey knd h' k' c := by
    intro es2 h' hp hs k'
    rw [hm1 k']
    constructor
    ·rintro ⟨i, c, hc, hkc⟩
     obtain ⟨j, hj⟩ := memList.mpr (hp.mem_iff.mpr (memList.mp ⟨i, hc⟩))
     exact ⟨j, c, hj, hk1 _ _ hkc _ hs⟩
    ·rintro ⟨i, c, hc, hkc⟩
     obtain ⟨j, hj⟩ := memList.mpr (hp.mem_iff.mp (memList.mp ⟨i, hc⟩))
     obtain ⟨k2, b2, _, e2, hb2⟩ := hE1 _ _ _ hj
     have : c = b2 := Value.ref.inj e2
     subst this
     exact ⟨j, c, hj, hback _ _ _ hs (IsTupleKey.ne hb2 ho hd) hkc⟩
   split
   ·rename_i hfull
    have hfull' : (es.size + 1) * 5 ≥ t.mask * 3 := by
     simp only [Bool.not_false, Bool.true_and] at hfull
     unfold SetTable.tooFull at hfull
     rw [hfill] at hfull
     simpa using hfull
    have hsz5 : es.size + 1 = 5 := by
     have := T.room
     rcases T.m with z | z
     ·rw [z] at this hfull'; omega
     ·rw [z] at this hfull'; omega
    refine wpAny_bind (relay hg rfl T1 (by omega) hf1 _ (by rw [hsz5]; decide) fun es' t' hp' hs' T' => ?_)
    refine wpAny_pure ?_
    have hsb2 := hsb1.trans (Heap.SameBut.update _ a (Obj.putSet es' t'))
    refine h _ true hsb2 ?_
    have hg2 : ((s.heap.update a (Obj.putSet es1 { t with place := insertAt t.place (below t.place e) e, plain := pl })).update a (Obj.putSet es' t')).get? a = some { o with data := .set es' (ep + 1 + 1) t' } := by
     have := Heap.get?_update_self (Obj.putSet es' t') hg (by rw [putSet_of _ _ rfl]; rfl)
     rw [putSet_of _ _ rfl] at this; exact this
    exact ⟨_, es', ep + 1 + 1, t', hg2, hex, rfl, T', (Tups.perm hp' hE1).kept ho hd hsb2, by rw [hdl, hs'], hmk es' _ hp' hsb2⟩
   ·rename_i hfull
    have hfull' : ¬ (es.size + 1) * 5 ≥ t.mask * 3 := by
     simp only [Bool.not_false, Bool.true_and] at hfull
     unfold SetTable.tooFull at hfull
     rw [hfill] at hfull
     simpa using hfull
    refine wpAny_pure (h _ true hsb1 ?_)
    exact ⟨_, es1, ep + 1, _, hg, hex, rfl, T1.tab (by rw [hsz]; show (es.size + 1) * 5 < t.mask * 3; omega), hE1.kept ho hd hsb1, hdl.symm, hmk es1 _ .rfl hsb1⟩
  split
  ·refine wpAny_bind (by_value hk fun q => ?_)
   cases q
   ·exact hfin false
   ·exact hfin t.plain
  ·refine wpAny_bind (wpAny_pure ?_)
   exact hfin t.plain
end
end STb
namespace STb
open PySem PySem.SetTable PySem.Spec PyProof.Rows
noncomputable def keysTo {K : Type} [DecidableEq K] (key : Nat → List K) : Nat → List (List K)
 | 0 => []
 | i + 1 => dstep (keysTo key i) (key i)
theorem keysTo_len {K : Type} [DecidableEq K] (key : Nat → List K) : ∀ i, (keysTo key i).length ≤ i
 | 0 => Nat.le_refl _
 | i + 1 => by
  have := keysTo_len key i
  show (dstep _ _).length ≤ _
  unfold dstep
  split
  ·omega
  ·rw [List.length_append, List.length_singleton]; omega
noncomputable abbrev emptySet (led : Bool) : Obj :=
 { cls := .type "set", dict := none, data := .set #[] 0 (.fresh 0 0 led) }
section
variable {prog : Program} {w : World} {K : Type} [DecidableEq K] {knd : KeyKind prog w K} {A : Around}
theorem SetT.kept {h h' : Heap} {a : Addr} {ks : List (List K)} (hS : SetT knd h a ks) (q : ∀ o, h.get? a = some o → h'.get? a = some o)
  (ht : ∀ k c, IsTupleKey knd h k c → ∀ o, h.get? c = some o → h'.get? c = some o) : SetT knd h' a ks := by
 obtain ⟨o, es, ep, t, ho, hex, hd, T, hE, hn, hm⟩ := hS
 refine ⟨o, es, ep, t, q o ho, hex, hd, T, fun i c v hi => ?_, hn, fun k => (hm k).trans ⟨fun ⟨i, c, a1, a2⟩ => ⟨i, c, a1, STb.IsTupleKey.kept a2 (ht k c a2)⟩, fun ⟨i, c, a1, a2⟩ => ⟨i, c, a1, ?_⟩⟩⟩
 ·obtain ⟨k, b, e1, e2, hb⟩ := hE i c v hi
  exact ⟨k, b, e1, e2, STb.IsTupleKey.kept hb (ht k b hb)⟩
 ·obtain ⟨k', b, _, e2, hb⟩ := hE i _ _ a1
  have : c = b := Value.ref.inj e2
  subst this
  have := (STb.IsTupleKey.kept hb (ht k' c hb)).inj a2
  rw [← this]; exact hb
theorem add_loop {R : Result → Shared → Prop} {I S : Addr} {fp wr : List Addr} {G : Array GenState → Array GenState → Prop} {n : Nat} {P : Nat → Value → Prop} {St : Nat → Shared → Prop}
  (W : WalksS prog w A.in1 I fp wr G n P St) (hSf : S ∉ fp) (hu : A.in1.units < cLine) (key : Nat → List K) (hn : n ≤ 18) (hwr : ∀ i s, St i s → ∀ b ∈ wr, ∀ k, ¬ IsTupleKey knd s.heap k b) :
  ∀ (k i : Nat) (s : Shared), n - i = k → i ≤ n → St i s → SetT knd s.heap S (keysTo key i) → (∀ j v, P j v → ∃ b, v = .ref b ∧ IsTupleKey knd s.heap (key j) b) →
   (∀ s', Moved (S :: wr) G s s' → SetT knd s'.heap S (keysTo key n) → R (.ok (.ret .none)) s') →
   codeAny (model prog w) A (.builtin "set.update.loop" ⟨[.ref S, .ref I], []⟩) R s := by
 have hSw : S ∉ wr := fun q => hSf (W.sub _ q)
 have up : ∀ b ∈ wr, b ∈ S :: wr := fun b q => List.mem_cons_of_mem _ q
 intro k
 induction k with
 | zero =>
  intro i s hk hi hst hS hP hR
  have e : i = n := by omega
  subst e
  refine codeAny_builtin F.entry_set_update_loop ?_
  rw [Around.under_plainId F.plain_set_update_loop _]
  refine wpAny_bind (W.done s _ _ hst fun s' hm => ?_)
  exact wpAny_pure (hR s' (hm.mono up) (hS.kept (fun o => hm.heap S o hSw) fun k c hc o => hm.heap c o fun q => hwr i s hst c q k hc))
 | succ k ih =>
  intro i s hk hi hst hS hP hR
  have hlt : i < n := by omega
  refine codeAny_builtin F.entry_set_update_loop ?_
  rw [Around.under_plainId F.plain_set_update_loop _]
  refine wpAny_bind (W.item i s _ _ hlt hst fun v s' hv hst' hm => ?_)
  obtain ⟨b, rfl, hb⟩ := hP i v hv
  have stay : ∀ k c, IsTupleKey knd s.heap k c → ∀ o, s.heap.get? c = some o → s'.heap.get? c = some o := fun k c hc o => hm.heap c o fun q => hwr i s hst c q k hc
  have hS' : SetT knd s'.heap S (keysTo key i) := hS.kept (fun o => hm.heap S o hSw) stay
  have hb' : IsTupleKey knd s'.heap (key i) b := STb.IsTupleKey.kept hb (stay _ _ hb)
  refine wpAny_bind (wpAny_holding ?_)
  unfold setAdd
  refine wpAny_holding (wpAny_bind (wpAny_pyHash_tuple hu hb' ?_))
  refine STb.add (s := { s' with toks := s'.toks + ((key i).length + 1) }) hu hS' hb' (by have := keysTo_len key i; omega) fun h' r hsb hS2 => ?_
  obtain ⟨oS, _, _, _, hoS, _, hdS, _⟩ := hS'
  have tk : ∀ k c, IsTupleKey knd s.heap k c → IsTupleKey knd h' k c := fun k c hc => by
   have h1 := STb.IsTupleKey.kept hc (stay k c hc)
   exact STb.IsTupleKey.kept h1 fun o ho => by rw [hsb.2 c (STb.IsTupleKey.ne h1 hoS hdS)]; exact ho
  refine wpAny_pure ⟨plainId_quiet F.plain_set_update_loop _, ih (i + 1) _ (by omega) hlt
   (W.frame _ s' _ _ hst' (Nat.le_add_right _ _) fun b hb o e => ?_) hS2 (fun j v hv => ?_) fun s'' hm'' hS'' => ?_⟩
  ·rw [hsb.2 b (fun q : b = S => hSf (q ▸ hb))]; exact e
  ·obtain ⟨b, e, hb⟩ := hP j v hv
   exact ⟨b, e, tk _ _ hb⟩
  ·refine hR s'' (Moved.trans W.gtrans ((hm.mono up).then_heap (Nat.le_add_right _ _) fun b o hb e => ?_) hm'') hS''
   rw [hsb.2 b (fun q : b = S => hb (q ▸ List.mem_cons_self))]; exact e
end
end STb
namespace STb
open PySem PySem.SetTable PySem.Spec PyProof.Rows
section
variable {prog : Program} {w : World} {K : Type} [DecidableEq K] {knd : KeyKind prog w K} {A : Around} {E : Value → Shared → Prop} {s : Shared}
set_option maxHeartbeats 3200000 in
theorem set_tuples {l : Addr} {items : Array Value} {key : Nat → List K} {Q : Value → Shared → Prop} (hh : A.handled = none) (hu : A.units + 8 < cLine) (hl : s.heap.IsList l items) (hn : items.size ≤ 18)
  (hi : ∀ (j : Nat) v, items[j]? = some v → ∃ b, v = .ref b ∧ IsTupleKey knd s.heap (key j) b)
  (h : ∀ (h' : Heap) (tk : Nat), SetT knd h' s.heap.objs.size (keysTo key items.size) → (∀ b o, b < s.heap.objs.size → s.heap.get? b = some o → h'.get? b = some o) →
   Q (.ref s.heap.objs.size) { s with heap := h', toks := tk }) :
  wpAny (model prog w) A (call (.type "set") [.ref l]) Q E s := by
 obtain ⟨c, tl, hmro⟩ := F.called_set.mro
 have hmade := F.called_set.made
 have hsub := F.called_set.sub
 have h1 := F.called_set.notType
 have h2 := F.called_set.canCreate
 have hct := F.typeCall_set_1 (.ref l)
 refine wpAny_call (codeAny_of_tree ?_)
 show wpAny _ _ (callAny (.type "set") _) _ _ _
 refine wpAny_pure ⟨Code.quiet_builtin _ (by decide +kernel), codeAny_builtin F.entry_type_call ?_⟩
 rw [Around.under_plain (weight_type_call_type "set" [.ref l] []) rfl]
 repeat (any_goals (first | assumption | wp_step))
 have new := code_set_new_1 (prog := prog) (w := w) (A := A.in1) (s := s) (E := E) (.ref l)
  (Q₁ := fun x s₁ => ∃ led : Bool, x = .ref s.heap.objs.size ∧ s₁ = { s with heap := s.heap.push (emptySet led) }) fun led => ⟨led, rfl, rfl⟩
 refine codeAny_mono new fun r s₁ hr => ?_
 match r, hr with
 | .error e, hr => exact hr
 | .ok (.ret x), hr =>
  obtain ⟨led, rfl, rfl⟩ := hr
  have hS : (s.heap.push (emptySet led)).get? s.heap.objs.size = some (emptySet led) := Heap.get?_push_size _ rfl
  have hT : Shared.TypeIs { s with heap := s.heap.push (emptySet led) } (.ref s.heap.objs.size) "set" := ⟨_, hS, rfl⟩
  have hli := F.called_set.init.lookup
  have hbi := F.called_set.init.bind (.ref s.heap.objs.size)
  repeat (any_goals (first | assumption | wp_step))
  refine codeAny_mono (codeAny_call_builtin (R := wants (fun r s₂ => r = .none ∧ ∃ h' tk, s₂ = { s with heap := h', toks := tk } ∧ SetT knd h' s.heap.objs.size (keysTo key items.size) ∧
    (∀ b o, b < s.heap.objs.size → s.heap.get? b = some o → h'.get? b = some o)) E) F.called_set.init.plain F.entry_set_init
   (check_set_init_1 hT ?_)) fun r₂ s₂ hr₂ => ?_
  ·obtain ⟨⟨_, odict, _, oslots⟩, hol, hcl, nl, hdl⟩ := hl
   dsimp only at hcl hdl
   subst hcl hdl
   have hol' : (s.heap.push (emptySet led)).get? l = some { cls := .type "list", dict := odict, data := .seq items nl, slots := oslots } :=
    Heap.get?_push_of_some _ hol
   have hl1 : (s.heap.push (emptySet led)).IsList l items := ⟨_, hol', rfl, nl, rfl⟩
   have hsls := F.sub_list_set
   have hslf := F.sub_list_frozenset
   have hne : (Value.type "list" == Value.type "dict") = false := by decide
   unfold Builtin.«set.__init__»
   unfold noKeywords
   unfold Builtin.Frozenset.updateFrom
   generalize hPI : pyIter = PI
   wp_walk
   subst hPI
   refine wpAny_pyIter_list hl1 ?_
   refine wpAny_bind (wpAny_runValue ?_)
   have hlS : l < s.heap.objs.size := Heap.lt_size hol
   have hsz : (s.heap.push (emptySet led)).objs.size = s.heap.objs.size + 1 := Heap.size_push _ _
   have hneI : l ≠ (s.heap.push (emptySet led)).objs.size := by
    rw [hsz]; exact Nat.ne_of_lt (Nat.lt_succ_of_lt hlS)
   have hSf : s.heap.objs.size ∉ [(s.heap.push (emptySet led)).objs.size, l] := by
    rw [hsz]
    intro q
    rcases List.mem_cons.mp q with q | q
    ·exact absurd q (Nat.ne_of_lt (Nat.lt_succ_self _))
    ·exact absurd (List.mem_singleton.mp q) (Nat.ne_of_gt hlS)
   have W := (Walks.list (prog := prog) (w := w) (A := A.in1.in1.in1) (by simp [hh]) _ l hneI items).toS
   refine add_loop (knd := knd) W hSf (by simp; omega) key hn ?wr (items.size - 0) 0 _ (by omega) (Nat.zero_le _) ⟨⟨_, Heap.get?_push_size _ rfl, rfl, rfl⟩, hl1.push _⟩ ?S0 ?P0 ?R0
   case wr =>
    intro i s0 hst b hb k hk
    have hbI := List.mem_singleton.mp hb
    subst hbI
    obtain ⟨oI, hoI, hcI, hdI⟩ := hst.1
    obtain ⟨o2, it2, n2, ho2, hc2, _⟩ := hk
    rw [hoI] at ho2
    cases ho2
    rw [hcI] at hc2
    exact absurd hc2 (by decide)
   case S0 =>
    have hg : ((s.heap.push (emptySet led)).push { cls := .type "list_iterator", data := .fields #[.ref l, .int 0 0] }).get? s.heap.objs.size = some (emptySet led) := Heap.get?_push_of_some _ hS
    exact ⟨_, #[], 0, _, hg, ⟨rfl, rfl, rfl⟩, rfl, tab_fresh led, fun i c v hi => (by cases hi), rfl, fun k => ⟨fun q => (by cases q), fun ⟨i, c, q, _⟩ => (by cases q)⟩⟩
   case P0 =>
    intro j v hv
    obtain ⟨b, e, hb⟩ := hi j v hv
    exact ⟨b, e, STb.IsTupleKey.kept hb fun o ho => Heap.get?_push_of_some _ (Heap.get?_push_of_some _ ho)⟩
   case R0 =>
    intro s' hm hS'
    obtain ⟨h', g', d', tk', os'⟩ := s'
    have e1 : g' = s.gens := hm.gens
    have e2 : d' = s.drawn := hm.drawn
    have e3 : os' = s.os := hm.os
    subst e1 e2 e3
    show wpAny _ _ _ _ _ _
    refine wpAny_pure ?_
    refine wpAny_pure ⟨rfl, h', tk', rfl, hS', fun b o hb e => ?_⟩
    refine hm.heap b o (fun q => ?_) (Heap.get?_push_of_some _ (Heap.get?_push_of_some _ e))
    rcases List.mem_cons.mp q with q | q
    ·exact Nat.ne_of_lt hb q
    ·have := List.mem_singleton.mp q
     rw [hsz] at this
     exact Nat.ne_of_lt (Nat.lt_succ_of_lt hb) this
  ·match r₂, hr₂ with
   | .error e, hr₂ => exact hr₂
   | .ok (.ret r), hr₂ =>
    obtain ⟨rfl, h', tk, rfl, hS', hk'⟩ := hr₂
    repeat (any_goals (first | assumption | wp_step))
    exact h _ _ hS' hk'
end
end STb
namespace L2
open PySem PySem.Spec PyProof.Rows
noncomputable def SetN (a : Addr) (n : Nat) : HO := .ext fun h => ∃ o es ep t, h.get? a = some o ∧ o.ExactSet ∧ o.data = .set es ep t ∧ t.fits es.size = true ∧ es.size = n ∧ n ≤ 18
inductive TupsOf (H : Hp) : List V → List (List Int) → Prop
 | nil : TupsOf H [] []
 | cons {b : Addr} {k : List Int} {vs : List V} {ks : List (List Int)} : H b = some (.tup (k.map .int)) → TupsOf H vs ks → TupsOf H (.ref b :: vs) (k :: ks)
theorem TupsOf.length {H : Hp} {vs : List V} {ks : List (List Int)} (t : TupsOf H vs ks) : vs.length = ks.length := by
 induction t with
 | nil => rfl
 | cons _ _ ih => simp [ih]
theorem TupsOf.at {H : Hp} {vs : List V} {ks : List (List Int)} (t : TupsOf H vs ks) : ∀ (j : Nat) (v : V), vs[j]? = some v → ∃ b, v = .ref b ∧ H b = some (.tup ((ks.getD j []).map .int)) := by
 induction t with
 | nil => intro j v h; cases h
 | @cons b k vs ks h _ ih =>
  intro j v hv
  cases j with
  | zero => cases hv; exact ⟨b, rfl, h⟩
  | succ j => exact ih j v hv
noncomputable def dd (ks : List (List Int)) : List (List Int) := ks.foldl STb.dstep []
theorem keysTo_take (ks : List (List Int)) : ∀ i, i ≤ ks.length → STb.keysTo (fun j => ks.getD j []) i = dd (ks.take i)
 | 0, _ => rfl
 | i + 1, h => by
  show STb.dstep _ _ = _
  rw [keysTo_take ks i (by omega)]
  have hk : ks[i]? = some (ks.getD i []) := by
   rw [List.getElem?_eq_getElem (by omega), List.getD_eq_getElem?_getD, List.getElem?_eq_getElem (by omega)]; rfl
  unfold dd
  rw [List.take_add_one, hk, List.foldl_append]
  rfl
theorem items_are {P : Program} {w : World} : ∀ {ks : List Int} {its : List Value}, Vals (ks.map V.int) its → ItemsAre (intKind P w) ks its
 | [], _, r => by cases r; exact .nil
 | k :: ks, _, r => by
  cases r with
  | cons h t =>
   obtain ⟨t', rfl⟩ := h
   exact .cons (intKind_is _ _ _ _) (items_are t)
theorem call_setT {X : Cx} (hc : X.calm = true) (hu : X.A.units + 8 < cLine) : CallR X (.type "set") (fun xs H Q => ∃ p ys ks, xs = [.ref p] ∧ SqL X.K H p ys ∧ ys.length ≤ 18 ∧ TupsOf H ys ks ∧
  ∀ l, H l = none → Q (.ref l) (upd H l (SetN l (dd ks).length))) := by
 intro pins s σ H xs us Q I r h
 obtain ⟨p, ys, ks, rfl, hq, h18, ht, q⟩ := h
 obtain ⟨u, rfl, rx⟩ := vals1 r
 cases rx
 obtain ⟨its, r', pl, hz⟩ := I.list hq
 have hlen := r'.length
 refine STb.set_tuples (knd := intKind X.prog X.w) (key := fun j => ks.getD j []) (I.ok.hd hc) hu pl.isList (by simp; omega) (fun j v hv => ?_) (fun h' tk hS kp => ?_)
 ·have hv' : its[j]? = some v := by simpa using hv
  cases hy : ys[j]? with
  | none => rw [r'.none_of hy] at hv'; cases hv'
  | some y =>
   obtain ⟨u, hu', ru⟩ := r'.get hy
   rw [hv'] at hu'
   cases hu'
   obtain ⟨b, rfl, hb⟩ := ht.at j y hy
   cases ru
   obtain ⟨_, it2, r2, o2, ho2, hc2, n2, hd2⟩ := I.hok b _ hb
   exact ⟨b, rfl, o2, it2.toArray, n2, ho2, hc2, hd2, by simpa using items_are r2⟩
 ·have hl : (STb.keysTo (fun j => ks.getD j []) its.toArray.size).length = (dd ks).length := by
   have e : its.toArray.size = ks.length := by rw [← ht.length, hlen]; simp
   rw [e, keysTo_take ks _ (Nat.le_refl _), List.take_length]
  have hn : H s.heap.objs.size = none := I.hok.fresh (Nat.le_refl _)
  refine ⟨.ref s.heap.objs.size, _, I.laid (t' := tk) (fun b o e => kp b o (Heap.lt_size e) e) (Nat.le_refl _) ?_, rfl, q _ hn⟩
  obtain ⟨o, es, ep, t, ho, hex, hd, T, _, hsz, _⟩ := hS
  have h18' : (dd ks).length ≤ 18 := by
   rw [← hl]
   have := STb.keysTo_len (fun j => ks.getD j []) its.toArray.size
   have : its.toArray.size ≤ 18 := by simp; omega
   omega
  refine ⟨⟨o, es, ep, t, ho, hex, hd, T.fits, by rw [hsz, hl], h18'⟩, ⟨o, ho⟩, ?_⟩
  rintro h1 h2 ⟨o', es', ep', t', ho', rest⟩ kk
  exact ⟨o', es', ep', t', kk _ ho', rest⟩
theorem call_lenN {X : Cx} : CallR X (.builtin "len") (fun xs H Q => ∃ p n, xs = [.ref p] ∧ H p = some (SetN p n) ∧ Q (.int n) H) := by
 intro pins s σ H xs us Q I r h
 obtain ⟨p, n, rfl, hp, q⟩ := h
 obtain ⟨u, rfl, rx⟩ := vals1 r
 cases rx
 obtain ⟨⟨o, es, ep, t, ho, hex, hd, hf, hsz, h18⟩, _⟩ := I.hok p _ hp
 exact call_len_set ho hex hd hf (by rw [hsz]; omega) ⟨.int n, H, I.tok _, ⟨s.toks + 1, by rw [hsz]⟩, q⟩
theorem dd_nodup_aux : ∀ (ks σ : List (List Int)), (ks.foldl STb.dstep σ).length ≤ σ.length + ks.length ∧ ((ks.foldl STb.dstep σ).length = σ.length + ks.length ↔ ks.Nodup ∧ ∀ k ∈ ks, k ∉ σ)
 | [], σ => ⟨Nat.le_refl _, ⟨fun _ => ⟨List.nodup_nil, fun k h => (by cases h)⟩, fun _ => rfl⟩⟩
 | k :: ks, σ => by
  rw [List.foldl_cons, List.length_cons]
  by_cases h : k ∈ σ
  ·have e : STb.dstep σ k = σ := by unfold STb.dstep; rw [if_pos h]
   rw [e]
   obtain ⟨a, b⟩ := dd_nodup_aux ks σ
   refine ⟨by omega, ⟨fun q => by omega, fun q => absurd h (q.2 k List.mem_cons_self)⟩⟩
  ·have e : STb.dstep σ k = σ ++ [k] := by unfold STb.dstep; rw [if_neg h]
   rw [e]
   obtain ⟨a, b⟩ := dd_nodup_aux ks (σ ++ [k])
   rw [List.length_append, List.length_singleton] at a b
   refine ⟨by omega, ?_⟩
   rw [show σ.length + (ks.length + 1) = σ.length + 1 + ks.length by omega, b, List.nodup_cons]
   constructor
   ·rintro ⟨h1, h2⟩
    refine ⟨⟨fun q => h2 k q (List.mem_append_right _ List.mem_cons_self), h1⟩, fun k' hk' => ?_⟩
    rcases List.mem_cons.mp hk' with rfl | hk'
    ·exact h
    ·exact fun q => h2 k' hk' (List.mem_append_left _ q)
   ·rintro ⟨⟨h1, h2⟩, h3⟩
    refine ⟨h2, fun k' hk' q => ?_⟩
    rcases List.mem_append.mp q with q | q
    ·exact h3 k' (List.mem_cons_of_mem _ hk') q
    ·rw [List.mem_singleton] at q; subst q; exact h1 hk'
theorem dd_nodup (ks : List (List Int)) : (dd ks).length = ks.length ↔ ks.Nodup := by
 have := (dd_nodup_aux ks []).2
 simp only [List.length_nil, Nat.zero_add] at this
 rw [dd, this]
 exact ⟨fun h => h.1, fun h => ⟨h, fun k _ q => (by cases q)⟩⟩
structure MetD (P : Program) (w : World) (K : PySem.W.Frag) (mg : Str → Option Value) (base : Heap) (C : Addr) (k : Nat) (m : Str) (ps : List Str) (sp : Sp) : Prop where
 ex : ∃ (f : Addr) (fd : FuncData), FnOk P w K mg base CX0 k f fd ps sp ∧ Meth K C m f ∧ Binds K fd ps []
structure MetX (P : Program) (w : World) (K : PySem.W.Frag) (mg : Str → Option Value) (base : Heap) (C : Addr) (k : Nat) (m : Str) (ps : List Str) (sp : Sp) : Prop where
 ex : ∃ (f : Addr) (fd : FuncData), FnOk P w K mg base (CX1 P w) k f fd ps sp ∧ Meth K C m f ∧ Binds K fd ps []
structure MakX (P : Program) (w : World) (K : PySem.W.Frag) (mg : Str → Option Value) (base : Heap) (C : Addr) (k : Nat) (x : Str) (ps : List Str) (sp : Sp) : Prop where
 ex : ∃ (f : Addr) (fd : FuncData), FnOk P w K mg base (CX1 P w) k f fd ps sp ∧ Mk K C f ∧ mg x = some (.ref C) ∧ Binds K fd ps []
noncomputable def tMethR (C : Addr) (m : Str) (sp : Sp) (R : St → XK) (ta : TE) (t : TA) : TE := fun σ H Q => ta σ H fun x H1 => ∃ a dx fs, x = .ref a ∧ H1 a = some (.ins C dx fs) ∧ fs.lookup m = none ∧
 t σ H1 fun vs H2 => sp (x :: vs) H2 Q (R σ)
noncomputable def tMakeR (C : Addr) (sp : Sp) (R : St → XK) (t : TA) : TE := fun σ H Q => t σ H fun vs H1 => ∀ x dx, H1 x = none → H1 dx = none → dx ≠ x →
 sp (.ref x :: vs) (upd (upd H1 dx (.own x)) x (.ins C dx [])) (fun v H2 => v = .non ∧ Q (.ref x) H2) (R σ)
section
variable {X : Cx} {k : Nat} {C : Addr} {m x : Str} {ps : List Str} {sp : Sp} {o e : Expr} {es : List Expr} {ta : TE} {t : TA} {p pos apos : Pos} {R : St → XK}
theorem pe_metD0 {pl : Sem Bool} (he : PE X o ta) (c : Cls X.K C) (D : MetD X.prog X.w X.K X.mg X.base C k m ps sp) (hr : Room k X.A)
  (ht : eval (.Call (.Attribute o m apos) [] [] pos) X.env = (do
   let ov ← eval o X.env
   standAt apos.atName
   let (f, first) ← holding [ov] (getMethod ov m pl)
   callWith pos f first (backTo pos (starEach [] X.env)) (backToKw pos (keywordEach [] X.env))) := by rfl) :
  PE X (.Call (.Attribute o m apos) [] [] pos) (tMeth C m sp [] E0 ta tNil) := by
 obtain ⟨f, fd, F, hm, hb⟩ := D.ex
 exact pe_meth0 he c hm F hr hb .nil pass0 ht
theorem run_fnR {f : Addr} {fd : FuncData} {pins : List (Addr × Obj)} {σ : St} {H : Hp} {s : Shared} {Q : VK} {us : List Value} {vs : List V} (F : FnOk X.prog X.w X.K X.mg X.base (CX1 X.prog X.w) k f fd ps sp) (hr : Room k X.A) (hb : Binds X.K fd ps []) (hx : PassesR (CX1 X.prog X.w) X R)
  (I : Inv X pins σ H s) (r : Vals vs us) (h : sp vs H Q (R σ)) : wpAny (model X.prog X.w) X.A (call (.ref f) us) (EP X pins σ Q) X.xe s := by
 have hl : us.length = ps.length := by rw [← r.length]; exact F.len _ _ _ _ h
 have hb' := hb s us I.kIn (by rw [List.append_nil]; exact hl)
 rw [List.append_nil] at hb'
 refine wpAny_call (codeAny_mono (F.run X.A X.stack s H ⟨us, []⟩ us vs Q (R σ) hr I.env0 hb' r h) fun res s' hq => ?_)
 cases res with
 | error er => exact hx pins σ H s er s' I hq
 | ok fl =>
  cases fl with
  | ret u => exact I.after hq
  | _ => exact False.elim hq
theorem pe_metX {pl : Sem Bool} (he : PE X o ta) (c : Cls X.K C) (D : MetX X.prog X.w X.K X.mg X.base C k m ps sp) (hr : Room k X.A) (hx : PassesR (CX1 X.prog X.w) X R) (ha : PA X (e :: es) t)
  (hst : starEach (e :: es) X.env = (false, eval e X.env) :: starEach es X.env := by rfl) (hpl : (backTo pos (starEach es X.env)).any (·.1) = false := by rfl)
  (ht : eval (.Call (.Attribute o m apos) (e :: es) [] pos) X.env = (do
   let ov ← eval o X.env
   standAt apos.atName
   let (f, first) ← holding [ov] (getMethod ov m pl)
   callWith pos f first (backTo pos (starEach (e :: es) X.env)) (backToKw pos (keywordEach [] X.env))) := by rfl) :
  PE X (.Call (.Attribute o m apos) (e :: es) [] pos) (tMethR C m sp R ta t) := by
 obtain ⟨f, fd, F, hm, hb⟩ := D.ex
 intro pins s σ H Q I h
 refine PySem.W.methodCall_KW (pl := pl) (thn (he pins s σ H _ I h) fun u s1 ⟨x, H1, I1, rx, a, dx, fs, ex, ea, l, q⟩ => ?_) ht
 subst ex
 obtain rfl : u = Value.ref a := rx
 refine getmeth_ok I1 ea c hm l ?_
 refine PySem.W.callWith_K (first := [.ref a]) (h₀ := X.base) I.ok.mod.kin hm.kp (thn (ha pos pins s1 σ H1 _ I1 q) fun us s2 ⟨vs, H2, I2, r, q2⟩ => ⟨I2.kIn, ?_⟩) hst hpl
 exact run_fnR (us := .ref a :: us) (vs := .ref a :: vs) F hr hb hx I2 (.cons rfl r) q2
theorem pe_makX (D : MakX X.prog X.w X.K X.mg X.base C k x ps sp) (hr : Room (k + 1) X.A) (hx : PassesR (CX1 X.prog X.w) X R) (hg : Gl X x)
  (ha : PA X (e :: es) t) (hdb : (x == ("__debug__" : Str)) = false := by decide) (he : starEach (e :: es) X.env = (false, eval e X.env) :: starEach es X.env := by rfl) (hpl : (backTo pos (starEach es X.env)).any (·.1) = false := by rfl) :
  PE X (.Call (.Name x p) (e :: es) [] pos) (tMakeR C sp R t) := by
 obtain ⟨f, fd, F, M, hm, hb⟩ := D.ex
 intro pins s0 σ H0 Q I0 h0
 refine wpAny_Call_Name_kw (ld_glob I0 hg hm ?_ hdb)
 refine PySem.W.callWith_K (h₀ := X.base) I0.ok.mod.kin M.kp (thn (ha pos pins s0 σ H0 _ I0 h0) fun us s ⟨vs, H, I, r, h⟩ => ⟨I.kIn, ?_⟩) he hpl
 have hq := h (s.heap.objs.size + 1) s.heap.objs.size (I.hok.fresh (Nat.le_succ _)) (I.hok.fresh (Nat.le_refl _)) (Nat.ne_of_lt (Nat.lt_succ_self _))
 have I2 := Inv.made (C := C) I
 have r2 : Vals (V.ref (s.heap.objs.size + 1) :: vs) (Value.ref (s.heap.objs.size + 1) :: us) := .cons rfl r
 have hl : (Value.ref (s.heap.objs.size + 1) :: us).length = ps.length := by
  have e := r2.length
  rw [F.len _ _ _ _ hq] at e
  exact e.symm
 have hb' := hb _ (Value.ref (s.heap.objs.size + 1) :: us) I2.kIn (by rw [List.append_nil]; exact hl)
 rw [List.append_nil] at hb'
 refine wpAny_call (make_map (f := f) I.kIn M.makes M.init (beq_iff_eq.mp M.fn) (codeAny_mono (F.run _ X.stack _ _ ⟨Value.ref (s.heap.objs.size + 1) :: us, []⟩ (Value.ref (s.heap.objs.size + 1) :: us) _ _ (R σ) (hr.make C us [])
  (I2.env0.make C us []) hb' r2 hq) fun r s' hq' => ?_))
 cases r with
 | error e => exact hx pins σ _ _ e s' I2 hq'
 | ok fl =>
  cases fl with
  | ret u =>
   obtain ⟨v, H', I3, rv, ev, q3⟩ := I2.after hq'
   subst ev
   exact ⟨rv, ⟨V.ref (s.heap.objs.size + 1), H', I3, rfl, q3⟩⟩
  | _ => exact False.elim hq'
end
theorem comp_st {K : PySem.W.Frag} {a : Addr} {L : List V} {k : Nat} {te : TE} {D : Addr} {σ0 : St} {H : Hp} {Fn : Hp → Prop} (Pv : Nat → Hp → Prop) (h0 : Pv 0 (upd H D (.lst []))) (hS : ∀ i H', Pv i H' → SqL K H' a L)
  (turn : ∀ i x H', L[i]? = some x → Pv i H' → te (σ0.set k (some x)) H' fun v H5 => ∃ xs, H5 D = some (.lst xs) ∧ xs.length < sizeLine ∧ Pv (i + 1) (upd H5 D (.lst (xs ++ [v]))))
  (hd : ∀ H', Pv L.length H' → Fn H') :
  ∃ W : Nat → Nat → St → Hp → Prop, (∃ m, W 0 m σ0 (upd H D (.lst []))) ∧ ∀ i m σ' H', W i m σ' H' →
   ((Itl K a).stop i H' ∧ Fn H') ∨ ((Itl K a).go i H' ∧ ∃ N : St → Hp → Prop, (∀ σ2 H2, N σ2 H2 → ∃ m', m' < m ∧ W (i + 1) m' σ2 H2) ∧ ∀ x H2, (Itl K a).yld i H' x H2 → gName k x σ' H2 fun σ3 H3 => tTrue σ3 H3 fun b H4 =>
    if b = true then te σ3 H4 fun v H5 => ∃ xs, H5 D = some (.lst xs) ∧ xs.length < sizeLine ∧ N σ3 (upd H5 D (.lst (xs ++ [v]))) else N σ3 H4) := by
 refine ⟨fun i m σ' H' => m = L.length - i ∧ i ≤ L.length ∧ (∀ y, σ'.set k y = σ0.set k y) ∧ Pv i H', ⟨L.length, rfl, Nat.zero_le _, fun _ => rfl, h0⟩, ?_⟩
 rintro i m σ' H' ⟨rfl, hi, hσ, pv⟩
 have sq := hS i H' pv
 by_cases hlt : i < L.length
 ·have hx : L[i]? = some L[i] := List.getElem?_eq_getElem hlt
  refine .inr ⟨⟨L, _, sq, hx⟩, fun σ2 H2 => (∀ y, σ2.set k y = σ0.set k y) ∧ Pv (i + 1) H2, ?_, ?_⟩
  ·rintro σ2 H2 ⟨q1, q2⟩
   exact ⟨L.length - (i + 1), by omega, rfl, hlt, q1, q2⟩
  ·rintro x H2 ⟨rfl, q⟩
   have ex := q L sq
   rw [hx] at ex
   cases ex
   simp only [gName, tTrue, if_true]
   rw [hσ]
   have t := turn i _ H2 hx pv
   have e : (fun (v : V) (H5 : Hp) => ∃ xs, H5 D = some (.lst xs) ∧ xs.length < sizeLine ∧ ((∀ y, (σ0.set k (some L[i])).set k y = σ0.set k y) ∧ Pv (i + 1) (upd H5 D (.lst (xs ++ [v]))))) = fun v H5 => ∃ xs, H5 D = some (.lst xs) ∧ xs.length < sizeLine ∧ Pv (i + 1) (upd H5 D (.lst (xs ++ [v]))) := by
    funext v H5
    refine propext ⟨fun ⟨xs, a, b, _, c⟩ => ⟨xs, a, b, c⟩, fun ⟨xs, a, b, c⟩ => ⟨xs, a, b, fun y => by rw [List.set_set], c⟩⟩
   show te (σ0.set k (some L[i])) H2 fun v H5 => ∃ xs, H5 D = some (.lst xs) ∧ xs.length < sizeLine ∧ ((∀ y, (σ0.set k (some L[i])).set k y = σ0.set k y) ∧ Pv (i + 1) (upd H5 D (.lst (xs ++ [v]))))
   rw [e]
   exact t
 ·have : i = L.length := by omega
  subst this
  exact .inl ⟨⟨L, sq, Nat.le_refl _⟩, hd H' pv⟩
noncomputable def toV : Value → V
 | .none => .non
 | .bool b => .bl b
 | .int i _ => .int i
 | .str x _ => .str x
 | .bytes b _ => .byt b
 | .float b _ => .flt b
 | .ref a => .ref a
 | .type n => .ty n
 | _ => .non
theorem toV_rel : ∀ {x : V} {u : Value}, RelV x u → toV u = x
 | .non, _, r => by cases r; rfl
 | .bl b, _, r => by cases r; rfl
 | .int i, _, ⟨t, e⟩ => by cases e; rfl
 | .str x, _, ⟨t, e⟩ => by cases e; rfl
 | .byt b, _, ⟨t, e⟩ => by cases e; rfl
 | .flt b, _, ⟨t, e⟩ => by cases e; rfl
 | .ref a, _, r => by cases r; rfl
 | .ty n, _, r => by cases r; rfl
noncomputable def rIndexL (K : PySem.W.Frag) (n : Nat) : V → List V → Hp → VK → Prop := fun x vs H Q => ∃ (l : Addr) (xs : List V) (y : V) (be : V → Bool) (j : Nat) (z : V), x = .ref l ∧ vs = [y] ∧ H l = some (.lst xs) ∧ (∀ z ∈ xs, EqD K H n z y (be z)) ∧ xs[j]? = some z ∧ be z = true ∧ (∀ (i : Nat) z, i < j → xs[i]? = some z → be z = false) ∧ Q (.int (j : Int)) H
section
variable {X : Cx}
theorem mt_indexL (K : PySem.W.Frag) (hK : X.K = K) (n : Nat) (hn : n ≤ 30) (hu : X.A.units + 64 < cLine) : MtR X "list.index" (rIndexL K n) := by
 subst hK
 intro pins s σ H x vs v us Q I rx rv h
 obtain ⟨l, xs, y, be, j, z, rfl, rfl, hH, he, hz, hb, hno, q⟩ := h
 cases rx
 obtain ⟨u, rfl, ru⟩ := rv.one
 obtain ⟨zz, its, m, r, hl, e⟩ := I.lstM hH
 have hj : j < xs.length := (List.getElem?_eq_some_iff.mp hz).1
 have at' : ∀ (i : Nat) (hi : i < its.length), ∃ x, xs[i]? = some x ∧ toV its[i] = x := fun i hi => by
  have hx : xs[i]? = some (xs[i]'(by omega)) := List.getElem?_eq_getElem _
  obtain ⟨w, hw, rw'⟩ := r.get hx
  rw [List.getElem?_eq_getElem hi] at hw
  cases hw
  exact ⟨_, hx, toV_rel rw'⟩
 have hsl : sizeLine ≤ 2 ^ 40 := by decide
 refine call_meets F.slot_list_index ⟨_, e, rfl⟩ F.entry_list_index (F.args_list_index_2 _ _) (SeqAt.list_indexAt l its.toArray m none #[] u (fun w => be (toV w)) j (by simpa [← hl] using hj) (by omega) ?_ ?_) ⟨e, fun w hw => ?_, ⟨.int _, H, I.tok _, ⟨_, rfl⟩, q⟩⟩
 ·obtain ⟨x, h1, h2⟩ := at' j (by omega)
  rw [hz] at h1; cases h1
  show be (toV its[j]) = true
  rw [h2]; exact hb
 ·intro i hi hlt
  have hi' : i < its.length := by simpa using hi
  obtain ⟨x, h1, h2⟩ := at' i hi'
  show be (toV its[i]) = false
  rw [h2]; exact hno i x hlt h1
 ·have hw' : w ∈ its := by simpa using hw
  obtain ⟨i, hi⟩ := List.mem_iff_getElem?.mp hw'
  have hil : i < its.length := (List.getElem?_eq_some_iff.mp hi).1
  have hx : xs[i]? = some (xs[i]'(by omega)) := List.getElem?_eq_getElem _
  obtain ⟨w2, hw2, rw2⟩ := r.get hx
  rw [hi] at hw2; cases hw2
  have ev := toV_rel rw2
  show SeqAt.EqAt X.A.in1 s w u (be (toV w))
  rw [ev]
  refine eqD_at I n X.A.in1 ?_ _ _ _ _ _ (he _ (List.mem_of_getElem? hx)) rw2 ru
  show X.A.units + 1 + n < cLine
  omega
theorem argBest_le (bt : Nat → Nat → Bool) : ∀ n, argBest bt n ≤ n
 | 0 => Nat.le_refl _
 | n + 1 => by
  unfold argBest
  split
  ·exact Nat.le_refl _
  ·exact Nat.le_succ_of_le (argBest_le bt n)
end
noncomputable def isT (H : Hp) : V → Bool
 | .ref a => match H a with
  | some (.tup _) => true
  | _ => false
 | _ => false
section
variable {K : PySem.W.Frag}
theorem k_nt : PySem.W.kitOne K (.type "NoneType") (.type "tuple") = some false := by kernel_rfl
theorem k_bt : PySem.W.kitOne K (.type "bool") (.type "tuple") = some false := by kernel_rfl
theorem k_it : PySem.W.kitOne K (.type "int") (.type "tuple") = some false := by kernel_rfl
theorem k_st : PySem.W.kitOne K (.type "str") (.type "tuple") = some false := by kernel_rfl
theorem k_lt : PySem.W.kitOne K (.type "list") (.type "tuple") = some false := by kernel_rfl
theorem k_tt : PySem.W.kitOne K (.type "tuple") (.type "tuple") = some true := by kernel_rfl
theorem k_dt : PySem.W.kitOne K (.type "dict") (.type "tuple") = some false := by kernel_rfl
variable {H : Hp} {x : V}
theorem Kd.isTuple (k : Kd K H x) : IsX K H x (.type "tuple") (isT H x) := by
 cases k with
 | non => exact ⟨_, .of .non, k_nt⟩
 | bl b => exact ⟨_, .of (.bl b), k_bt⟩
 | int i => exact ⟨_, .of (.int i), k_it⟩
 | str y => exact ⟨_, .of (.str y), k_st⟩
 | lst e => refine ⟨_, .of (.lst e), ?_⟩; simp only [isT, e]; exact k_lt
 | tup e => refine ⟨_, .of (.tup e), ?_⟩; simp only [isT, e]; exact k_tt
 | dict e => refine ⟨_, .dict e, ?_⟩; simp only [isT, e, DictO]; exact k_dt
end
structure DefA (P : Program) (w : World) (K : PySem.W.Frag) (mg : Str → Option Value) (base : Heap) (k : Nat) (f : Addr) (ps : List Str) (ds : List V) (sp : Sp) : Prop where
 ex : ∃ (fd : FuncData) (dvs : List Value), FnOk P w K mg base CX0 k f fd ps sp ∧ PySem.W.keepIn K (.ref f) = true ∧ Binds K fd ps dvs ∧ Vals ds dvs
section
variable {P : Program} {w : World} {K : PySem.W.Frag} {mg : Str → Option Value} {base : Heap}
theorem FunD.defA {x qual : Str} {st : Stmt} {f : Addr} {fd : FuncData} {ps : List Str} {k : Nat} {sp : Sp} (F : FunD K x qual st .none f fd) (G : FnOk P w K mg base CX0 k f fd ps sp)
  (h : ∀ (kV doc pm : Value) (an : Option Addr) (cdv ct : Value) (us : List Value), us.length = ps.length → bindArgs (PySem.W.fnOf x qual (defArgs st) (defBody st) (defScope st) .none kV doc pm an cdv ct) ⟨us, []⟩ = pure (ps.zip us)) : DefA P w K mg base k f ps [] sp := by
 obtain ⟨oc, od, kV, doc, pm, an, cdv, ct, osl, rfl, lk, hcd⟩ := F.ex
 exact ⟨_, [], G, F.kp, .all (h kV doc pm an cdv ct), .nil⟩
end
section
variable {X : Cx}
theorem ld_var {E : Value → Shared → Prop} {pins : List (Addr × Obj)} {s : Shared} {σ : St} {H : Hp} {i : Nat} {x : Str} {v : V} {pos : Pos} {Q : Value → Shared → Prop} (I : Inv X pins σ H s) (hN : X.N[i]? = some x) (hv : Vis X.env.scope x) (e : σ[i]? = some (some v)) (h : ∀ u, RelV v u → Q u s)
  (hd : (x == ("__debug__" : Str)) = false := by decide) (hcd : (x == ("__classdict__" : Str)) = false := by decide) : wpAny (model X.prog X.w) X.A (eval (.Name x pos) X.env) Q E s := by
 obtain ⟨m, hn, hl⟩ := I.loc
 obtain ⟨u, r, l⟩ := hl i x v hN e hv
 have fin := h u r
 rcases l with ⟨hk, hm⟩ | ⟨hk, c, hc, hcell⟩
 ·exact wpAny_Name (wpAny_loadName_local I.ok.kind hk hn hm fin) hd
 ·rcases hk with hk | hk
  ·exact wpAny_Name (wpAny_loadName_cell I.ok.kind hk hc hcell fin) hd
  ·exact wpAny_Name (wpAny_loadName_free I.ok.kind hk hc hcell fin hcd) hd
noncomputable def tCallV (i : Nat) (f : Addr) (sp : Sp) (dvs : List V) (E : XK) (t : TA) : TE := fun σ H Q => σ[i]? = some (some (.ref f)) ∧ tCall sp dvs E t σ H Q
theorem pe_callV (i : Nat) {k : Nat} {x : Str} {f : Addr} {ps : List Str} {ds : List V} {sp : Sp} {e : Expr} {es : List Expr} {t : TA} {p pos : Pos} (D : DefA X.prog X.w X.K X.mg X.base k f ps ds sp) (hr : Room k X.A) (ha : PA X (e :: es) t)
  (hN : X.N[i]? = some x := by rfl) (hv : Vis X.env.scope x := by first | exact Or.inl rfl | exact Or.inr (Or.inl rfl) | exact Or.inr (Or.inr rfl)) (hdb : (x == ("__debug__" : Str)) = false := by decide) (hcd : (x == ("__classdict__" : Str)) = false := by decide)
  (he : starEach (e :: es) X.env = (false, eval e X.env) :: starEach es X.env := by rfl) (hpl : (backTo pos (starEach es X.env)).any (·.1) = false := by rfl) :
  PE X (.Call (.Name x p) (e :: es) [] pos) (tCallV i f sp ds E0 t) := by
 obtain ⟨fd, dvs, F, hk, hb, hd⟩ := D.ex
 intro pins s σ H Q I ⟨hi, h⟩
 refine wpAny_Call_Name_kw (ld_var I hN hv hi (fun u r => ?_) hdb hcd)
 obtain rfl : u = Value.ref f := r
 refine PySem.W.callWith_K (h₀ := X.base) I.ok.mod.kin hk (thn (ha pos pins s σ H _ I h) fun us s1 ⟨vs, H1, I1, r, q⟩ => ⟨I1.kIn, ?_⟩) he hpl
 exact run_fn F hr hb hd pass0 I1 r q
end
section
variable {X : Cx}
noncomputable def rIsXE (K : PySem.W.Frag) : List V → Hp → VK → Prop := fun xs H Q => ∃ (a C tp : Addr) (Cs : List Addr) (b : Bool), xs = [.ref a, .ref tp] ∧ H a = some (ExcO a C) ∧ XCls K C ∧ SqT K H tp (Cs.map V.ref) ∧ PySem.W.kitAny K (.ref C) (Cs.map Value.ref) = some b ∧ Q (.bl b) H
theorem vals_refs : ∀ {Cs : List Addr} {us : List Value}, Vals (Cs.map V.ref) us → us = Cs.map Value.ref
 | [], _, r => by cases r; rfl
 | C :: Cs, _, .cons r t => by rw [show _ = Value.ref C from r, vals_refs t]; rfl
theorem call_isXE (K : PySem.W.Frag) (hK : X.K = K) : CallR X (.builtin "isinstance") (rIsXE K) := by
 subst hK
 intro pins s σ H xs us Q I rs h
 obtain ⟨a, C, tp, Cs, b, rfl, ea, cc, ht, e, q⟩ := h
 obtain ⟨u, w', rfl, r1, r2⟩ := vals2 rs
 cases r1
 cases r2
 obtain ⟨its, r, p1, _⟩ := I.tuple ht
 have ei := vals_refs r
 subst ei
 obtain ⟨⟨oc, od, odt, osl⟩, e1, ec, n, ed⟩ := p1
 cases ec
 cases ed
 obtain ⟨⟨ox, vx, p1, p2, p3, _⟩, _, _⟩ := (show ObjOk X.prog X.w H s.heap a (ExcO a C) from I.hok a _ ea)
 have p : ∃ o vs, s.heap.get? a = some o ∧ o.cls = Value.ref C ∧ o.data = Data.fields vs := ⟨ox, vx, p1, p2, p3⟩
 exact PySem.W.kia_tup (kitx_exc cc) I.kIn p e1 e (fun z => nomatch z) fun tk => ⟨.bl b, H, I.tok tk, rfl, q⟩
theorem kitAny_none {K : PySem.W.Frag} {t : Value} : ∀ {Cs : List Addr}, (∀ c ∈ Cs, PySem.W.kitOne K t (.ref c) = some false) → PySem.W.kitAny K t (Cs.map Value.ref) = some false
 | [], _ => rfl
 | c :: r, h => by
  rw [List.map_cons]
  unfold PySem.W.kitAny
  rw [h c List.mem_cons_self]
  exact kitAny_none fun d hd => h d (List.mem_cons_of_mem _ hd)
end
section
variable {X : Cx}
noncomputable def maxI (ns : List Int) : Int := ns.getD (argBest (fun i j => decide (ns.getD i 0 > ns.getD j 0)) (ns.length - 1)) 0
theorem maxI_mem {ns : List Int} (h : ns ≠ []) : maxI ns ∈ ns := by
 unfold maxI
 have hl : 0 < ns.length := List.length_pos_iff.mpr h
 have hle := argBest_le (fun i j => decide (ns.getD i 0 > ns.getD j 0)) (ns.length - 1)
 have hlt : argBest (fun i j => decide (ns.getD i 0 > ns.getD j 0)) (ns.length - 1) < ns.length := by omega
 rw [List.getD_eq_getElem?_getD, List.getElem?_eq_getElem hlt]
 exact List.getElem_mem hlt
theorem le_maxI {ns : List Int} (h : ns ≠ []) : ∀ n ∈ ns, n ≤ maxI ns := fun n hn => by
 obtain ⟨i, hi, rfl⟩ := List.getElem_of_mem hn
 have := (argBest_gt (fun i => ns.getD i 0) (ns.length - 1)).2 i (by omega)
 have e : ns.getD i 0 = ns[i] := by simp [List.getD, hi]
 rw [e] at this
 exact this
theorem call_maxI (K : PySem.W.Frag) (hK : X.K = K) (hc : X.calm = true) : CallR X (.builtin "max") (fun xs H Q => ∃ p ns, xs = [.ref p] ∧ SqL K H p (ns.map V.int) ∧ ns ≠ [] ∧ Q (.int (maxI ns)) H) := by
 subst hK
 intro pins s σ H xs us Q I r h
 obtain ⟨p, ns, rfl, hp, hne, q⟩ := h
 obtain ⟨u, rfl, ru⟩ := vals1 r
 cases ru
 obtain ⟨its, rv, pl, hz⟩ := I.list hp
 have hlen := rv.length
 rw [List.length_map] at hlen
 have hlt : @LT.lt Nat instLTNat p s.heap.objs.size := by obtain ⟨_, e, _⟩ := pl.isList; exact Heap.lt_size e
 have hyl : 0 < ns.length := List.length_pos_iff.mpr hne
 have val : ∀ (i : Nat) (v : Value), its.toArray[i]? = some v → ∃ t, v = Value.int (ns.getD i 0) t := fun i v hv => by
  have hv' : its[i]? = some v := by simpa using hv
  have hi : i < ns.length := by have := (List.getElem?_eq_some_iff.mp hv').1; omega
  obtain ⟨w, hw, rw'⟩ := rv.get (show (ns.map V.int)[i]? = some (.int ns[i]) by rw [List.getElem?_map, List.getElem?_eq_getElem hi]; rfl)
  rw [hv'] at hw; cases hw
  obtain ⟨t, rfl⟩ := rw'
  exact ⟨t, by simp [List.getD, hi]⟩
 refine call_max_walk (wpAny_pyIter_list pl.isList ?_)
 refine ⟨s.heap.objs.size, _, _, _, _, _, fun i j => decide (ns.getD i 0 > ns.getD j 0), rfl, Walks.list (A := X.A.in1) (I.ok.hd hc) _ p (Nat.ne_of_lt hlt) its.toArray, ⟨⟨_, Heap.get?_push_size _ rfl, rfl, rfl⟩, pl.isList.push _⟩, fun b hb => ?_, by simp; omega, fun i j vi vj s Q E hi hj h => ?_, fun v h' tk hP hk => ?_⟩
 ·show @LT.lt Nat instLTNat b (s.heap.push _).objs.size
  rw [Heap.size_push]
  rcases List.mem_cons.mp hb with e | hb
  ·rw [e]; exact Nat.lt_succ_self _
  ·rw [List.mem_singleton.mp hb]; exact Nat.lt_succ_of_lt hlt
 ·obtain ⟨t1, rfl⟩ := val i vi hi
  obtain ⟨t2, rfl⟩ := val j vj hj
  exact richCompare_gives (op := .Gt) (typeIs_int s _ t1) (typeIs_int s _ t2) F.slot_int_gt F.entry_int_gt (F.args_int_gt_2 _ _) (gives_int_gt _ _ t1 t2) (fun x => nomatch x) h
 ·obtain ⟨t, rfl⟩ := val _ v hP
  have es : its.toArray.size - 1 = ns.length - 1 := by simp; omega
  rw [es]
  exact ⟨.int _, H, I.kept (t' := tk) fun b o e => hk b o (fun hm => by
   have := Heap.lt_size e
   rw [List.mem_singleton.mp hm] at this
   exact Nat.lt_irrefl _ this) (Heap.get?_push_of_some _ e), ⟨t, rfl⟩, q⟩
end
structure FnOkM (P : Program) (w : World) (K : PySem.W.Frag) (mg : Str → Option Value) (base : Heap) (k : Nat) (f : Addr) (fd : FuncData) (ps : List Str) (sp : Addr → Sp) : Prop where
 len : ∀ ea vs H Q E, sp ea vs H Q E → vs.length = ps.length
 run : ∀ (A : Around) (ea : Addr) (outer : List Env) (s : Shared) (H : Hp) (args : Args) (us : List Value) (vs : List V) (Q : VK) (E : XK), Room k A → Env0 P w K mg base (A.mark (some (.ref ea))) outer s H → BindsTo s fd args (ps.zip us) → Vals vs us → sp ea vs H Q E →
  codeAny (model P w) (A.mark (some (.ref ea))) (.call (.ref f) args) (CR CX0 outer P w H s Q E) s
structure DefM (P : Program) (w : World) (K : PySem.W.Frag) (mg : Str → Option Value) (base : Heap) (k : Nat) (x : Str) (ps : List Str) (ds : List V) (sp : Addr → Sp) : Prop where
 ex : ∃ (f : Addr) (fd : FuncData) (dvs : List Value), FnOkM P w K mg base k f fd ps sp ∧ mg x = some (.ref f) ∧ PySem.W.keepIn K (.ref f) = true ∧ Binds K fd ps dvs ∧ Vals ds dvs
section
variable {P : Program} {w : World} {K : PySem.W.Frag} {mg : Str → Option Value} {base : Heap}
theorem Env0.unmark {A : Around} {ea : Addr} {outer : List Env} {s : Shared} {H : Hp} (e : Env0 P w K mg base (A.mark (some (.ref ea))) outer s H) : Env0 P w K mg base A outer s H := ⟨e.frames, e.mod, e.bs, e.bsz, e.funs, e.frf, e.hok, e.bare⟩
theorem FunD.okM {x qual : Str} {st : Stmt} {dV : Value} {f : Addr} {fd : FuncData} {N ps : List Str} {k : Nat} {sp : Addr → Sp} (F : FunD K x qual st dV f fd) (S : FnScope N ps (defScope st)) (len : ∀ ea vs H Q E, sp ea vs H Q E → vs.length = ps.length)
  (hbody : ∀ (cdv : Value) (A : Around) (ea : Addr) (outer : List Env) (s : Shared) (H : Hp) (vs : List V) (Q : VK) (E : XK), Room k (A.deeper (envOfC qual (defScope st) s.heap.objs.size f cdv)) → sp ea vs H Q E →
   ∃ t, PSs ((cxOf CX0 P w K mg base N qual (defScope st) f cdv A outer s H E).marked ea) (defBody st) t ∧ t { nx := fun _ H' => Q .non H', rt := Q } (start N vs) H) : FnOkM P w K mg base (k + 1) f fd ps sp := by
 obtain ⟨oc, od, kV, doc, pm, an, cdv, ct, osl, rfl, lk, hcd⟩ := F.ex
 refine ⟨len, fun A ea outer s H args us vs Q E hr e0 hb r hsp => ?_⟩
 have hl := len _ _ _ _ _ hsp
 have KX : K.In s.heap := e0.mod.kin.keeps fun b o e => (e0.bs b o e).1
 have lim : s.heap.NoLimit := e0.mod.nolimit.keeps fun b o e => (e0.bs b o e).1
 have hkind : ∀ y ∈ ps.zip us, (defScope st).names.lookup y.1 = some .local ∨ ((defScope st).names.lookup y.1 = some .cell ∧ ((cellsFrom (s.heap.objs.size + 1) (defScope st).names []).lookup y.1).isSome = true) := fun ⟨n, v⟩ hy => by
  rcases S.par n (List.of_mem_zip hy).1 with q | q
  ·exact .inl q
  ·exact .inr ⟨q, PySem.W.cellsFrom_some _ _ _ (.inl q)⟩
 refine codeAny_call_function (A := A.mark (some (.ref ea))) hr.depth (KX _ _ lk) rfl S.co S.gen rfl (PySem.W.codeRec_of KX hcd) (hb _ _ _ _ ?_)
 refine wpAny_newFunctionEnv_cells S.kind hkind fun env he s1 x => ?_
 subst he
 refine ⟨lim.keeps x.toInCall.keep, codeAny_func ?_⟩
 obtain ⟨t, ht, hq⟩ := hbody cdv A ea outer s H vs Q E (hr.deeper _) hsp
 have I : Inv ((cxOf CX0 P w K mg base N qual (defScope st) f cdv A outer s H E).marked ea) [] (start N vs) H s1 := (inv_start S hr.hd e0.unmark hl r x).marked ea
 refine wpAny_mono (ht [] s1 (start N vs) H _ I hq) (fun fl s' hs => ?_) fun e s' hs => False.elim hs
 have fin : ∀ {σ' : St} {H' : Hp} {v : V} {u : Value}, Inv ((cxOf CX0 P w K mg base N qual (defScope st) f cdv A outer s H E).marked ea) [] σ' H' s' → RelV v u → Q v H' → CE outer P w H s Q u s' :=
  fun {σ' H' v u} J rv q => ⟨v, H', J.os, J.bare, J.base, J.hok, rv, q⟩
 cases fl with
 | ret u =>
  obtain ⟨v, σ', H', J, rv, q⟩ := hs
  exact fin J rv q
 | next =>
  obtain ⟨σ', H', J, q⟩ := hs
  exact fin (v := V.non) (u := Value.none) J rfl q
 | brk =>
  obtain ⟨_, _, _, q⟩ := hs
  exact False.elim q
 | cont =>
  obtain ⟨_, _, _, q⟩ := hs
  exact False.elim q
theorem FunD.defM {x qual : Str} {st : Stmt} {f : Addr} {fd : FuncData} {ps : List Str} {k : Nat} {sp : Addr → Sp} (F : FunD K x qual st .none f fd) (G : FnOkM P w K mg base k f fd ps sp) (hm : mg x = some (.ref f))
  (h : ∀ (kV doc pm : Value) (an : Option Addr) (cdv ct : Value) (us : List Value), us.length = ps.length → bindArgs (PySem.W.fnOf x qual (defArgs st) (defBody st) (defScope st) .none kV doc pm an cdv ct) ⟨us, []⟩ = pure (ps.zip us)) : DefM P w K mg base k x ps [] sp := by
 obtain ⟨oc, od, kV, doc, pm, an, cdv, ct, osl, rfl, lk, hcd⟩ := F.ex
 exact ⟨f, _, [], G, hm, F.kp, .all (h kV doc pm an cdv ct), .nil⟩
end
section
variable {X : Cx}
theorem pe_callM {k : Nat} {x : Str} {ps : List Str} {ds : List V} {sp : Addr → Sp} {e : Expr} {es : List Expr} {t : TA} {p pos : Pos} {ea : Addr} (D : DefM X.prog X.w X.K X.mg X.base k x ps ds sp) (hr : Room k X.A) (hg : Gl (X.marked ea) x)
  (ha : PA (X.marked ea) (e :: es) t) (hdb : (x == ("__debug__" : Str)) = false := by decide) (he : starEach (e :: es) X.env = (false, eval e X.env) :: starEach es X.env := by rfl) (hpl : (backTo pos (starEach es X.env)).any (·.1) = false := by rfl) :
  PE (X.marked ea) (.Call (.Name x p) (e :: es) [] pos) (tCall (sp ea) ds E0 t) := by
 obtain ⟨f, fd, dvs, F, hm, hk, hb, hd⟩ := D.ex
 intro pins s σ H Q I h
 refine wpAny_Call_Name_kw (ld_glob I hg hm ?_ hdb)
 refine PySem.W.callWith_K (h₀ := X.base) I.ok.mod.kin hk (thn (ha pos pins s σ H _ I h) fun us s1 ⟨vs, H1, I1, r, q⟩ => ⟨I1.kIn, ?_⟩) he hpl
 have r2 : Vals (vs ++ ds) (us ++ dvs) := r.append hd
 have hl : (us ++ dvs).length = ps.length := by rw [← r2.length]; exact F.len _ _ _ _ _ q
 refine wpAny_call (codeAny_mono (F.run X.A ea X.stack s1 H1 ⟨us, []⟩ (us ++ dvs) (vs ++ ds) Q E0 hr I1.env0 (hb s1 us I1.kIn hl) r2 q) fun r s' hq => ?_)
 cases r with
 | error e => exact False.elim hq
 | ok fl =>
  cases fl with
  | ret u => exact I1.after hq
  | next => exact False.elim hq
  | brk => exact False.elim hq
  | cont => exact False.elim hq
end
set_option maxHeartbeats 1600000
noncomputable def rInD (K : PySem.W.Frag) (neg : Bool) (n : Nat) : R2 := fun x y H Q => ∃ (p : Addr) (xs : List V) (be : V → Bool), y = .ref p ∧ SqL K H p xs ∧ (∀ z ∈ xs, EqD K H n z x (be z)) ∧ Q (.bl (if neg then !(xs.any be) else xs.any be)) H
theorem any_toV {be : V → Bool} : ∀ {xs : List V} {us : List Value}, Vals xs us → us.any (fun w => be (toV w)) = xs.any be
 | _, _, .nil => rfl
 | _, _, .cons r t => by rw [List.any_cons, List.any_cons, any_toV t, toV_rel r]
section
variable {X : Cx}
theorem inD_at {pins : List (Addr × Obj)} {s : Shared} {σ : St} {H : Hp} {n : Nat} (hn : n ≤ 30) (hu : X.A.units + 64 < cLine) (I : Inv X pins σ H s) {x : V} {v : Value} (rx : RelV x v) {be : V → Bool} : ∀ {xs : List V} {us : List Value}, Vals xs us → (∀ z ∈ xs, EqD X.K H n z x (be z)) → ∀ u ∈ us, SeqAt.EqAt X.A.in1 s u v (be (toV u))
 | _, _, .nil, _, u, hu' => nomatch hu'
 | z :: xs, w :: us, .cons r t, he, u, hu' => by
  rcases List.mem_cons.mp hu' with e | hm
  ·rw [e, toV_rel r]
   refine eqD_at I n X.A.in1 ?_ _ _ _ _ _ (he z List.mem_cons_self) r rx
   show X.A.units + 1 + n < cLine
   omega
  ·exact inD_at hn hu I rx t (fun z hz => he z (List.mem_cons_of_mem _ hz)) u hm
theorem op_inD (K : PySem.W.Frag) (hK : X.K = K) (n : Nat) (hn : n ≤ 30) (hu : X.A.units + 64 < cLine) : OpR X (compareOp .In) (rInD K false n) := by
 subst hK
 intro pins s σ H x y v u Q I rx ry h
 obtain ⟨p, xs, be, rfl, hq, he, q⟩ := h
 cases ry
 obtain ⟨its, r, pl, hz⟩ := I.list hq
 refine SeqAt.in_listAt (fun w => be (toV w)) pl.isList (fun w hw => inD_at hn hu I rx r he w (by simpa using hw)) ⟨.bl _, H, I, rfl, ?_⟩
 rw [show its.toArray.any (fun w => be (toV w)) = its.any (fun w => be (toV w)) by simp, any_toV r]
 exact q
theorem op_notInD (K : PySem.W.Frag) (hK : X.K = K) (n : Nat) (hn : n ≤ 30) (hu : X.A.units + 64 < cLine) : OpR X (compareOp .NotIn) (rInD K true n) := by
 subst hK
 intro pins s σ H x y v u Q I rx ry h
 obtain ⟨p, xs, be, rfl, hq, he, q⟩ := h
 cases ry
 obtain ⟨its, r, pl, hz⟩ := I.list hq
 refine SeqAt.notIn_listAt (fun w => be (toV w)) pl.isList (fun w hw => inD_at hn hu I rx r he w (by simpa using hw)) ⟨.bl _, H, I, rfl, ?_⟩
 rw [show its.toArray.any (fun w => be (toV w)) = its.any (fun w => be (toV w)) by simp, any_toV r]
 exact q
end
end L2
namespace M4
end M4
set_option maxHeartbeats 4000000
namespace K18
open PySem L2 M4
theorem sz0 : 0 ≤ sizeLine := by decide
theorem sz1 : 1 ≤ sizeLine := by decide
theorem sz2 : 2 ≤ sizeLine := by decide
theorem sz3 : 3 ≤ sizeLine := by decide
theorem sz4 : 4 ≤ sizeLine := by decide
theorem sz5 : 5 ≤ sizeLine := by decide
theorem sz6 : 6 ≤ sizeLine := by decide
theorem sz8 : 8 ≤ sizeLine := by decide
theorem sz9 : 9 ≤ sizeLine := by decide
theorem sz11 : 11 ≤ sizeLine := by decide
noncomputable def top (i : Nat) : Stmt := PySem.Challenge.pw_cellfolio_k18_poured_and_recoloured.main.body.getD i (.Pass ⟨0, 0, 0, 0⟩)
noncomputable abbrev s_is_whole_from : Stmt := top 29
noncomputable abbrev s_is_whole_within : Stmt := top 30
noncomputable abbrev s_is_cell : Stmt := top 31
noncomputable abbrev s_is_side : Stmt := top 32
noncomputable abbrev s_is_list_of : Stmt := top 33
noncomputable abbrev s_is_list_of_cells : Stmt := top 34
noncomputable abbrev s_are_rows_of : Stmt := top 35
noncomputable abbrev s_is_picture : Stmt := top 36
noncomputable abbrev s_need_picture : Stmt := top 37
noncomputable abbrev s_need_cells : Stmt := top 38
noncomputable abbrev s_all_cells : Stmt := top 40
noncomputable abbrev s_is_colour : Stmt := top 43
noncomputable abbrev s_need_colour : Stmt := top 44
noncomputable abbrev s_Palette.__init__ : Stmt := inClass (top 47) 0
noncomputable abbrev s_Palette.colours : Stmt := inClass (top 47) 1
noncomputable abbrev s_Palette.many : Stmt := inClass (top 47) 2
noncomputable abbrev s_Palette.colour_of : Stmt := inClass (top 47) 3
noncomputable abbrev s_Palette.cell_of : Stmt := inClass (top 47) 4
noncomputable abbrev s_Palette.add_colour : Stmt := inClass (top 47) 5
noncomputable abbrev s_need_cells_below : Stmt := top 48
noncomputable abbrev s_need_shown : Stmt := top 49
noncomputable abbrev s_shown_picture : Stmt := top 50
noncomputable abbrev s_poured_palettes : Stmt := top 51
noncomputable abbrev s_recoloured : Stmt := top 52
noncomputable abbrev s_law_draw : Stmt := top 54
noncomputable abbrev s_law_whole : Stmt := top 55
noncomputable abbrev s_law_word : Stmt := top 56
noncomputable abbrev s_law_colour : Stmt := top 57
noncomputable abbrev s_law_pool : Stmt := top 58
noncomputable abbrev s_law_size : Stmt := top 59
noncomputable abbrev s_law_picture : Stmt := top 60
noncomputable abbrev s_law_copied : Stmt := top 61
noncomputable abbrev s_law_rows_good : Stmt := top 62
noncomputable abbrev s_law_own : Stmt := top 63
noncomputable abbrev s_law_no_picture : Stmt := top 64
noncomputable abbrev s_law_poured_due : Stmt := top 65
noncomputable abbrev s_law_poured : Stmt := top 66
noncomputable abbrev s_law_new_colour : Stmt := top 67
noncomputable abbrev s_law_by_itself : Stmt := top 68
noncomputable abbrev s_law_pour_good : Stmt := top 69
noncomputable abbrev s_law_refused : Stmt := top 70
noncomputable abbrev s_law_recoloured_good : Stmt := top 71
noncomputable abbrev s_law : Stmt := top 72
theorem iteB {b : Bool} {A B : Prop} (h1 : b = true → A) (h2 : b = false → B) : if b = true then A else B := by
 cases b with
 | true => exact iteT (h1 rfl)
 | false => exact iteF (h2 rfl)
theorem iteN {b : Bool} {A B : Prop} (h1 : b = false → A) (h2 : b = true → B) : if (!b) = true then A else B := by
 cases b with
 | true => exact iteF (h2 rfl)
 | false => exact iteT (h1 rfl)
noncomputable def isWh (lo hi : Int) : V → Bool
 | .int i => decide (lo ≤ i) && decide (i ≤ hi)
 | _ => false
noncomputable def ir (rows : List (List Int)) : List (List V) := rows.map fun r => r.map V.int
structure Good (rows : List (List Int)) (w : Nat) : Prop where
 ne : 1 ≤ rows.length
 le : rows.length ≤ 24
 w1 : 1 ≤ w
 w24 : w ≤ 24
 row : ∀ r ∈ rows, r.length = w ∧ ∀ c ∈ r, 0 ≤ c ∧ c ≤ 15
noncomputable def isWf (lo : Int) : V → Bool
 | .int i => decide (lo ≤ i)
 | _ => false
noncomputable def spWf (K : W.Frag) : Sp := fun vs H Q _ => ∃ x lo, vs = [x, .int lo] ∧ Kd K H x ∧ Q (.bl (isWf lo x)) H
noncomputable def spWh (K : W.Frag) : Sp := fun vs H Q _ => ∃ x lo hi, vs = [x, .int lo, .int hi] ∧ Kd K H x ∧ Q (.bl (isWh lo hi x)) H
noncomputable def spInQ (K : W.Frag) (lo hi : Int) : Sp := fun vs H Q _ => ∃ x, vs = [x] ∧ Kd K H x ∧ Q (.bl (isWh lo hi x)) H
noncomputable abbrev spCellQ (K : W.Frag) : Sp := spInQ K 0 15
noncomputable def spSide (K : W.Frag) : Sp := fun vs H Q _ => ∃ x, vs = [x] ∧ Kd K H x ∧ Q (.bl (isWh 1 24 x)) H
noncomputable def spLocG (K : W.Frag) (lo hi : Int) : Sp := fun vs H Q _ => ∃ x, vs = [x] ∧ ((∃ a xs, x = .ref a ∧ H a = some (.lst xs) ∧ xs.length ≤ 1000000 ∧ (∀ y ∈ xs, Kd K H y) ∧ ∀ H', Same H H' → Q (.bl (xs.all (isWh lo hi))) H') ∨ (Kd K H x ∧ isL H x = false ∧ Q (.bl false) H))
noncomputable abbrev spLoc (K : W.Frag) : Sp := spLocG K 0 15
noncomputable def spLocFG (K : W.Frag) (fC : Addr) (lo hi : Int) : Sp := fun vs H Q E => ∃ x, vs = [x, .ref fC] ∧ spLocG K lo hi [x] H Q E
noncomputable abbrev spLocF (K : W.Frag) (fC : Addr) : Sp := spLocFG K fC 0 15
structure Txt (K : W.Frag) (mg : Str → Option Value) (cFE cC cN cM cP cL cB cD cZ : Addr) (tP tS tC tI : Tok) : Prop where
 len : mg "len" = none
 range : mg "range" = none
 isinstance : mg "isinstance" = none
 int : mg "int" = none
 bool : mg "bool" = none
 list : mg "list" = none
 all : mg "all" = none
 enumerate : mg "enumerate" = none
 min : mg "min" = none
 max : mg "max" = none
 sum : mg "sum" = none
 tuple : mg "tuple" = none
 set : mg "set" = none
 sorted : mg "sorted" = none
 ValueError : mg "ValueError" = none
 MOST_PART : mg "MOST_PART" = some (.int 255 tP)
 MOST_COLOURS : mg "MOST_COLOURS" = some (.int 16 tS)
 MOST_CELL : mg "MOST_CELL" = some (.int 15 tC)
 MOST_SIDE : mg "MOST_SIDE" = some (.int 24 tI)
 FolioError : mg "FolioError" = some (.ref cFE)
 BadColour : mg "BadColour" = some (.ref cC)
 xBadColour : W.excIn K cC mroVE "ValueError.__new__" = true
 kC : XCls K cC
 eC : W.exmOne K (.ref cC) (.ref cFE) = some true
 NoColour : mg "NoColour" = some (.ref cN)
 xNoColour : W.excIn K cN mroVE "ValueError.__new__" = true
 kN : XCls K cN
 eN : W.exmOne K (.ref cN) (.ref cFE) = some true
 TooMany : mg "TooMany" = some (.ref cM)
 xTooMany : W.excIn K cM mroVE "ValueError.__new__" = true
 kM : XCls K cM
 eM : W.exmOne K (.ref cM) (.ref cFE) = some true
 BadPalette : mg "BadPalette" = some (.ref cP)
 xBadPalette : W.excIn K cP mroVE "ValueError.__new__" = true
 kP : XCls K cP
 eP : W.exmOne K (.ref cP) (.ref cFE) = some true
 BadPicture : mg "BadPicture" = some (.ref cB)
 xBadPicture : W.excIn K cB mroVE "ValueError.__new__" = true
 kB : XCls K cB
 eB : W.exmOne K (.ref cB) (.ref cFE) = some true
 BadCell : mg "BadCell" = some (.ref cD)
 xBadCell : W.excIn K cD mroVE "ValueError.__new__" = true
 kD : XCls K cD
 eD : W.exmOne K (.ref cD) (.ref cFE) = some true
 BadSize : mg "BadSize" = some (.ref cZ)
 xBadSize : W.excIn K cZ mroVE "ValueError.__new__" = true
 kZ : XCls K cZ
 eZ : W.exmOne K (.ref cZ) (.ref cFE) = some true
 cl : Cls K cL
 nK : NoAttr K cL "kept"
 mgL : mg "Palette" = some (.ref cL)
 cA : W.findIn K (.ref cL) "__class__" = some (some (.builtin "object.__class__"))
 cG : W.specialIn K (.builtin "object.__class__") "__get__" = some (some (.builtin "getset_descriptor.__get__"))
 cT : W.takesIn K (.builtin "object.__class__") = some true
 cO : W.mroIn K cL (.type "object") = some true
 kL : W.kitOne K (.ref cL) (.ref cL) = some true
theorem boot_VE : bootBuiltins "ValueError" = some (.type "ValueError") := by decide +kernel
section
variable {P : Program} {w : World} {K : W.Frag} {mg : Str → Option Value} {base : Heap} {cFE cC cN cM cP cL cB cD cZ : Addr} {tP tS tC tI : Tok}
theorem sc_is_whole_from : FnScope ["thing", "least"] ["thing", "least"] (defScope s_is_whole_from) := ⟨rfl, rfl, rfl, by decide +kernel, rfl, by decide +kernel, by decide +kernel⟩
theorem ok_is_whole_from {f : Addr} {fd : FuncData} (F : FunD K "is_whole_from" "is_whole_from" s_is_whole_from .none f fd) (T : Txt K mg cFE cC cN cM cP cL cB cD cZ tP tS tC tI) : FnOk P w K mg base CX0 1 f fd ["thing", "least"] (spWf K) := by
 refine F.ok sc_is_whole_from (fun vs H Q E h => ?_) (fun cdv A outer s H vs Q E hr h => ?_)
 ·obtain ⟨x, lo, rfl, _⟩ := h; rfl
 ·obtain ⟨x, lo, rfl, kd, k⟩ := h
  refine ⟨_, (pss_cons (ps_if (PW.pt (pw_or (pt_not (pt_val (isiK K rfl (pv 0) rfl T.isinstance rfl T.int PyProof.Rows.boot_int))) (pw_or1 (pt_val (isiK K rfl (pv 0) rfl T.isinstance rfl T.bool PyProof.Rows.boot_bool))))) (pss_one (ps_ret pe_bl)) pss_nil)
    (pss_one (ps_ret (pe_cmpR op_le (pv 1) (pv 0) (nomark _))))), ?_⟩
  have fl : isWf lo x = false → Q (.bl false) H := fun e => by rw [e] at k; exact k
  refine ⟨_, rfl, _, kd.isInt, _, rfl, iteN (fun hI => (fl ?_)) (fun hI => ⟨_, rfl, _, kd.isBool, _, rfl, iteB (fun hB => (fl ?_)) (fun hB => ?_)⟩)⟩
  ·cases x <;> first | rfl | cases hI
  ·cases x <;> first | rfl | cases hB
  ·cases x with
   | int i => exact ⟨_, rfl, _, rfl, _, _, rfl, rfl, k⟩
   | bl b => cases hB
   | _ => cases hI
theorem sc_is_whole_within : FnScope ["thing", "least", "most"] ["thing", "least", "most"] (defScope s_is_whole_within) := ⟨rfl, rfl, rfl, by decide +kernel, rfl, by decide +kernel, by decide +kernel⟩
theorem ok_is_whole_within {f : Addr} {fd : FuncData} (F : FunD K "is_whole_within" "is_whole_within" s_is_whole_within .none f fd) (g_is_whole_from : Def P w K mg base 1 "is_whole_from" ["thing", "least"] [] (spWf K)) : FnOk P w K mg base CX0 2 f fd ["thing", "least", "most"] (spWh K) := by
 refine F.ok sc_is_whole_within (fun vs H Q E h => ?_) (fun cdv A outer s H vs Q E hr h => ?_)
 ·obtain ⟨x, lo, hi, rfl, _⟩ := h; rfl
 ·obtain ⟨x, lo, hi, rfl, kd, k⟩ := h
  refine ⟨_, (pss_one (ps_ret (pe_and (pe_callD g_is_whole_from (hr.mono (by decide)) rfl (pa_cons (pv 0) (pa_cons (pv 1) pa_nil))) (pe_one (pe_cmpR op_le (pv 0) (pv 2) (nomark _)))))), ?_⟩
  refine ⟨_, rfl, _, rfl, x, lo, rfl, kd, _, rfl, iteB (fun h1 => ?_) (fun h1 => ?_)⟩
  ·cases x with
   | int i =>
    refine ⟨_, rfl, _, rfl, _, _, rfl, rfl, ?_⟩
    have h2 : decide (lo ≤ i) = true := h1
    simpa only [isWh, h2, Bool.true_and] using k
   | _ => cases h1
  ·have e : isWh lo hi x = false := by
    cases x with
    | int i =>
     have h2 : decide (lo ≤ i) = false := h1
     simp only [isWh, h2, Bool.false_and]
    | _ => rfl
   rw [e] at k
   exact k
theorem sc_is_cell : FnScope ["thing"] ["thing"] (defScope s_is_cell) := ⟨rfl, rfl, rfl, by decide +kernel, rfl, by decide +kernel, by decide +kernel⟩
theorem ok_is_cell {f : Addr} {fd : FuncData} (F : FunD K "is_cell" "is_cell" s_is_cell .none f fd) (T : Txt K mg cFE cC cN cM cP cL cB cD cZ tP tS tC tI) (g_is_whole_within : Def P w K mg base 2 "is_whole_within" ["thing", "least", "most"] [] (spWh K)) : FnOk P w K mg base CX0 3 f fd ["thing"] (spCellQ K) := by
 refine F.ok sc_is_cell (fun vs H Q E h => ?_) (fun cdv A outer s H vs Q E hr h => ?_)
 ·obtain ⟨x, rfl, _⟩ := h; rfl
 ·obtain ⟨x, rfl, kd, k⟩ := h
  refine ⟨_, (pss_one (ps_ret (pe_callD g_is_whole_within (hr.mono (by decide)) rfl (pa_cons (pv 0) (pa_cons pe_int (pa_cons (pe_glob (v := .int 15) rfl T.MOST_CELL ⟨_, rfl⟩) pa_nil)))))), ?_⟩
  exact ⟨_, rfl, x, 0, 15, rfl, kd, k⟩
theorem sc_is_side : FnScope ["thing"] ["thing"] (defScope s_is_side) := ⟨rfl, rfl, rfl, by decide +kernel, rfl, by decide +kernel, by decide +kernel⟩
theorem ok_is_side {f : Addr} {fd : FuncData} (F : FunD K "is_side" "is_side" s_is_side .none f fd) (T : Txt K mg cFE cC cN cM cP cL cB cD cZ tP tS tC tI) (g_is_whole_within : Def P w K mg base 2 "is_whole_within" ["thing", "least", "most"] [] (spWh K)) : FnOk P w K mg base CX0 3 f fd ["thing"] (spSide K) := by
 refine F.ok sc_is_side (fun vs H Q E h => ?_) (fun cdv A outer s H vs Q E hr h => ?_)
 ·obtain ⟨x, rfl, _⟩ := h; rfl
 ·obtain ⟨x, rfl, kd, k⟩ := h
  refine ⟨_, (pss_one (ps_ret (pe_callD g_is_whole_within (hr.mono (by decide)) rfl (pa_cons (pv 0) (pa_cons pe_int (pa_cons (pe_glob (v := .int 24) rfl T.MOST_SIDE ⟨_, rfl⟩) pa_nil)))))), ?_⟩
  exact ⟨_, rfl, x, 1, 24, rfl, kd, k⟩
theorem all_map_id {α : Type} (f : α → Bool) (xs : List α) : (xs.map f).all id = xs.all f := by
 induction xs with
 | nil => rfl
 | cons x r ih => rw [List.map_cons, List.all_cons, List.all_cons, ih]; rfl
theorem filter_t {α : Type} (xs : List α) : xs.filter (fun _ => true) = xs := List.filter_eq_self.mpr fun _ _ => rfl
theorem sc_is_list_of : FnScope ["thing", "is_one"] ["thing", "is_one"] (defScope s_is_list_of) := ⟨rfl, rfl, rfl, by decide +kernel, rfl, by decide +kernel, by decide +kernel⟩
theorem ok_is_list_of {lo hi : Int} {fC f : Addr} {fd : FuncData} (F : FunD K "is_list_of" "is_list_of" s_is_list_of .none f fd) (T : Txt K mg cFE cC cN cM cP cL cB cD cZ tP tS tC tI) (g_is_one : DefA P w K mg base 3 fC ["thing"] [] (spInQ K lo hi)) : FnOk P w K mg base CX0 4 f fd ["thing", "is_one"] (spLocFG K fC lo hi) := by
 refine F.ok sc_is_list_of (fun vs H Q E h => ?_) (fun cdv A outer s H vs Q E hr h => ?_)
 ·obtain ⟨x, rfl, _⟩ := h; rfl
 ·obtain ⟨x, rfl, x', ex, h⟩ := h
  cases ex
  refine ⟨_, (pss_one (ps_ret (pe_and (isiK K rfl (pv 0) rfl T.isinstance rfl T.list PyProof.Rows.boot_list) (pe_one (pe_callB (allK K rfl rfl) rfl T.all PyProof.Rows.boot_all (pa_cons (pe_comp (N := ["part", "is_one"]) (src := [none, some 1]) rfl ⟨rfl, rfl, rfl, rfl, rfl, by decide +kernel⟩ (piK K rfl (pv 0)) (fun s H C fp => pg_name (i := 0) (show (["part", "is_one"] : List Str).Nodup by decide +kernel) rfl (.inl rfl)) (fun s H C fp => pts_nil) (fun s H C fp => (pe_callV 1 g_is_one (hr.mono (by decide)) (pa_cons (pv 0) pa_nil)))) pa_nil)))))), ?_⟩
  rcases h with ⟨a, xs, rfl, hH, hl, kds, k⟩ | ⟨kd, hL, k⟩
  ·refine ⟨_, rfl, true, isList_lst hH, _, rfl, ⟨_, rfl, a, rfl, ⟨_, SqL.of hH⟩, fun D hD => ?_⟩⟩
   refine comp_fm (k := 0) (fun x => .bl (isWh lo hi x)) (fun _ => true) (src_list (SqL.of hH)) (Nat.le_trans hl (by decide)) hD (fun x _ H' Qb _ kk => kk H' (Same.refl _)) (fun x hx _ H' Q sm kk => ⟨rfl, _, rfl, x, rfl, (kds x hx).mono sm, kk H' (Same.refl _)⟩) fun H' sm hD' => ?_
   refine ⟨D, xs.map (isWh lo hi), rfl, SqL.of (by rw [hD', filter_t, List.map_map]; rfl), ?_⟩
   rw [all_map_id]
   exact k H' sm
  ·refine ⟨_, rfl, _, kd.isList, _, rfl, iteB (fun z => ?_) (fun _ => k)⟩
   rw [hL] at z; cases z
theorem sc_is_list_of_cells : FnScope ["thing"] ["thing"] (defScope s_is_list_of_cells) := ⟨rfl, rfl, rfl, by decide +kernel, rfl, by decide +kernel, by decide +kernel⟩
theorem ok_is_list_of_cells {fC f : Addr} {fd : FuncData} (F : FunD K "is_list_of_cells" "is_list_of_cells" s_is_list_of_cells .none f fd) (hC : mg "is_cell" = some (.ref fC)) (g_is_list_of : Def P w K mg base 4 "is_list_of" ["thing", "is_one"] [] (spLocF K fC)) : FnOk P w K mg base CX0 5 f fd ["thing"] (spLoc K) := by
 refine F.ok sc_is_list_of_cells (fun vs H Q E h => ?_) (fun cdv A outer s H vs Q E hr h => ?_)
 ·obtain ⟨x, rfl, _⟩ := h; rfl
 ·obtain ⟨x, rfl, h⟩ := h
  refine ⟨_, (pss_one (ps_ret (pe_callD g_is_list_of (hr.mono (by decide)) rfl (pa_cons (pv 0) (pa_cons (pe_glob (v := .ref fC) rfl hC rfl) pa_nil))))), ?_⟩
  exact ⟨_, rfl, x, rfl, x, rfl, h⟩
theorem wh_len {n : Nat} (h1 : 1 ≤ n) (h2 : n ≤ 24) : isWh 1 24 (.int (n : Int)) = true := by
 simp only [isWh, Bool.and_eq_true, decide_eq_true_eq]; omega
theorem wh_cells {ns : List Int} (h : ∀ c ∈ ns, 0 ≤ c ∧ c ≤ 15) : (ns.map V.int).all (isWh 0 15) = true := by
 rw [List.all_map, List.all_eq_true]
 intro c hc
 have := h c hc
 simp only [Function.comp, isWh, Bool.and_eq_true, decide_eq_true_eq]; omega
theorem kd_ints {H : Hp} {ns : List Int} : ∀ y ∈ ns.map V.int, Kd K H y := fun y hy => by
 obtain ⟨n, _, rfl⟩ := List.mem_map.mp hy
 exact .int n
end
noncomputable def rowOf (H : Hp) : V → Option (List V)
 | .ref b => match H b with
  | some (.lst ys) => some ys
  | _ => none
 | _ => none
noncomputable def rowB (ys : List V) : Bool := ys.all (isWh 0 15) && isWh 1 24 (.int (ys.length : Int))
noncomputable def rowQ (H : Hp) (x : V) : Bool := match rowOf H x with
 | some ys => rowB ys
 | none => false
noncomputable def lenOf (H : Hp) (x : V) : Nat := match rowOf H x with
 | some ys => ys.length
 | none => 0
noncomputable def picB (H : Hp) (v : V) : Bool := match rowOf H v with
 | some xs => isWh 1 24 (.int (xs.length : Int)) && (xs.all (rowQ H) && xs.all fun x => decide (lenOf H x = lenOf H (xs.headD .non)))
 | none => false
structure Rw (K : W.Frag) (H : Hp) (x : V) : Prop where
 kd : Kd K H x
 len : ∀ ys, rowOf H x = some ys → ys.length ≤ 1000
 it : ∀ ys, rowOf H x = some ys → ∀ y ∈ ys, Kd K H y
structure Th (K : W.Frag) (H : Hp) (v : V) : Prop where
 kd : Kd K H v
 len : ∀ xs, rowOf H v = some xs → xs.length ≤ 1000
 it : ∀ xs, rowOf H v = some xs → ∀ x ∈ xs, Rw K H x
section
variable {K : W.Frag} {H H' : Hp} {x : V}
theorem rowOf_lst {a : Addr} {ys : List V} (e : H a = some (.lst ys)) : rowOf H (.ref a) = some ys := by simp only [rowOf, e]
theorem rowOf_ref {ys : List V} (h : rowOf H x = some ys) : ∃ a, x = .ref a ∧ H a = some (.lst ys) := by
 cases x with
 | ref a =>
  refine ⟨a, rfl, ?_⟩
  unfold rowOf at h
  dsimp only at h
  split at h
  ·rename_i zs e; cases h; exact e
  ·cases h
 | _ => cases h
theorem rowOf_mono (k : Kd K H x) (s : Same H H') : rowOf H' x = rowOf H x := by
 cases k with
 | lst e => rw [rowOf_lst e, rowOf_lst (s _ _ e)]
 | tup e => simp only [rowOf, e, s _ _ e]
 | dict e => simp only [rowOf, e, s _ _ e, DictO]
 | _ => rfl
theorem isL_row (k : Kd K H x) : isL H x = (rowOf H x).isSome := by
 cases k with
 | lst e => simp only [isL, rowOf, e]; rfl
 | tup e => simp only [isL, rowOf, e]; rfl
 | dict e => simp only [isL, rowOf, e, DictO]; rfl
 | _ => rfl
theorem Rw.mono (r : Rw K H x) (s : Same H H') : Rw K H' x := by
 have e := rowOf_mono r.kd s
 exact ⟨r.kd.mono s, fun ys h => r.len ys (by rw [← e]; exact h), fun ys h y hy => (r.it ys (by rw [← e]; exact h) y hy).mono s⟩
theorem Th.mono (t : Th K H x) (s : Same H H') : Th K H' x := by
 have e := rowOf_mono t.kd s
 exact ⟨t.kd.mono s, fun ys h => t.len ys (by rw [← e]; exact h), fun ys h y hy => (t.it ys (by rw [← e]; exact h) y hy).mono s⟩
theorem rowQ_mono (k : Kd K H x) (s : Same H H') : rowQ H' x = rowQ H x := by unfold rowQ; rw [rowOf_mono k s]
theorem lenOf_mono (k : Kd K H x) (s : Same H H') : lenOf H' x = lenOf H x := by unfold lenOf; rw [rowOf_mono k s]
theorem picB_mono (t : Th K H x) (s : Same H H') : picB H' x = picB H x := by
 unfold picB
 rw [rowOf_mono t.kd s]
 cases h : rowOf H x with
 | none => rfl
 | some xs =>
  dsimp only
  have e1 : xs.all (rowQ H') = xs.all (rowQ H) := by
   rw [Bool.eq_iff_iff, List.all_eq_true, List.all_eq_true]
   constructor
   ·intro h2 y hy; rw [← rowQ_mono (t.it xs h y hy).kd s]; exact h2 y hy
   ·intro h2 y hy; rw [rowQ_mono (t.it xs h y hy).kd s]; exact h2 y hy
  have e2 : (xs.all fun y => decide (lenOf H' y = lenOf H' (xs.headD .non))) = (xs.all fun y => decide (lenOf H y = lenOf H (xs.headD .non))) := by
   cases xs with
   | nil => rfl
   | cons z r =>
    have hz : lenOf H' z = lenOf H z := lenOf_mono (t.it _ h z List.mem_cons_self).kd s
    rw [Bool.eq_iff_iff, List.all_eq_true, List.all_eq_true]
    constructor
    ·intro h2 y hy
     have q : decide (lenOf H' y = lenOf H' z) = true := h2 y hy
     have q' := of_decide_eq_true q
     rw [lenOf_mono (t.it _ h y hy).kd s, hz] at q'
     exact decide_eq_true q'
    ·intro h2 y hy
     have q : decide (lenOf H y = lenOf H z) = true := h2 y hy
     have q' := of_decide_eq_true q
     refine decide_eq_true ?_
     show lenOf H' y = lenOf H' z
     rw [lenOf_mono (t.it _ h y hy).kd s, hz]
     exact q'
  rw [e1, e2]
end
noncomputable def spPic (K : W.Frag) : Sp := fun vs H Q _ => ∃ x, vs = [x] ∧ Th K H x ∧ ∀ H', Same H H' → Q (.bl (picB H x)) H'
noncomputable def spPicF (K : W.Frag) (fC : Addr) : Sp := fun vs H Q E => ∃ x, vs = [x, .ref fC] ∧ spPic K [x] H Q E
noncomputable def spNeed (K : W.Frag) (cB : Addr) : Sp := fun vs H Q E => ∃ x, vs = [x] ∧ Th K H x ∧ (picB H x = true → ∀ H', Same H H' → Q .non H') ∧ (picB H x = false → ∀ H', Same H H' → E (.ref cB) none H')
section
variable {P : Program} {w : World} {K : W.Frag} {mg : Str → Option Value} {base : Heap} {cFE cC cN cM cP cL cB cD cZ : Addr} {tP tS tC tI : Tok}
theorem wh_side {v : V} (h : isWh 1 24 v = true) : ∃ w : Nat, v = .int (w : Int) ∧ 1 ≤ w ∧ w ≤ 24 := by
 cases v with
 | int i =>
  simp only [isWh, Bool.and_eq_true, decide_eq_true_eq] at h
  exact ⟨i.toNat, by rw [Int.toNat_of_nonneg (by omega)], by omega, by omega⟩
 | _ => cases h
theorem head_at {xs : List V} (h : 0 < xs.length) : xs[0]? = some (xs.headD .non) := by
 cases xs with
 | nil => simp at h
 | cons x r => rfl
theorem sc_are_rows_of : FnScope ["thing", "is_one"] ["thing", "is_one"] (defScope s_are_rows_of) := ⟨rfl, rfl, rfl, by decide +kernel, rfl, by decide +kernel, by decide +kernel⟩
theorem ok_are_rows_of {fC f : Addr} {fd : FuncData} (F : FunD K "are_rows_of" "are_rows_of" s_are_rows_of .none f fd) (T : Txt K mg cFE cC cN cM cP cL cB cD cZ tP tS tC tI) (g_is_list_of : Def P w K mg base 4 "is_list_of" ["thing", "is_one"] [] (spLocF K fC)) (g_is_side : Def P w K mg base 3 "is_side" ["thing"] [] (spSide K)) : FnOk P w K mg base CX0 5 f fd ["thing", "is_one"] (spPicF K fC) := by
 refine F.ok sc_are_rows_of (fun vs H Q E h => ?_) (fun cdv A outer s H vs Q E hr h => ?_)
 ·obtain ⟨x, rfl, _⟩ := h; rfl
 ·obtain ⟨x, rfl, x', ex, th, k⟩ := h
  cases ex
  refine ⟨_, (pss_cons (ps_if (PW.pt (pw_or (pt_not (pt_val (isiK K rfl (pv 0) rfl T.isinstance rfl T.list PyProof.Rows.boot_list))) (pw_or1 (pt_not (pt_val (pe_callD g_is_side (hr.mono (by decide)) rfl (pa_cons (pe_callB (lenK K rfl) rfl T.len PySem.boot_len (pa_cons (pv 0) pa_nil)) pa_nil))))))) (pss_one (ps_ret pe_bl)) pss_nil)
    (pss_cons (ps_if (pt_not (pt_val (pe_callB (allK K rfl rfl) rfl T.all PyProof.Rows.boot_all (pa_cons (pe_comp (N := ["row", "is_one"]) (src := [none, some 1]) rfl ⟨rfl, rfl, rfl, rfl, rfl, by decide +kernel⟩ (piK K rfl (pv 0)) (fun s H C fp => pg_name (i := 0) (show (["row", "is_one"] : List Str).Nodup by decide +kernel) rfl (.inl rfl)) (fun s H C fp => pts_nil) (fun s H C fp => (pe_and (pe_callD g_is_list_of (hr.mono (by decide)) rfl (pa_cons (pv 0) (pa_cons (pv 1) pa_nil))) (pe_one (pe_callD g_is_side (hr.mono (by decide)) rfl (pa_cons (pe_callB (lenK K rfl) rfl T.len PySem.boot_len (pa_cons (pv 0) pa_nil)) pa_nil)))))) pa_nil)))) (pss_one (ps_ret pe_bl)) pss_nil)
    (pss_one (ps_ret (pe_callB (allK K rfl rfl) rfl T.all PyProof.Rows.boot_all (pa_cons (pe_comp (N := ["row", "thing"]) (src := [none, some 0]) rfl ⟨rfl, rfl, rfl, rfl, rfl, by decide +kernel⟩ (piK K rfl (pv 0)) (fun s H C fp => pg_name (i := 0) (show (["row", "thing"] : List Str).Nodup by decide +kernel) rfl (.inl rfl)) (fun s H C fp => pts_nil) (fun s H C fp => (pe_cmpR op_eq (pe_callB (lenK K rfl) rfl T.len PySem.boot_len (pa_cons (pv 0) pa_nil)) (pe_callB (lenK K rfl) rfl T.len PySem.boot_len (pa_cons (pe_ix (ixK K rfl) (pv 1) pe_int (fun _ _ => rfl)) pa_nil)) (nomark _)))) pa_nil)))))), ?_⟩
  cases hx : rowOf H x with
  | none =>
   have ek : picB H x = false := by unfold picB; rw [hx]
   rw [ek] at k
   refine ⟨_, rfl, _, th.kd.isList, _, rfl, ?_⟩
   rw [isL_row th.kd, hx]
   exact k H (Same.refl H)
  | some xs =>
   obtain ⟨a, rfl, e⟩ := rowOf_ref hx
   have ek : picB H (.ref a) = (isWh 1 24 (.int (xs.length : Int)) && (xs.all (rowQ H) && xs.all fun x => decide (lenOf H x = lenOf H (xs.headD .non)))) := by unfold picB; rw [hx]
   rw [ek] at k
   have hz : xs.length ≤ sizeLine := Nat.le_trans (th.len xs hx) (by decide)
   refine ⟨_, rfl, true, isList_lst e, _, rfl, ⟨_, rfl, a, _, rfl, .inl (SqL.of e), _, rfl, .int _, _, rfl, iteN (fun h1 => ?_) (fun h1 => ?_)⟩⟩
   ·rw [h1, Bool.false_and] at k
    exact k H (Same.refl H)
   rw [h1, Bool.true_and] at k
   refine ⟨_, rfl, a, rfl, ⟨_, SqL.of e⟩, fun D hD => ?_⟩
   refine comp_fm (k := 0) (fun y => .bl (rowQ H y)) (fun _ => true) (src_list (SqL.of e)) hz hD (fun x _ H' Qb _ kk => kk H' (Same.refl _)) (fun y hy _ H' Q' sm kk => ?_) fun H1 s1 hD1 => ?_
   ·have r1 := th.it xs hx y hy
    have r2 := r1.mono sm
    have k2 : ∀ H2, Same H' H2 → Q' (.bl (rowQ H' y)) H2 := fun H2 s2 => by rw [rowQ_mono r1.kd sm]; exact kk H2 s2
    refine ⟨_, rfl, _, rfl, y, rfl, y, rfl, ?_⟩
    cases hr0 : rowOf H' y with
    | none =>
     refine .inr ⟨r2.kd, by rw [isL_row r2.kd, hr0]; rfl, _, rfl, ?_⟩
     have := k2 H' (Same.refl H')
     unfold rowQ at this
     rw [hr0] at this
     exact this
    | some ys =>
     obtain ⟨b, rfl, e2⟩ := rowOf_ref hr0
     have ek : rowQ H' (.ref b) = rowB ys := by unfold rowQ; rw [hr0]
     refine .inl ⟨b, ys, rfl, e2, Nat.le_trans (r2.len ys hr0) (by decide), r2.it ys hr0, fun H1 s1 => ⟨_, rfl, iteB (fun h1 => ?_) (fun h1 => ?_)⟩⟩
     ·refine ⟨_, rfl, b, _, rfl, .inl (SqL.of (s1 _ _ e2)), _, rfl, .int _, ?_⟩
      have := k2 H1 s1
      rw [ek] at this
      unfold rowB at this
      rw [h1, Bool.true_and] at this
      exact this
     ·have := k2 H1 s1
      rw [ek] at this
      unfold rowB at this
      rw [h1, Bool.false_and] at this
      exact this
   refine ⟨D, xs.map (rowQ H), rfl, SqL.of (by rw [hD1, filter_t, List.map_map]; rfl), _, rfl, ?_⟩
   rw [all_map_id]
   refine iteN (fun h2 => ?_) (fun h2 => ?_)
   ·rw [h2, Bool.false_and] at k
    exact k H1 s1
   rw [h2, Bool.true_and] at k
   have hpos : 0 < xs.length := by
    obtain ⟨n, en, n1, _⟩ := wh_side h1
    injection en with en
    omega
   have lst : ∀ y ∈ xs, ∃ b ys, y = .ref b ∧ H b = some (.lst ys) ∧ lenOf H y = ys.length := fun y hy => by
    have q := List.all_eq_true.mp h2 y hy
    unfold rowQ at q
    cases hy2 : rowOf H y with
    | none => rw [hy2] at q; cases q
    | some ys =>
     obtain ⟨b, rfl, e2⟩ := rowOf_ref hy2
     exact ⟨b, ys, rfl, e2, by unfold lenOf; rw [hy2]⟩
   obtain ⟨b0, y0, eh, e0, l0⟩ := lst (xs.headD .non) (by cases xs with | nil => simp at hpos | cons z r => exact List.mem_cons_self)
   refine ⟨_, rfl, a, rfl, ⟨_, SqL.of (s1 _ _ e)⟩, fun D2 hD2 => ?_⟩
   refine comp_fm (k := 0) (fun y => .bl (decide (lenOf H y = lenOf H (xs.headD .non)))) (fun _ => true) (src_list (SqL.of (s1 _ _ e))) hz hD2 (fun x _ H' Qb _ kk => kk H' (Same.refl _)) (fun y hy _ H' Q' sm kk => ?_) fun H2 s2 hD2' => ?_
   ·have sm2 := s1.trans sm
    obtain ⟨b, ys, rfl, e2, l2⟩ := lst y hy
    refine ⟨_, rfl, b, _, rfl, .inl (SqL.of (sm2 _ _ e2)), _, rfl, a, _, _, _, rfl, rfl, SqL.of (sm2 _ _ e), atI_nat (j := 0) (head_at hpos), b0, _, eh ▸ rfl, .inl (SqL.of (sm2 _ _ e0)), rfl, ?_⟩
    have ed : decide (V.int (ys.length : Int) = V.int (y0.length : Int)) = decide (lenOf H (.ref b) = lenOf H (xs.headD .non)) := by
     rw [l2, l0, dec_int, Bool.eq_iff_iff]
     simp
     omega
    rw [ed]
    exact kk H' (Same.refl _)
   ·refine ⟨D2, xs.map fun y => decide (lenOf H y = lenOf H (xs.headD .non)), rfl, SqL.of (by rw [hD2', filter_t, List.map_map]; rfl), ?_⟩
    rw [all_map_id]
    exact k H2 (s1.trans s2)
theorem sc_is_picture : FnScope ["thing"] ["thing"] (defScope s_is_picture) := ⟨rfl, rfl, rfl, by decide +kernel, rfl, by decide +kernel, by decide +kernel⟩
theorem ok_is_picture {fC f : Addr} {fd : FuncData} (F : FunD K "is_picture" "is_picture" s_is_picture .none f fd) (hC : mg "is_cell" = some (.ref fC)) (g_are_rows_of : Def P w K mg base 5 "are_rows_of" ["thing", "is_one"] [] (spPicF K fC)) : FnOk P w K mg base CX0 6 f fd ["thing"] (spPic K) := by
 refine F.ok sc_is_picture (fun vs H Q E h => ?_) (fun cdv A outer s H vs Q E hr h => ?_)
 ·obtain ⟨x, rfl, _⟩ := h; rfl
 ·obtain ⟨x, rfl, th, k⟩ := h
  refine ⟨_, (pss_one (ps_ret (pe_callD g_are_rows_of (hr.mono (by decide)) rfl (pa_cons (pv 0) (pa_cons (pe_glob (v := .ref fC) rfl hC rfl) pa_nil))))), ?_⟩
  exact ⟨_, rfl, x, rfl, x, rfl, th, k⟩
theorem sc_need_picture : FnScope ["picture"] ["picture"] (defScope s_need_picture) := ⟨rfl, rfl, rfl, by decide +kernel, rfl, by decide +kernel, by decide +kernel⟩
theorem ok_need_picture {f : Addr} {fd : FuncData} (F : FunD K "need_picture" "need_picture" s_need_picture .none f fd) (T : Txt K mg cFE cC cN cM cP cL cB cD cZ tP tS tC tI) (g_is_picture : Def P w K mg base 6 "is_picture" ["thing"] [] (spPic K)) : FnOk P w K mg base (CX1 P w) 7 f fd ["picture"] (spNeed K cB) := by
 refine F.okX sc_need_picture (fun vs H Q E h => ?_) (fun cdv A outer s H vs Q E hr h => ?_)
 ·obtain ⟨x, rfl, _⟩ := h; rfl
 ·obtain ⟨x, rfl, th, kY, kN⟩ := h
  refine ⟨_, (pss_one (ps_if (pt_not (pt_val (pe_callD g_is_picture (hr.mono (by decide)) rfl (pa_cons (pv 0) pa_nil)))) (pss_one (ps_raise rfl raises1 rfl T.BadPicture T.xBadPicture (pa_cons pe_str pa_nil))) pss_nil)), ?_⟩
  exact ⟨_, rfl, x, rfl, th, fun H' sm => ⟨_, rfl, iteN (fun h => ⟨sz1, kN h H' sm⟩) (fun h => kY h H' sm)⟩⟩
end
set_option maxHeartbeats 1600000
theorem piTK {X : Cx} {tg : Expr} (K : W.Frag) (h : X.K = K) {e : Expr} {te : TE} (he : PE X e te) : PI X tg e (iTup K te) := by subst h; exact pi_tup he
theorem ixTK {X : Cx} (K : W.Frag) (h : X.K = K) : IxR X (rIxT K) := by subst h; exact ix_tup
theorem src_tup {K : W.Frag} {a : Addr} {xs : List V} {H : Hp} (h : SqT K H a xs) : Src (Itt K a) xs H := fun H' sm =>
 ⟨fun i x e => ⟨⟨xs, x, sm.seqT h, e⟩, fun y H2 ⟨q1, q2⟩ => ⟨by have := q2 xs (sm.seqT h); rw [e] at this; exact (Option.some.inj this).symm, q1⟩⟩, ⟨xs, sm.seqT h, Nat.le_refl _⟩⟩
noncomputable def tupOf (H : Hp) : V → Option (List V)
 | .ref b => match H b with
  | some (.tup xs) => some xs
  | _ => none
 | _ => none
noncomputable def colB (H : Hp) (v : V) : Bool := match tupOf H v with
 | some xs => decide (xs.length = 3) && xs.all (isWh 0 255)
 | none => false
structure TC (K : W.Frag) (H : Hp) (v : V) : Prop where
 kd : Kd K H v
 len : ∀ xs, tupOf H v = some xs → xs.length ≤ 1000
 it : ∀ xs, tupOf H v = some xs → ∀ x ∈ xs, Kd K H x
section
variable {K : W.Frag} {H H' : Hp} {v : V}
theorem tupOf_tup {a : Addr} {xs : List V} (e : H a = some (.tup xs)) : tupOf H (.ref a) = some xs := by simp only [tupOf, e]
theorem tupOf_ref {xs : List V} (h : tupOf H v = some xs) : ∃ a, v = .ref a ∧ H a = some (.tup xs) := by
 cases v with
 | ref a =>
  simp only [tupOf] at h
  cases e : H a with
  | none => rw [e] at h; cases h
  | some o =>
   rw [e] at h
   cases o with
   | tup ys => cases h; exact ⟨a, rfl, e⟩
   | _ => cases h
 | _ => cases h
theorem tupOf_mono (k : Kd K H v) (s : Same H H') : tupOf H' v = tupOf H v := by
 cases k with
 | lst e => simp only [tupOf, e, s _ _ e]
 | tup e => simp only [tupOf, e, s _ _ e]
 | dict e => simp only [tupOf, e, s _ _ e, DictO]
 | _ => rfl
theorem isT_tup (k : Kd K H v) : isT H v = (tupOf H v).isSome := by
 cases k with
 | lst e => simp only [isT, tupOf, e]; rfl
 | tup e => simp only [isT, tupOf, e]; rfl
 | dict e => simp only [isT, tupOf, e, DictO]; rfl
 | _ => rfl
theorem TC.mono (t : TC K H v) (s : Same H H') : TC K H' v := by
 have e := tupOf_mono t.kd s
 exact ⟨t.kd.mono s, fun xs h => t.len xs (by rw [← e]; exact h), fun xs h x hx => (t.it xs (by rw [← e]; exact h) x hx).mono s⟩
theorem colB_mono (t : TC K H v) (s : Same H H') : colB H' v = colB H v := by unfold colB; rw [tupOf_mono t.kd s]
theorem TC.tup {a : Addr} {xs : List V} (e : H a = some (.tup xs)) (hl : xs.length ≤ 1000) (hk : ∀ x ∈ xs, Kd K H x) : TC K H (.ref a) :=
 ⟨.tup e, fun ys h => (by rw [tupOf_tup e] at h; cases h; exact hl), fun ys h => (by rw [tupOf_tup e] at h; cases h; exact hk)⟩
end
structure Col (H : Hp) (a : Addr) (r g b : Nat) : Prop where
 top : H a = some (.tup [.int (r : Int), .int (g : Int), .int (b : Int)])
 lr : r ≤ 255
 lg : g ≤ 255
 lb : b ≤ 255
section
variable {K : W.Frag} {H H' : Hp} {a : Addr} {r g b : Nat}
theorem Col.mono (c : Col H a r g b) (s : Same H H') : Col H' a r g b := ⟨s _ _ c.top, c.lr, c.lg, c.lb⟩
theorem Col.tc (c : Col H a r g b) : TC K H (.ref a) := TC.tup c.top (by show 3 ≤ 1000; decide) fun x hx => by
 simp only [List.mem_cons, List.not_mem_nil, or_false] at hx
 rcases hx with rfl | rfl | rfl <;> exact .int _
theorem wh255 {n : Nat} (h : n ≤ 255) : isWh 0 255 (.int (n : Int)) = true := by simp only [isWh, Bool.and_eq_true, decide_eq_true_eq]; omega
theorem Col.yes (c : Col H a r g b) : colB H (.ref a) = true := by
 unfold colB
 rw [tupOf_tup c.top]
 simp only [List.all_cons, List.all_nil, wh255 c.lr, wh255 c.lg, wh255 c.lb]
 rfl
theorem wh_nat {lo hi : Nat} {v : V} (h : isWh lo hi v = true) : ∃ n : Nat, v = .int (n : Int) ∧ lo ≤ n ∧ n ≤ hi := by
 cases v with
 | int i =>
  simp only [isWh, Bool.and_eq_true, decide_eq_true_eq] at h
  exact ⟨i.toNat, by congr 1; omega, by omega, by omega⟩
 | _ => cases h
theorem col_of {v : V} (h : colB H v = true) : ∃ a r g b, v = .ref a ∧ Col H a r g b := by
 unfold colB at h
 cases hx : tupOf H v with
 | none => rw [hx] at h; cases h
 | some xs =>
  rw [hx] at h
  obtain ⟨a, rfl, e⟩ := tupOf_ref hx
  have h := Bool.and_eq_true_iff.mp h
  have hl := of_decide_eq_true h.1
  obtain ⟨x, y, z, rfl⟩ : ∃ x y z, xs = [x, y, z] := by
   match xs, hl with
   | [x, y, z], _ => exact ⟨x, y, z, rfl⟩
  simp only [List.all_cons, List.all_nil, Bool.and_true, Bool.and_eq_true] at h
  obtain ⟨r, rfl, _, lr⟩ := wh_nat (lo := 0) (hi := 255) h.2.1
  obtain ⟨g, rfl, _, lg⟩ := wh_nat (lo := 0) (hi := 255) h.2.2.1
  obtain ⟨b, rfl, _, lb⟩ := wh_nat (lo := 0) (hi := 255) h.2.2.2
  exact ⟨a, r, g, b, rfl, e, lr, lg, lb⟩
theorem Col.inj {r' g' b' : Nat} (c : Col H a r g b) (c' : Col H a r' g' b') : r = r' ∧ g = g' ∧ b = b' := by
 have e := c.top
 rw [c'.top] at e
 simp only [Option.some.injEq, HO.tup.injEq, List.cons.injEq, V.int.injEq, and_true] at e
 omega
end
noncomputable def spIsCol (K : W.Frag) : Sp := fun vs H Q _ => ∃ v, vs = [v] ∧ TC K H v ∧ ∀ H', Same H H' → Q (.bl (colB H v)) H'
noncomputable def spNeedC (K : W.Frag) (cC : Addr) : Sp := fun vs H Q E => ∃ v, vs = [v] ∧ TC K H v ∧ (colB H v = true → ∀ H', Same H H' → Q .non H') ∧ (colB H v = false → ∀ H', Same H H' → E (.ref cC) none H')
noncomputable def ColsV (H : Hp) (a : Addr) (cs : List (Addr × Nat × Nat × Nat)) : Prop := H a = some (.lst (cs.map fun c => V.ref c.1)) ∧ ∀ c ∈ cs, Col H c.1 c.2.1 c.2.2.1 c.2.2.2
theorem ColsV.mono {H H' : Hp} {a : Addr} {cs : List (Addr × Nat × Nat × Nat)} (v : ColsV H a cs) (s : Same H H') : ColsV H' a cs := ⟨s _ _ v.1, fun c hc => (v.2 c hc).mono s⟩
theorem cols_of {H : Hp} : ∀ {xs : List V}, xs.all (colB H) = true → ∃ cs : List (Addr × Nat × Nat × Nat), xs = cs.map (fun c => V.ref c.1) ∧ ∀ c ∈ cs, Col H c.1 c.2.1 c.2.2.1 c.2.2.2
 | [], _ => ⟨[], rfl, fun c hc => nomatch hc⟩
 | x :: r, h => by
  rw [List.all_cons, Bool.and_eq_true] at h
  obtain ⟨a, p, q, s, rfl, c⟩ := col_of h.1
  obtain ⟨cs, rfl, hc⟩ := cols_of h.2
  refine ⟨(a, p, q, s) :: cs, rfl, fun d hd => ?_⟩
  rcases List.mem_cons.mp hd with rfl | hd
  ·exact c
  ·exact hc d hd
theorem ColsV.yes {H : Hp} {a : Addr} {cs : List (Addr × Nat × Nat × Nat)} (v : ColsV H a cs) : (cs.map fun c => V.ref c.1).all (colB H) = true := by
 rw [List.all_eq_true]
 intro x hx
 obtain ⟨c, hc, rfl⟩ := List.mem_map.mp hx
 exact (v.2 c hc).yes
noncomputable def spLocC (K : W.Frag) (fC : Addr) : Sp := fun vs H Q _ => ∃ x, vs = [x, .ref fC] ∧ ((∃ a xs, x = .ref a ∧ H a = some (.lst xs) ∧ xs.length ≤ 1000000 ∧ (∀ y ∈ xs, TC K H y) ∧ ∀ H', Same H H' → Q (.bl (xs.all (colB H))) H') ∨ (Kd K H x ∧ isL H x = false ∧ Q (.bl false) H))
section
variable {P : Program} {w : World} {K : W.Frag} {mg : Str → Option Value} {base : Heap} {cFE cC cN cM cP cL cB cD cZ : Addr} {tP tS tC tI : Tok}
theorem sc_is_colour : FnScope ["thing"] ["thing"] (defScope s_is_colour) := ⟨rfl, rfl, rfl, by decide +kernel, rfl, by decide +kernel, by decide +kernel⟩
theorem ok_is_colour {f : Addr} {fd : FuncData} (F : FunD K "is_colour" "is_colour" s_is_colour .none f fd) (T : Txt K mg cFE cC cN cM cP cL cB cD cZ tP tS tC tI) (g_is_whole_within : Def P w K mg base 2 "is_whole_within" ["thing", "least", "most"] [] (spWh K)) : FnOk P w K mg base CX0 3 f fd ["thing"] (spIsCol K) := by
 refine F.ok sc_is_colour (fun vs H Q E h => ?_) (fun cdv A outer s H vs Q E hr h => ?_)
 ·obtain ⟨v, rfl, _⟩ := h; rfl
 ·obtain ⟨v, rfl, t, k⟩ := h
  refine ⟨_, (pss_cons (ps_if (PW.pt (pw_or (pt_not (pt_val (isiK K rfl (pv 0) rfl T.isinstance rfl T.tuple PyProof.Rows.boot_tuple))) (pw_or1 (pt_cmpR op_ne (pe_callB (lenK K rfl) rfl T.len PySem.boot_len (pa_cons (pv 0) pa_nil)) pe_int (nomark _))))) (pss_one (ps_ret pe_bl)) pss_nil)
    (pss_one (ps_ret (pe_callB (allK K rfl rfl) rfl T.all PyProof.Rows.boot_all (pa_cons (pe_comp (N := ["part"]) (src := [none]) rfl ⟨rfl, rfl, rfl, rfl, rfl, by decide +kernel⟩ (piTK K rfl (pv 0)) (fun s H C fp => pg_name (i := 0) (show (["part"] : List Str).Nodup by decide +kernel) rfl (.inl rfl)) (fun s H C fp => pts_nil) (fun s H C fp => (pe_callD g_is_whole_within (hr.mono (by decide)) rfl (pa_cons (pv 0) (pa_cons pe_int (pa_cons (pe_glob (v := .int 255) rfl T.MOST_PART ⟨_, rfl⟩) pa_nil)))))) pa_nil))))), ?_⟩
  cases hx : tupOf H v with
  | none =>
   have e : colB H v = false := by unfold colB; rw [hx]
   rw [e] at k
   refine ⟨_, rfl, _, t.kd.isTuple, _, rfl, ?_⟩
   rw [isT_tup t.kd, hx]
   exact k H (Same.refl H)
  | some xs =>
   obtain ⟨a, rfl, e⟩ := tupOf_ref hx
   have eb : colB H (.ref a) = (decide (xs.length = 3) && xs.all (isWh 0 255)) := by unfold colB; rw [hx]
   rw [eb] at k
   refine ⟨_, rfl, _, t.kd.isTuple, _, rfl, ?_⟩
   rw [isT_tup t.kd, hx]
   refine ⟨_, rfl, a, _, rfl, .inr (SqT.of e), rfl, _, rfl, iteN (fun h => ?_) (fun h => ?_)⟩
   ·have : xs.length ≠ 3 := fun z => of_decide_eq_false h (by rw [z]; rfl)
    rw [decide_eq_false this, Bool.false_and] at k
    exact k H (Same.refl H)
   have h3 : xs.length = 3 := by
    have := of_decide_eq_true h
    injection this with this
    omega
   rw [decide_eq_true h3, Bool.true_and] at k
   refine ⟨_, rfl, a, rfl, ⟨_, SqT.of e⟩, fun D hD => ?_⟩
   refine comp_fm (k := 0) (fun x => .bl (isWh 0 255 x)) (fun _ => true) (src_tup (SqT.of e)) (by rw [h3]; decide) hD (fun x _ H' Qb _ kk => kk H' (Same.refl _)) (fun x hx2 _ H' Q' sm kk => ⟨_, rfl, x, 0, 255, rfl, (t.it xs hx x hx2).mono sm, kk H' (Same.refl _)⟩) fun H1 s1 hD1 => ?_
   refine ⟨D, xs.map (isWh 0 255), rfl, SqL.of (by rw [hD1, filter_t, List.map_map]; rfl), ?_⟩
   rw [all_map_id]
   exact k H1 s1
theorem sc_need_colour : FnScope ["colour"] ["colour"] (defScope s_need_colour) := ⟨rfl, rfl, rfl, by decide +kernel, rfl, by decide +kernel, by decide +kernel⟩
theorem ok_need_colour {f : Addr} {fd : FuncData} (F : FunD K "need_colour" "need_colour" s_need_colour .none f fd) (T : Txt K mg cFE cC cN cM cP cL cB cD cZ tP tS tC tI) (g_is_colour : Def P w K mg base 3 "is_colour" ["thing"] [] (spIsCol K)) : FnOk P w K mg base (CX1 P w) 4 f fd ["colour"] (spNeedC K cC) := by
 refine F.okX sc_need_colour (fun vs H Q E h => ?_) (fun cdv A outer s H vs Q E hr h => ?_)
 ·obtain ⟨v, rfl, _⟩ := h; rfl
 ·obtain ⟨v, rfl, t, kY, kN⟩ := h
  refine ⟨_, (pss_one (ps_if (pt_not (pt_val (pe_callD g_is_colour (hr.mono (by decide)) rfl (pa_cons (pv 0) pa_nil)))) (pss_one (ps_raise rfl raises1 rfl T.BadColour T.xBadColour (pa_cons pe_str pa_nil))) pss_nil)), ?_⟩
  exact ⟨_, rfl, v, rfl, t, fun H1 s1 => ⟨_, rfl, iteN (fun h => ⟨sz1, kN h H1 s1⟩) (fun h => kY h H1 s1)⟩⟩
theorem ok_is_list_of_col {fC f : Addr} {fd : FuncData} (F : FunD K "is_list_of" "is_list_of" s_is_list_of .none f fd) (T : Txt K mg cFE cC cN cM cP cL cB cD cZ tP tS tC tI) (g_is_one : DefA P w K mg base 3 fC ["thing"] [] (spIsCol K)) : FnOk P w K mg base CX0 4 f fd ["thing", "is_one"] (spLocC K fC) := by
 refine F.ok sc_is_list_of (fun vs H Q E h => ?_) (fun cdv A outer s H vs Q E hr h => ?_)
 ·obtain ⟨x, rfl, _⟩ := h; rfl
 ·obtain ⟨x, rfl, h⟩ := h
  refine ⟨_, (pss_one (ps_ret (pe_and (isiK K rfl (pv 0) rfl T.isinstance rfl T.list PyProof.Rows.boot_list) (pe_one (pe_callB (allK K rfl rfl) rfl T.all PyProof.Rows.boot_all (pa_cons (pe_comp (N := ["part", "is_one"]) (src := [none, some 1]) rfl ⟨rfl, rfl, rfl, rfl, rfl, by decide +kernel⟩ (piK K rfl (pv 0)) (fun s H C fp => pg_name (i := 0) (show (["part", "is_one"] : List Str).Nodup by decide +kernel) rfl (.inl rfl)) (fun s H C fp => pts_nil) (fun s H C fp => (pe_callV 1 g_is_one (hr.mono (by decide)) (pa_cons (pv 0) pa_nil)))) pa_nil)))))), ?_⟩
  rcases h with ⟨a, xs, rfl, hH, hl, kds, k⟩ | ⟨kd, hL, k⟩
  ·refine ⟨_, rfl, true, isList_lst hH, _, rfl, ⟨_, rfl, a, rfl, ⟨_, SqL.of hH⟩, fun D hD => ?_⟩⟩
   refine comp_fm (k := 0) (fun x => .bl (colB H x)) (fun _ => true) (src_list (SqL.of hH)) (Nat.le_trans hl (by decide)) hD (fun x _ H' Qb _ kk => kk H' (Same.refl _)) (fun x hx _ H' Q sm kk => ⟨rfl, _, rfl, x, rfl, (kds x hx).mono sm, fun H2 s2 => (by rw [colB_mono (kds x hx) sm]; exact kk H2 s2)⟩) fun H' sm hD' => ?_
   refine ⟨D, xs.map (colB H), rfl, SqL.of (by rw [hD', filter_t, List.map_map]; rfl), ?_⟩
   rw [all_map_id]
   exact k H' sm
  ·refine ⟨_, rfl, _, kd.isList, _, rfl, iteB (fun z => ?_) (fun _ => k)⟩
   rw [hL] at z; cases z
end
structure TM (K : W.Frag) (H : Hp) (v : V) : Prop where
 kd : Kd K H v
 len : ∀ xs, rowOf H v = some xs → xs.length ≤ 1000000
 it : ∀ xs, rowOf H v = some xs → ∀ x ∈ xs, TC K H x
noncomputable def kc (c : Addr × Nat × Nat × Nat) : List Int := [(c.2.1 : Int), (c.2.2.1 : Int), (c.2.2.2 : Int)]
noncomputable def PalV (cL : Addr) (H : Hp) (p l : Addr) (cs : List (Addr × Nat × Nat × Nat)) : Prop := (∃ dx, H p = some (.ins cL dx [("kept", .ref l)])) ∧ ColsV H l cs
noncomputable def GoodP (H : Hp) (v : V) : Prop := ∃ a cs, v = .ref a ∧ ColsV H a cs ∧ 1 ≤ cs.length ∧ cs.length ≤ 16 ∧ (cs.map kc).Nodup
noncomputable def isC (r g b : Nat) (c : Addr × Nat × Nat × Nat) : Bool := decide (c.2 = (r, g, b))
noncomputable def cellV (cs : List (Addr × Nat × Nat × Nat)) (r g b : Nat) : V := match cs.findIdx? (isC r g b) with
 | some j => .int (j : Int)
 | none => .non
noncomputable def spInit (K : W.Frag) (cP cL : Addr) : Sp := fun vs H Q E => ∃ p dx v, vs = [.ref p, v] ∧ H p = some (.ins cL dx []) ∧ TM K H v ∧
 (∀ a cs, v = .ref a → ColsV H a cs → 1 ≤ cs.length → cs.length ≤ 16 → (cs.map kc).Nodup → ∀ l H', H l = none → (∀ b o, H b = some o → b ≠ p → H' b = some o) → PalV cL H' p l cs → Q .non H') ∧
 (¬ GoodP H v → ∀ H', Same H H' → E (.ref cP) none H')
noncomputable def spCols (cL : Addr) : Sp := fun vs H Q _ => ∃ p l cs, vs = [.ref p] ∧ PalV cL H p l cs ∧ ∀ q, H q = none → Q (.ref q) (upd H q (.lst (cs.map fun c => V.ref c.1)))
noncomputable def spMany (cL : Addr) : Sp := fun vs H Q _ => ∃ p l cs, vs = [.ref p] ∧ PalV cL H p l cs ∧ Q (.int (cs.length : Int)) H
noncomputable def spColOf (K : W.Frag) (cN cL : Addr) : Sp := fun vs H Q E => ∃ p l cs v, vs = [.ref p, v] ∧ PalV cL H p l cs ∧ Kd K H v ∧ (∀ (n : Nat) c, v = .int (n : Int) → cs[n]? = some c → Q (.ref c.1) H) ∧ (isWh 0 ((cs.length : Int) - 1) v = false → E (.ref cN) none H)
noncomputable def spCellOf (K : W.Frag) (cC cL : Addr) : Sp := fun vs H Q E => ∃ p l cs v, vs = [.ref p, v] ∧ PalV cL H p l cs ∧ TC K H v ∧ (∀ a r g b, v = .ref a → Col H a r g b → ∀ H', Same H H' → Q (cellV cs r g b) H') ∧ (colB H v = false → ∀ H', Same H H' → E (.ref cC) none H')
noncomputable def spAdd (K : W.Frag) (cC cM cL : Addr) : Sp := fun vs H Q E => ∃ p l cs v, vs = [.ref p, v] ∧ PalV cL H p l cs ∧ cs.length ≤ 16 ∧ TC K H v ∧
 (∀ a r g b, v = .ref a → Col H a r g b → (∀ j, cs.findIdx? (isC r g b) = some j → ∀ H', Same H H' → Q (.int (j : Int)) H') ∧ (cs.findIdx? (isC r g b) = none → cs.length = 16 → ∀ H', Same H H' → E (.ref cM) none H') ∧
  (cs.findIdx? (isC r g b) = none → cs.length < 16 → ∀ H', (∀ b o, H b = some o → b ≠ l → H' b = some o) → H' l = some (.lst (cs.map (fun c => V.ref c.1) ++ [V.ref a])) → Q (.int (cs.length : Int)) H')) ∧
 (colB H v = false → ∀ H', Same H H' → E (.ref cC) none H')
theorem PalV.mono {cL : Addr} {H H' : Hp} {p l : Addr} {cs : List (Addr × Nat × Nat × Nat)} (v : PalV cL H p l cs) (s : Same H H') : PalV cL H' p l cs := by
 obtain ⟨⟨dx, h⟩, c⟩ := v
 exact ⟨⟨dx, s _ _ h⟩, c.mono s⟩
theorem ColsV.tups {H : Hp} {cs : List (Addr × Nat × Nat × Nat)} (h : ∀ c ∈ cs, Col H c.1 c.2.1 c.2.2.1 c.2.2.2) : TupsOf H (cs.map fun c => V.ref c.1) (cs.map kc) := by
 induction cs with
 | nil => exact .nil
 | cons c cs ih =>
  obtain ⟨a, r, g, b⟩ := c
  exact .cons (h _ List.mem_cons_self).top (ih fun c hc => h c (List.mem_cons_of_mem _ hc))
theorem lk_kept {l : Addr} {m : Str} (h : ¬ (m = "kept")) : ([("kept", V.ref l)] : List (Str × V)).lookup m = none := by
 show (putF "kept" (V.ref l) []).lookup m = none
 rw [lookup_putF, if_neg h]; rfl
theorem lk_kept1 {l : Addr} : ([("kept", V.ref l)] : List (Str × V)).lookup ("kept" : Str) = some (V.ref l) := by
 show (putF "kept" (V.ref l) []).lookup ("kept" : Str) = some (V.ref l)
 rw [lookup_putF, if_pos rfl]
theorem cols_inj {H : Hp} : ∀ {cs ds : List (Addr × Nat × Nat × Nat)}, cs.map (fun c => V.ref c.1) = ds.map (fun c => V.ref c.1) → (∀ c ∈ cs, Col H c.1 c.2.1 c.2.2.1 c.2.2.2) → (∀ c ∈ ds, Col H c.1 c.2.1 c.2.2.1 c.2.2.2) → cs = ds
 | [], [], _, _, _ => rfl
 | [], _ :: _, e, _, _ => nomatch e
 | _ :: _, [], e, _, _ => nomatch e
 | (p, r, g, b) :: cs, (p', r', g', b') :: ds, e, h1, h2 => by
  rw [List.map_cons, List.map_cons] at e
  injection e with e1 e2
  have e1 : p = p' := by injection e1
  subst e1
  obtain ⟨rfl, rfl, rfl⟩ := (h1 (p, r, g, b) List.mem_cons_self).inj (h2 (p, r', g', b') List.mem_cons_self)
  rw [cols_inj e2 (fun c hc => h1 c (List.mem_cons_of_mem _ hc)) (fun c hc => h2 c (List.mem_cons_of_mem _ hc))]
theorem ColsV.inj {H : Hp} {a : Addr} {cs ds : List (Addr × Nat × Nat × Nat)} (v : ColsV H a cs) (w : ColsV H a ds) : cs = ds := by
 have e := v.1
 rw [w.1] at e
 have e : ds.map (fun c => V.ref c.1) = cs.map (fun c => V.ref c.1) := by injection e with e; injection e
 exact cols_inj e.symm v.2 w.2
section
variable {P : Program} {w : World} {K : W.Frag} {mg : Str → Option Value} {base : Heap} {cFE cC cN cM cP cL cB cD cZ : Addr} {tP tS tC tI : Tok}
theorem sc_Palette.__init__ : FnScope ["self", "colours"] ["self", "colours"] (defScope s_Palette.__init__) := ⟨rfl, rfl, rfl, by decide +kernel, rfl, by decide +kernel, by decide +kernel⟩
theorem ok_Palette.__init__ {f : Addr} {fd : FuncData} (F : FunD K "__init__" "Palette.__init__" s_Palette.__init__ .none f fd) {fC : Addr} (T : Txt K mg cFE cC cN cM cP cL cB cD cZ tP tS tC tI) (g_is_list_of : Def P w K mg base 4 "is_list_of" ["thing", "is_one"] [] (spLocC K fC)) (hC : mg "is_colour" = some (.ref fC)) (g_is_whole_within : Def P w K mg base 2 "is_whole_within" ["thing", "least", "most"] [] (spWh K)) : FnOk P w K mg base (CX1 P w) 5 f fd ["self", "colours"] (spInit K cP cL) := by
 refine F.okX sc_Palette.__init__ (fun vs H Q E h => ?_) (fun cdv A outer s H vs Q E hr h => ?_)
 ·obtain ⟨p, dx, v, rfl, _⟩ := h; rfl
 ·obtain ⟨p, dx, v, rfl, hp, t, kY, kN⟩ := h
  refine ⟨_, (pss_cons (ps_if (PW.pt (pw_or (pt_not (pt_val (pe_callD g_is_list_of (hr.mono (by decide)) rfl (pa_cons (pv 1) (pa_cons (pe_glob (v := .ref fC) rfl hC rfl) pa_nil))))) (pw_or1 (pt_not (pt_val (pe_callD g_is_whole_within (hr.mono (by decide)) rfl (pa_cons (pe_callB (lenK K rfl) rfl T.len PySem.boot_len (pa_cons (pv 1) pa_nil)) (pa_cons pe_int (pa_cons (pe_glob (v := .int 16) rfl T.MOST_COLOURS ⟨_, rfl⟩) pa_nil))))))))) (pss_one (ps_raise rfl raises1 rfl T.BadPalette T.xBadPalette (pa_cons pe_str pa_nil))) pss_nil)
    (pss_cons (ps_if (pt_cmpR op_ne (pe_callB call_lenN rfl T.len PySem.boot_len (pa_cons (pe_callTy (call_setT rfl (Nat.lt_of_le_of_lt (Nat.add_le_add_left (by decide : 8 ≤ 64) _) hr.units)) rfl T.set PyProof.Rows.boot_set (pa_cons (pv 1) pa_nil)) pa_nil)) (pe_callB (lenK K rfl) rfl T.len PySem.boot_len (pa_cons (pv 1) pa_nil)) (nomark _)) (pss_one (ps_raise rfl raises1 rfl T.BadPalette T.xBadPalette (pa_cons pe_str pa_nil))) pss_nil)
    (pss_one (ps_fld (pv 0) (pe_callTy (listK K rfl) rfl T.list PyProof.Rows.boot_list (pa_cons (pv 1) pa_nil)) rfl)))), ?_⟩
  cases hx : rowOf H v with
  | none =>
   have ng : ¬ GoodP H v := by
    rintro ⟨a, cs, rfl, cv, _⟩
    rw [rowOf_lst cv.1] at hx; cases hx
   exact ⟨_, rfl, v, rfl, .inr ⟨t.kd, by rw [isL_row t.kd, hx]; rfl, _, rfl, ⟨sz1, kN ng H (Same.refl H)⟩⟩⟩
  | some xs =>
   obtain ⟨a, rfl, e⟩ := rowOf_ref hx
   refine ⟨_, rfl, _, rfl, .inl ⟨a, xs, rfl, e, t.len xs hx, t.it xs hx, fun H1 s1 => ⟨_, rfl, iteN (fun h => ?_) (fun h => ?_)⟩⟩⟩
   ·refine ⟨sz1, kN ?_ H1 s1⟩
    rintro ⟨a', cs, ea, cv, _⟩
    cases ea
    have := cv.1
    rw [e] at this
    have : xs = cs.map fun c => V.ref c.1 := by injection this with q; injection q
    rw [this, cv.yes] at h
    cases h
   obtain ⟨cs, rfl, hcs⟩ := cols_of h
   have cv : ColsV H a cs := ⟨e, hcs⟩
   have c1 := cv.mono s1
   have hlen : (cs.map fun c => V.ref c.1).length = cs.length := List.length_map _
   refine ⟨_, rfl, a, _, rfl, .inl (SqL.of c1.1), _, 1, 16, rfl, .int _, _, rfl, iteN (fun hw => ?_) (fun hw => ?_)⟩
   ·refine ⟨sz1, kN ?_ H1 s1⟩
    rintro ⟨a', cs', ea, cv', l1, l16, _⟩
    cases ea
    cases cv.inj cv'
    rw [hlen] at hw
    have : isWh 1 16 (.int (cs.length : Int)) = true := by simp only [isWh, Bool.and_eq_true, decide_eq_true_eq]; omega
    rw [this] at hw; cases hw
   have hb : 1 ≤ cs.length ∧ cs.length ≤ 16 := by
    rw [hlen] at hw
    simp only [isWh, Bool.and_eq_true, decide_eq_true_eq] at hw
    omega
   refine ⟨_, rfl, a, _, cs.map kc, rfl, SqL.of c1.1, by rw [hlen]; omega, ColsV.tups c1.2, fun q hq => ?_⟩
   have z2 := same_new (o := SetN q (dd (cs.map kc)).length) hq
   have c2 := c1.mono z2
   refine ⟨q, _, rfl, upd_same, _, rfl, a, _, rfl, .inl (SqL.of c2.1), rfl, _, rfl, iteN (fun hn => ?_) (fun hn => ?_)⟩
   ·refine ⟨sz1, kN ?_ _ (s1.trans z2)⟩
    rintro ⟨a', cs', ea, cv', _, _, nd⟩
    cases ea
    cases cv.inj cv'
    have := (dd_nodup (cs.map kc)).mpr nd
    rw [this, hlen, List.length_map] at hn
    simp at hn
   have nd : (cs.map kc).Nodup := (dd_nodup _).mp (by
    have := of_decide_eq_true hn
    rw [hlen] at this
    rw [List.length_map]
    injection this with this
    omega)
   have s12 := s1.trans z2
   refine ⟨_, rfl, a, _, rfl, .inl (SqL.of c2.1), fun l hl => ?_⟩
   have npl : p ≠ l := ne_of_none (s12 _ _ hp) hl
   refine ⟨_, rfl, p, cL, dx, [], rfl, by rw [upd_ne npl]; exact s12 _ _ hp, T.cl, T.nK, (by show 0 < 1000; decide), ?_⟩
   refine kY a cs rfl cv hb.1 hb.2 nd l _ (s12.free hl) (fun b o hb' hne => ?_) ⟨⟨dx, upd_same⟩, ?_, fun c hc => ?_⟩
   ·rw [upd_ne hne]
    exact (s12.trans (same_new hl)) b o hb'
   ·rw [upd_ne npl.symm, upd_same]
   ·have cc := c2.2 c hc
    have ne : c.1 ≠ p := ne_of cc.top (s12 _ _ hp) (by intro z; cases z)
    exact ⟨by rw [upd_ne ne]; exact same_new hl _ _ cc.top, cc.lr, cc.lg, cc.lb⟩
end
theorem colour_eqD {K : W.Frag} {H : Hp} {a a' : Addr} {r g b r' g' b' : Nat} (c' : Col H a' r' g' b') (c : Col H a r g b) : EqD K H 1 (.ref a') (.ref a) (decide ((r', g', b') = (r, g, b))) := by
 by_cases h : a' = a
 ·subst h
  obtain ⟨rfl, rfl, rfl⟩ := c.inj c'
  exact .inl (.inl ⟨a', rfl, rfl, by simp⟩)
 ·refine .inr ⟨a', a, rfl, rfl, h, _, _, .inr ⟨.inr ⟨SqT.of c'.top, SqT.of c.top⟩, rfl, fun i => [decide (r' = r), decide (g' = g), decide (b' = b)].getD i true, fun i x y hx hy => ?_, ?_⟩⟩
  ·match i, hx, hy with
   | 0, hx, hy => cases hx; cases hy; exact .inr ⟨rfl, rfl, by simp [eqV]; rw [Bool.eq_iff_iff]; simp; omega⟩
   | 1, hx, hy => cases hx; cases hy; exact .inr ⟨rfl, rfl, by simp [eqV]; rw [Bool.eq_iff_iff]; simp; omega⟩
   | 2, hx, hy => cases hx; cases hy; exact .inr ⟨rfl, rfl, by simp [eqV]; rw [Bool.eq_iff_iff]; simp; omega⟩
   | i + 3, hx, hy => cases hx
  ·show _ = ([decide (r' = r), decide (g' = g), decide (b' = b)].getD 0 true && ([decide (r' = r), decide (g' = g), decide (b' = b)].getD 1 true && ([decide (r' = r), decide (g' = g), decide (b' = b)].getD 2 true && true)))
   rw [Bool.eq_iff_iff]; simp
noncomputable def beC (H : Hp) (r g b : Nat) (z : V) : Bool := decide (tupOf H z = some [.int (r : Int), .int (g : Int), .int (b : Int)])
theorem beC_col {H : Hp} {c : Addr × Nat × Nat × Nat} {r g b : Nat} (h : Col H c.1 c.2.1 c.2.2.1 c.2.2.2) : beC H r g b (.ref c.1) = isC r g b c := by
 obtain ⟨a, r', g', b'⟩ := c
 unfold beC isC
 rw [tupOf_tup h.top, Bool.eq_iff_iff, decide_eq_true_iff, decide_eq_true_iff]
 simp
 omega
theorem in_cols {K : W.Frag} {H : Hp} {l a : Addr} {cs : List (Addr × Nat × Nat × Nat)} {r g b : Nat} {neg : Bool} {Q : VK} (v : ColsV H l cs) (c : Col H a r g b) (k : Q (.bl (if neg then !(cs.findIdx? (isC r g b)).isSome else (cs.findIdx? (isC r g b)).isSome)) H) : rInD K neg 1 (.ref a) (.ref l) H Q := by
 refine ⟨l, _, beC H r g b, rfl, SqL.of v.1, fun z hz => ?_, ?_⟩
 ·obtain ⟨c', hc', rfl⟩ := List.mem_map.mp hz
  have cc := v.2 c' hc'
  rw [beC_col cc]
  obtain ⟨a', r', g', b'⟩ := c'
  exact colour_eqD cc c
 ·have e : (cs.map fun c => V.ref c.1).any (beC H r g b) = (cs.findIdx? (isC r g b)).isSome := by
   rw [List.any_map, List.findIdx?_isSome]
   have : ∀ ds : List (Addr × Nat × Nat × Nat), (∀ c ∈ ds, Col H c.1 c.2.1 c.2.2.1 c.2.2.2) → ds.any ((beC H r g b) ∘ fun c => V.ref c.1) = ds.any (isC r g b) := by
    intro ds
    induction ds with
    | nil => intro _; rfl
    | cons d ds ih =>
     intro h
     rw [List.any_cons, List.any_cons, ih fun c hc => h c (List.mem_cons_of_mem _ hc)]
     congr 1
     exact beC_col (h d List.mem_cons_self)
   exact this cs v.2
  rw [e]; exact k
theorem index_cols {K : W.Frag} {H : Hp} {l a : Addr} {cs : List (Addr × Nat × Nat × Nat)} {r g b j : Nat} {Q : VK} (v : ColsV H l cs) (c : Col H a r g b) (h : cs.findIdx? (isC r g b) = some j) (k : Q (.int (j : Int)) H) : rIndexL K 1 (.ref l) [.ref a] H Q := by
 obtain ⟨hj, hp, hb⟩ := List.findIdx?_eq_some_iff_getElem.mp h
 have hat : ∀ i (hi : i < cs.length), beC H r g b (.ref (cs[i]).1) = isC r g b cs[i] := fun i hi => beC_col (v.2 _ (List.getElem_mem hi))
 refine ⟨l, _, .ref a, beC H r g b, j, .ref (cs[j]).1, rfl, rfl, v.1, fun z hz => ?_, by rw [List.getElem?_map, List.getElem?_eq_getElem hj]; rfl, by rw [hat j hj]; exact hp, fun i z hi hz => ?_, k⟩
 ·obtain ⟨c', hc', rfl⟩ := List.mem_map.mp hz
  have cc := v.2 c' hc'
  rw [beC_col cc]
  obtain ⟨a', r', g', b'⟩ := c'
  exact colour_eqD cc c
 ·rw [List.getElem?_map, List.getElem?_eq_getElem (by omega)] at hz
  cases hz
  rw [hat i (by omega)]
  have := hb i hi
  simpa using this
section
variable {P : Program} {w : World} {K : W.Frag} {mg : Str → Option Value} {base : Heap} {cFE cC cN cM cP cL cB cD cZ : Addr} {tP tS tC tI : Tok}
theorem sc_Palette.colours : FnScope ["self"] ["self"] (defScope s_Palette.colours) := ⟨rfl, rfl, rfl, by decide +kernel, rfl, by decide +kernel, by decide +kernel⟩
theorem ok_Palette.colours {f : Addr} {fd : FuncData} (F : FunD K "colours" "Palette.colours" s_Palette.colours .none f fd) (T : Txt K mg cFE cC cN cM cP cL cB cD cZ tP tS tC tI) : FnOk P w K mg base CX0 1 f fd ["self"] (spCols cL) := by
 refine F.ok sc_Palette.colours (fun vs H Q E h => ?_) (fun cdv A outer s H vs Q E hr h => ?_)
 ·obtain ⟨p, l, cs, rfl, _⟩ := h; rfl
 ·obtain ⟨p, l, cs, rfl, ⟨⟨dx, hp⟩, cv⟩, k⟩ := h
  refine ⟨_, (pss_one (ps_ret (pe_callTy (listK K rfl) rfl T.list PyProof.Rows.boot_list (pa_cons (pe_fld (pv 0) rfl) pa_nil)))), ?_⟩
  exact ⟨_, rfl, p, cL, dx, _, _, rfl, hp, T.cl, T.nK, lk_kept1, l, _, rfl, .inl (SqL.of cv.1), fun q hq => k q hq⟩
theorem sc_Palette.many : FnScope ["self"] ["self"] (defScope s_Palette.many) := ⟨rfl, rfl, rfl, by decide +kernel, rfl, by decide +kernel, by decide +kernel⟩
theorem ok_Palette.many {f : Addr} {fd : FuncData} (F : FunD K "many" "Palette.many" s_Palette.many .none f fd) (T : Txt K mg cFE cC cN cM cP cL cB cD cZ tP tS tC tI) : FnOk P w K mg base CX0 1 f fd ["self"] (spMany cL) := by
 refine F.ok sc_Palette.many (fun vs H Q E h => ?_) (fun cdv A outer s H vs Q E hr h => ?_)
 ·obtain ⟨p, l, cs, rfl, _⟩ := h; rfl
 ·obtain ⟨p, l, cs, rfl, ⟨⟨dx, hp⟩, cv⟩, k⟩ := h
  refine ⟨_, (pss_one (ps_ret (pe_callB (lenK K rfl) rfl T.len PySem.boot_len (pa_cons (pe_fld (pv 0) rfl) pa_nil)))), ?_⟩
  refine ⟨_, rfl, p, cL, dx, _, _, rfl, hp, T.cl, T.nK, lk_kept1, l, _, rfl, .inl (SqL.of cv.1), ?_⟩
  rw [List.length_map]
  exact k
theorem sc_Palette.colour_of : FnScope ["self", "cell"] ["self", "cell"] (defScope s_Palette.colour_of) := ⟨rfl, rfl, rfl, by decide +kernel, rfl, by decide +kernel, by decide +kernel⟩
theorem ok_Palette.colour_of {f : Addr} {fd : FuncData} (F : FunD K "colour_of" "Palette.colour_of" s_Palette.colour_of .none f fd) (T : Txt K mg cFE cC cN cM cP cL cB cD cZ tP tS tC tI) (g_is_whole_within : Def P w K mg base 2 "is_whole_within" ["thing", "least", "most"] [] (spWh K)) (g_m_many : MetD P w K mg base cL 1 "many" ["self"] (spMany cL)) : FnOk P w K mg base (CX1 P w) 3 f fd ["self", "cell"] (spColOf K cN cL) := by
 refine F.okX sc_Palette.colour_of (fun vs H Q E h => ?_) (fun cdv A outer s H vs Q E hr h => ?_)
 ·obtain ⟨p, l, cs, v, rfl, _⟩ := h; rfl
 ·obtain ⟨p, l, cs, v, rfl, pq, kd, kY, kN⟩ := h
  obtain ⟨⟨dx, hp⟩, cv⟩ := id pq
  refine ⟨_, (pss_cons (ps_if (pt_not (pt_val (pe_callD g_is_whole_within (hr.mono (by decide)) rfl (pa_cons (pv 1) (pa_cons pe_int (pa_cons (pe_op op_sub (pe_metD0 (pv 0) T.cl g_m_many (hr.mono (by decide))) pe_int) pa_nil)))))) (pss_one (ps_raise rfl raises1 rfl T.NoColour T.xNoColour (pa_cons pe_str pa_nil))) pss_nil)
    (pss_one (ps_ret (pe_ix (ixK K rfl) (pe_fld (pv 0) rfl) (pv 1) (fun _ _ => rfl))))), ?_⟩
  refine ⟨_, rfl, _, rfl, p, dx, _, rfl, hp, lk_kept (by decide +kernel), p, l, cs, rfl, pq, _, _, rfl, rfl, v, 0, _, rfl, kd, _, rfl, iteN (fun h => ⟨sz1, kN h⟩) (fun h => ?_)⟩
  obtain ⟨n, rfl, hn⟩ : ∃ n : Nat, v = .int (n : Int) ∧ n < cs.length := by
   cases v with
   | int i =>
    simp only [isWh, Bool.and_eq_true, decide_eq_true_eq] at h
    exact ⟨i.toNat, by rw [Int.toNat_of_nonneg h.1], by omega⟩
   | _ => cases h
  exact ⟨_, rfl, p, cL, dx, _, _, rfl, hp, T.cl, T.nK, lk_kept1, _, rfl, l, _, _, _, rfl, rfl, SqL.of cv.1, atI_nat (j := n) (by rw [List.getElem?_map, List.getElem?_eq_getElem hn]; rfl), kY n cs[n] rfl (List.getElem?_eq_getElem hn)⟩
theorem sc_Palette.cell_of : FnScope ["self", "colour"] ["self", "colour"] (defScope s_Palette.cell_of) := ⟨rfl, rfl, rfl, by decide +kernel, rfl, by decide +kernel, by decide +kernel⟩
theorem ok_Palette.cell_of {f : Addr} {fd : FuncData} (F : FunD K "cell_of" "Palette.cell_of" s_Palette.cell_of .none f fd) (T : Txt K mg cFE cC cN cM cP cL cB cD cZ tP tS tC tI) (g_need_colour : DefX P w K mg base 4 "need_colour" ["colour"] [] (spNeedC K cC)) : FnOk P w K mg base (CX1 P w) 5 f fd ["self", "colour"] (spCellOf K cC cL) := by
 refine F.okX sc_Palette.cell_of (fun vs H Q E h => ?_) (fun cdv A outer s H vs Q E hr h => ?_)
 ·obtain ⟨p, l, cs, v, rfl, _⟩ := h; rfl
 ·obtain ⟨p, l, cs, v, rfl, pq, tc, kY, kN⟩ := h
  have hu : _ + 64 < cLine := hr.units
  refine ⟨_, (pss_cons (ps_expr (pe_callX g_need_colour (hr.mono (by decide)) passes1R rfl (pa_cons (pv 1) pa_nil)))
    (pss_one (ps_ret (pe_ifExp (pt_cmpR (op_inD K rfl 1 (by decide) hu) (pv 1) (pe_fld (pv 0) rfl) (by with_unfolding_all rfl)) (pe_bm PySem.F.plainAttrs_list PySem.F.slot_list_index PySem.F.type_list_index (mt_indexL K rfl 1 (by decide) hu) (pe_fld (pv 0) rfl) (pa_cons (pv 1) pa_nil)) pe_non)))), ?_⟩
  refine ⟨_, rfl, v, rfl, tc, fun hc H1 s1 => ?_, fun hc => kN hc⟩
  obtain ⟨a, r, g, b, rfl, c⟩ := col_of hc
  have kY := kY a r g b rfl c H1 s1
  obtain ⟨⟨dx, hp⟩, cv⟩ := pq.mono s1
  have c1 := c.mono s1
  refine ⟨_, rfl, _, rfl, p, cL, dx, _, _, rfl, hp, T.cl, T.nK, lk_kept1, in_cols (neg := false) cv c1 ⟨_, rfl, ?_⟩⟩
  cases hf : cs.findIdx? (isC r g b) with
  | none =>
   rw [cellV, hf] at kY
   exact kY
  | some j =>
   rw [cellV, hf] at kY
   exact ⟨_, rfl, p, cL, dx, _, _, rfl, hp, T.cl, T.nK, lk_kept1, .inl ⟨rfl, _, SqL.of cv.1⟩, _, rfl, index_cols cv c1 hf kY⟩
theorem sc_Palette.add_colour : FnScope ["self", "colour", "cell"] ["self", "colour"] (defScope s_Palette.add_colour) := ⟨rfl, rfl, rfl, by decide +kernel, rfl, by decide +kernel, by decide +kernel⟩
theorem ok_Palette.add_colour {f : Addr} {fd : FuncData} (F : FunD K "add_colour" "Palette.add_colour" s_Palette.add_colour .none f fd) (T : Txt K mg cFE cC cN cM cP cL cB cD cZ tP tS tC tI) (g_m_cell_of : MetX P w K mg base cL 5 "cell_of" ["self", "colour"] (spCellOf K cC cL)) (g_m_many : MetD P w K mg base cL 1 "many" ["self"] (spMany cL)) : FnOk P w K mg base (CX1 P w) 6 f fd ["self", "colour"] (spAdd K cC cM cL) := by
 refine F.okX sc_Palette.add_colour (fun vs H Q E h => ?_) (fun cdv A outer s H vs Q E hr h => ?_)
 ·obtain ⟨p, l, cs, v, rfl, _⟩ := h; rfl
 ·obtain ⟨p, l, cs, v, rfl, pq, h16, tc, kY, kN⟩ := h
  refine ⟨_, (pss_cons (ps_set (i := 2) sc_Palette.add_colour.nd rfl (.inl rfl) (pe_metX (pv 0) T.cl g_m_cell_of (hr.mono (by decide)) passes1R (pa_cons (pv 1) pa_nil)))
    (pss_cons (ps_if (pt_cmp (pc_notN (pv 2))) (pss_one (ps_ret (pv 2))) pss_nil)
    (pss_cons (ps_if (pt_cmpR op_eq (pe_metD0 (pv 0) T.cl g_m_many (hr.mono (by decide))) (pe_glob (v := .int 16) rfl T.MOST_COLOURS ⟨_, rfl⟩) (nomark _)) (pss_one (ps_raise rfl raises1 rfl T.TooMany T.xTooMany (pa_cons pe_str pa_nil))) pss_nil)
    (pss_cons (ps_expr (pe_bm PySem.F.plainAttrs_list PySem.F.slot_list_append PySem.F.type_list_append mt_append (pe_fld (pv 0) rfl) (pa_cons (pv 1) pa_nil)))
    (pss_one (ps_ret (pe_op op_sub (pe_metD0 (pv 0) T.cl g_m_many (hr.mono (by decide))) pe_int))))))), ?_⟩
  obtain ⟨⟨dx, hp⟩, cv⟩ := id pq
  refine ⟨_, rfl, p, dx, _, rfl, hp, lk_kept (by decide +kernel), _, rfl, p, l, cs, v, rfl, pq, tc, fun a r g b e c H1 s1 => ?_, fun hc => kN hc⟩
  subst e
  obtain ⟨kA, kB, kC⟩ := kY a r g b rfl c
  obtain ⟨⟨dx, hp⟩, cv⟩ := pq.mono s1
  have c1 := c.mono s1
  have pq1 := pq.mono s1
  cases hf : cs.findIdx? (isC r g b) with
  | some j =>
   have e : cellV cs r g b = .int (j : Int) := by unfold cellV; rw [hf]
   rw [e]
   exact ⟨_, rfl, _, rfl, ⟨_, rfl, kA j hf H1 s1⟩⟩
  | none =>
   have e : cellV cs r g b = .non := by unfold cellV; rw [hf]
   rw [e]
   refine ⟨_, rfl, _, rfl, _, rfl, p, dx, _, rfl, hp, lk_kept (by decide +kernel), p, l, cs, rfl, pq1, rfl, _, rfl, ite2 (fun h => ?_) (fun h => ?_)⟩
   ·exact ⟨sz1, kB hf (by have h := of_decide_eq_true h; injection h with h; omega) H1 s1⟩
   ·have hl : cs.length < 16 := by
     rcases Nat.lt_or_ge cs.length 16 with q | q
     ·exact q
     ·exact absurd (by rw [show cs.length = 16 by omega]; rfl) h
    refine ⟨_, rfl, p, cL, dx, _, _, rfl, hp, T.cl, T.nK, lk_kept1, .inl ⟨rfl, _, SqL.of cv.1⟩, _, rfl, l, _, _, rfl, rfl, cv.1, Nat.lt_of_lt_of_le (by rw [List.length_map]; omega : _ < 5000) (by decide), ?_⟩
    have npl : p ≠ l := ne_of hp cv.1 (by intro z; cases z)
    have cv2 : ColsV (upd H1 l (.lst (cs.map (fun c => V.ref c.1) ++ [V.ref a]))) l (cs ++ [(a, r, g, b)]) := by
     refine ⟨by rw [upd_same, List.map_append]; rfl, fun d hd => ?_⟩
     have cd : Col H1 d.1 d.2.1 d.2.2.1 d.2.2.2 := by
      rcases List.mem_append.mp hd with hd | hd
      ·exact cv.2 d hd
      ·rw [List.mem_singleton.mp hd]; exact c1
     exact ⟨by rw [upd_ne (ne_of cd.top cv.1 (by intro z; cases z))]; exact cd.top, cd.lr, cd.lg, cd.lb⟩
    refine ⟨_, rfl, p, dx, _, rfl, by rw [upd_ne npl]; exact hp, lk_kept (by decide +kernel), p, l, _, rfl, ⟨⟨dx, by rw [upd_ne npl]; exact hp⟩, cv2⟩, _, _, rfl, rfl, ?_⟩
    have e3 : (((cs ++ [(a, r, g, b)]).length : Nat) : Int) - 1 = (cs.length : Int) := by rw [List.length_append]; show ((cs.length + 1 : Nat) : Int) - 1 = _; omega
    show Q (.int ((((cs ++ [(a, r, g, b)]).length : Nat) : Int) - 1)) _
    rw [e3]
    exact kC hf hl _ (fun b o hb hne => by rw [upd_ne hne]; exact s1 b o hb) upd_same
end
noncomputable def Clb (K : W.Frag) (mg : Str → Option Value) (c : Addr) (n : Str) (b : Bool) : Prop := ∃ a : Addr, mg n = some (.ref a) ∧ W.kitOne K (.ref c) (.ref a) = some b
structure TxtW (K : W.Frag) (mg : Str → Option Value) (c : Addr) (word : Str) (b1 b2 b3 b4 b5 b6 b7 b8 b9 : Bool) : Prop where
 kX : XCls K c
 iV : W.kitOne K (.ref c) (.type "ValueError") = some true
 hw : ∀ t1 t2 t3 t4 t5 t6 t7 t8 t9 : Addr, (([(t1, ("cell" : Str), b1), (t2, ("colour" : Str), b2), (t3, ("pack" : Str), b3), (t4, ("palette" : Str), b4), (t5, ("picture" : Str), b5), (t6, ("size" : Str), b6), (t7, ("none" : Str), b7), (t8, ("many" : Str), b8), (t9, ("runs" : Str), b9)] : List (Addr × Str × Bool)).filter fun t => t.2.2).map (fun t => V.str t.2.1) = [V.str word]
 BadCell : Clb K mg c "BadCell" b1
 BadColour : Clb K mg c "BadColour" b2
 BadPack : Clb K mg c "BadPack" b3
 BadPalette : Clb K mg c "BadPalette" b4
 BadPicture : Clb K mg c "BadPicture" b5
 BadSize : Clb K mg c "BadSize" b6
 NoColour : Clb K mg c "NoColour" b7
 TooMany : Clb K mg c "TooMany" b8
 BadRuns : Clb K mg c "BadRuns" b9
 BadCheck : Clb K mg c "BadCheck" false
 BadDeed : Clb K mg c "BadDeed" false
 BadEdge : Clb K mg c "BadEdge" false
 BadHead : Clb K mg c "BadHead" false
 BadMask : Clb K mg c "BadMask" false
 BadName : Clb K mg c "BadName" false
 BadPart : Clb K mg c "BadPart" false
 BadRule : Clb K mg c "BadRule" false
 BadText : Clb K mg c "BadText" false
 NoPart : Clb K mg c "NoPart" false
 NoPicture : Clb K mg c "NoPicture" false
 NothingDone : Clb K mg c "NothingDone" false
 OutOfPlace : Clb K mg c "OutOfPlace" false
 Twice : Clb K mg c "Twice" false
noncomputable def spWhole : Sp := fun vs H Q _ => ∃ i : Int, vs = [.int i] ∧ Q (.bl true) H
noncomputable def spDraw (K : W.Frag) : Sp := fun vs H Q _ => ∃ (a : Addr) (ns : List Int) (k : Nat), vs = [.ref a, .int (k : Int)] ∧ SqL K H a (ns.map V.int) ∧ k ≤ 1000 ∧ ∀ (n : Nat) H', n < 2147483647 → Same H H' → Q (.int (n : Int)) H'
noncomputable def spW (c : Addr) (word : Str) (ea : Addr) : Sp := fun vs H Q _ => vs = [.ref ea] ∧ H ea = some (ExcO ea c) ∧ ∀ t H', Same H H' → H t = none → H' t = some (.tup [.str word]) → Q (.ref t) H'
theorem wordB {P : Program} {w : World} {K : W.Frag} {mg : Str → Option Value} {base : Heap} {k : Nat} {f : Addr} {fd : FuncData} {ps : List Str} {s1 s2 : Addr → Sp} (a : FnOkM P w K mg base k f fd ps s1) (b : FnOkM P w K mg base k f fd ps s2) : FnOkM P w K mg base k f fd ps (fun ea vs H Q E => s1 ea vs H Q E ∨ s2 ea vs H Q E) :=
 ⟨fun ea vs H Q E h => h.elim (a.len ea vs H Q E) (b.len ea vs H Q E), fun A ea outer s H args us vs Q E r e bn v h => h.elim (a.run A ea outer s H args us vs Q E r e bn v) (b.run A ea outer s H args us vs Q E r e bn v)⟩
theorem EqL.nil {K : W.Frag} {H : Hp} {a p : Addr} {xs : List V} {rec : V → V → Bool → Prop} (ha : SqL K H a xs) (hp : SqL K H p []) : EqL K H rec a p (decide (xs = [])) := by
 cases xs with
 | nil => exact ⟨[], [], .inr ⟨.inl ⟨ha, hp⟩, rfl, fun _ => true, (fun i x y e => by simp at e), rfl⟩⟩
 | cons x r => exact ⟨_, [], .inl ⟨ha, hp, by simp, rfl⟩⟩
theorem tupleK {X : Cx} (K : W.Frag) (hK : X.K = K) : CallR X (.type "tuple") (fun xs H Q => ∃ p ys, xs = [V.ref p] ∧ ((SqL K H p ys ∧ ∀ (l : Addr), H l = none → Q (V.ref l) (upd H l (HO.tup ys))) ∨ SqT K H p ys ∧ Q (V.ref p) H)) := by
 subst hK
 exact call_tuple_of
section
variable {P : Program} {w : World} {K : W.Frag} {mg : Str → Option Value} {base : Heap} {cFE cC cN cM cP cL cB cD cZ : Addr} {tP tS tC tI : Tok}
theorem sc_law_draw : FnScope ["_law_script", "_law_k", "_law_cell", "_law_base"] ["_law_script", "_law_k"] (defScope s_law_draw) := ⟨rfl, rfl, rfl, by decide +kernel, rfl, by decide +kernel, by decide +kernel⟩
theorem ok_law_draw {f : Addr} {fd : FuncData} (F : FunD K "_law_draw" "_law_draw" s_law_draw .none f fd) (T : Txt K mg cFE cC cN cM cP cL cB cD cZ tP tS tC tI) : FnOk P w K mg base CX0 1 f fd ["_law_script", "_law_k"] (spDraw K) := by
 refine F.ok sc_law_draw (fun vs H Q E h => ?_) (fun cdv A outer s H vs Q E hr h => ?_)
 ·obtain ⟨a, ns, k, rfl, _⟩ := h; rfl
 ·obtain ⟨a, ns, k, rfl, hS, hk, kk⟩ := h
  have hu : _ + 64 < cLine := hr.units
  obtain ⟨t2, r2, k2⟩ : ∃ tr, PSs ((cxOf CX0 P w K mg base ["_law_script", "_law_k", "_law_cell", "_law_base"] "_law_draw" (defScope s_law_draw) f cdv A outer s H E).nox) ((defBody s_law_draw).drop 2) tr ∧
    ∀ (c : Int) (H1 : Hp), Same H H1 → tr { nx := fun _ H' => Q .non H', rt := Q } [some (.ref a), some (.int (k : Int)), some (.int c), none] H1 := by
   refine ⟨_, (pss_cons (ps_set (i := 3) sc_law_draw.nd rfl (.inl rfl) (pe_op op_mod (pe_op op_mul (pe_op op_add (pe_op op_add (pe_op op_add (pv 2) (pe_op op_mul (pe_op op_mul pe_int (pv 1)) (pv 1))) (pe_op op_mul pe_int (pv 1))) pe_int) pe_int) pe_int))
    (pss_one (ps_ret (pe_op op_mod (pe_op op_mul (pv 3) (pe_op op_add pe_int (pe_op op_mul (pv 1) (pv 1)))) pe_int)))), ?_⟩
   intro c H1 s1
   refine ⟨_, rfl, _, rfl, _, _, rfl, rfl, .inl ⟨by decide, by decide⟩, _, rfl, _, _, rfl, rfl, .inr ⟨by omega, by omega⟩, _, _, rfl, rfl, _, rfl, _, _, rfl, rfl, .inl ⟨by decide, by decide⟩, _, _, rfl, rfl, _, _, rfl, rfl, _, _, rfl, rfl, .inr ⟨by decide, by decide⟩, _, _, rfl, rfl, (by show (0 : Int) < 2147483647; decide), ?_⟩
   have f0 := Int.emod_nonneg ((c + 1009 * (k : Int) * (k : Int) + 31 * (k : Int) + 11) * 1103515245) (show (2147483647 : Int) ≠ 0 by decide)
   have f1 := Int.emod_lt_of_pos ((c + 1009 * (k : Int) * (k : Int) + 31 * (k : Int) + 11) * 1103515245) (show (0 : Int) < 2147483647 by decide)
   show gName 3 (.int ((c + 1009 * (k : Int) * (k : Int) + 31 * (k : Int) + 11) * 1103515245 % 2147483647)) _ H1 _
   generalize (c + 1009 * (k : Int) * (k : Int) + 31 * (k : Int) + 11) * 1103515245 % 2147483647 = bs at f0 f1 ⊢
   refine ⟨_, rfl, _, rfl, _, rfl, _, _, rfl, rfl, .inl ⟨by omega, by omega⟩, _, _, rfl, rfl, _, _, rfl, rfl, .inl ⟨by omega, by omega⟩, _, _, rfl, rfl, (by show (0 : Int) < 2147483647; decide), ?_⟩
   have g0 := Int.emod_nonneg (bs * (48271 + (k : Int) * (k : Int))) (show (2147483647 : Int) ≠ 0 by decide)
   have g1 := Int.emod_lt_of_pos (bs * (48271 + (k : Int) * (k : Int))) (show (0 : Int) < 2147483647 by decide)
   show Q (.int (bs * (48271 + (k : Int) * (k : Int)) % 2147483647)) H1
   obtain ⟨n, en, hn⟩ : ∃ n : Nat, bs * (48271 + (k : Int) * (k : Int)) % 2147483647 = (n : Int) ∧ n < 2147483647 := ⟨(bs * (48271 + (k : Int) * (k : Int)) % 2147483647).toNat, by omega, by omega⟩
   rw [en]
   exact kk n H1 hn s1
  refine ⟨_, (pss_cons (ps_set (i := 2) sc_law_draw.nd rfl (.inl rfl) pe_int)
    (pss_cons (ps_if (pt_cmpR (neDK K rfl hu) (pv 0) (pe_lst pa_nil) (nomark _)) (pss_one (ps_set (i := 2) sc_law_draw.nd rfl (.inl rfl) (pe_ix (ixK K rfl) (pv 0) (pe_op op_mod (pv 1) (pe_callB (lenK K rfl) rfl T.len PySem.boot_len (pa_cons (pv 0) pa_nil))) (fun _ _ => rfl)))) pss_nil)
    (@r2))), ?_⟩
  refine ⟨_, rfl, Nat.zero_le _, fun p hp => ?_⟩
  have z := same_new (o := HO.lst []) hp
  refine ⟨1, a, p, _, by decide, rfl, rfl, EqL.nil (z.seq hS) (SqL.of upd_same), _, rfl, ?_⟩
  cases ns with
  | nil => exact k2 0 _ z
  | cons x r =>
   refine ⟨_, rfl, _, rfl, _, rfl, a, _, rfl, .inl (z.seq hS), _, _, rfl, rfl, (by show (0 : Int) < (((x :: r).map V.int).length : Int); rw [List.length_map, List.length_cons]; omega), ?_⟩
   have f0 := Int.emod_nonneg (k : Int) (show (((x :: r).map V.int).length : Int) ≠ 0 by rw [List.length_map, List.length_cons]; omega)
   have f1 := Int.emod_lt_of_pos (k : Int) (show (0 : Int) < (((x :: r).map V.int).length : Int) by rw [List.length_map, List.length_cons]; omega)
   obtain ⟨v, hv, hvm⟩ : ∃ v, atI ((x :: r).map V.int) ((k : Int) % (((x :: r).map V.int).length : Int)) = some v ∧ v ∈ (x :: r).map V.int := by
    obtain ⟨j, ej⟩ : ∃ j : Nat, (k : Int) % (((x :: r).map V.int).length : Int) = (j : Int) := ⟨((k : Int) % (((x :: r).map V.int).length : Int)).toNat, by omega⟩
    rw [ej] at f1 ⊢
    have hj : j < ((x :: r).map V.int).length := by omega
    exact ⟨_, atI_nat (List.getElem?_eq_getElem hj), List.getElem_mem hj⟩
   obtain ⟨c, _, rfl⟩ := List.mem_map.mp hvm
   exact ⟨a, _, _, _, rfl, rfl, z.seq hS, hv, k2 c _ z⟩
theorem sc_law_whole : FnScope ["_law_found"] ["_law_found"] (defScope s_law_whole) := ⟨rfl, rfl, rfl, by decide +kernel, rfl, by decide +kernel, by decide +kernel⟩
theorem ok_law_whole {f : Addr} {fd : FuncData} (F : FunD K "_law_whole" "_law_whole" s_law_whole .none f fd) (T : Txt K mg cFE cC cN cM cP cL cB cD cZ tP tS tC tI) : FnOk P w K mg base CX0 1 f fd ["_law_found"] spWhole := by
 refine F.ok sc_law_whole (fun vs H Q E h => ?_) (fun cdv A outer s H vs Q E hr h => ?_)
 ·obtain ⟨i, rfl, _⟩ := h; rfl
 ·obtain ⟨i, rfl, k⟩ := h
  refine ⟨_, (pss_one (ps_ret (pe_and (isiK K rfl (pv 0) rfl T.isinstance rfl T.int PyProof.Rows.boot_int) (pe_one (pe_not (isiK K rfl (pv 0) rfl T.isinstance rfl T.bool PyProof.Rows.boot_bool)))))), ?_⟩
  exact ⟨_, rfl, _, (Kd.int (K := K) (H := H) i).isInt, _, rfl, iteT ⟨_, rfl, _, (Kd.int (K := K) (H := H) i).isBool, _, rfl, k⟩⟩
theorem sc_law_word : FnScope ["_law_e", "_law_some", "_law_found"] ["_law_e"] (defScope s_law_word) := ⟨rfl, rfl, rfl, by decide +kernel, rfl, by decide +kernel, by decide +kernel⟩
theorem ok_law_word {c f : Addr} {fd : FuncData} {word : Str} {b1 b2 b3 b4 b5 b6 b7 b8 b9 : Bool} (F : FunD K "_law_word" "_law_word" s_law_word .none f fd) (T : Txt K mg cFE cC cN cM cP cL cB cD cZ tP tS tC tI) (TW : TxtW K mg c word b1 b2 b3 b4 b5 b6 b7 b8 b9) : FnOkM P w K mg base 2 f fd ["_law_e"] (spW c word) := by
 refine F.okM sc_law_word (fun ea vs H Q E h => ?_) (fun cdv A ea outer s H vs Q E hr h => ?_)
 ·obtain ⟨rfl, _⟩ := h; rfl
 ·obtain ⟨rfl, ex, k⟩ := h
  obtain ⟨cBadCell, mBadCell, nBadCell⟩ := TW.BadCell
  obtain ⟨cBadColour, mBadColour, nBadColour⟩ := TW.BadColour
  obtain ⟨cBadPack, mBadPack, nBadPack⟩ := TW.BadPack
  obtain ⟨cBadPalette, mBadPalette, nBadPalette⟩ := TW.BadPalette
  obtain ⟨cBadPicture, mBadPicture, nBadPicture⟩ := TW.BadPicture
  obtain ⟨cBadSize, mBadSize, nBadSize⟩ := TW.BadSize
  obtain ⟨cNoColour, mNoColour, nNoColour⟩ := TW.NoColour
  obtain ⟨cTooMany, mTooMany, nTooMany⟩ := TW.TooMany
  obtain ⟨cBadRuns, mBadRuns, nBadRuns⟩ := TW.BadRuns
  obtain ⟨cBadCheck, mBadCheck, nBadCheck⟩ := TW.BadCheck
  obtain ⟨cBadDeed, mBadDeed, nBadDeed⟩ := TW.BadDeed
  obtain ⟨cBadEdge, mBadEdge, nBadEdge⟩ := TW.BadEdge
  obtain ⟨cBadHead, mBadHead, nBadHead⟩ := TW.BadHead
  obtain ⟨cBadMask, mBadMask, nBadMask⟩ := TW.BadMask
  obtain ⟨cBadName, mBadName, nBadName⟩ := TW.BadName
  obtain ⟨cBadPart, mBadPart, nBadPart⟩ := TW.BadPart
  obtain ⟨cBadRule, mBadRule, nBadRule⟩ := TW.BadRule
  obtain ⟨cBadText, mBadText, nBadText⟩ := TW.BadText
  obtain ⟨cNoPart, mNoPart, nNoPart⟩ := TW.NoPart
  obtain ⟨cNoPicture, mNoPicture, nNoPicture⟩ := TW.NoPicture
  obtain ⟨cNothingDone, mNothingDone, nNothingDone⟩ := TW.NothingDone
  obtain ⟨cOutOfPlace, mOutOfPlace, nOutOfPlace⟩ := TW.OutOfPlace
  obtain ⟨cTwice, mTwice, nTwice⟩ := TW.Twice
  refine ⟨_, (pss_cons (ps_set (i := 1) sc_law_word.nd rfl (.inl rfl) (pe_lst (pa_cons (pe_tup (pa_cons pe_str (pa_cons (isiCK K rfl (pv 0) rfl T.isinstance rfl mBadCell) pa_nil))) (pa_cons (pe_tup (pa_cons pe_str (pa_cons (isiCK K rfl (pv 0) rfl T.isinstance rfl mBadColour) pa_nil))) (pa_cons (pe_tup (pa_cons pe_str (pa_cons (isiCK K rfl (pv 0) rfl T.isinstance rfl mBadPack) pa_nil))) pa_nil)))))
    (pss_cons (ps_set (i := 1) sc_law_word.nd rfl (.inl rfl) (pe_op op_cat (pv 1) (pe_lst (pa_cons (pe_tup (pa_cons pe_str (pa_cons (isiCK K rfl (pv 0) rfl T.isinstance rfl mBadPalette) pa_nil))) (pa_cons (pe_tup (pa_cons pe_str (pa_cons (isiCK K rfl (pv 0) rfl T.isinstance rfl mBadPicture) pa_nil))) pa_nil)))))
    (pss_cons (ps_set (i := 1) sc_law_word.nd rfl (.inl rfl) (pe_op op_cat (pv 1) (pe_lst (pa_cons (pe_tup (pa_cons pe_str (pa_cons (isiCK K rfl (pv 0) rfl T.isinstance rfl mBadSize) pa_nil))) (pa_cons (pe_tup (pa_cons pe_str (pa_cons (isiCK K rfl (pv 0) rfl T.isinstance rfl mNoColour) pa_nil))) pa_nil)))))
    (pss_cons (ps_set (i := 1) sc_law_word.nd rfl (.inl rfl) (pe_op op_cat (pv 1) (pe_lst (pa_cons (pe_tup (pa_cons pe_str (pa_cons (isiCK K rfl (pv 0) rfl T.isinstance rfl mTooMany) pa_nil))) (pa_cons (pe_tup (pa_cons pe_str (pa_cons (isiCK K rfl (pv 0) rfl T.isinstance rfl mBadRuns) pa_nil))) pa_nil)))))
    (pss_cons (ps_setCG (Marked ea) (ix := 2) (N := ["_law_word_here", "_law_fits"]) (src := [none, none]) sc_law_word.nd rfl rfl (fun _ _ _ _ => rfl) ⟨rfl, rfl, rfl, rfl, rfl, by decide +kernel⟩ (pi_listM K rfl (pv 1)) (fun s H C fp => pg_tupM (n := 2) K rfl rfl (pgs_cons (pg_name (i := 0) (show (["_law_word_here", "_law_fits"] : List Str).Nodup by decide +kernel) rfl (.inl rfl)) (pgs_cons (pg_name (i := 1) (show (["_law_word_here", "_law_fits"] : List Str).Nodup by decide +kernel) rfl (.inl rfl)) pgs_nil))) (fun s H C fp => (pts_one (pt_val (pv 1)))) (fun s H C fp => (pv 0)))
    (pss_cons (ps_if (pt_val (pe_callB (call_isXE K rfl) rfl T.isinstance PyProof.Rows.boot_isinstance (pa_cons (pv 0) (pa_cons (pe_tup (pa_cons (pe_glob (v := .ref cBadCheck) rfl mBadCheck rfl) (pa_cons (pe_glob (v := .ref cBadDeed) rfl mBadDeed rfl) (pa_cons (pe_glob (v := .ref cBadEdge) rfl mBadEdge rfl) (pa_cons (pe_glob (v := .ref cBadHead) rfl mBadHead rfl) (pa_cons (pe_glob (v := .ref cBadMask) rfl mBadMask rfl) (pa_cons (pe_glob (v := .ref cBadName) rfl mBadName rfl) (pa_cons (pe_glob (v := .ref cBadPart) rfl mBadPart rfl) (pa_cons (pe_glob (v := .ref cBadRule) rfl mBadRule rfl) (pa_cons (pe_glob (v := .ref cBadText) rfl mBadText rfl) pa_nil)))))))))) pa_nil)))) (pss_one (ps_expr (pe_bm PySem.F.plainAttrs_list PySem.F.slot_list_append PySem.F.type_list_append mt_append (pv 2) (pa_cons pe_str pa_nil)))) pss_nil)
    (pss_cons (ps_if (PW.pt (pw_or (pt_val (pe_callB (call_isXE K rfl) rfl T.isinstance PyProof.Rows.boot_isinstance (pa_cons (pv 0) (pa_cons (pe_tup (pa_cons (pe_glob (v := .ref cNoPart) rfl mNoPart rfl) (pa_cons (pe_glob (v := .ref cNoPicture) rfl mNoPicture rfl) (pa_cons (pe_glob (v := .ref cNothingDone) rfl mNothingDone rfl) (pa_cons (pe_glob (v := .ref cOutOfPlace) rfl mOutOfPlace rfl) (pa_cons (pe_glob (v := .ref cTwice) rfl mTwice rfl) pa_nil)))))) pa_nil)))) (pw_or1 (pt_not (pt_val (isiK K rfl (pv 0) rfl T.isinstance rfl T.ValueError boot_VE)))))) (pss_one (ps_expr (pe_bm PySem.F.plainAttrs_list PySem.F.slot_list_append PySem.F.type_list_append mt_append (pv 2) (pa_cons pe_str pa_nil)))) pss_nil)
    (pss_one (ps_ret (pe_callTy (tupleK K rfl) rfl T.tuple PyProof.Rows.boot_tuple (pa_cons (pv 2) pa_nil))))))))))), ?_⟩
  have sm := Same.refl H
  refine ⟨_, rfl, b1, ⟨_, .exc ex TW.kX, nBadCell⟩, sz2, fun t1 h_ => ?_⟩
  have z_ := same_new (o := HO.tup [V.str "cell", .bl b1]) h_
  have ft1 : H t1 = none := sm.free h_
  have sm := sm.trans z_
  have ex := z_ _ _ ex
  have et1 : upd H t1 (HO.tup [V.str "cell", .bl b1]) t1 = some (HO.tup [V.str "cell", .bl b1]) := upd_same
  clear z_
  generalize upd H t1 (HO.tup [V.str "cell", .bl b1]) = G1 at sm ex et1 h_ ⊢
  clear h_
  refine ⟨_, rfl, b2, ⟨_, .exc ex TW.kX, nBadColour⟩, sz2, fun t2 h_ => ?_⟩
  have z_ := same_new (o := HO.tup [V.str "colour", .bl b2]) h_
  have ft2 : H t2 = none := sm.free h_
  have sm := sm.trans z_
  have ex := z_ _ _ ex
  have et1 := z_ _ _ et1
  have et2 : upd G1 t2 (HO.tup [V.str "colour", .bl b2]) t2 = some (HO.tup [V.str "colour", .bl b2]) := upd_same
  clear z_
  generalize upd G1 t2 (HO.tup [V.str "colour", .bl b2]) = G2 at sm ex et1 et2 h_ ⊢
  clear h_
  refine ⟨_, rfl, b3, ⟨_, .exc ex TW.kX, nBadPack⟩, sz2, fun t3 h_ => ?_⟩
  have z_ := same_new (o := HO.tup [V.str "pack", .bl b3]) h_
  have ft3 : H t3 = none := sm.free h_
  have sm := sm.trans z_
  have ex := z_ _ _ ex
  have et1 := z_ _ _ et1
  have et2 := z_ _ _ et2
  have et3 : upd G2 t3 (HO.tup [V.str "pack", .bl b3]) t3 = some (HO.tup [V.str "pack", .bl b3]) := upd_same
  clear z_
  generalize upd G2 t3 (HO.tup [V.str "pack", .bl b3]) = G3 at sm ex et1 et2 et3 h_ ⊢
  clear h_
  refine ⟨sz3, fun l1 h_ => ?_⟩
  have z_ := same_new (o := HO.lst [V.ref t1, .ref t2, .ref t3]) h_
  have fl1 : H l1 = none := sm.free h_
  have sm := sm.trans z_
  have ex := z_ _ _ ex
  have et1 := z_ _ _ et1
  have et2 := z_ _ _ et2
  have et3 := z_ _ _ et3
  have el1 : upd G3 l1 (HO.lst [V.ref t1, .ref t2, .ref t3]) l1 = some (HO.lst [V.ref t1, .ref t2, .ref t3]) := upd_same
  clear z_
  generalize upd G3 l1 (HO.lst [V.ref t1, .ref t2, .ref t3]) = G4 at sm ex et1 et2 et3 el1 h_ ⊢
  clear h_
  refine ⟨_, rfl, ?_⟩
  refine ⟨_, rfl, b4, ⟨_, .exc ex TW.kX, nBadPalette⟩, sz2, fun t4 h_ => ?_⟩
  have z_ := same_new (o := HO.tup [V.str "palette", .bl b4]) h_
  have ft4 : H t4 = none := sm.free h_
  have sm := sm.trans z_
  have ex := z_ _ _ ex
  have et1 := z_ _ _ et1
  have et2 := z_ _ _ et2
  have et3 := z_ _ _ et3
  have el1 := z_ _ _ el1
  have et4 : upd G4 t4 (HO.tup [V.str "palette", .bl b4]) t4 = some (HO.tup [V.str "palette", .bl b4]) := upd_same
  clear z_
  generalize upd G4 t4 (HO.tup [V.str "palette", .bl b4]) = G5 at sm ex et1 et2 et3 el1 et4 h_ ⊢
  clear h_
  refine ⟨_, rfl, b5, ⟨_, .exc ex TW.kX, nBadPicture⟩, sz2, fun t5 h_ => ?_⟩
  have z_ := same_new (o := HO.tup [V.str "picture", .bl b5]) h_
  have ft5 : H t5 = none := sm.free h_
  have sm := sm.trans z_
  have ex := z_ _ _ ex
  have et1 := z_ _ _ et1
  have et2 := z_ _ _ et2
  have et3 := z_ _ _ et3
  have el1 := z_ _ _ el1
  have et4 := z_ _ _ et4
  have et5 : upd G5 t5 (HO.tup [V.str "picture", .bl b5]) t5 = some (HO.tup [V.str "picture", .bl b5]) := upd_same
  clear z_
  generalize upd G5 t5 (HO.tup [V.str "picture", .bl b5]) = G6 at sm ex et1 et2 et3 el1 et4 et5 h_ ⊢
  clear h_
  refine ⟨sz2, fun m2 h_ => ?_⟩
  have z_ := same_new (o := HO.lst [V.ref t4, .ref t5]) h_
  have fm2 : H m2 = none := sm.free h_
  have sm := sm.trans z_
  have ex := z_ _ _ ex
  have et1 := z_ _ _ et1
  have et2 := z_ _ _ et2
  have et3 := z_ _ _ et3
  have el1 := z_ _ _ el1
  have et4 := z_ _ _ et4
  have et5 := z_ _ _ et5
  have em2 : upd G6 m2 (HO.lst [V.ref t4, .ref t5]) m2 = some (HO.lst [V.ref t4, .ref t5]) := upd_same
  clear z_
  generalize upd G6 m2 (HO.lst [V.ref t4, .ref t5]) = G7 at sm ex et1 et2 et3 el1 et4 et5 em2 h_ ⊢
  clear h_
  refine ⟨l1, m2, _, _, rfl, rfl, el1, em2, (by show 3 + 2 ≤ sizeLine; decide), fun l2 h_ => ?_⟩
  have z_ := same_new (o := HO.lst ([V.ref t1, .ref t2, .ref t3] ++ [V.ref t4, .ref t5])) h_
  have fl2 : H l2 = none := sm.free h_
  have sm := sm.trans z_
  have ex := z_ _ _ ex
  have et1 := z_ _ _ et1
  have et2 := z_ _ _ et2
  have et3 := z_ _ _ et3
  have el1 := z_ _ _ el1
  have et4 := z_ _ _ et4
  have et5 := z_ _ _ et5
  have em2 := z_ _ _ em2
  have el2 : upd G7 l2 (HO.lst ([V.ref t1, .ref t2, .ref t3] ++ [V.ref t4, .ref t5])) l2 = some (HO.lst ([V.ref t1, .ref t2, .ref t3] ++ [V.ref t4, .ref t5])) := upd_same
  clear z_
  generalize upd G7 l2 (HO.lst ([V.ref t1, .ref t2, .ref t3] ++ [V.ref t4, .ref t5])) = G8 at sm ex et1 et2 et3 el1 et4 et5 em2 el2 h_ ⊢
  clear h_
  have el2 : G8 l2 = some (.lst [V.ref t1, .ref t2, .ref t3, .ref t4, .ref t5]) := el2
  refine ⟨_, rfl, ?_⟩
  refine ⟨_, rfl, b6, ⟨_, .exc ex TW.kX, nBadSize⟩, sz2, fun t6 h_ => ?_⟩
  have z_ := same_new (o := HO.tup [V.str "size", .bl b6]) h_
  have ft6 : H t6 = none := sm.free h_
  have sm := sm.trans z_
  have ex := z_ _ _ ex
  have et1 := z_ _ _ et1
  have et2 := z_ _ _ et2
  have et3 := z_ _ _ et3
  have et4 := z_ _ _ et4
  have et5 := z_ _ _ et5
  have el2 := z_ _ _ el2
  have et6 : upd G8 t6 (HO.tup [V.str "size", .bl b6]) t6 = some (HO.tup [V.str "size", .bl b6]) := upd_same
  clear z_
  generalize upd G8 t6 (HO.tup [V.str "size", .bl b6]) = G9 at sm ex et1 et2 et3 et4 et5 el2 et6 h_ ⊢
  clear h_
  refine ⟨_, rfl, b7, ⟨_, .exc ex TW.kX, nNoColour⟩, sz2, fun t7 h_ => ?_⟩
  have z_ := same_new (o := HO.tup [V.str "none", .bl b7]) h_
  have ft7 : H t7 = none := sm.free h_
  have sm := sm.trans z_
  have ex := z_ _ _ ex
  have et1 := z_ _ _ et1
  have et2 := z_ _ _ et2
  have et3 := z_ _ _ et3
  have et4 := z_ _ _ et4
  have et5 := z_ _ _ et5
  have el2 := z_ _ _ el2
  have et6 := z_ _ _ et6
  have et7 : upd G9 t7 (HO.tup [V.str "none", .bl b7]) t7 = some (HO.tup [V.str "none", .bl b7]) := upd_same
  clear z_
  generalize upd G9 t7 (HO.tup [V.str "none", .bl b7]) = G10 at sm ex et1 et2 et3 et4 et5 el2 et6 et7 h_ ⊢
  clear h_
  refine ⟨sz2, fun m3 h_ => ?_⟩
  have z_ := same_new (o := HO.lst [V.ref t6, .ref t7]) h_
  have fm3 : H m3 = none := sm.free h_
  have sm := sm.trans z_
  have ex := z_ _ _ ex
  have et1 := z_ _ _ et1
  have et2 := z_ _ _ et2
  have et3 := z_ _ _ et3
  have et4 := z_ _ _ et4
  have et5 := z_ _ _ et5
  have el2 := z_ _ _ el2
  have et6 := z_ _ _ et6
  have et7 := z_ _ _ et7
  have em3 : upd G10 m3 (HO.lst [V.ref t6, .ref t7]) m3 = some (HO.lst [V.ref t6, .ref t7]) := upd_same
  clear z_
  generalize upd G10 m3 (HO.lst [V.ref t6, .ref t7]) = G11 at sm ex et1 et2 et3 et4 et5 el2 et6 et7 em3 h_ ⊢
  clear h_
  refine ⟨l2, m3, _, _, rfl, rfl, el2, em3, (by show 5 + 2 ≤ sizeLine; decide), fun l3 h_ => ?_⟩
  have z_ := same_new (o := HO.lst ([V.ref t1, .ref t2, .ref t3, .ref t4, .ref t5] ++ [V.ref t6, .ref t7])) h_
  have fl3 : H l3 = none := sm.free h_
  have sm := sm.trans z_
  have ex := z_ _ _ ex
  have et1 := z_ _ _ et1
  have et2 := z_ _ _ et2
  have et3 := z_ _ _ et3
  have et4 := z_ _ _ et4
  have et5 := z_ _ _ et5
  have el2 := z_ _ _ el2
  have et6 := z_ _ _ et6
  have et7 := z_ _ _ et7
  have em3 := z_ _ _ em3
  have el3 : upd G11 l3 (HO.lst ([V.ref t1, .ref t2, .ref t3, .ref t4, .ref t5] ++ [V.ref t6, .ref t7])) l3 = some (HO.lst ([V.ref t1, .ref t2, .ref t3, .ref t4, .ref t5] ++ [V.ref t6, .ref t7])) := upd_same
  clear z_
  generalize upd G11 l3 (HO.lst ([V.ref t1, .ref t2, .ref t3, .ref t4, .ref t5] ++ [V.ref t6, .ref t7])) = G12 at sm ex et1 et2 et3 et4 et5 el2 et6 et7 em3 el3 h_ ⊢
  clear h_
  have el3 : G12 l3 = some (.lst [V.ref t1, .ref t2, .ref t3, .ref t4, .ref t5, .ref t6, .ref t7]) := el3
  refine ⟨_, rfl, ?_⟩
  refine ⟨_, rfl, b8, ⟨_, .exc ex TW.kX, nTooMany⟩, sz2, fun t8 h_ => ?_⟩
  have z_ := same_new (o := HO.tup [V.str "many", .bl b8]) h_
  have ft8 : H t8 = none := sm.free h_
  have sm := sm.trans z_
  have ex := z_ _ _ ex
  have et1 := z_ _ _ et1
  have et2 := z_ _ _ et2
  have et3 := z_ _ _ et3
  have et4 := z_ _ _ et4
  have et5 := z_ _ _ et5
  have et6 := z_ _ _ et6
  have et7 := z_ _ _ et7
  have el3 := z_ _ _ el3
  have et8 : upd G12 t8 (HO.tup [V.str "many", .bl b8]) t8 = some (HO.tup [V.str "many", .bl b8]) := upd_same
  clear z_
  generalize upd G12 t8 (HO.tup [V.str "many", .bl b8]) = G13 at sm ex et1 et2 et3 et4 et5 et6 et7 el3 et8 h_ ⊢
  clear h_
  refine ⟨_, rfl, b9, ⟨_, .exc ex TW.kX, nBadRuns⟩, sz2, fun t9 h_ => ?_⟩
  have z_ := same_new (o := HO.tup [V.str "runs", .bl b9]) h_
  have ft9 : H t9 = none := sm.free h_
  have sm := sm.trans z_
  have ex := z_ _ _ ex
  have et1 := z_ _ _ et1
  have et2 := z_ _ _ et2
  have et3 := z_ _ _ et3
  have et4 := z_ _ _ et4
  have et5 := z_ _ _ et5
  have et6 := z_ _ _ et6
  have et7 := z_ _ _ et7
  have el3 := z_ _ _ el3
  have et8 := z_ _ _ et8
  have et9 : upd G13 t9 (HO.tup [V.str "runs", .bl b9]) t9 = some (HO.tup [V.str "runs", .bl b9]) := upd_same
  clear z_
  generalize upd G13 t9 (HO.tup [V.str "runs", .bl b9]) = G14 at sm ex et1 et2 et3 et4 et5 et6 et7 el3 et8 et9 h_ ⊢
  clear h_
  refine ⟨sz2, fun m4 h_ => ?_⟩
  have z_ := same_new (o := HO.lst [V.ref t8, .ref t9]) h_
  have fm4 : H m4 = none := sm.free h_
  have sm := sm.trans z_
  have ex := z_ _ _ ex
  have et1 := z_ _ _ et1
  have et2 := z_ _ _ et2
  have et3 := z_ _ _ et3
  have et4 := z_ _ _ et4
  have et5 := z_ _ _ et5
  have et6 := z_ _ _ et6
  have et7 := z_ _ _ et7
  have el3 := z_ _ _ el3
  have et8 := z_ _ _ et8
  have et9 := z_ _ _ et9
  have em4 : upd G14 m4 (HO.lst [V.ref t8, .ref t9]) m4 = some (HO.lst [V.ref t8, .ref t9]) := upd_same
  clear z_
  generalize upd G14 m4 (HO.lst [V.ref t8, .ref t9]) = G15 at sm ex et1 et2 et3 et4 et5 et6 et7 el3 et8 et9 em4 h_ ⊢
  clear h_
  refine ⟨l3, m4, _, _, rfl, rfl, el3, em4, (by show 7 + 2 ≤ sizeLine; decide), fun l4 h_ => ?_⟩
  have z_ := same_new (o := HO.lst ([V.ref t1, .ref t2, .ref t3, .ref t4, .ref t5, .ref t6, .ref t7] ++ [V.ref t8, .ref t9])) h_
  have fl4 : H l4 = none := sm.free h_
  have sm := sm.trans z_
  have ex := z_ _ _ ex
  have et1 := z_ _ _ et1
  have et2 := z_ _ _ et2
  have et3 := z_ _ _ et3
  have et4 := z_ _ _ et4
  have et5 := z_ _ _ et5
  have et6 := z_ _ _ et6
  have et7 := z_ _ _ et7
  have el3 := z_ _ _ el3
  have et8 := z_ _ _ et8
  have et9 := z_ _ _ et9
  have em4 := z_ _ _ em4
  have el4 : upd G15 l4 (HO.lst ([V.ref t1, .ref t2, .ref t3, .ref t4, .ref t5, .ref t6, .ref t7] ++ [V.ref t8, .ref t9])) l4 = some (HO.lst ([V.ref t1, .ref t2, .ref t3, .ref t4, .ref t5, .ref t6, .ref t7] ++ [V.ref t8, .ref t9])) := upd_same
  clear z_
  generalize upd G15 l4 (HO.lst ([V.ref t1, .ref t2, .ref t3, .ref t4, .ref t5, .ref t6, .ref t7] ++ [V.ref t8, .ref t9])) = G16 at sm ex et1 et2 et3 et4 et5 et6 et7 el3 et8 et9 em4 el4 h_ ⊢
  clear h_
  have el4 : G16 l4 = some (.lst [V.ref t1, .ref t2, .ref t3, .ref t4, .ref t5, .ref t6, .ref t7, .ref t8, .ref t9]) := el4
  refine ⟨_, rfl, l4, rfl, ⟨_, SqL.of el4⟩, fun D h_ => ?_⟩
  have hT : ∀ t ∈ ([(t1, ("cell" : Str), b1), (t2, ("colour" : Str), b2), (t3, ("pack" : Str), b3), (t4, ("palette" : Str), b4), (t5, ("picture" : Str), b5), (t6, ("size" : Str), b6), (t7, ("none" : Str), b7), (t8, ("many" : Str), b8), (t9, ("runs" : Str), b9)] : List (Addr × Str × Bool)), SqT K G16 t.1 [.str t.2.1, .bl t.2.2] := fun t ht => by
   simp only [List.mem_cons, List.not_mem_nil, or_false] at ht
   rcases ht with rfl | rfl | rfl | rfl | rfl | rfl | rfl | rfl | rfl
   ·exact SqT.of et1
   ·exact SqT.of et2
   ·exact SqT.of et3
   ·exact SqT.of et4
   ·exact SqT.of et5
   ·exact SqT.of et6
   ·exact SqT.of et7
   ·exact SqT.of et8
   ·exact SqT.of et9
  refine comp_word (L := [(t1, ("cell" : Str), b1), (t2, ("colour" : Str), b2), (t3, ("pack" : Str), b3), (t4, ("palette" : Str), b4), (t5, ("picture" : Str), b5), (t6, ("size" : Str), b6), (t7, ("none" : Str), b7), (t8, ("many" : Str), b8), (t9, ("runs" : Str), b9)]) (SqL.of el4) hT ⟨c, ex⟩ sz9 rfl h_ fun H5 s5 eD => ?_
  have fD : H D = none := sm.free h_
  have eD : H5 D = some (.lst [.str word]) := by rw [eD, TW.hw]
  have ex := s5 _ _ ex
  have sm := sm.trans s5
  refine ⟨_, rfl, sz9, fun p1 hp1 => ?_⟩
  have y1 := same_new (o := HO.tup [V.ref cBadCheck, V.ref cBadDeed, V.ref cBadEdge, V.ref cBadHead, V.ref cBadMask, V.ref cBadName, V.ref cBadPart, V.ref cBadRule, V.ref cBadText]) hp1
  refine ⟨ea, c, p1, [cBadCheck, cBadDeed, cBadEdge, cBadHead, cBadMask, cBadName, cBadPart, cBadRule, cBadText], false, rfl, y1 _ _ ex, TW.kX, SqT.of upd_same, kitAny_none (fun c hc => ?_), ?_⟩
  ·simp only [List.mem_cons, List.not_mem_nil, or_false] at hc
   rcases hc with rfl | rfl | rfl | rfl | rfl | rfl | rfl | rfl | rfl <;> assumption
  have ex := y1 _ _ ex
  have eD := y1 _ _ eD
  have sm := sm.trans y1
  generalize upd H5 p1 (HO.tup [V.ref cBadCheck, V.ref cBadDeed, V.ref cBadEdge, V.ref cBadHead, V.ref cBadMask, V.ref cBadName, V.ref cBadPart, V.ref cBadRule, V.ref cBadText]) = Y1 at ex eD sm y1 ⊢
  refine ⟨_, rfl, ?_⟩
  refine ⟨_, rfl, sz5, fun p2 hp2 => ?_⟩
  have y2 := same_new (o := HO.tup [V.ref cNoPart, V.ref cNoPicture, V.ref cNothingDone, V.ref cOutOfPlace, V.ref cTwice]) hp2
  refine ⟨ea, c, p2, [cNoPart, cNoPicture, cNothingDone, cOutOfPlace, cTwice], false, rfl, y2 _ _ ex, TW.kX, SqT.of upd_same, kitAny_none (fun c hc => ?_), ?_⟩
  ·simp only [List.mem_cons, List.not_mem_nil, or_false] at hc
   rcases hc with rfl | rfl | rfl | rfl | rfl <;> assumption
  have ex := y2 _ _ ex
  have eD := y2 _ _ eD
  have sm := sm.trans y2
  generalize upd Y1 p2 (HO.tup [V.ref cNoPart, V.ref cNoPicture, V.ref cNothingDone, V.ref cOutOfPlace, V.ref cTwice]) = Y2 at ex eD sm y2 ⊢
  refine ⟨_, rfl, _, rfl, true, ⟨_, .exc ex TW.kX, TW.iV⟩, _, rfl, ?_⟩
  exact ⟨_, rfl, D, _, rfl, .inl ⟨SqL.of eD, fun t ht => k t _ (sm.trans (same_new ht)) (sm.free ht) upd_same⟩⟩
end
noncomputable def spColour : Sp := fun vs H Q _ => ∃ n : Nat, vs = [.int (n : Int)] ∧ ∀ t H' r g b, Same H H' → H t = none → Col H' t r g b → Q (.ref t) H'
theorem at_mod {xs : List V} {m : Int} (n : Nat) (h : xs.length = n) (hn : 0 < n) : ∃ x ∈ xs, atI xs (m % (n : Int)) = some x := by
 have f0 := Int.emod_nonneg m (show (n : Int) ≠ 0 by omega)
 have f1 := Int.emod_lt_of_pos m (show (0 : Int) < (n : Int) by omega)
 obtain ⟨j, ej⟩ : ∃ j : Nat, m % (n : Int) = (j : Int) := ⟨(m % (n : Int)).toNat, by omega⟩
 rw [ej] at f1 ⊢
 have hj : j < xs.length := by omega
 exact ⟨_, List.getElem_mem hj, atI_nat (List.getElem?_eq_getElem hj)⟩
theorem ColsV.snoc {H : Hp} {a p : Addr} {cs : List (Addr × Nat × Nat × Nat)} {r g b : Nat} (e : H a = some (.lst (cs.map (fun c => V.ref c.1) ++ [V.ref p]))) (h : ∀ c ∈ cs, Col H c.1 c.2.1 c.2.2.1 c.2.2.2) (c : Col H p r g b) : ColsV H a (cs ++ [(p, r, g, b)]) := by
 refine ⟨by rw [e, List.map_append]; rfl, fun d hd => ?_⟩
 rcases List.mem_append.mp hd with hd | hd
 ·exact h d hd
 ·rw [List.mem_singleton.mp hd]; exact c
noncomputable def spPool (K : W.Frag) : Sp := fun vs H Q _ => ∃ (a : Addr) (ns : List Int) (k : Nat) (nr : Bool), vs = [.ref a, .int (k : Int), .bl nr] ∧ SqL K H a (ns.map V.int) ∧ k ≤ 100 ∧ ∀ p cs H', Same H H' → H p = none → ColsV H' p cs → 1 ≤ cs.length → cs.length ≤ 24 → (cs.map kc).Nodup → Q (.ref p) H'
theorem findIdx_none {cs : List (Addr × Nat × Nat × Nat)} {r g b : Nat} (h : cs.findIdx? (isC r g b) = none) : ([(r : Int), (g : Int), (b : Int)] : List Int) ∉ cs.map kc := by
 intro hm
 obtain ⟨c, hc, e⟩ := List.mem_map.mp hm
 have := List.findIdx?_eq_none_iff.mp h c hc
 obtain ⟨a, r', g', b'⟩ := c
 unfold kc at e
 simp at e
 unfold isC at this
 have := of_decide_eq_false this
 exact this (by simp; omega)
section
variable {P : Program} {w : World} {K : W.Frag} {mg : Str → Option Value} {base : Heap} {cFE cC cN cM cP cL cB cD cZ : Addr} {tP tS tC tI : Tok}
theorem sc_law_colour : FnScope ["_law_number", "_law_shares", "_law_way"] ["_law_number"] (defScope s_law_colour) := ⟨rfl, rfl, rfl, by decide +kernel, rfl, by decide +kernel, by decide +kernel⟩
theorem ok_law_colour {f : Addr} {fd : FuncData} (F : FunD K "_law_colour" "_law_colour" s_law_colour .none f fd) (T : Txt K mg cFE cC cN cM cP cL cB cD cZ tP tS tC tI) : FnOk P w K mg base CX0 1 f fd ["_law_number"] (spColour) := by
 refine F.ok sc_law_colour (fun vs H Q E h => ?_) (fun cdv A outer s H vs Q E hr h => ?_)
 ·obtain ⟨n, rfl, _⟩ := h; rfl
 ·obtain ⟨n, rfl, k⟩ := h
  obtain ⟨t3, r3, k3⟩ : ∃ tr, PSs ((cxOf CX0 P w K mg base ["_law_number", "_law_shares", "_law_way"] "_law_colour" (defScope s_law_colour) f cdv A outer s H E).nox) ((defBody s_law_colour).drop 3) tr ∧
    ∀ (m : Nat) (L : Addr) (x y z : Nat) (H1 : Hp), Same H H1 → H1 L = some (.lst [.int (x : Int), .int (y : Int), .int (z : Int)]) → x ≤ 255 → y ≤ 255 → z ≤ 255 → tr { nx := fun _ H' => Q .non H', rt := Q } [some (.int (n : Int)), some (.ref L), some (.int (m : Int))] H1 := by
   refine ⟨_, (pss_cons (ps_if (pt_cmpR op_eq (pv 2) pe_int (nomark _)) (pss_one (ps_set (i := 1) sc_law_colour.nd rfl (.inl rfl) (pe_lst (pa_cons (pe_ix (ixK K rfl) (pv 1) pe_int (fun _ _ => rfl)) (pa_cons (pe_ix (ixK K rfl) (pv 1) pe_int (fun _ _ => rfl)) (pa_cons (pe_ix (ixK K rfl) (pv 1) pe_int (fun _ _ => rfl)) pa_nil)))))) pss_nil)
    (pss_one (ps_ret (pe_callTy call_tuple_of rfl T.tuple PyProof.Rows.boot_tuple (pa_cons (pv 1) pa_nil))))), ?_⟩
   intro m L x y z H1 s1 eL hx hy hz
   refine ⟨_, rfl, rfl, _, rfl, iteB (fun h => ?_) (fun h => ?_)⟩
   rotate_left
   ·exact ⟨_, rfl, L, _, rfl, .inl ⟨SqL.of eL, fun tp htp => k tp _ x y z (s1.trans (same_new htp)) (s1.free htp) ⟨upd_same, hx, hy, hz⟩⟩⟩
   ·refine ⟨_, rfl, L, _, _, _, rfl, rfl, SqL.of eL, atI_nat (j := 0) rfl, _, rfl, L, _, _, _, rfl, rfl, SqL.of eL, atI_nat (j := 0) rfl, _, rfl, L, _, _, _, rfl, rfl, SqL.of eL, atI_nat (j := 0) rfl, sz3, fun M hM => ?_⟩
    have s2 := s1.trans (same_new (o := HO.lst [V.int (x : Int), .int (x : Int), .int (x : Int)]) hM)
    exact ⟨_, rfl, M, _, rfl, .inl ⟨SqL.of upd_same, fun tp htp => k tp _ x x x (s2.trans (same_new htp)) (s2.free htp) ⟨upd_same, hx, hx, hx⟩⟩⟩
  refine ⟨_, (pss_cons (ps_set (i := 1) sc_law_colour.nd rfl (.inl rfl) (pe_lst (pa_cons (pe_op op_mod (pv 0) pe_int) (pa_cons (pe_op op_mod (pe_op op_fdiv (pv 0) pe_int) pe_int) (pa_cons (pe_op op_mod (pe_op op_fdiv (pv 0) pe_int) pe_int) pa_nil)))))
    (pss_cons (ps_set (i := 2) sc_law_colour.nd rfl (.inl rfl) (pe_op op_mod (pe_op op_fdiv (pv 0) pe_int) pe_int))
    (pss_cons (ps_if (pt_cmpR op_lt (pv 2) pe_int (nomark _)) (pss_one (ps_setC (ix := 1) (N := ["_law_share"]) (src := [none]) sc_law_colour.nd rfl rfl rfl ⟨rfl, rfl, rfl, rfl, rfl, by decide +kernel⟩ (piK K rfl (pv 1)) (fun s H C fp => pg_name (i := 0) (show (["_law_share"] : List Str).Nodup by decide +kernel) rfl (.inl rfl)) (fun s H C fp => pts_nil) (fun s H C fp => (pe_ix (ixK K rfl) (pe_lst (pa_cons pe_int (pa_cons pe_int (pa_cons pe_int (pa_cons pe_int pa_nil))))) (pe_op op_mod (pv 0) pe_int) (fun _ _ => rfl))))) pss_nil)
    (@r3)))), ?_⟩
  refine ⟨_, rfl, _, _, rfl, rfl, (by show (0 : Int) < 256; decide), _, rfl, _, _, rfl, rfl, ⟨by decide, by decide⟩, _, _, rfl, rfl, (by show (0 : Int) < 256; decide), _, rfl, _, _, rfl, rfl, ⟨by decide, by decide⟩, _, _, rfl, rfl, (by show (0 : Int) < 256; decide), sz3, fun L hL => ?_⟩
  have sL := same_new (o := HO.lst [V.int ((n : Int) % 256), .int ((n : Int) / 256 % 256), .int ((n : Int) / 65536 % 256)]) hL
  have eL : upd H L (.lst [.int ((n : Int) % 256), .int ((n : Int) / 256 % 256), .int ((n : Int) / 65536 % 256)]) L = some (.lst ([n % 256, n / 256 % 256, n / 65536 % 256].map fun i : Nat => V.int (i : Int))) := upd_same
  refine ⟨_, rfl, _, _, rfl, rfl, ⟨by decide, by decide⟩, _, _, rfl, rfl, (by show (0 : Int) < 9; decide), ?_⟩
  obtain ⟨m, em⟩ : ∃ m : Nat, (n : Int) / 16777216 % 9 = (m : Int) := ⟨n / 16777216 % 9, by omega⟩
  show gName 2 (.int ((n : Int) / 16777216 % 9)) _ _ _
  rw [em]
  generalize upd H L (HO.lst [.int ((n : Int) % 256), .int ((n : Int) / 256 % 256), .int ((n : Int) / 65536 % 256)]) = H1 at sL eL ⊢
  have l0 : n % 256 ≤ 255 := by omega
  have l1 : n / 256 % 256 ≤ 255 := by omega
  have l2 : n / 65536 % 256 ≤ 255 := by omega
  generalize n % 256 = x at eL l0 ⊢
  generalize n / 256 % 256 = y at eL l1 ⊢
  generalize n / 65536 % 256 = z at eL l2 ⊢
  refine ⟨_, rfl, _, _, rfl, rfl, _, rfl, iteB (fun h => ?_) (fun h => ?_)⟩
  rotate_left
  ·exact k3 m L x y z H1 sL eL l0 l1 l2
  ·refine ⟨_, rfl, L, rfl, ⟨_, SqL.of eL⟩, fun D hD => ?_⟩
   refine comp_fm (k := 0) (fun v => match v with | .int i => .int (([0, 255, 1, 254].getD (i.toNat % 4) 0 : Nat) : Int) | _ => .non) (fun _ => true) (src_list (SqL.of eL)) sz3 hD (fun x _ H' Qb _ kk => kk H' (Same.refl _)) (fun v hv _ H' Q' sm kk => ?_) fun H3 s3 hD3 => ?_
   ·obtain ⟨i, hi, rfl⟩ := List.mem_map.mp hv
    refine ⟨sz4, fun p hp => ?_⟩
    have tt : Q' (.int (([0, 255, 1, 254].getD (i % 4) 0 : Nat) : Int)) (upd H' p (.lst [.int 0, .int 255, .int 1, .int 254])) := kk _ (same_new hp)
    refine ⟨_, rfl, _, _, rfl, rfl, (by show (0 : Int) < 4; decide), p, _, _, _, rfl, rfl, SqL.of upd_same, atI_nat (j := i % 4) ?_, tt⟩
    have : i % 4 < 4 := Nat.mod_lt _ (by decide)
    generalize i % 4 = q at this ⊢
    match q, this with
    | 0, _ => rfl
    | 1, _ => rfl
    | 2, _ => rfl
    | 3, _ => rfl
   ·have le : ∀ i : Nat, [0, 255, 1, 254].getD (i % 4) 0 ≤ 255 := fun i => by
     have : i % 4 < 4 := Nat.mod_lt _ (by decide)
     generalize i % 4 = q at this ⊢
     match q, this with
     | 0, _ => decide
     | 1, _ => decide
     | 2, _ => decide
     | 3, _ => decide
    exact k3 m D _ _ _ H3 (sL.trans s3) hD3 (le x) (le y) (le z)
theorem sc_law_pool : FnScope ["_law_script", "_law_first", "_law_near", "_law_base", "_law_found", "_law_k", "_law_number", "_law_colour_here"] ["_law_script", "_law_first", "_law_near"] (defScope s_law_pool) := ⟨rfl, rfl, rfl, by decide +kernel, rfl, by decide +kernel, by decide +kernel⟩
theorem ok_law_pool {f : Addr} {fd : FuncData} (F : FunD K "_law_pool" "_law_pool" s_law_pool .none f fd) (T : Txt K mg cFE cC cN cM cP cL cB cD cZ tP tS tC tI) (g__law_draw : Def P w K mg base 1 "_law_draw" ["_law_script", "_law_k"] [] (spDraw K)) (g__law_colour : Def P w K mg base 1 "_law_colour" ["_law_number"] [] (spColour)) : FnOk P w K mg base CX0 2 f fd ["_law_script", "_law_first", "_law_near"] (spPool K) := by
 refine F.ok sc_law_pool (fun vs H Q E h => ?_) (fun cdv A outer s H vs Q E hr h => ?_)
 ·obtain ⟨a, ns, k, nr, rfl, _⟩ := h; rfl
 ·obtain ⟨a, ns, fk, nr, rfl, hS, hk, k⟩ := h
  have hu : _ + 64 < cLine := hr.units
  refine ⟨_, (pss_cons (ps_set (i := 3) sc_law_pool.nd rfl (by first | exact Or.inl rfl | exact Or.inr rfl) (pe_callD g__law_colour (hr.mono (by decide)) rfl (pa_cons (pe_callD g__law_draw (hr.mono (by decide)) rfl (pa_cons (pv 0) (pa_cons (pv 1) pa_nil))) pa_nil)))
    (pss_cons (ps_set (i := 4) sc_law_pool.nd rfl (by first | exact Or.inl rfl | exact Or.inr rfl) (pe_lst pa_nil))
    (pss_cons (ps_for PassesOwn.never rfl (pi_range1 rfl T.range (pa_cons pe_int pa_nil)) (pg_name (i := 5) sc_law_pool.nd rfl (by first | exact Or.inl rfl | exact Or.inr rfl)) (pss_cons (ps_set (i := 6) sc_law_pool.nd rfl (by first | exact Or.inl rfl | exact Or.inr rfl) (pe_callD g__law_draw (hr.mono (by decide)) rfl (pa_cons (pv 0) (pa_cons (pe_op op_add (pe_op op_add (pv 1) pe_int) (pv 5)) pa_nil))))
    (pss_cons (ps_set (i := 7) sc_law_pool.nd rfl (by first | exact Or.inl rfl | exact Or.inr rfl) (pe_callD g__law_colour (hr.mono (by decide)) rfl (pa_cons (pv 6) pa_nil)))
    (pss_cons (ps_if (pt_val (pv 2)) (pss_one (ps_set (i := 7) sc_law_pool.nd rfl (by first | exact Or.inl rfl | exact Or.inr rfl) (pe_callTy call_tuple_of rfl T.tuple PyProof.Rows.boot_tuple (pa_cons (pe_comp (N := ["_law_j", "_law_base", "_law_number"]) (src := [none, some 3, some 6]) rfl ⟨rfl, rfl, rfl, rfl, rfl, by decide +kernel⟩ (pi_range1 rfl T.range (pa_cons pe_int pa_nil)) (fun s H C fp => pg_name (i := 0) (show (["_law_j", "_law_base", "_law_number"] : List Str).Nodup by decide +kernel) rfl (by first | exact Or.inl rfl | exact Or.inr rfl)) (fun s H C fp => pts_nil) (fun s H C fp => (pe_op op_add (pe_callB (call_min2 rfl) rfl T.min PyProof.Rows.boot_min (pa_cons (pe_ix (ixTK K rfl) (pv 1) (pv 0) (fun _ _ => rfl)) (pa_cons pe_int pa_nil))) (pe_op op_mod (pe_op op_fdiv (pv 2) (pe_ix (ixK K rfl) (pe_lst (pa_cons pe_int (pa_cons pe_int (pa_cons pe_int pa_nil)))) (pv 0) (fun _ _ => rfl))) pe_int)))) pa_nil)))) pss_nil)
    (pss_one (ps_if (pt_cmpR (op_notInD K rfl 1 (by decide) hu) (pv 7) (pv 4) (by with_unfolding_all rfl)) (pss_one (ps_expr (pe_bm PySem.F.plainAttrs_list PySem.F.slot_list_append PySem.F.type_list_append mt_append (pv 4) (pa_cons (pv 7) pa_nil)))) pss_nil))))))
    (pss_one (ps_ret (pv 4)))))), ?_⟩
  refine ⟨_, rfl, _, rfl, a, ns, fk, rfl, hS, by omega, fun n0 H1 _ s1 => ⟨n0, rfl, fun tb H2 r g b s2 htb cb => ?_⟩⟩
  have s12 := s1.trans s2
  refine ⟨sz0, fun L hL => ?_⟩
  have hL0 := s12.free hL
  have z3 := same_new (o := HO.lst []) hL
  refine ⟨24, rfl, by decide, by decide, ?_⟩
  refine for_range (lo := 0) (n := 24) (fun i σ H3 => Same H H3 ∧ Col H3 tb r g b ∧ ∃ (cs : List (Addr × Nat × Nat × Nat)) (v5 v6 v7 : Option V), σ = [some (.ref a), some (.int (fk : Int)), some (.bl nr), some (.ref tb), some (.ref L), v5, v6, v7] ∧ ColsV H3 L cs ∧ cs.length ≤ i ∧ (0 < i → 1 ≤ cs.length) ∧ (cs.map kc).Nodup)
   ⟨s12.trans z3, cb.mono z3, [], none, none, none, rfl, ⟨upd_same, fun c hc => nomatch hc⟩, Nat.le_refl _, fun h => absurd h (Nat.lt_irrefl _), List.nodup_nil⟩ ?_ ?_
  ·rintro i σ H3 hi ⟨s3, cb3, cs, v5, v6, v7, rfl, cv, hl, hpos, nd⟩
   refine ⟨_, rfl, _, rfl, _, _, rfl, rfl, _, rfl, _, _, rfl, rfl, a, ns, fk + 1 + i, (by show [V.ref a, V.int ((fk : Int) + 1 + (0 + (i : Int)))] = _; rw [show ((fk : Int) + 1 + (0 + (i : Int))) = ((fk + 1 + i : Nat) : Int) by omega]), s3.seq hS, by omega, fun n H4 hn s4 => ?_⟩
   refine ⟨_, rfl, n, rfl, fun t H5 x y z s5 ht ct => ?_⟩
   have s45 := s4.trans s5
   cases nr with
   | false =>
    refine ⟨_, rfl, _, rfl, ?_⟩
    refine ⟨_, rfl, _, rfl, in_cols (neg := true) (cv.mono s45) ct ⟨_, rfl, ?_⟩⟩
    cases hf : cs.findIdx? (isC x y z) with
    | some j =>
     obtain ⟨hj, _⟩ := List.findIdx?_eq_some_iff_getElem.mp hf
     exact ⟨s3.trans s45, cb3.mono s45, cs, _, _, _, rfl, cv.mono s45, by omega, fun _ => by omega, nd⟩
    | none =>
     have cvm := cv.mono s45
     refine ⟨_, rfl, .inl ⟨rfl, _, SqL.of cvm.1⟩, _, rfl, L, _, _, rfl, rfl, cvm.1, Nat.lt_of_lt_of_le (by rw [List.length_map]; omega : _ < 5000) (by decide), ?_⟩
     have up : ∀ {q : Addr} {x1 x2 x3 : Nat}, Col H5 q x1 x2 x3 → Col (upd H5 L (.lst (cs.map (fun c => V.ref c.1) ++ [V.ref t]))) q x1 x2 x3 := fun {q x1 x2 x3} cc => ⟨by rw [upd_ne (ne_of cc.top cvm.1 (by intro z; cases z))]; exact cc.top, cc.lr, cc.lg, cc.lb⟩
     exact ⟨same_upd (s3.trans s45) hL0, up (cb3.mono s45), cs ++ [(t, x, y, z)], _, _, _, rfl, ColsV.snoc upd_same (fun c hc => up (cvm.2 c hc)) (up ct), by rw [List.length_append]; show cs.length + 1 ≤ i + 1; omega, fun _ => by rw [List.length_append]; show 1 ≤ cs.length + 1; omega, by
      rw [List.map_append]
      refine List.nodup_append.mpr ⟨nd, by simp, fun u hu w hw => ?_⟩
      rw [List.map_cons, List.map_nil, List.mem_singleton] at hw
      subst hw
      exact fun z => findIdx_none hf (by rw [z] at hu; exact hu)⟩
   | true =>
    refine ⟨_, rfl, _, rfl, ?_⟩
    refine ⟨_, rfl, by decide, by decide, fun D hD => ?_⟩
    have cb5 := cb3.mono s45
    refine comp_fm (k := 0) (fun x => match x with | .int j => .int ((if (252 : Int) < (([r, g, b].getD j.toNat 0 : Nat) : Int) then 252 else (([r, g, b].getD j.toNat 0 : Nat) : Int)) + (n : Int) / [(1 : Int), 4, 16].getD j.toNat 1 % 4) | _ => .non) (fun _ => true) (src_range (n := 3)) sz3 hD (fun x _ H' Qb _ kk => kk H' (Same.refl _)) (fun x hx _ H' Q' sm kk => ?_) fun H7 s7 hD7 => ?_
    ·have hx : x ∈ [V.int 0, .int 1, .int 2] := hx
     have top := (cb5.mono sm).top
     simp only [List.mem_cons, List.not_mem_nil, or_false] at hx
     rcases hx with rfl | rfl | rfl
     ·refine ⟨_, rfl, _, rfl, tb, _, _, _, rfl, rfl, SqT.of top, atI_nat (j := 0) rfl, _, _, rfl, _, rfl, sz3, fun q hq => ?_⟩
      exact ⟨_, rfl, q, _, _, _, rfl, rfl, SqL.of upd_same, atI_nat (j := 0) rfl, _, _, rfl, rfl, ⟨by decide, by decide⟩, _, _, rfl, rfl, (by show (0 : Int) < 4; decide), _, _, rfl, rfl, kk _ (same_new hq)⟩
     ·refine ⟨_, rfl, _, rfl, tb, _, _, _, rfl, rfl, SqT.of top, atI_nat (j := 1) rfl, _, _, rfl, _, rfl, sz3, fun q hq => ?_⟩
      exact ⟨_, rfl, q, _, _, _, rfl, rfl, SqL.of upd_same, atI_nat (j := 1) rfl, _, _, rfl, rfl, ⟨by decide, by decide⟩, _, _, rfl, rfl, (by show (0 : Int) < 4; decide), _, _, rfl, rfl, kk _ (same_new hq)⟩
     ·refine ⟨_, rfl, _, rfl, tb, _, _, _, rfl, rfl, SqT.of top, atI_nat (j := 2) rfl, _, _, rfl, _, rfl, sz3, fun q hq => ?_⟩
      exact ⟨_, rfl, q, _, _, _, rfl, rfl, SqL.of upd_same, atI_nat (j := 2) rfl, _, _, rfl, rfl, ⟨by decide, by decide⟩, _, _, rfl, rfl, (by show (0 : Int) < 4; decide), _, _, rfl, rfl, kk _ (same_new hq)⟩
    have e7 : H7 D = some (.lst [.int ((min r 252 + n % 4 : Nat) : Int), .int ((min g 252 + n / 4 % 4 : Nat) : Int), .int ((min b 252 + n / 16 % 4 : Nat) : Int)]) := by
     have q1 : (if (252 : Int) < (r : Int) then (252 : Int) else (r : Int)) + (n : Int) / 1 % 4 = ((min r 252 + n % 4 : Nat) : Int) := by split <;> omega
     have q2 : (if (252 : Int) < (g : Int) then (252 : Int) else (g : Int)) + (n : Int) / 4 % 4 = ((min g 252 + n / 4 % 4 : Nat) : Int) := by split <;> omega
     have q3 : (if (252 : Int) < (b : Int) then (252 : Int) else (b : Int)) + (n : Int) / 16 % 4 = ((min b 252 + n / 16 % 4 : Nat) : Int) := by split <;> omega
     rw [← q1, ← q2, ← q3]
     exact hD7
    refine ⟨D, _, rfl, .inl ⟨SqL.of e7, fun u hu' => ?_⟩⟩
    have s58 := s7.trans (same_new (o := HO.tup [V.int ((min r 252 + n % 4 : Nat) : Int), .int ((min g 252 + n / 4 % 4 : Nat) : Int), .int ((min b 252 + n / 16 % 4 : Nat) : Int)]) hu')
    have cu : Col (upd H7 u (.tup [V.int ((min r 252 + n % 4 : Nat) : Int), .int ((min g 252 + n / 4 % 4 : Nat) : Int), .int ((min b 252 + n / 16 % 4 : Nat) : Int)])) u (min r 252 + n % 4) (min g 252 + n / 4 % 4) (min b 252 + n / 16 % 4) := ⟨upd_same, by omega, by omega, by omega⟩
    show gName 7 _ _ _ _
    generalize upd H7 u (.tup [V.int ((min r 252 + n % 4 : Nat) : Int), .int ((min g 252 + n / 4 % 4 : Nat) : Int), .int ((min b 252 + n / 16 % 4 : Nat) : Int)]) = H8 at s58 cu ⊢
    have s38 := s45.trans s58
    refine ⟨_, rfl, _, rfl, in_cols (neg := true) (cv.mono s38) cu ⟨_, rfl, ?_⟩⟩
    cases hf : cs.findIdx? (isC (min r 252 + n % 4) (min g 252 + n / 4 % 4) (min b 252 + n / 16 % 4)) with
    | some j =>
     obtain ⟨hj, _⟩ := List.findIdx?_eq_some_iff_getElem.mp hf
     exact ⟨s3.trans s38, cb3.mono s38, cs, _, _, _, rfl, cv.mono s38, by omega, fun _ => by omega, nd⟩
    | none =>
     have cvm := cv.mono s38
     refine ⟨_, rfl, .inl ⟨rfl, _, SqL.of cvm.1⟩, _, rfl, L, _, _, rfl, rfl, cvm.1, Nat.lt_of_lt_of_le (by rw [List.length_map]; omega : _ < 5000) (by decide), ?_⟩
     have up : ∀ {q : Addr} {x1 x2 x3 : Nat}, Col H8 q x1 x2 x3 → Col (upd H8 L (.lst (cs.map (fun c => V.ref c.1) ++ [V.ref u]))) q x1 x2 x3 := fun {q x1 x2 x3} cc => ⟨by rw [upd_ne (ne_of cc.top cvm.1 (by intro z; cases z))]; exact cc.top, cc.lr, cc.lg, cc.lb⟩
     exact ⟨same_upd (s3.trans s38) hL0, up (cb3.mono s38), cs ++ [(u, (min r 252 + n % 4), (min g 252 + n / 4 % 4), (min b 252 + n / 16 % 4))], _, _, _, rfl, ColsV.snoc upd_same (fun c hc => up (cvm.2 c hc)) (up cu), by rw [List.length_append]; show cs.length + 1 ≤ i + 1; omega, fun _ => by rw [List.length_append]; show 1 ≤ cs.length + 1; omega, by
      rw [List.map_append]
      refine List.nodup_append.mpr ⟨nd, by simp, fun u hu w hw => ?_⟩
      rw [List.map_cons, List.map_nil, List.mem_singleton] at hw
      subst hw
      exact fun z => findIdx_none hf (by rw [z] at hu; exact hu)⟩
  ·rintro σ H3 ⟨s3, cb3, cs, v5, v6, v7, rfl, cv, hl, hpos, nd⟩
   exact ⟨_, rfl, k L cs H3 s3 hL0 cv (hpos (by decide)) hl nd⟩
end
section
variable {K : W.Frag}
theorem Good.at {rows : List (List Int)} {wd : Nat} (g : Good rows wd) {i : Nat} {r : List V} (h : (ir rows)[i]? = some r) : ∃ (ns : List Int), r = ns.map V.int ∧ ns.length = wd ∧ (∀ c ∈ ns, 0 ≤ c ∧ c ≤ 15) ∧ ns ∈ rows := by
 unfold ir at h
 rw [List.getElem?_map] at h
 cases e : rows[i]? with
 | none => rw [e] at h; cases h
 | some ns =>
  rw [e] at h
  cases h
  have hm := List.mem_of_getElem? e
  exact ⟨ns, rfl, (g.row ns hm).1, (g.row ns hm).2, hm⟩
theorem Good.mem {H : Hp} {a q : Addr} {ps : List Addr} {rows : List (List Int)} {wd : Nat} (g : Good rows wd) (p : PicV H a ps (ir rows)) (hq : q ∈ ps) : ∃ (ns : List Int), H q = some (.lst (ns.map V.int)) ∧ ns.length = wd ∧ (∀ c ∈ ns, 0 ≤ c ∧ c ≤ 15) := by
 obtain ⟨i, hi⟩ := List.mem_iff_getElem?.mp hq
 obtain ⟨r, hr, e⟩ := p.at hi
 obtain ⟨ns, rfl, h1, h2, _⟩ := g.at hr
 exact ⟨ns, e, h1, h2⟩
theorem Good.first {H : Hp} {a : Addr} {ps : List Addr} {rows : List (List Int)} {wd : Nat} (g : Good rows wd) (p : PicV H a ps (ir rows)) : ∃ (q : Addr) (ns : List Int), (ps.map V.ref)[0]? = some (.ref q) ∧ H q = some (.lst (ns.map V.int)) ∧ ns.length = wd := by
 have hl : ps.length = rows.length := by have := p.len; unfold ir at this; rw [List.length_map] at this; exact this
 have h0 : 0 < ps.length := by have := g.ne; omega
 have e : ps[0]? = some ps[0] := by simp [h0]
 obtain ⟨ns, h1, h2, _⟩ := g.mem p (List.getElem_mem h0)
 exact ⟨ps[0], ns, by rw [List.getElem?_map, e]; rfl, h1, h2⟩
theorem ir_len (rows : List (List Int)) : (ir rows).length = rows.length := by unfold ir; rw [List.length_map]
theorem all_rep (n : List V) : (n.map fun _ => true).all id = true := by
 induction n with
 | nil => rfl
 | cons x r ih => rw [List.map_cons, List.all_cons, ih]; rfl
end
theorem getElem?_ref {ps : List Addr} {i : Nat} {x : V} (h : (ps.map V.ref)[i]? = some x) : ∃ q, ps[i]? = some q ∧ x = .ref q := by
 rw [List.getElem?_map] at h
 cases e : ps[i]? with
 | none => rw [e] at h; cases h
 | some q => rw [e] at h; cases h; exact ⟨q, rfl, rfl⟩
theorem kd_flat {K : W.Frag} {H : Hp} {v : V} (h : flatV v = true) : Kd K H v := by
 cases v with
 | non => exact .non
 | bl b => exact .bl b
 | int i => exact .int i
 | str x => exact .str x
 | _ => cases h
theorem picB_iff {H : Hp} {a : Addr} {xs : List V} (e : rowOf H (.ref a) = some xs) : picB H (.ref a) = true ↔ (isWh 1 24 (.int (xs.length : Int)) = true ∧ (∀ x ∈ xs, rowQ H x = true) ∧ ∀ x ∈ xs, lenOf H x = lenOf H (xs.headD .non)) := by
 unfold picB
 rw [e]
 simp only [Bool.and_eq_true, List.all_eq_true, decide_eq_true_eq]
theorem rowQ_iff {H : Hp} {b : Addr} {ys : List V} (e : H b = some (.lst ys)) : rowQ H (.ref b) = true ↔ (ys.all (isWh 0 15) = true ∧ isWh 1 24 (.int (ys.length : Int)) = true) := by
 unfold rowQ
 rw [rowOf_lst e]
 simp only [rowB, Bool.and_eq_true]
theorem lenOf_lst {H : Hp} {b : Addr} {ys : List V} (e : H b = some (.lst ys)) : lenOf H (.ref b) = ys.length := by unfold lenOf; rw [rowOf_lst e]
noncomputable def Th2 (K : W.Frag) (H : Hp) (v : V) : Prop := Th K H v ∧ ∀ a xs, v = .ref a → H a = some (.tup xs) → ∀ y ∈ xs, flatV y = true ∨ ∃ b, y = .ref b
section
variable {K : W.Frag} {H : Hp} {q : Addr} {r r' : List V}
theorem Rw.lst (e : H q = some (.lst r)) (hl : r.length ≤ 1000) (hk : ∀ y ∈ r, Kd K H y) : Rw K H (.ref q) :=
 ⟨.lst e, fun ys h => by rw [rowOf_lst e] at h; cases h; exact hl, fun ys h => by rw [rowOf_lst e] at h; cases h; exact hk⟩
theorem Rw.flat {x : V} (h : flatV x = true) : Rw K H x := by
 refine ⟨kd_flat h, fun ys e => ?_, fun ys e => ?_⟩
 ·obtain ⟨a, rfl, _⟩ := rowOf_ref e; cases h
 ·obtain ⟨a, rfl, _⟩ := rowOf_ref e; cases h
theorem Rw.tup {a : Addr} {xs : List V} (e : H a = some (.tup xs)) : Rw K H (.ref a) := by
 refine ⟨.tup e, fun ys h => ?_, fun ys h => ?_⟩
 ·obtain ⟨b, z, e2⟩ := rowOf_ref h; cases z; rw [e] at e2; cases e2
 ·obtain ⟨b, z, e2⟩ := rowOf_ref h; cases z; rw [e] at e2; cases e2
theorem rowOf_dict {a : Addr} (e : H a = some (DictO a)) : rowOf H (.ref a) = Option.none := by
 cases h : rowOf H (.ref a) with
 | none => rfl
 | some ys => obtain ⟨b, z, e2⟩ := rowOf_ref h; cases z; rw [e] at e2; cases e2
theorem Th.lst {p : Addr} {xs : List V} (e : H p = some (.lst xs)) (hl : xs.length ≤ 1000) (hk : ∀ x ∈ xs, Rw K H x) : Th2 K H (.ref p) :=
 ⟨⟨.lst e, fun ys h => by rw [rowOf_lst e] at h; cases h; exact hl, fun ys h => by rw [rowOf_lst e] at h; cases h; exact hk⟩, fun a ys z e2 => by cases z; rw [e] at e2; cases e2⟩
theorem Th.pic {a : Addr} {ps : List Addr} {R : List (List V)} (p : PicV H a ps R) (hl : R.length ≤ 1000) (hr : ∀ r ∈ R, r.length ≤ 1000 ∧ ∀ y ∈ r, Kd K H y) : Th2 K H (.ref a) := by
 refine Th.lst p.top (by rw [List.length_map, p.len]; exact hl) fun x hx => ?_
 obtain ⟨q, hq, rfl⟩ := List.mem_map.mp hx
 obtain ⟨r, hrm, e⟩ := p.mem hq
 exact Rw.lst e (hr r hrm).1 (hr r hrm).2
end
section
variable {K : W.Frag} {H : Hp} {a : Addr} {ps : List Addr} {rows : List (List Int)} {wd : Nat}
theorem th_good (p : PicV H a ps (ir rows)) (g : Good rows wd) : Th2 K H (.ref a) := by
 refine Th.pic p (by rw [ir_len]; exact Nat.le_trans g.le (by decide)) fun r hr => ?_
 obtain ⟨i, hi⟩ := List.mem_iff_getElem?.mp hr
 obtain ⟨ms, rfl, hw, _, _⟩ := g.at hi
 exact ⟨by rw [List.length_map, hw]; exact Nat.le_trans g.w24 (by decide), kd_ints⟩
theorem len_good (p : PicV H a ps (ir rows)) (g : Good rows wd) : ∀ x ∈ ps.map V.ref, lenOf H x = wd := fun x hx => by
 obtain ⟨q, hq, rfl⟩ := List.mem_map.mp hx
 obtain ⟨ns, e1, e2, _⟩ := g.mem p hq
 rw [lenOf_lst e1, List.length_map, e2]
theorem head_good (p : PicV H a ps (ir rows)) (g : Good rows wd) : lenOf H ((ps.map V.ref).headD .non) = wd := by
 obtain ⟨q, ns, e0, e1, e2⟩ := g.first p
 refine len_good p g _ ?_
 cases h : ps.map V.ref with
 | nil => rw [h] at e0; cases e0
 | cons z r => exact List.mem_cons_self
theorem picB_good (p : PicV H a ps (ir rows)) (g : Good rows wd) : picB H (.ref a) = true := by
 refine (picB_iff (rowOf_lst p.top)).mpr ⟨?_, fun x hx => ?_, fun x hx => by rw [len_good p g x hx, head_good p g]⟩
 ·rw [List.length_map, p.len, ir_len]; exact wh_len g.ne g.le
 ·obtain ⟨q, hq, rfl⟩ := List.mem_map.mp hx
  obtain ⟨ns, e1, e2, e3⟩ := g.mem p hq
  exact (rowQ_iff e1).mpr ⟨wh_cells e3, by rw [List.length_map, e2]; exact wh_len g.w1 g.w24⟩
theorem no_bad (p : PicV H a ps (ir rows)) (g : Good rows wd) (z : picB H (.ref a) = false) : False := by rw [picB_good p g] at z; cases z
end
theorem len_rep' (n : Nat) (xs : List V) : (List.replicate n xs).flatten.length = n * xs.length := by
 induction n with
 | zero => simp
 | succ n ih => rw [List.replicate_succ, List.flatten_cons, List.length_append, ih, Nat.succ_mul, Nat.add_comm]
theorem len25 (xs : List V) : (List.replicate (25 : Int).toNat xs).flatten.length = 25 * xs.length := len_rep' 25 xs
structure BadQ (K : W.Frag) (H : Hp) (v : V) : Prop where
 th : Th K H v
 no : picB H v = false
theorem BadQ.mono {K : W.Frag} {H H' : Hp} {v : V} (b : BadQ K H v) (s : Same H H') : BadQ K H' v := ⟨b.th.mono s, by rw [picB_mono b.th s]; exact b.no⟩
noncomputable def BadQs (K : W.Frag) (H : Hp) (vs : List V) : Prop := ∀ v ∈ vs, BadQ K H v
section
variable {K : W.Frag} {H H' : Hp}
theorem BadQs.mono {vs : List V} (b : BadQs K H vs) (s : Same H H') : BadQs K H' vs := fun v hv => (b v hv).mono s
theorem bad_leaf {v : V} (k : Kd K H v) (h : rowOf H v = none) : BadQ K H v := ⟨⟨k, fun ys e => (by rw [h] at e; cases e), fun ys e => (by rw [h] at e; cases e)⟩, by unfold picB; rw [h]⟩
theorem bad_len {p : Addr} {xs : List V} (e : H p = some (.lst xs)) (hl : xs.length ≤ 1000) (hk : ∀ x ∈ xs, Rw K H x) (hw : isWh 1 24 (.int (xs.length : Int)) = false) : BadQ K H (.ref p) :=
 ⟨(Th.lst e hl hk).1, by unfold picB; rw [rowOf_lst e]; dsimp only; rw [hw, Bool.false_and]⟩
theorem bad_row {p : Addr} {xs : List V} (e : H p = some (.lst xs)) (hl : xs.length ≤ 1000) (hk : ∀ x ∈ xs, Rw K H x) (hx : ∃ x ∈ xs, rowQ H x = false) : BadQ K H (.ref p) := by
 refine ⟨(Th.lst e hl hk).1, ?_⟩
 obtain ⟨x, hm, hq⟩ := hx
 have : xs.all (rowQ H) = false := by
  rw [Bool.eq_false_iff]
  intro z
  rw [List.all_eq_true] at z
  rw [z x hm] at hq; cases hq
 unfold picB; rw [rowOf_lst e]; dsimp only; rw [this, Bool.false_and, Bool.and_false]
theorem bad_one {p q : Addr} {r : List V} (e : H p = some (.lst [.ref q])) (eq : H q = some (.lst r)) (hl : r.length ≤ 1000) (hk : ∀ y ∈ r, Kd K H y) (hq : rowB r = false) : BadQ K H (.ref p) :=
 bad_row e (by show 1 ≤ 1000; decide) (fun x hx => by rw [List.mem_singleton.mp hx]; exact Rw.lst eq hl hk) ⟨.ref q, List.mem_singleton.mpr rfl, by unfold rowQ; rw [rowOf_lst eq]; exact hq⟩
end
theorem take_flat {α : Type} (rows : List (List α)) (i : Nat) (r : List α) (h : rows[i]? = some r) : (rows.take (i + 1)).flatten = (rows.take i).flatten ++ r := by
 rw [List.take_add_one, h]
 simp
theorem flat_le {rows : List (List Int)} {wd : Nat} (h : ∀ r ∈ rows, r.length = wd) : rows.flatten.length = rows.length * wd := by
 induction rows with
 | nil => simp
 | cons r t ih =>
  rw [List.flatten_cons, List.length_append, ih (fun r hr => h r (List.mem_cons_of_mem _ hr)), h r List.mem_cons_self, List.length_cons, Nat.succ_mul]
  omega
theorem Good.flat {rows : List (List Int)} {wd : Nat} (g : Good rows wd) (i : Nat) : (rows.take i).flatten.length ≤ 576 := by
 rw [flat_le (wd := wd) fun r hr => (g.row r (List.mem_of_mem_take hr)).1]
 have h1 : (rows.take i).length ≤ 24 := by rw [List.length_take]; have := g.le; omega
 exact Nat.le_trans (Nat.mul_le_mul h1 g.w24) (by decide)
noncomputable def clr (cs : List (Addr × Nat × Nat × Nat)) (c : Int) : V := .ref (cs.getD c.toNat (0, 0, 0, 0)).1
noncomputable def shR (cs : List (Addr × Nat × Nat × Nat)) (rows : List (List Int)) : List (List V) := rows.map fun r => r.map (clr cs)
noncomputable def spAllC (K : W.Frag) (cB : Addr) : Sp := fun vs H Q E => ∃ x, vs = [x] ∧ ((∃ a ps rows wd, x = .ref a ∧ PicV H a ps (ir rows) ∧ Good rows wd ∧ ∀ p H', Same H H' → H p = none → H' p = some (.lst (rows.flatten.map V.int)) → Q (.ref p) H') ∨ (BadQ K H x ∧ ∀ H', Same H H' → E (.ref cB) none H'))
noncomputable def spBelow (K : W.Frag) (cB cN : Addr) : Sp := fun vs H Q E => ∃ (x : V) (m : Int), vs = [x, .int m] ∧ ((∃ a ps rows wd, x = .ref a ∧ PicV H a ps (ir rows) ∧ Good rows wd ∧ (maxI rows.flatten < m → ∀ H', Same H H' → Q .non H') ∧ (m ≤ maxI rows.flatten → ∀ H', Same H H' → E (.ref cN) none H')) ∨ (BadQ K H x ∧ ∀ H', Same H H' → E (.ref cB) none H'))
noncomputable def spShown0 (K : W.Frag) (cB cN cL : Addr) : Sp := fun vs H Q E => ∃ (x : V) (p l : Addr) (cs : List (Addr × Nat × Nat × Nat)), vs = [x, .ref p] ∧ PalV cL H p l cs ∧ ((∃ a ps rows wd, x = .ref a ∧ PicV H a ps (ir rows) ∧ Good rows wd ∧ (maxI rows.flatten < (cs.length : Int) → ∀ H', Same H H' → Q .non H') ∧ ((cs.length : Int) ≤ maxI rows.flatten → ∀ H', Same H H' → E (.ref cN) none H')) ∨ (BadQ K H x ∧ ∀ H', Same H H' → E (.ref cB) none H'))
noncomputable def spShow (K : W.Frag) (cB cN cL : Addr) : Sp := fun vs H Q E => ∃ (x : V) (p l : Addr) (cs : List (Addr × Nat × Nat × Nat)), vs = [x, .ref p] ∧ PalV cL H p l cs ∧ ((∃ a ps rows wd, x = .ref a ∧ PicV H a ps (ir rows) ∧ Good rows wd ∧ (maxI rows.flatten < (cs.length : Int) → ∀ q qs H', Same H H' → H q = none → Fresh H qs → PicV H' q qs (shR cs rows) → Q (.ref q) H') ∧ ((cs.length : Int) ≤ maxI rows.flatten → ∀ H', Same H H' → E (.ref cN) none H')) ∨ (BadQ K H x ∧ ∀ H', Same H H' → E (.ref cB) none H'))
theorem Good.fne {rows : List (List Int)} {wd : Nat} (g : Good rows wd) : rows.flatten ≠ [] := fun z => by
 have := flat_le (wd := wd) fun r hr => (g.row r hr).1
 rw [z] at this
 have h1 := g.ne
 have h2 := g.w1
 have : rows.length * wd = 0 := this.symm
 rcases Nat.mul_eq_zero.mp this with h | h <;> omega
theorem Good.mem2 {H : Hp} {a q : Addr} {ps : List Addr} {rows : List (List Int)} {wd : Nat} (g : Good rows wd) (p : PicV H a ps (ir rows)) (hq : q ∈ ps) : ∃ (ns : List Int), H q = some (.lst (ns.map V.int)) ∧ ns.length = wd ∧ (∀ c ∈ ns, 0 ≤ c ∧ c ≤ 15) ∧ ns ∈ rows := by
 obtain ⟨i, hi⟩ := List.getElem?_of_mem hq
 obtain ⟨r, hr, e⟩ := p.at hi
 obtain ⟨ns, rfl, h1, h2, h3⟩ := g.at hr
 exact ⟨ns, e, h1, h2, h3⟩
section
variable {P : Program} {w : World} {K : W.Frag} {mg : Str → Option Value} {base : Heap} {cFE cC cN cM cP cL cB cD cZ : Addr} {tP tS tC tI : Tok}
theorem sc_all_cells : FnScope ["picture", "cells", "row"] ["picture"] (defScope s_all_cells) := ⟨rfl, rfl, rfl, by decide +kernel, rfl, by decide +kernel, by decide +kernel⟩
theorem ok_all_cells {f : Addr} {fd : FuncData} (F : FunD K "all_cells" "all_cells" s_all_cells .none f fd) (T : Txt K mg cFE cC cN cM cP cL cB cD cZ tP tS tC tI) (g_need_picture : DefX P w K mg base 7 "need_picture" ["picture"] [] (spNeed K cB)) : FnOk P w K mg base (CX1 P w) 8 f fd ["picture"] (spAllC K cB) := by
 refine F.okX sc_all_cells (fun vs H Q E h => ?_) (fun cdv A outer s H vs Q E hr h => ?_)
 ·obtain ⟨x, rfl, _⟩ := h; rfl
 ·obtain ⟨x, rfl, h⟩ := h
  refine ⟨_, (pss_cons (ps_expr (pe_callX g_need_picture (hr.mono (by decide)) passes1R rfl (pa_cons (pv 0) pa_nil)))
    (pss_cons (ps_set (i := 1) sc_all_cells.nd rfl (.inl rfl) (pe_lst pa_nil))
    (pss_cons (PS.nox (ps_for PassesOwn.never rfl (piK K rfl (pv 0)) (pg_name (i := 2) sc_all_cells.nd rfl (.inl rfl)) (pss_one (ps_expr (pe_bm PySem.F.plainAttrs_list PySem.F.slot_list_extend PySem.F.type_list_extend mt_extend (pv 1) (pa_cons (pv 2) pa_nil))))))
    (pss_one (ps_ret (pv 1)))))), ?_⟩
  rcases h with ⟨a, ps, rows, wd, rfl, pic, gd, k⟩ | ⟨bad, k⟩
  ·refine ⟨_, rfl, _, rfl, (th_good pic gd).1, fun _ H1 s1 => ⟨Nat.zero_le _, fun p hp => ⟨_, rfl, a, rfl, ⟨_, SqL.of (same_new hp _ _ (s1 _ _ pic.top))⟩, ?_⟩⟩, fun z => (no_bad pic gd z).elim⟩
   have hp0 : H p = none := s1.free hp
   refine for_list (xs := ps.map V.ref) (fun i σ H2 => Same H1 H2 ∧ H2 p = some (.lst ((rows.take i).flatten.map V.int)) ∧ ∃ v, σ = [some (.ref a), some (.ref p), v]) ⟨same_new hp, by rw [upd_same]; rfl, none, rfl⟩ (fun i σ H2 _ q => SqL.of (q.1 _ _ (s1 _ _ pic.top))) ?_ ?_
   ·rintro i x σ H2 hx ⟨s2, hp2, v, rfl⟩
    rw [List.getElem?_map] at hx
    cases e : ps[i]? with
    | none => rw [e] at hx; cases hx
    | some q =>
     rw [e] at hx
     cases hx
     obtain ⟨r, hr, hq⟩ := pic.at e
     unfold ir at hr
     rw [List.getElem?_map] at hr
     cases er : rows[i]? with
     | none => rw [er] at hr; cases hr
     | some ns =>
      rw [er] at hr
      cases hr
      have hq2 := s2 _ _ (s1 _ _ hq)
      have hlen : (((rows.take i).flatten.map V.int).length + (ns.map V.int).length) ≤ sizeLine := by
       have e1 := take_flat rows i ns er
       have e2 := gd.flat (i + 1)
       rw [e1, List.length_append] at e2
       rw [List.length_map, List.length_map]
       exact Nat.le_trans e2 (by decide)
      refine ⟨_, rfl, .inl ⟨rfl, _, SqL.of hp2⟩, _, rfl, p, q, _, _, rfl, rfl, hp2, hq2, hlen, same_upd s2 hp, ?_, _, rfl⟩
      rw [upd_same, take_flat rows i ns er, List.map_append]
   ·rintro σ H2 ⟨s2, hp2, v, rfl⟩
    refine ⟨_, rfl, k p H2 (s1.trans s2) hp0 ?_⟩
    rw [hp2, List.length_map, pic.len, ir_len, List.take_length]
  ·exact ⟨_, rfl, x, rfl, bad.th, fun z => (by rw [bad.no] at z; cases z), fun _ => k⟩
theorem sc_need_cells_below : FnScope ["picture", "many"] ["picture", "many"] (defScope s_need_cells_below) := ⟨rfl, rfl, rfl, by decide +kernel, rfl, by decide +kernel, by decide +kernel⟩
theorem ok_need_cells_below {f : Addr} {fd : FuncData} (F : FunD K "need_cells_below" "need_cells_below" s_need_cells_below .none f fd) (T : Txt K mg cFE cC cN cM cP cL cB cD cZ tP tS tC tI) (g_all_cells : DefX P w K mg base 8 "all_cells" ["picture"] [] (spAllC K cB)) : FnOk P w K mg base (CX1 P w) 9 f fd ["picture", "many"] (spBelow K cB cN) := by
 refine F.okX sc_need_cells_below (fun vs H Q E h => ?_) (fun cdv A outer s H vs Q E hr h => ?_)
 ·obtain ⟨x, m, rfl, _⟩ := h; rfl
 ·obtain ⟨x, m, rfl, h⟩ := h
  refine ⟨_, (pss_one (ps_if (pt_cmpR op_ge (pe_callB (call_maxI K rfl rfl) rfl T.max PyProof.Rows.boot_max (pa_cons (pe_callX g_all_cells (hr.mono (by decide)) passes1R rfl (pa_cons (pv 0) pa_nil)) pa_nil)) (pv 1) (nomark _)) (pss_one (ps_raise rfl raises1 rfl T.NoColour T.xNoColour (pa_cons pe_str pa_nil))) pss_nil)), ?_⟩
  rcases h with ⟨a, ps, rows, wd, rfl, pic, gd, kY, kN⟩ | ⟨bad, k⟩
  ·refine ⟨_, rfl, _, rfl, .inl ⟨a, ps, rows, wd, rfl, pic, gd, fun p H1 s1 hp ep => ?_⟩⟩
   refine ⟨p, _, rfl, SqL.of ep, gd.fne, _, rfl, _, _, rfl, rfl, _, rfl, iteB (fun h => ?_) (fun h => ?_)⟩
   ·exact ⟨sz1, kN (of_decide_eq_true h) H1 s1⟩
   ·exact kY (by have := of_decide_eq_false h; omega) H1 s1
  ·exact ⟨_, rfl, x, rfl, .inr ⟨bad, k⟩⟩
theorem sc_need_shown : FnScope ["picture", "palette"] ["picture", "palette"] (defScope s_need_shown) := ⟨rfl, rfl, rfl, by decide +kernel, rfl, by decide +kernel, by decide +kernel⟩
theorem ok_need_shown {f : Addr} {fd : FuncData} (F : FunD K "need_shown" "need_shown" s_need_shown .none f fd) (T : Txt K mg cFE cC cN cM cP cL cB cD cZ tP tS tC tI) (g_need_cells_below : DefX P w K mg base 9 "need_cells_below" ["picture", "many"] [] (spBelow K cB cN)) (g_m_many : MetD P w K mg base cL 1 "many" ["self"] (spMany cL)) : FnOk P w K mg base (CX1 P w) 10 f fd ["picture", "palette"] (spShown0 K cB cN cL) := by
 refine F.okX sc_need_shown (fun vs H Q E h => ?_) (fun cdv A outer s H vs Q E hr h => ?_)
 ·obtain ⟨x, p, l, cs, rfl, _⟩ := h; rfl
 ·obtain ⟨x, p, l, cs, rfl, pq, h⟩ := h
  obtain ⟨⟨dx, hp⟩, cv⟩ := id pq
  refine ⟨_, (pss_one (ps_expr (pe_callX g_need_cells_below (hr.mono (by decide)) passes1R rfl (pa_cons (pv 0) (pa_cons (pe_metD0 (pv 1) T.cl g_m_many (hr.mono (by decide))) pa_nil))))), ?_⟩
  exact ⟨_, rfl, _, rfl, p, dx, _, rfl, hp, lk_kept (by decide +kernel), p, l, cs, rfl, pq, x, _, rfl, h⟩
theorem sc_shown_picture : FnScope ["picture", "palette"] ["picture", "palette"] (defScope s_shown_picture) := ⟨rfl, rfl, rfl, by decide +kernel, rfl, by decide +kernel, by decide +kernel⟩
theorem ok_shown_picture {f : Addr} {fd : FuncData} (F : FunD K "shown_picture" "shown_picture" s_shown_picture .none f fd) (T : Txt K mg cFE cC cN cM cP cL cB cD cZ tP tS tC tI) (g_need_shown : DefX P w K mg base 10 "need_shown" ["picture", "palette"] [] (spShown0 K cB cN cL)) (g_m_colour_of : MetX P w K mg base cL 3 "colour_of" ["self", "cell"] (spColOf K cN cL)) : FnOk P w K mg base (CX1 P w) 11 f fd ["picture", "palette"] (spShow K cB cN cL) := by
 refine F.okX sc_shown_picture (fun vs H Q E h => ?_) (fun cdv A outer s H vs Q E hr h => ?_)
 ·obtain ⟨x, p, l, cs, rfl, _⟩ := h; rfl
 ·obtain ⟨x, p, l, cs, rfl, pq, h⟩ := h
  refine ⟨_, (pss_cons (ps_expr (pe_callX g_need_shown (hr.mono (by decide)) passes1R rfl (pa_cons (pv 0) (pa_cons (pv 1) pa_nil))))
    (pss_one (PS.nox (ps_ret (pe_comp (N := ["row", "palette"]) (src := [none, some 1]) rfl ⟨rfl, rfl, rfl, rfl, rfl, by decide +kernel⟩ (piK K rfl (pv 0)) (fun s H C fp => pg_name (i := 0) (show (["row", "palette"] : List Str).Nodup by decide +kernel) rfl (.inl rfl)) (fun s H C fp => pts_nil) (fun s H C fp => (pe_comp (N := ["cell", "palette"]) (src := [none, some 1]) rfl ⟨rfl, rfl, rfl, rfl, rfl, by decide +kernel⟩ (piK K rfl (pv 0)) (fun s H C fp => pg_name (i := 0) (show (["cell", "palette"] : List Str).Nodup by decide +kernel) rfl (.inl rfl)) (fun s H C fp => pts_nil) (fun s H C fp => (pe_metX (pv 1) T.cl g_m_colour_of (hr.mono (by decide)) passF (pa_cons (pv 0) pa_nil)))))))))), ?_⟩
  rcases h with ⟨a, ps, rows, wd, rfl, pic, gd, kY, kN⟩ | ⟨bad, k⟩
  ·refine ⟨_, rfl, _, rfl, _, p, l, cs, rfl, pq, .inl ⟨a, ps, rows, wd, rfl, pic, gd, fun hm H1 s1 => ?_, kN⟩⟩
   have pic1 := pic.mono s1
   have pq1 := pq.mono s1
   refine ⟨_, rfl, a, rfl, ⟨_, SqL.of pic1.top⟩, fun D hD => ?_⟩
   refine comp_rows (k := 0) (fun x => ((rowOf H1 x).getD []).map fun v => match v with | .int c => clr cs c | _ => .non) (src_list (SqL.of pic1.top)) (by rw [List.length_map, pic1.len, ir_len]; exact Nat.le_trans gd.le (by decide)) hD (fun x hx H' Q' sm kk => ?_) fun qs H2 s2 fq pv => ?_
   ·obtain ⟨q, hq, rfl⟩ := List.mem_map.mp hx
    obtain ⟨ns, eq, hl, hcs, hmem⟩ := gd.mem2 pic1 hq
    rw [rowOf_lst eq] at kk
    refine ⟨_, rfl, q, rfl, ⟨_, SqL.of (sm _ _ eq)⟩, fun D2 hD2 => ?_⟩
    refine comp_fm (k := 0) (fun v => match v with | .int c => clr cs c | _ => .non) (fun _ => true) (src_list (SqL.of (sm _ _ eq))) (by rw [List.length_map, hl]; exact Nat.le_trans gd.w24 (by decide)) hD2 (fun x _ H' Qb _ kk => kk H' (Same.refl _)) (fun x hx _ H3 Q3 s3 kk3 => ?_) fun H3 s3 e3 => ?_
    ·obtain ⟨c, hc, rfl⟩ := List.mem_map.mp hx
     have c0 := (hcs c hc).1
     have cm : c ≤ maxI rows.flatten := le_maxI gd.fne c (List.mem_flatten.mpr ⟨ns, hmem, hc⟩)
     have hlt : c.toNat < cs.length := by omega
     have pq3 := (pq1.mono sm).mono s3
     obtain ⟨⟨dx, hp⟩, cv⟩ := id pq3
     refine ⟨_, rfl, p, dx, _, rfl, hp, lk_kept (by decide +kernel), _, rfl, p, l, cs, _, rfl, pq3, .int c, fun n d e hd => ?_, fun hw => ?_⟩
     ·have en : c = (n : Int) := by injection e
      have := kk3 H3 (Same.refl _)
      have e2 : clr cs c = .ref d.1 := by
       unfold clr
       rw [en, Int.toNat_natCast, List.getD_eq_getElem?_getD, hd]; rfl
      show Q3 (.ref d.1) H3
      rw [← e2]; exact this
     ·exact absurd (show isWh 0 ((cs.length : Int) - 1) (.int c) = true by simp only [isWh, Bool.and_eq_true, decide_eq_true_eq]; omega) (by rw [hw]; decide)
    ·refine kk D2 H3 s3 hD2 ?_
     rw [e3, filter_t]; rfl
   ·refine kY hm D qs H2 (s1.trans s2) (s1.free hD) (fun q hq => s1.free (fq q hq)) ?_
    have e : (ps.map V.ref).map (fun x => ((rowOf H1 x).getD []).map fun v => match v with | .int c => clr cs c | _ => .non) = shR cs rows := by
     have key : ∀ (qs : List Addr) (R : List (List Int)), Paired (fun p r => H1 p = some (.lst r)) qs (ir R) → (qs.map V.ref).map (fun x => ((rowOf H1 x).getD []).map fun v => match v with | .int c => clr cs c | _ => .non) = shR cs R := by
      intro qs
      induction qs with
      | nil => intro R h; cases R with
       | nil => rfl
       | cons r R => cases h
      | cons q qs ih =>
       intro R h
       cases R with
       | nil => cases h
       | cons r R =>
        cases h with
        | cons e1 h2 =>
         rw [List.map_cons, List.map_cons, ih R h2, rowOf_lst e1]
         show List.map _ (r.map V.int) :: _ = (r.map (clr cs)) :: shR cs R
         rw [List.map_map]; rfl
     exact key ps rows pic1.row
    rw [← e]; exact pv
  ·exact ⟨_, rfl, _, rfl, x, p, l, cs, rfl, pq, .inr ⟨bad, k⟩⟩
end
structure TCs (K : W.Frag) (H : Hp) (v : V) : Prop where
 kd : Kd K H v
 len : ∀ xs, rowOf H v = some xs → xs.length ≤ 1000000
 it : ∀ xs, rowOf H v = some xs → ∀ x ∈ xs, Kd K H x
noncomputable def cellsB (H : Hp) (v : V) (m : Int) : Bool := match rowOf H v with
 | some xs => xs.all (isWh 0 15) && decide ((xs.length : Int) ≤ m)
 | none => false
theorem TCs.mono {K : W.Frag} {H H' : Hp} {v : V} (t : TCs K H v) (s : Same H H') : TCs K H' v := by
 have e := rowOf_mono t.kd s
 exact ⟨t.kd.mono s, fun xs h => t.len xs (by rw [← e]; exact h), fun xs h x hx => (t.it xs (by rw [← e]; exact h) x hx).mono s⟩
theorem cellsB_mono {K : W.Frag} {H H' : Hp} {v : V} {m : Int} (t : TCs K H v) (s : Same H H') : cellsB H' v m = cellsB H v m := by unfold cellsB; rw [rowOf_mono t.kd s]
noncomputable def spNeedCs (K : W.Frag) (cD : Addr) : Sp := fun vs H Q E => ∃ v m, vs = [v, .int m] ∧ TCs K H v ∧ (cellsB H v m = true → ∀ H', Same H H' → Q .non H') ∧ (cellsB H v m = false → ∀ H', Same H H' → E (.ref cD) none H')
noncomputable def addC (c : List (Addr × Nat × Nat × Nat)) (d : Addr × Nat × Nat × Nat) : List (Addr × Nat × Nat × Nat) := if (c.findIdx? (isC d.2.1 d.2.2.1 d.2.2.2)).isSome then c else c ++ [d]
noncomputable def pourC (c ds : List (Addr × Nat × Nat × Nat)) : List (Addr × Nat × Nat × Nat) := ds.foldl addC c
noncomputable def idx (c : List (Addr × Nat × Nat × Nat)) (d : Addr × Nat × Nat × Nat) : Nat := (c.findIdx? (isC d.2.1 d.2.2.1 d.2.2.2)).getD 0
theorem addC_pre (c : List (Addr × Nat × Nat × Nat)) (d : Addr × Nat × Nat × Nat) : ∃ e, addC c d = c ++ e := by
 unfold addC
 split
 ·exact ⟨[], by simp⟩
 ·exact ⟨[d], rfl⟩
theorem pour_pre : ∀ (ds c : List (Addr × Nat × Nat × Nat)), ∃ e, pourC c ds = c ++ e
 | [], c => ⟨[], by simp [pourC]⟩
 | d :: ds, c => by
  obtain ⟨e1, h1⟩ := addC_pre c d
  obtain ⟨e2, h2⟩ := pour_pre ds (addC c d)
  exact ⟨e1 ++ e2, by show pourC (addC c d) ds = _; rw [h2, h1, List.append_assoc]⟩
theorem find_pre {c e : List (Addr × Nat × Nat × Nat)} {p : Addr × Nat × Nat × Nat → Bool} {j : Nat} (h : c.findIdx? p = some j) : (c ++ e).findIdx? p = some j := by rw [List.findIdx?_append, h]; rfl
theorem find_new {c : List (Addr × Nat × Nat × Nat)} {d : Addr × Nat × Nat × Nat} (h : c.findIdx? (isC d.2.1 d.2.2.1 d.2.2.2) = none) : (c ++ [d]).findIdx? (isC d.2.1 d.2.2.1 d.2.2.2) = some c.length := by
 rw [List.findIdx?_append, h]
 have : isC d.2.1 d.2.2.1 d.2.2.2 d = true := by unfold isC; exact decide_eq_true rfl
 simp [List.findIdx?_cons, this]
theorem addC_find (c : List (Addr × Nat × Nat × Nat)) (d : Addr × Nat × Nat × Nat) : ∃ j, (addC c d).findIdx? (isC d.2.1 d.2.2.1 d.2.2.2) = some j := by
 unfold addC
 cases h : c.findIdx? (isC d.2.1 d.2.2.1 d.2.2.2) with
 | some j => exact ⟨j, by simp [h]⟩
 | none => exact ⟨c.length, by simpa using find_new h⟩
theorem pour_snoc (c ds : List (Addr × Nat × Nat × Nat)) (d : Addr × Nat × Nat × Nat) : pourC c (ds ++ [d]) = addC (pourC c ds) d := by unfold pourC; rw [List.foldl_append]; rfl
theorem pour_take (c ds : List (Addr × Nat × Nat × Nat)) (i : Nat) : ∃ e, pourC c ds = pourC c (ds.take i) ++ e := by
 obtain ⟨e, h⟩ := pour_pre (ds.drop i) (pourC c (ds.take i))
 refine ⟨e, ?_⟩
 rw [← h]
 unfold pourC
 rw [← List.foldl_append, List.take_append_drop]
noncomputable def Fr0 (x : Addr) (H H' : Hp) : Prop := ∀ b o, H b = some o → b ≠ x → H' b = some o
theorem Fr0.oth {x : Addr} {H H' : Hp} {b : Addr} {o : HO} {ys : List V} (f : Fr0 x H H') (l : H x = some (.lst ys)) (h : H b = some o) (d : ∀ ys, o ≠ .lst ys) : H' b = some o :=
 f b o h fun z => by rw [z, l] at h; exact d ys (Option.some.inj h).symm
theorem Fr0.col {x : Addr} {H H' : Hp} {a : Addr} {r g b : Nat} {ys : List V} (f : Fr0 x H H') (l : H x = some (.lst ys)) (c : Col H a r g b) : Col H' a r g b := ⟨f.oth l c.top (fun ys z => by cases z), c.lr, c.lg, c.lb⟩
theorem Fr0.cols {x : Addr} {H H' : Hp} {a : Addr} {cs : List (Addr × Nat × Nat × Nat)} {ys : List V} (f : Fr0 x H H') (l : H x = some (.lst ys)) (v : ColsV H a cs) (n : a ≠ x) : ColsV H' a cs := ⟨f a _ v.1 n, fun c hc => f.col l (v.2 c hc)⟩
theorem Fr0.pal {x : Addr} {H H' : Hp} {cL p q : Addr} {cs : List (Addr × Nat × Nat × Nat)} {ys : List V} (f : Fr0 x H H') (l : H x = some (.lst ys)) (v : PalV cL H p q cs) (n : q ≠ x) : PalV cL H' p q cs := by
 obtain ⟨⟨dx, h⟩, c⟩ := v
 exact ⟨⟨dx, f.oth l h (fun ys z => by cases z)⟩, f.cols l c n⟩
noncomputable def spPour (cM cL : Addr) : Sp := fun vs H Q E => ∃ (p1 l1 p2 l2 : Addr) (c1 c2 : List (Addr × Nat × Nat × Nat)), vs = [.ref p1, .ref p2] ∧ PalV cL H p1 l1 c1 ∧ PalV cL H p2 l2 c2 ∧ 1 ≤ c1.length ∧ c1.length ≤ 16 ∧ (c1.map kc).Nodup ∧ c2.length ≤ 1000 ∧
 ((pourC c1 c2).length ≤ 16 → ∀ t p3 l3 m H', Same H H' → H t = none → H p3 = none → H l3 = none → H m = none → m ≠ l3 → PalV cL H' p3 l3 (pourC c1 c2) → H' m = some (.lst (c2.map fun d => V.int (idx (pourC c1 c2) d : Int))) → H' t = some (.tup [.ref p3, .ref m]) → Q (.ref t) H') ∧
 (16 < (pourC c1 c2).length → ∀ H', Same H H' → E (.ref cM) none H')
noncomputable def recR (ns : List Int) (rows : List (List Int)) : List (List Int) := rows.map fun r => r.map fun c => ns.getD c.toNat 0
noncomputable def spRec (K : W.Frag) (cB cD cN : Addr) : Sp := fun vs H Q E => ∃ (x y : V), vs = [x, y] ∧ ((BadQ K H x ∧ ∀ H', Same H H' → E (.ref cB) none H') ∨ ∃ a ps rows wd, x = .ref a ∧ PicV H a ps (ir rows) ∧ Good rows wd ∧
 ((TCs K H y ∧ cellsB H y 16 = false ∧ ∀ H', Same H H' → E (.ref cD) none H') ∨ ∃ (l : Addr) (ns : List Int), y = .ref l ∧ H l = some (.lst (ns.map V.int)) ∧ ns.length ≤ 16 ∧ (∀ c ∈ ns, 0 ≤ c ∧ c ≤ 15) ∧
  (maxI rows.flatten < (ns.length : Int) → ∀ q qs H', Same H H' → H q = none → Fresh H qs → PicV H' q qs (ir (recR ns rows)) → Q (.ref q) H') ∧ ((ns.length : Int) ≤ maxI rows.flatten → ∀ H', Same H H' → E (.ref cN) none H')))
section
variable {K : W.Frag} {H H' : Hp} {v : V}
theorem ColsV.tc {a : Addr} {cs : List (Addr × Nat × Nat × Nat)} (w : ColsV H a cs) : ∀ x ∈ cs.map (fun c => V.ref c.1), TC K H x := fun x hx => by
 obtain ⟨c, hc, rfl⟩ := List.mem_map.mp hx
 exact (w.2 c hc).tc
end
theorem ColsV.tm {K : W.Frag} {H : Hp} {a : Addr} {cs : List (Addr × Nat × Nat × Nat)} (w : ColsV H a cs) (hl : cs.length ≤ 1000000) : TM K H (.ref a) :=
 ⟨.lst w.1, fun ys h => (by rw [rowOf_lst w.1] at h; cases h; rw [List.length_map]; exact hl), fun ys h => (by rw [rowOf_lst w.1] at h; cases h; exact w.tc)⟩
section
variable {P : Program} {w : World} {K : W.Frag} {mg : Str → Option Value} {base : Heap} {cFE cC cN cM cP cL cB cD cZ : Addr} {tP tS tC tI : Tok}
theorem sc_need_cells : FnScope ["cells", "most"] ["cells", "most"] (defScope s_need_cells) := ⟨rfl, rfl, rfl, by decide +kernel, rfl, by decide +kernel, by decide +kernel⟩
theorem ok_need_cells {f : Addr} {fd : FuncData} (F : FunD K "need_cells" "need_cells" s_need_cells .none f fd) (T : Txt K mg cFE cC cN cM cP cL cB cD cZ tP tS tC tI) (g_is_list_of_cells : Def P w K mg base 5 "is_list_of_cells" ["thing"] [] (spLoc K)) : FnOk P w K mg base (CX1 P w) 6 f fd ["cells", "most"] (spNeedCs K cD) := by
 refine F.okX sc_need_cells (fun vs H Q E h => ?_) (fun cdv A outer s H vs Q E hr h => ?_)
 ·obtain ⟨v, m, rfl, _⟩ := h; rfl
 ·obtain ⟨v, m, rfl, t, kY, kN⟩ := h
  refine ⟨_, (pss_one (ps_if (PW.pt (pw_or (pt_not (pt_val (pe_callD g_is_list_of_cells (hr.mono (by decide)) rfl (pa_cons (pv 0) pa_nil)))) (pw_or1 (pt_cmpR op_gt (pe_callB (lenK K rfl) rfl T.len PySem.boot_len (pa_cons (pv 0) pa_nil)) (pv 1) (nomark _))))) (pss_one (ps_raise rfl raises1 rfl T.BadCell T.xBadCell (pa_cons pe_str pa_nil))) pss_nil)), ?_⟩
  cases hx : rowOf H v with
  | none =>
   have e : cellsB H v m = false := by unfold cellsB; rw [hx]
   refine ⟨_, rfl, v, rfl, .inr ⟨t.kd, by rw [isL_row t.kd, hx]; rfl, _, rfl, ⟨sz1, kN e H (Same.refl H)⟩⟩⟩
  | some xs =>
   obtain ⟨a, rfl, e⟩ := rowOf_ref hx
   have eb : cellsB H (.ref a) m = (xs.all (isWh 0 15) && decide ((xs.length : Int) ≤ m)) := by unfold cellsB; rw [hx]
   rw [eb] at kY kN
   refine ⟨_, rfl, _, rfl, .inl ⟨a, xs, rfl, e, Nat.le_trans (t.len xs hx) (by decide), t.it xs hx, fun H1 s1 => ⟨_, rfl, iteN (fun h => ?_) (fun h => ?_)⟩⟩⟩
   ·exact ⟨sz1, kN (by rw [h]; rfl) H1 s1⟩
   rw [h, Bool.true_and] at kY kN
   refine ⟨_, rfl, a, _, rfl, .inl (SqL.of (s1 _ _ e)), _, rfl, _, _, rfl, rfl, _, rfl, iteB (fun h2 => ?_) (fun h2 => ?_)⟩
   ·exact ⟨sz1, kN (decide_eq_false (by have := of_decide_eq_true h2; omega)) H1 s1⟩
   ·exact kY (decide_eq_true (by have := of_decide_eq_false h2; omega)) H1 s1
theorem sc_recoloured : FnScope ["picture", "numbers"] ["picture", "numbers"] (defScope s_recoloured) := ⟨rfl, rfl, rfl, by decide +kernel, rfl, by decide +kernel, by decide +kernel⟩
theorem ok_recoloured {f : Addr} {fd : FuncData} (F : FunD K "recoloured" "recoloured" s_recoloured .none f fd) (T : Txt K mg cFE cC cN cM cP cL cB cD cZ tP tS tC tI) (g_need_picture : DefX P w K mg base 7 "need_picture" ["picture"] [] (spNeed K cB)) (g_need_cells : DefX P w K mg base 6 "need_cells" ["cells", "most"] [] (spNeedCs K cD)) (g_need_cells_below : DefX P w K mg base 9 "need_cells_below" ["picture", "many"] [] (spBelow K cB cN)) : FnOk P w K mg base (CX1 P w) 10 f fd ["picture", "numbers"] (spRec K cB cD cN) := by
 refine F.okX sc_recoloured (fun vs H Q E h => ?_) (fun cdv A outer s H vs Q E hr h => ?_)
 ·obtain ⟨x, y, rfl, _⟩ := h; rfl
 ·obtain ⟨x, y, rfl, h⟩ := h
  refine ⟨_, (pss_cons (ps_expr (pe_callX g_need_picture (hr.mono (by decide)) passes1R rfl (pa_cons (pv 0) pa_nil)))
    (pss_cons (ps_expr (pe_callX g_need_cells (hr.mono (by decide)) passes1R rfl (pa_cons (pv 1) (pa_cons (pe_glob (v := .int 16) rfl T.MOST_COLOURS ⟨_, rfl⟩) pa_nil))))
    (pss_cons (ps_expr (pe_callX g_need_cells_below (hr.mono (by decide)) passes1R rfl (pa_cons (pv 0) (pa_cons (pe_callB (lenK K rfl) rfl T.len PySem.boot_len (pa_cons (pv 1) pa_nil)) pa_nil))))
    (pss_one (ps_ret (pe_comp (N := ["row", "numbers"]) (src := [none, some 1]) rfl ⟨rfl, rfl, rfl, rfl, rfl, by decide +kernel⟩ (piK K rfl (pv 0)) (fun s H C fp => pg_name (i := 0) (show (["row", "numbers"] : List Str).Nodup by decide +kernel) rfl (.inl rfl)) (fun s H C fp => pts_nil) (fun s H C fp => (pe_comp (N := ["cell", "numbers"]) (src := [none, some 1]) rfl ⟨rfl, rfl, rfl, rfl, rfl, by decide +kernel⟩ (piK K rfl (pv 0)) (fun s H C fp => pg_name (i := 0) (show (["cell", "numbers"] : List Str).Nodup by decide +kernel) rfl (.inl rfl)) (fun s H C fp => pts_nil) (fun s H C fp => (pe_ix (ixK K rfl) (pv 1) (pv 0) (fun _ _ => rfl))))))))))), ?_⟩
  rcases h with ⟨bad, k⟩ | ⟨a, ps, rows, wd, rfl, pic, gd, h⟩
  ·exact ⟨_, rfl, x, rfl, bad.th, fun z => (by rw [bad.no] at z; cases z), fun _ => k⟩
  refine ⟨_, rfl, _, rfl, (th_good pic gd).1, fun _ H1 s1 => ?_, fun z => (no_bad pic gd z).elim⟩
  have pic1 := pic.mono s1
  rcases h with ⟨ty, by_, k⟩ | ⟨l, ns, rfl, el, hl, hc, kY, kN⟩
  ·exact ⟨_, rfl, y, 16, rfl, ty.mono s1, fun z => (by rw [cellsB_mono ty s1, by_] at z; cases z), fun _ H2 s2 => k H2 (s1.trans s2)⟩
  have el1 := s1 _ _ el
  have tc : TCs K H1 (.ref l) := ⟨.lst el1, fun xs e => (by rw [rowOf_lst el1] at e; cases e; rw [List.length_map]; omega), fun xs e x hx => (by rw [rowOf_lst el1] at e; cases e; exact kd_ints x hx)⟩
  have cb : cellsB H1 (.ref l) 16 = true := by
   unfold cellsB; rw [rowOf_lst el1]; dsimp only
   rw [wh_cells hc, Bool.true_and, List.length_map]; exact decide_eq_true (by omega)
  refine ⟨_, rfl, _, 16, rfl, tc, fun _ H2 s2 => ?_, fun z => (by rw [cb] at z; cases z)⟩
  have s12 := s1.trans s2
  have el2 := s2 _ _ el1
  refine ⟨_, rfl, _, rfl, l, _, rfl, .inl (SqL.of el2), _, _, rfl, .inl ⟨a, ps, rows, wd, rfl, pic1.mono s2, gd, fun hm H3 s3 => ?_, fun hm H3 s3 => kN (by rw [List.length_map] at hm; exact hm) H3 (s12.trans s3)⟩⟩
  rw [List.length_map] at hm
  have s13 := s12.trans s3
  have pic3 := pic.mono s13
  refine ⟨_, rfl, a, rfl, ⟨_, SqL.of pic3.top⟩, fun D hD => ?_⟩
  refine comp_rows (k := 0) (fun x => ((rowOf H3 x).getD []).map fun v => match v with | .int c => .int (ns.getD c.toNat 0) | _ => .non) (src_list (SqL.of pic3.top)) (by rw [List.length_map, pic3.len, ir_len]; exact Nat.le_trans gd.le (by decide)) hD (fun x hx H' Q' sm kk => ?_) fun qs H4 s4 fq pv => ?_
  ·obtain ⟨q, hq, rfl⟩ := List.mem_map.mp hx
   obtain ⟨rs, eq, hl', hcs, hmem⟩ := gd.mem2 pic3 hq
   rw [rowOf_lst eq] at kk
   refine ⟨_, rfl, q, rfl, ⟨_, SqL.of (sm _ _ eq)⟩, fun D2 hD2 => ?_⟩
   refine comp_fm (k := 0) (fun v => match v with | .int c => .int (ns.getD c.toNat 0) | _ => .non) (fun _ => true) (src_list (SqL.of (sm _ _ eq))) (by rw [List.length_map, hl']; exact Nat.le_trans gd.w24 (by decide)) hD2 (fun x _ H' Qb _ kk => kk H' (Same.refl _)) (fun x hx _ H5 Q5 s5 kk5 => ?_) fun H5 s5 e5 => ?_
   ·obtain ⟨c, hc', rfl⟩ := List.mem_map.mp hx
    have c0 := (hcs c hc').1
    have cm : c ≤ maxI rows.flatten := le_maxI gd.fne c (List.mem_flatten.mpr ⟨rs, hmem, hc'⟩)
    have hlt : c.toNat < ns.length := by omega
    have e5 := s5 _ _ (sm _ _ (s13 _ _ el))
    refine ⟨_, rfl, _, rfl, l, _, _, _, rfl, rfl, SqL.of e5, ?_, kk5 H5 (Same.refl _)⟩
    have := atI_nat (xs := ns.map V.int) (j := c.toNat) (v := .int (ns.getD c.toNat 0)) (by rw [List.getElem?_map, List.getD_eq_getElem?_getD, List.getElem?_eq_getElem hlt]; rfl)
    rw [Int.toNat_of_nonneg c0] at this
    exact this
   ·refine kk D2 H5 s5 hD2 ?_
    rw [e5, filter_t]; rfl
  ·refine kY hm D qs H4 (s13.trans s4) (s13.free hD) (fun q hq => s13.free (fq q hq)) ?_
   have key : ∀ (qs : List Addr) (R : List (List Int)), Paired (fun p r => H3 p = some (.lst r)) qs (ir R) → (qs.map V.ref).map (fun x => ((rowOf H3 x).getD []).map fun v => match v with | .int c => .int (ns.getD c.toNat 0) | _ => .non) = ir (recR ns R) := by
    intro qs
    induction qs with
    | nil => intro R h; cases R with
     | nil => rfl
     | cons r R => cases h
    | cons q qs ih =>
     intro R h
     cases R with
     | nil => cases h
     | cons r R =>
      cases h with
      | cons e1 h2 =>
       rw [List.map_cons, List.map_cons, ih R h2, rowOf_lst e1]
       show List.map _ (r.map V.int) :: _ = ((r.map fun c => ns.getD c.toNat 0).map V.int) :: ir (recR ns R)
       rw [List.map_map, List.map_map]; rfl
   rw [← key ps rows pic3.row]; exact pv
theorem sc_poured_palettes : FnScope ["one", "other", "poured", "numbers"] ["one", "other"] (defScope s_poured_palettes) := ⟨rfl, rfl, rfl, by decide +kernel, rfl, by decide +kernel, by decide +kernel⟩
theorem ok_poured_palettes {f : Addr} {fd : FuncData} (F : FunD K "poured_palettes" "poured_palettes" s_poured_palettes .none f fd) (T : Txt K mg cFE cC cN cM cP cL cB cD cZ tP tS tC tI) (g_Palette : MakX P w K mg base cL 5 "Palette" ["self", "colours"] (spInit K cP cL)) (g_m_colours : MetD P w K mg base cL 1 "colours" ["self"] (spCols cL)) (g_m_add_colour : MetX P w K mg base cL 6 "add_colour" ["self", "colour"] (spAdd K cC cM cL)) : FnOk P w K mg base (CX1 P w) 8 f fd ["one", "other"] (spPour cM cL) := by
 refine F.okX sc_poured_palettes (fun vs H Q E h => ?_) (fun cdv A outer s H vs Q E hr h => ?_)
 ·obtain ⟨p1, l1, p2, l2, c1, c2, rfl, _⟩ := h; rfl
 ·obtain ⟨p1, l1, p2, l2, c1, c2, rfl, pq1, pq2, h1, h16, nd, hc2, kY, kN⟩ := h
  obtain ⟨⟨dx1, hp1⟩, cv1⟩ := id pq1
  refine ⟨_, (pss_cons (ps_set (i := 2) sc_poured_palettes.nd rfl (by first | exact Or.inl rfl | exact Or.inr rfl) (pe_makX g_Palette (hr.mono (by decide)) passes1R rfl (pa_cons (pe_metD0 (pv 0) T.cl g_m_colours (hr.mono (by decide))) pa_nil)))
    (pss_cons (ps_setCX (ix := 3) (N := ["colour", "poured"]) (src := [none, some 2]) sc_poured_palettes.nd rfl rfl passesE1 ⟨_, _, _, rfl, rfl, rfl⟩ rfl ⟨rfl, rfl, rfl, rfl, rfl, by decide +kernel⟩ (piK K rfl (pe_metD0 (pv 1) T.cl g_m_colours (hr.mono (by decide)))) (fun s H C fp XE hE1 => pg_name (i := 0) (show (["colour", "poured"] : List Str).Nodup by decide +kernel) rfl (by first | exact Or.inl rfl | exact Or.inr rfl)) (fun s H C fp XE hE1 => pts_nil) (fun s H C fp XE hE1 => (pe_metX (pv 1) T.cl g_m_add_colour (hr.mono (by decide)) hE1.R (pa_cons (pv 0) pa_nil))))
    (pss_one (ps_ret (pe_tup (pa_cons (pv 2) (pa_cons (pv 3) pa_nil))))))), ?_⟩
  refine ⟨_, rfl, p1, dx1, _, rfl, hp1, lk_kept (by decide +kernel), p1, l1, c1, rfl, pq1, fun q hq => ?_⟩
  have z1 := same_new (o := HO.lst (c1.map fun c => V.ref c.1)) hq
  have vq : ColsV (upd H q (.lst (c1.map fun c => V.ref c.1))) q c1 := ⟨upd_same, fun c hc => (cv1.2 c hc).mono z1⟩
  generalize upd H q (.lst (c1.map fun c => V.ref c.1)) = H1 at z1 vq ⊢
  intro p3 dx3 np3 ndx3 ne3
  have x1 : Same H1 (upd (upd H1 dx3 (.own p3)) p3 (.ins cL dx3 [])) := fun b q e => by rw [upd_ne (ne_of_none e np3), upd_ne (ne_of_none e ndx3)]; exact e
  refine ⟨p3, dx3, _, rfl, upd_same, (vq.mono x1).tm (by omega), fun a' d' ea cv' _ _ _ l3 H2 hl3 kp3 pq3 => ⟨rfl, ?_⟩, fun ng => (ng ⟨q, c1, rfl, vq.mono x1, h1, h16, nd⟩).elim⟩
  cases ea
  cases (vq.mono x1).inj cv'
  have s12 : Same H1 H2 := fun b q e => kp3 b q (x1 b q e) (ne_of_none e np3)
  have sH2 := z1.trans s12
  have fl3 : H1 l3 = none := x1.free hl3
  have pq2' := pq2.mono sH2
  obtain ⟨⟨dx2, hp2⟩, cv2⟩ := id pq2'
  refine ⟨_, rfl, p2, dx2, _, rfl, hp2, lk_kept (by decide +kernel), p2, l2, c2, rfl, pq2', fun r hr => ?_⟩
  have z3 := same_new (o := HO.lst (c2.map fun c => V.ref c.1)) hr
  have er : upd H2 r (.lst (c2.map fun c => V.ref c.1)) r = some (.lst (c2.map fun c => V.ref c.1)) := upd_same
  generalize upd H2 r (.lst (c2.map fun c => V.ref c.1)) = H3 at z3 er ⊢
  have pq33 := pq3.mono z3
  have nrl : r ≠ l3 := (ne_of_none pq3.2.1 hr).symm
  have sH3 := sH2.trans z3
  refine ⟨r, rfl, ⟨_, SqL.of er⟩, fun D hD => ?_⟩
  have nDl : D ≠ l3 := (ne_of_none pq33.2.1 hD).symm
  have nDr : D ≠ r := (ne_of_none er hD).symm
  have fD : H D = none := sH3.free hD
  have fl3H : H l3 = none := z1.free fl3
  have lc2 : (c2.map fun c => V.ref c.1).length = c2.length := List.length_map _
  refine comp_st (K := K) (a := r) (L := c2.map fun c => V.ref c.1) (k := 0) (fun i H' => Same H H' ∧ H' r = some (.lst (c2.map fun c => V.ref c.1)) ∧ PalV cL H' p3 l3 (pourC c1 (c2.take i)) ∧ (pourC c1 (c2.take i)).length ≤ 16 ∧ H' D = some (.lst ((c2.take i).map fun d => V.int (idx (pourC c1 c2) d : Int))))
   ⟨same_upd sH3 fD, by rw [upd_ne nDr.symm]; exact er, pq33.mono (same_new hD), h16, upd_same⟩ (fun i H' q => SqL.of q.2.1) (fun i x H' hx q => ?_) (fun H' q => ?_)
  ·obtain ⟨sm, er', pal, l16, eD⟩ := q
   rw [List.getElem?_map] at hx
   cases hd : c2[i]? with
   | none => rw [hd] at hx; cases hx
   | some d =>
    rw [hd] at hx
    cases hx
    have md := List.mem_of_getElem? hd
    have cd := (pq2.2.2 d md).mono sm
    have hil : i < c2.length := (List.getElem?_eq_some_iff.mp hd).1
    have tk : c2.take (i + 1) = c2.take i ++ [d] := by rw [List.take_add_one, hd]; rfl
    have pk : pourC c1 (c2.take (i + 1)) = addC (pourC c1 (c2.take i)) d := by rw [tk, pour_snoc]
    obtain ⟨ex, eex⟩ := pour_take c1 c2 (i + 1)
    rw [pk] at eex
    have lD : ((c2.take i).map fun d => V.int (idx (pourC c1 c2) d : Int)).length < sizeLine := Nat.lt_of_lt_of_le (by rw [List.length_map, List.length_take]; omega : _ < 5000) (by decide)
    obtain ⟨⟨dx, hp⟩, cva⟩ := id pal
    refine ⟨_, rfl, p3, dx, _, rfl, hp, lk_kept (by decide +kernel), _, rfl, p3, l3, _, _, rfl, pal, l16, cd.tc, fun a' r' g' b' e c' => ?_, fun hb => (by rw [cd.yes] at hb; cases hb)⟩
    cases e
    obtain ⟨rfl, rfl, rfl⟩ := cd.inj c'
    refine ⟨fun j hj H5 s5 => ?_, fun hn h16' H5 s5 => kN ?_ H5 (sm.trans s5), fun hn hlt H5 k5 e5 => ?_⟩
    ·have ea : addC (pourC c1 (c2.take i)) d = pourC c1 (c2.take i) := by unfold addC; rw [hj]; rfl
     rw [ea] at eex pk
     have ei : idx (pourC c1 c2) d = j := by unfold idx; rw [eex, find_pre hj]; rfl
     refine ⟨_, s5 _ _ eD, lD, same_upd (sm.trans s5) fD, by rw [upd_ne nDr.symm]; exact s5 _ _ er', ?_, by rw [pk]; exact l16, ?_⟩
     ·rw [pk]
      have fo : Fr0 D H5 (upd H5 D (.lst (((c2.take i).map fun d => V.int (idx (pourC c1 c2) d : Int)) ++ [.int (j : Int)]))) := fun b o hb hne => by rw [upd_ne hne]; exact hb
      exact fo.pal (s5 _ _ eD) (pal.mono s5) nDl.symm
     ·rw [upd_same, tk, List.map_append, ← ei]; rfl
    ·have ea : addC (pourC c1 (c2.take i)) d = pourC c1 (c2.take i) ++ [d] := by unfold addC; rw [hn]; rfl
     rw [eex, ea, List.length_append, List.length_append]
     show 16 < (pourC c1 (c2.take i)).length + 1 + ex.length
     omega
    ·have ea : addC (pourC c1 (c2.take i)) d = pourC c1 (c2.take i) ++ [d] := by unfold addC; rw [hn]; rfl
     rw [ea] at eex pk
     have ei : idx (pourC c1 c2) d = (pourC c1 (c2.take i)).length := by unfold idx; rw [eex, find_pre (find_new hn)]; rfl
     have s5 : Same H H5 := fun b o hb => k5 b o (sm b o hb) (ne_of_none hb fl3H)
     have eD5 := k5 _ _ eD nDl
     have f5 : Fr0 l3 H' H5 := k5
     have cd5 := f5.col pal.2.1 cd
     have pal5 : PalV cL H5 p3 l3 (pourC c1 (c2.take i) ++ [d]) := ⟨⟨dx, f5.oth pal.2.1 hp (fun ys z => by cases z)⟩, ColsV.snoc e5 (fun x hx => f5.col pal.2.1 (cva.2 x hx)) cd5⟩
     refine ⟨_, eD5, lD, same_upd s5 fD, by rw [upd_ne nDr.symm]; exact k5 _ _ er' nrl, ?_, by rw [pk, List.length_append]; show _ + 1 ≤ 16; omega, ?_⟩
     ·rw [pk]
      have fo : Fr0 D H5 (upd H5 D (.lst (((c2.take i).map fun d => V.int (idx (pourC c1 c2) d : Int)) ++ [.int ((pourC c1 (c2.take i)).length : Int)]))) := fun b o hb hne => by rw [upd_ne hne]; exact hb
      exact fo.pal eD5 pal5 nDl.symm
     ·rw [upd_same, tk, List.map_append, ← ei]; rfl
  ·obtain ⟨sm, er', pal, l16, eD⟩ := q
   rw [lc2, List.take_length] at pal l16 eD
   refine ⟨_, rfl, _, rfl, sz2, fun t ht => ?_⟩
   have zt := same_new (o := HO.tup [V.ref p3, .ref D]) ht
   exact kY l16 t p3 l3 D _ (sm.trans zt) (sm.free ht) (z1.free np3) fl3H fD nDl (pal.mono zt) (zt _ _ eD) upd_same
end
theorem eq_self {K : W.Frag} {H : Hp} {xs : List V} (hf : ∀ x ∈ xs, (∃ a, x = .ref a) ∨ flatV x = true) (i : Nat) (x y : V) (hx : xs[i]? = some x) (hy : xs[i]? = some y) : EqD K H 0 x y true := by
 rw [hx] at hy; cases hy
 rcases hf x (List.mem_of_getElem? hx) with ⟨a, rfl⟩ | h
 ·exact .inl ⟨a, rfl, rfl, rfl⟩
 ·exact .inr ⟨h, h, by cases x <;> simp_all [eqV, flatV]⟩
theorem eq_tups {K : W.Frag} {H : Hp} {t u : Addr} {xs : List V} (e1 : H t = some (.tup xs)) (e2 : H u = some (.tup xs)) (hf : ∀ x ∈ xs, (∃ a, x = .ref a) ∨ flatV x = true) : EqL K H (EqD K H 0) t u true :=
 ⟨_, _, .inr ⟨.inr ⟨SqT.of e1, SqT.of e2⟩, rfl, fun _ => true, fun i x y hx hy => eq_self hf i x y hx hy, by simp⟩⟩
theorem eq_lsts {K : W.Frag} {H : Hp} {t u : Addr} {xs : List V} (e1 : H t = some (.lst xs)) (e2 : H u = some (.lst xs)) (hf : ∀ x ∈ xs, (∃ a, x = .ref a) ∨ flatV x = true) : EqL K H (EqD K H 0) t u true :=
 ⟨_, _, .inr ⟨.inl ⟨SqL.of e1, SqL.of e2⟩, rfl, fun _ => true, fun i x y hx hy => eq_self hf i x y hx hy, by simp⟩⟩
theorem refs_flat {cs : List (Addr × Nat × Nat × Nat)} : ∀ x ∈ (cs.map fun c => V.ref c.1), (∃ a, x = .ref a) ∨ flatV x = true := fun x hx => by
 obtain ⟨c, _, rfl⟩ := List.mem_map.mp hx
 exact .inl ⟨_, rfl⟩
noncomputable def spSize : Sp := fun vs H Q _ => ∃ n : Nat, vs = [.int (n : Int)] ∧ ∀ (t : Addr) (w h : Nat) H', Same H H' → H t = none → H' t = some (.tup [.int (w : Int), .int (h : Int)]) → 1 ≤ w → w ≤ 24 → 1 ≤ h → h ≤ 24 → Q (.ref t) H'
noncomputable def spLPic (K : W.Frag) : Sp := fun vs H Q _ => ∃ (a : Addr) (ns : List Int) (k m : Nat), vs = [.ref a, .int (k : Int), .int (m : Int)] ∧ SqL K H a (ns.map V.int) ∧ k ≤ 100 ∧ 1 ≤ m ∧ m ≤ 16 ∧ ∀ p ps rows wd H', Same H H' → H p = none → Fresh H ps → PicV H' p ps (ir rows) → Good rows wd → (∀ r ∈ rows, ∀ c ∈ r, c < (m : Int)) → Q (.ref p) H'
noncomputable def spCop : Sp := fun vs H Q _ => ∃ (a : Addr) (ps : List Addr) (R : List (List V)), vs = [.ref a] ∧ PicV H a ps R ∧ R.length ≤ 1000 ∧ ∀ q qs H', Same H H' → H q = none → Fresh H qs → PicV H' q qs R → Q (.ref q) H'
noncomputable def RowsEq (K : W.Frag) (H : Hp) (R S : List (List V)) : Prop := R.length = S.length ∧ ∀ (i : Nat) r s, R[i]? = some r → S[i]? = some s → r.length = s.length ∧ ∀ (j : Nat) x y, r[j]? = some x → s[j]? = some y → EqD K H 1 x y true
noncomputable def spRG (K : W.Frag) : Sp := fun vs H Q _ => ∃ (f d : Addr) (ps qs : List Addr) (R S : List (List V)), vs = [.ref f, .ref d] ∧ PicV H f ps R ∧ PicV H d qs S ∧ R.length ≤ 1000 ∧ RowsEq K H R S ∧ ∀ H', Same H H' → Q (.bl true) H'
noncomputable def spOwn : Sp := fun vs H Q _ => ∃ (f d : Addr) (ps qs : List Addr) (R : List (List Int)), vs = [.ref f, .ref d] ∧ PicV H f ps (ir R) ∧ PicV H d qs (ir R) ∧ (∀ p ∈ ps, p ∉ d :: qs) ∧ R.length ≤ 1000 ∧ (∀ r ∈ R, r.length ≤ 1000) ∧ ∀ H', (∀ b o, H b = some o → b ∉ ps → H' b = some o) → Q (.bl true) H'
theorem eqD_up {K : W.Frag} {H : Hp} {n : Nat} {x y : V} {b : Bool} (h : EqD K H n x y b) : EqD K H (n + 1) x y b := .inl h
theorem eq_pics {K : W.Frag} {H : Hp} {f d : Addr} {ps qs : List Addr} {R S : List (List V)} (pf : PicV H f ps R) (pd : PicV H d qs S) (e : RowsEq K H R S) : EqL K H (EqD K H 2) f d true := by
 have l1 := pf.len
 have l2 := pd.len
 have l3 := e.1
 refine ⟨_, _, .inr ⟨.inl ⟨SqL.of pf.top, SqL.of pd.top⟩, by rw [List.length_map, List.length_map]; omega, fun _ => true, fun i x y hx hy => ?_, by simp⟩⟩
 obtain ⟨p, hp, rfl⟩ := getElem?_ref hx
 obtain ⟨q, hq, rfl⟩ := getElem?_ref hy
 obtain ⟨r, hr, er⟩ := pf.at hp
 obtain ⟨s, hs, es⟩ := pd.at hq
 obtain ⟨hl, hh⟩ := e.2 i r s hr hs
 by_cases hpq : p = q
 ·subst hpq
  exact .inl (.inl (.inl ⟨p, rfl, rfl, rfl⟩))
 ·exact .inr ⟨p, q, rfl, rfl, hpq, _, _, .inr ⟨.inl ⟨SqL.of er, SqL.of es⟩, hl, fun _ => true, fun j x y hx hy => hh j x y hx hy, by simp⟩⟩
theorem rows_self {K : W.Frag} {H : Hp} {R : List (List V)} (hf : ∀ r ∈ R, ∀ x ∈ r, (∃ a, x = .ref a) ∨ flatV x = true) : RowsEq K H R R := ⟨rfl, fun i r s hr hs => by
 rw [hr] at hs; cases hs
 exact ⟨rfl, fun j x y hx hy => eqD_up (eq_self (hf r (List.mem_of_getElem? hr)) j x y hx hy)⟩⟩
theorem eqL_mono {K : W.Frag} {H H' : Hp} {rec rec' : V → V → Bool → Prop} {p q : Addr} {b : Bool} (hr : ∀ x y b, rec x y b → rec' x y b) (e : EqL K H rec p q b) (s : Same H H') : EqL K H' rec' p q b := by
 obtain ⟨xs, ys, h⟩ := e
 refine ⟨xs, ys, ?_⟩
 rcases h with ⟨a, b', c, d⟩ | ⟨a, c, f, d, g⟩
 ·exact .inl ⟨s.seq a, s.seq b', c, d⟩
 ·refine .inr ⟨?_, c, f, fun i x y hx hy => hr _ _ _ (d i x y hx hy), g⟩
  rcases a with ⟨a, b'⟩ | ⟨a, b'⟩
  ·exact .inl ⟨s.seq a, s.seq b'⟩
  ·exact .inr ⟨s.seqT a, s.seqT b'⟩
theorem eqD_mono {K : W.Frag} {H H' : Hp} : ∀ {n : Nat} {x y : V} {b : Bool}, EqD K H n x y b → Same H H' → EqD K H' n x y b
 | 0, _, _, _, h, _ => h
 | n + 1, _, _, _, .inl h, s => .inl (eqD_mono h s)
 | n + 1, _, _, _, .inr ⟨p, q, e1, e2, ne, e⟩, s => .inr ⟨p, q, e1, e2, ne, eqL_mono (fun _ _ _ h => eqD_mono h s) e s⟩
theorem ir_flat {R : List (List Int)} : ∀ r ∈ ir R, ∀ x ∈ r, (∃ a, x = .ref a) ∨ flatV x = true := fun r hr x hx => by
 obtain ⟨ns, _, rfl⟩ := List.mem_map.mp hr
 obtain ⟨n, _, rfl⟩ := List.mem_map.mp hx
 exact .inr rfl
theorem map_pair {H1 : Hp} {g : V → List V} {φ : List V → List V} (hg : ∀ q r, H1 q = some (.lst r) → g (.ref q) = φ r) : ∀ (qs : List Addr) (R : List (List V)), Paired (fun p r => H1 p = some (.lst r)) qs R → (qs.map V.ref).map g = R.map φ
 | [], [], _ => rfl
 | [], _ :: _, h => nomatch h
 | _ :: _, [], h => nomatch h
 | q :: qs, r :: R, h => by
  cases h with
  | cons e1 h2 => rw [List.map_cons, List.map_cons, List.map_cons, map_pair hg qs R h2, hg q r e1]
section
variable {P : Program} {w : World} {K : W.Frag} {mg : Str → Option Value} {base : Heap} {cFE cC cN cM cP cL cB cD cZ : Addr} {tP tS tC tI : Tok}
theorem sc_law_size : FnScope ["_law_number"] ["_law_number"] (defScope s_law_size) := ⟨rfl, rfl, rfl, by decide +kernel, rfl, by decide +kernel, by decide +kernel⟩
theorem ok_law_size {f : Addr} {fd : FuncData} (F : FunD K "_law_size" "_law_size" s_law_size .none f fd) (T : Txt K mg cFE cC cN cM cP cL cB cD cZ tP tS tC tI) : FnOk P w K mg base CX0 1 f fd ["_law_number"] (spSize) := by
 refine F.ok sc_law_size (fun vs H Q E h => ?_) (fun cdv A outer s H vs Q E hr h => ?_)
 ·obtain ⟨n, rfl, _⟩ := h; rfl
 ·obtain ⟨n, rfl, k⟩ := h
  refine ⟨_, (pss_cons (ps_if (pt_cmpR op_eq (pe_op op_mod (pe_op op_fdiv (pv 0) pe_int) pe_int) pe_int (nomark _)) (pss_one (ps_ret (pe_tup (pa_cons (pe_op op_add pe_int (pe_op op_mod (pe_op op_fdiv (pv 0) pe_int) pe_int)) (pa_cons (pe_op op_add pe_int (pe_op op_mod (pv 0) pe_int)) pa_nil))))) pss_nil)
    (pss_cons (ps_if (pt_cmpR op_eq (pe_op op_mod (pe_op op_fdiv (pv 0) pe_int) pe_int) pe_int (nomark _)) (pss_one (ps_ret (pe_tup (pa_cons (pe_op op_add pe_int (pe_op op_mod (pv 0) pe_int)) (pa_cons (pe_op op_add pe_int (pe_op op_mod (pe_op op_fdiv (pv 0) pe_int) pe_int)) pa_nil))))) pss_nil)
    (pss_one (ps_ret (pe_tup (pa_cons (pe_op op_add pe_int (pe_op op_mod (pv 0) pe_int)) (pa_cons (pe_op op_add pe_int (pe_op op_mod (pe_op op_fdiv (pv 0) pe_int) pe_int)) pa_nil))))))), ?_⟩
  have fin : ∀ (x y : Int) (w h : Nat), x = (w : Int) → y = (h : Int) → 1 ≤ w → w ≤ 24 → 1 ≤ h → h ≤ 24 → ∀ t, H t = none → Q (.ref t) (upd H t (.tup [.int x, .int y])) := fun x y w h e1 e2 a b c d t ht => by
   subst e1; subst e2
   exact k t w h _ (same_new ht) ht upd_same a b c d
  refine ⟨_, rfl, _, _, rfl, rfl, ⟨by decide, by decide⟩, _, _, rfl, rfl, (by show (0 : Int) < 8; decide), rfl, _, rfl, ite2 (fun _ => ?_) (fun _ => ?_)⟩
  ·exact ⟨_, rfl, _, _, rfl, rfl, ⟨by decide, by decide⟩, _, _, rfl, rfl, (by show (0 : Int) < 24; decide), _, _, rfl, rfl, _, rfl, _, _, rfl, rfl, (by show (0 : Int) < 2; decide), _, _, rfl, rfl, sz2, fin _ _ (1 + n / 288 % 24) (1 + n % 2) (by omega) (by omega) (by omega) (by omega) (by omega) (by omega)⟩
  refine ⟨_, rfl, _, _, rfl, rfl, ⟨by decide, by decide⟩, _, _, rfl, rfl, (by show (0 : Int) < 8; decide), rfl, _, rfl, ite2 (fun _ => ?_) (fun _ => ?_)⟩
  ·exact ⟨_, rfl, _, _, rfl, rfl, (by show (0 : Int) < 2; decide), _, _, rfl, rfl, _, rfl, _, _, rfl, rfl, ⟨by decide, by decide⟩, _, _, rfl, rfl, (by show (0 : Int) < 24; decide), _, _, rfl, rfl, sz2, fin _ _ (1 + n % 2) (1 + n / 288 % 24) (by omega) (by omega) (by omega) (by omega) (by omega) (by omega)⟩
  ·exact ⟨_, rfl, _, _, rfl, rfl, (by show (0 : Int) < 6; decide), _, _, rfl, rfl, _, rfl, _, _, rfl, rfl, ⟨by decide, by decide⟩, _, _, rfl, rfl, (by show (0 : Int) < 6; decide), _, _, rfl, rfl, sz2, fin _ _ (1 + n % 6) (1 + n / 6 % 6) (by omega) (by omega) (by omega) (by omega) (by omega) (by omega)⟩
theorem sc_law_copied : FnScope ["_law_rows"] ["_law_rows"] (defScope s_law_copied) := ⟨rfl, rfl, rfl, by decide +kernel, rfl, by decide +kernel, by decide +kernel⟩
theorem ok_law_copied {f : Addr} {fd : FuncData} (F : FunD K "_law_copied" "_law_copied" s_law_copied .none f fd) (T : Txt K mg cFE cC cN cM cP cL cB cD cZ tP tS tC tI) : FnOk P w K mg base CX0 1 f fd ["_law_rows"] (spCop) := by
 refine F.ok sc_law_copied (fun vs H Q E h => ?_) (fun cdv A outer s H vs Q E hr h => ?_)
 ·obtain ⟨a, ps, R, rfl, _⟩ := h; rfl
 ·obtain ⟨a, ps, R, rfl, pic, hl, k⟩ := h
  refine ⟨_, (pss_one (ps_ret (pe_comp (N := ["_law_row"]) (src := [none]) rfl ⟨rfl, rfl, rfl, rfl, rfl, by decide +kernel⟩ (piK K rfl (pv 0)) (fun s H C fp => pg_name (i := 0) (show (["_law_row"] : List Str).Nodup by decide +kernel) rfl (.inl rfl)) (fun s H C fp => pts_nil) (fun s H C fp => (pe_callTy (listK K rfl) rfl T.list PyProof.Rows.boot_list (pa_cons (pv 0) pa_nil)))))), ?_⟩
  refine ⟨_, rfl, a, rfl, ⟨_, SqL.of pic.top⟩, fun D hD => ?_⟩
  refine comp_rows (k := 0) (fun x => (rowOf H x).getD []) (src_list (SqL.of pic.top)) (by rw [List.length_map, pic.len]; exact Nat.le_trans hl (by decide)) hD (fun x hx H' Q' sm kk => ?_) fun qs H2 s2 fq pv => ?_
  ·obtain ⟨q, hq, rfl⟩ := List.mem_map.mp hx
   obtain ⟨r, _, er⟩ := pic.mem hq
   rw [rowOf_lst er] at kk
   exact ⟨_, rfl, q, _, rfl, .inl (SqL.of (sm _ _ er)), fun l hl => kk l _ (same_new hl) hl upd_same⟩
  ·rw [map_pair (φ := id) (fun q r e => by rw [rowOf_lst e]; rfl) ps R pic.row, List.map_id] at pv
   exact k D qs H2 s2 hD fq pv
theorem sc_law_rows_good : FnScope ["_law_found", "_law_due"] ["_law_found", "_law_due"] (defScope s_law_rows_good) := ⟨rfl, rfl, rfl, by decide +kernel, rfl, by decide +kernel, by decide +kernel⟩
theorem ok_law_rows_good {f : Addr} {fd : FuncData} (F : FunD K "_law_rows_good" "_law_rows_good" s_law_rows_good .none f fd) (T : Txt K mg cFE cC cN cM cP cL cB cD cZ tP tS tC tI) : FnOk P w K mg base CX0 1 f fd ["_law_found", "_law_due"] (spRG K) := by
 refine F.ok sc_law_rows_good (fun vs H Q E h => ?_) (fun cdv A outer s H vs Q E hr h => ?_)
 ·obtain ⟨f, d, ps, qs, R, S, rfl, _⟩ := h; rfl
 ·obtain ⟨f, d, ps, qs, R, S, rfl, pf, pd, hl, e, k⟩ := h
  have hu : _ + 64 < cLine := hr.units
  refine ⟨_, (pss_cons (ps_if (PW.pt (pw_or (pt_not (pt_val (isiK K rfl (pv 0) rfl T.isinstance rfl T.list PyProof.Rows.boot_list))) (pw_or1 (pt_not (pt_val (pe_callB (allK K rfl rfl) rfl T.all PyProof.Rows.boot_all (pa_cons (pe_comp (N := ["_law_row"]) (src := [none]) rfl ⟨rfl, rfl, rfl, rfl, rfl, by decide +kernel⟩ (piK K rfl (pv 0)) (fun s H C fp => pg_name (i := 0) (show (["_law_row"] : List Str).Nodup by decide +kernel) rfl (.inl rfl)) (fun s H C fp => pts_nil) (fun s H C fp => (isiK K rfl (pv 0) rfl T.isinstance rfl T.list PyProof.Rows.boot_list))) pa_nil))))))) (pss_one (ps_ret pe_bl)) pss_nil)
    (pss_one (ps_ret (pe_cmpR (eqDK K rfl hu) (pv 0) (pv 1) (nomark _))))), ?_⟩
  refine ⟨_, rfl, true, isList_lst pf.top, _, rfl, ?_⟩
  refine ⟨_, rfl, f, rfl, ⟨_, SqL.of pf.top⟩, fun D hD => ?_⟩
  refine comp_fm (k := 0) (fun _ => .bl true) (fun _ => true) (src_list (SqL.of pf.top)) (by rw [List.length_map, pf.len]; exact Nat.le_trans hl (by decide)) hD (fun x _ H' Qb _ kk => kk H' (Same.refl _)) (fun x hx _ H' Q' sm kk => ?_) fun H2 s2 hD2 => ?_
  ·obtain ⟨q, hq, rfl⟩ := List.mem_map.mp hx
   obtain ⟨r, _, er⟩ := pf.mem hq
   exact ⟨_, rfl, true, isList_lst (sm _ _ er), kk H' (Same.refl _)⟩
  have eD : H2 D = some (.lst (((ps.map V.ref).map fun _ => true).map V.bl)) := by rw [hD2, filter_t]; simp only [List.map_map]; rfl
  refine ⟨D, _, rfl, SqL.of eD, ?_⟩
  rw [all_rep]
  refine ⟨_, rfl, ?_⟩
  have e2 : RowsEq K H2 R S := ⟨e.1, fun i r s hr hs => ⟨(e.2 i r s hr hs).1, fun j x y hx hy => eqD_mono ((e.2 i r s hr hs).2 j x y hx hy) s2⟩⟩
  exact ⟨_, rfl, _, rfl, 2, f, d, true, by decide, rfl, rfl, eq_pics (pf.mono s2) (pd.mono s2) e2, k H2 s2⟩
end
theorem picPut {H : Hp} {a x : Addr} {ps : List Addr} {R : List (List V)} {o : HO} (p : PicV H a ps R) (h1 : x ≠ a) (h2 : x ∉ ps) : PicV (upd H x o) a ps R :=
 ⟨by rw [upd_ne h1.symm]; exact p.top, Paired.mapI p.row fun q r hq e => by rw [upd_ne (fun z => h2 (by rw [← z]; exact hq))]; exact e, p.nd, p.out⟩
theorem picSnoc {H : Hp} {a x : Addr} {ps : List Addr} {R : List (List V)} {r : List V} (p : PicV H a ps R) (h1 : x ≠ a) (h2 : x ∉ ps) (e : H x = some (.lst r)) : PicV (upd H a (.lst (ps.map V.ref ++ [.ref x]))) a (ps ++ [x]) (R ++ [r]) := by
 refine ⟨by rw [upd_same, List.map_append]; rfl, ?_, ?_, ?_⟩
 ·refine Paired.app (Paired.mapI p.row fun q r hq e => ?_) (.cons (by rw [upd_ne h1]; exact e) .nil)
  rw [upd_ne (fun z => p.out (by rw [← z]; exact hq))]; exact e
 ·refine List.nodup_append.mpr ⟨p.nd, by simp, fun u hu w hw => ?_⟩
  rw [List.mem_singleton.mp hw]
  exact fun z => h2 (by rw [← z]; exact hu)
 ·intro z
  rcases List.mem_append.mp z with z | z
  ·exact p.out z
  ·exact h1 (List.mem_singleton.mp z).symm
section
variable {P : Program} {w : World} {K : W.Frag} {mg : Str → Option Value} {base : Heap} {cFE cC cN cM cP cL cB cD cZ : Addr} {tP tS tC tI : Tok}
theorem sc_law_picture : FnScope ["_law_script", "_law_first", "_law_many", "_law_number", "_law_wide", "_law_high", "_law_found", "_law_y", "_law_row", "_law_x", "_law_more", "_law_cell"] ["_law_script", "_law_first", "_law_many"] (defScope s_law_picture) := ⟨rfl, rfl, rfl, by decide +kernel, rfl, by decide +kernel, by decide +kernel⟩
theorem ok_law_picture {f : Addr} {fd : FuncData} (F : FunD K "_law_picture" "_law_picture" s_law_picture .none f fd) (T : Txt K mg cFE cC cN cM cP cL cB cD cZ tP tS tC tI) (g__law_draw : Def P w K mg base 1 "_law_draw" ["_law_script", "_law_k"] [] (spDraw K)) (g__law_size : Def P w K mg base 1 "_law_size" ["_law_number"] [] (spSize)) : FnOk P w K mg base CX0 2 f fd ["_law_script", "_law_first", "_law_many"] (spLPic K) := by
 refine F.ok sc_law_picture (fun vs H Q E h => ?_) (fun cdv A outer s H vs Q E hr h => ?_)
 ·obtain ⟨a, ns, k, m, rfl, _⟩ := h; rfl
 ·obtain ⟨a, ns, fk, m, rfl, hS, hk, m1, m16, k⟩ := h
  refine ⟨_, (pss_cons (ps_set (i := 3) sc_law_picture.nd rfl (.inl rfl) (pe_callD g__law_draw (hr.mono (by decide)) rfl (pa_cons (pv 0) (pa_cons (pv 1) pa_nil))))
    (pss_cons (ps_asg (pe_callD g__law_size (hr.mono (by decide)) rfl (pa_cons (pe_op op_fdiv (pv 3) pe_int) pa_nil)) (pg_tup rfl (pgs_cons (pg_name (i := 4) sc_law_picture.nd rfl (.inl rfl)) (pgs_cons (pg_name (i := 5) sc_law_picture.nd rfl (.inl rfl)) pgs_nil))))
    (pss_cons (ps_set (i := 6) sc_law_picture.nd rfl (.inl rfl) (pe_lst pa_nil))
    (pss_cons (ps_for PassesOwn.never rfl (pi_range1 rfl T.range (pa_cons (pv 5) pa_nil)) (pg_name (i := 7) sc_law_picture.nd rfl (.inl rfl)) (pss_cons (ps_set (i := 8) sc_law_picture.nd rfl (.inl rfl) (pe_lst pa_nil))
    (pss_cons (ps_for PassesOwn.never rfl (pi_range1 rfl T.range (pa_cons (pv 4) pa_nil)) (pg_name (i := 9) sc_law_picture.nd rfl (.inl rfl)) (pss_cons (ps_set (i := 10) sc_law_picture.nd rfl (.inl rfl) (pe_callD g__law_draw (hr.mono (by decide)) rfl (pa_cons (pv 0) (pa_cons (pe_op op_add (pe_op op_add (pe_op op_add (pv 1) pe_int) (pe_op op_mul (pv 7) (pv 4))) (pv 9)) pa_nil))))
    (pss_cons (ps_set (i := 11) sc_law_picture.nd rfl (.inl rfl) (pe_op op_mod (pe_op op_fdiv (pv 10) pe_int) (pv 2)))
    (pss_cons (ps_if (PW.pt (pw_and (pt_cmpR op_eq (pe_op op_mod (pv 3) pe_int) pe_int (nomark _)) (pw_and1 (pt_cmpR op_gt (pe_op op_mod (pv 10) pe_int) pe_int (nomark _))))) (pss_one (ps_set (i := 11) sc_law_picture.nd rfl (.inl rfl) (pe_ix (ixK K rfl) (pe_lst (pa_cons (pe_op op_mod (pe_op op_fdiv (pv 3) pe_int) (pv 2)) (pa_cons (pe_op op_mod (pe_op op_fdiv (pv 3) pe_int) (pv 2)) pa_nil))) (pe_op op_mod (pv 10) pe_int) (fun _ _ => rfl)))) pss_nil)
    (pss_one (ps_expr (pe_bm PySem.F.plainAttrs_list PySem.F.slot_list_append PySem.F.type_list_append mt_append (pv 8) (pa_cons (pv 11) pa_nil))))))))
    (pss_one (ps_expr (pe_bm PySem.F.plainAttrs_list PySem.F.slot_list_append PySem.F.type_list_append mt_append (pv 6) (pa_cons (pv 8) pa_nil)))))))
    (pss_one (ps_ret (pv 6))))))), ?_⟩
  refine ⟨_, rfl, _, rfl, a, ns, fk, rfl, hS, by omega, fun n H1 _ s1 => ?_⟩
  refine ⟨_, rfl, _, _, rfl, rfl, ⟨by decide, by decide⟩, n / 2, ?_, fun t w h H2 s2 ht et w1 w24 h1 h24 => ?_⟩
  ·show [V.int ((n : Int) / 2)] = _
   rw [show (n : Int) / 2 = ((n / 2 : Nat) : Int) by omega]
  refine ⟨t, _, rfl, SqT.of et, rfl, _, _, rfl, _, _, rfl, rfl, ?_⟩
  have s12 := s1.trans s2
  refine ⟨sz0, fun fd' hfd => ?_⟩
  have hfH := s12.free hfd
  have z3 := same_new (o := HO.lst []) hfd
  refine ⟨_, rfl, (h : Int), rfl, by omega, by omega, ?_⟩
  refine for_range (lo := 0) (n := h) (fun i σ H3 => Same H H3 ∧ ∃ (ps : List Addr) (rows : List (List Int)) (v7 v8 v9 v10 v11 : Option V), σ = [some (.ref a), some (.int (fk : Int)), some (.int (m : Int)), some (.int (n : Int)), some (.int (w : Int)), some (.int (h : Int)), some (.ref fd'), v7, v8, v9, v10, v11] ∧ PicV H3 fd' ps (ir rows) ∧ Fresh H ps ∧ rows.length = i ∧ ∀ r ∈ rows, r.length = w ∧ ∀ c ∈ r, 0 ≤ c ∧ c < (m : Int))
   ⟨s12.trans z3, [], [], none, none, none, none, none, rfl, ⟨upd_same, .nil, List.nodup_nil, by simp⟩, (fun q hq => nomatch hq), rfl, fun r hr => nomatch hr⟩ ?_ ?_
  ·rintro y σ H3 hy ⟨s3, ps, rows, v7, v8, v9, v10, v11, rfl, pic, fps, hrl, hrows⟩
   refine ⟨sz0, fun rw hrw => ?_⟩
   have hrwH := s3.free hrw
   have z4 := same_new (o := HO.lst []) hrw
   have hrf : rw ≠ fd' := (ne_of_none pic.top hrw).symm
   have hrp : rw ∉ ps := fun z => by
    obtain ⟨r, _, e⟩ := pic.mem z
    rw [hrw] at e; cases e
   refine ⟨_, rfl, (w : Int), rfl, by omega, by omega, ?_⟩
   refine for_range (lo := 0) (n := w) (fun i σ H5 => Same H H5 ∧ ∃ (r : List Int) (v9 v10 v11 : Option V), σ = [some (.ref a), some (.int (fk : Int)), some (.int (m : Int)), some (.int (n : Int)), some (.int (w : Int)), some (.int (h : Int)), some (.ref fd'), some (.int (0 + (y : Int))), some (.ref rw), v9, v10, v11] ∧ H5 rw = some (.lst (r.map V.int)) ∧ r.length = i ∧ (∀ c ∈ r, 0 ≤ c ∧ c < (m : Int)) ∧ PicV H5 fd' ps (ir rows))
    ⟨s3.trans z4, [], v9, v10, v11, rfl, upd_same, rfl, (fun c hc => nomatch hc), pic.mono z4⟩ ?_ ?_
   ·rintro x σ H5 hx ⟨s5, r, v9, v10, v11, rfl, er, hl, hcs, pic⟩
    have hyw : y * w ≤ 23 * 24 := Nat.mul_le_mul (by omega) w24
    have ek : (fk : Int) + 1 + (0 + (y : Int)) * (w : Int) + (0 + (x : Int)) = ((fk + 1 + y * w + x : Nat) : Int) := by rw [Int.zero_add, Int.zero_add]; push_cast; rfl
    refine ⟨_, rfl, _, rfl, _, _, rfl, rfl, _, rfl, _, rfl, _, _, rfl, rfl, .inl ⟨by omega, by omega⟩, _, _, rfl, rfl, _, rfl, _, _, rfl, rfl, a, ns, fk + 1 + y * w + x, ?_, s5.seq hS, by omega, fun mr H6 _ s6 => ?_⟩
    ·show [V.ref a, .int ((fk : Int) + 1 + (0 + (y : Int)) * (w : Int) + (0 + (x : Int)))] = _
     rw [ek]
    have hm0 : ∀ u : Int, 0 ≤ u % (m : Int) ∧ u % (m : Int) < (m : Int) := fun u => ⟨Int.emod_nonneg _ (by omega), Int.emod_lt_of_pos _ (by omega)⟩
    refine ⟨_, rfl, _, _, rfl, rfl, ⟨by decide, by decide⟩, _, rfl, _, _, rfl, rfl, (by show (0 : Int) < (m : Int); omega), ?_⟩
    refine ⟨_, rfl, _, _, rfl, rfl, (by show (0 : Int) < 2; decide), rfl, _, rfl, ite2 (fun _ => ?_) (fun _ => ?_)⟩
    ·refine ⟨_, rfl, _, _, rfl, rfl, (by show (0 : Int) < 8; decide), _, _, rfl, rfl, _, rfl, iteB (fun _ => ?_) (fun _ => ?_)⟩
     ·refine ⟨_, rfl, _, _, rfl, rfl, ⟨by decide, by decide⟩, _, rfl, _, _, rfl, rfl, (by show (0 : Int) < (m : Int); omega), _, rfl, _, _, rfl, rfl, ⟨by decide, by decide⟩, _, rfl, _, _, rfl, rfl, (by show (0 : Int) < (m : Int); omega), sz2, fun q hq => ?_⟩
      have zq := same_new (o := HO.lst [V.int ((n : Int) / 4096 % (m : Int)), .int ((n : Int) / 65536 % (m : Int))]) hq
      obtain ⟨v, hv, ev⟩ := at_mod (xs := [V.int ((n : Int) / 4096 % (m : Int)), .int ((n : Int) / 65536 % (m : Int))]) (m := (mr : Int)) 2 rfl (by decide)
      obtain ⟨cc, rfl, hcc⟩ : ∃ cc : Int, v = .int cc ∧ 0 ≤ cc ∧ cc < (m : Int) := by
       simp only [List.mem_cons, List.not_mem_nil, or_false] at hv
       rcases hv with rfl | rfl
       ·exact ⟨_, rfl, hm0 _⟩
       ·exact ⟨_, rfl, hm0 _⟩
      refine ⟨_, rfl, _, _, rfl, rfl, (by show (0 : Int) < 2; decide), q, _, _, _, rfl, rfl, SqL.of upd_same, ev, ?_⟩
      have s7 := s6.trans zq
      refine ⟨_, rfl, .inl ⟨rfl, _, SqL.of (s7 _ _ er)⟩, _, rfl, rw, _, _, rfl, rfl, s7 _ _ er, Nat.lt_of_lt_of_le (by rw [List.length_map]; omega : _ < 5000) (by decide), ?_⟩
      refine ⟨same_upd (s5.trans s7) hrwH, r ++ [(cc : Int)], _, _, _, rfl, by rw [upd_same, List.map_append]; rfl, by rw [List.length_append, hl]; rfl, fun c hc => ?_, picPut (pic.mono s7) hrf hrp⟩
      rcases List.mem_append.mp hc with hc | hc
      ·exact hcs c hc
      ·rw [List.mem_singleton.mp hc]; exact hcc
     ·refine ⟨_, rfl, .inl ⟨rfl, _, SqL.of (s6 _ _ er)⟩, _, rfl, rw, _, _, rfl, rfl, s6 _ _ er, Nat.lt_of_lt_of_le (by rw [List.length_map]; omega : _ < 5000) (by decide), ?_⟩
      refine ⟨same_upd (s5.trans s6) hrwH, r ++ [((mr : Int) / 8 % (m : Int) : Int)], _, _, _, rfl, by rw [upd_same, List.map_append]; rfl, by rw [List.length_append, hl]; rfl, fun c hc => ?_, picPut (pic.mono s6) hrf hrp⟩
      rcases List.mem_append.mp hc with hc | hc
      ·exact hcs c hc
      ·rw [List.mem_singleton.mp hc]; exact hm0 _
    ·refine ⟨_, rfl, .inl ⟨rfl, _, SqL.of (s6 _ _ er)⟩, _, rfl, rw, _, _, rfl, rfl, s6 _ _ er, Nat.lt_of_lt_of_le (by rw [List.length_map]; omega : _ < 5000) (by decide), ?_⟩
     refine ⟨same_upd (s5.trans s6) hrwH, r ++ [((mr : Int) / 8 % (m : Int) : Int)], _, _, _, rfl, by rw [upd_same, List.map_append]; rfl, by rw [List.length_append, hl]; rfl, fun c hc => ?_, picPut (pic.mono s6) hrf hrp⟩
     rcases List.mem_append.mp hc with hc | hc
     ·exact hcs c hc
     ·rw [List.mem_singleton.mp hc]; exact hm0 _
   ·rintro σ H5 ⟨s5, r, v9, v10, v11, rfl, er, hl, hcs, pic⟩
    refine ⟨_, rfl, .inl ⟨rfl, _, SqL.of pic.top⟩, _, rfl, fd', _, _, rfl, rfl, pic.top, Nat.lt_of_lt_of_le (by rw [List.length_map, pic.len, ir_len]; omega : _ < 5000) (by decide), ?_⟩
    refine ⟨same_upd s5 hfH, ps ++ [rw], rows ++ [r], _, _, _, _, _, rfl, ?_, fun q hq => ?_, by rw [List.length_append, hrl]; rfl, fun r' hr' => ?_⟩
    ·have := picSnoc pic hrf hrp er
     unfold ir at this ⊢
     rw [List.map_append]; exact this
    ·rcases List.mem_append.mp hq with hq | hq
     ·exact fps q hq
     ·rw [List.mem_singleton.mp hq]; exact hrwH
    ·rcases List.mem_append.mp hr' with hr' | hr'
     ·exact hrows r' hr'
     ·rw [List.mem_singleton.mp hr']; exact ⟨hl, hcs⟩
  ·rintro σ H3 ⟨s3, ps, rows, v7, v8, v9, v10, v11, rfl, pic, fps, hrl, hrows⟩
   exact ⟨_, rfl, k fd' ps rows w H3 s3 hfH fps pic ⟨by omega, by omega, w1, w24, fun r hr => ⟨(hrows r hr).1, fun c hc => by have := (hrows r hr).2 c hc; omega⟩⟩ (fun r hr c hc => ((hrows r hr).2 c hc).2)⟩
end
noncomputable def R99 (R : List (List Int)) : List (List Int) := R.map fun r => r ++ [99]
theorem own_step {H : Hp} {f p : Addr} {ps : List Addr} {R : List (List Int)} {i : Nat} {r : List Int} (pic : PicV H f ps (ir ((R99 (R.take i)) ++ R.drop i))) (hp : ps[i]? = some p) (hr : R[i]? = some r) : H p = some (.lst (r.map V.int)) ∧ PicV (upd H p (.lst (r.map V.int ++ [.int 99]))) f ps (ir ((R99 (R.take (i + 1))) ++ R.drop (i + 1))) := by
 have hi : i < R.length := (List.getElem?_eq_some_iff.mp hr).1
 have hl : (R99 (R.take i)).length = i := by unfold R99; rw [List.length_map, List.length_take]; omega
 have hat : (ir ((R99 (R.take i)) ++ R.drop i))[i]? = some (r.map V.int) := by
  unfold ir
  rw [List.getElem?_map, List.getElem?_append_right (by omega), hl, Nat.sub_self, List.getElem?_drop, Nat.add_zero, hr]; rfl
 obtain ⟨r', hr', e⟩ := pic.at hp
 rw [hat] at hr'
 cases hr'
 refine ⟨e, ?_⟩
 have nf : p ≠ f := fun z => pic.out (by rw [← z]; exact List.mem_of_getElem? hp)
 refine ⟨by rw [upd_ne nf.symm]; exact pic.top, ?_, pic.nd, pic.out⟩
 have key : ∀ (ps : List Addr) (S T : List (List V)) (i : Nat), Paired (fun q s => H q = some (.lst s)) ps S → ps.Nodup → ps[i]? = some p → T.length = S.length → (∀ j s, j ≠ i → S[j]? = some s → T[j]? = some s) → (∀ s, T[i]? = some s → s = r.map V.int ++ [.int 99]) → Paired (fun q s => upd H p (.lst (r.map V.int ++ [.int 99])) q = some (.lst s)) ps T := by
  intro ps
  induction ps with
  | nil =>
   intro S T i h _ hp _ _ _
   cases hp
  | cons q qs ih =>
   intro S T i h nd hp hl ho hi
   cases h with
   | @cons _ s _ S' e1 h2 =>
    cases T with
    | nil => cases hl
    | cons t T' =>
     rw [List.nodup_cons] at nd
     cases i with
     | zero =>
      cases hp
      refine .cons (by rw [upd_same, hi t rfl]) ?_
      have : T' = S' := List.ext_getElem? fun j => by
       rcases Nat.lt_or_ge j S'.length with q | q
       ·have := ho (j + 1) S'[j] (by omega) (by rw [List.getElem?_cons_succ]; exact List.getElem?_eq_getElem q)
        rw [List.getElem?_cons_succ] at this
        rw [this, List.getElem?_eq_getElem q]
       ·have hl' : T'.length = S'.length := by simpa using hl
        rw [List.getElem?_eq_none q, List.getElem?_eq_none (by omega)]
      rw [this]
      exact Paired.mapI h2 fun u s hu e => by rw [upd_ne (fun z => nd.1 (by rw [← z]; exact hu))]; exact e
     | succ i =>
      have hqs : qs[i]? = some p := hp
      have nq : q ≠ p := fun z => nd.1 (by rw [z]; exact List.mem_of_getElem? hqs)
      have et : t = s := by
       have := ho 0 s (by omega) rfl
       injection this
      refine .cons (by rw [upd_ne nq, et]; exact e1) (ih S' T' i h2 nd.2 hqs (by simpa using hl) (fun j s hj hs => ?_) (fun s hs => hi s hs))
      exact ho (j + 1) s (by omega) hs
 refine key ps _ _ i pic.row pic.nd hp ?_ ?_ ?_
 ·unfold ir R99
  simp only [List.length_map, List.length_append, List.length_take, List.length_drop]; omega
 ·intro j s hj hs
  unfold ir R99 at hs ⊢
  rw [List.getElem?_map] at hs ⊢
  rw [← hs]
  congr 1
  rcases Nat.lt_or_ge j i with q | q
  ·rw [List.getElem?_append_left (by simp; omega), List.getElem?_append_left (by simp; omega), List.getElem?_map, List.getElem?_map, List.getElem?_take_of_lt (by omega), List.getElem?_take_of_lt q]
  ·rw [List.getElem?_append_right (by simp; omega), List.getElem?_append_right (by simp; omega)]
   simp only [List.length_map, List.length_take, List.getElem?_drop]
   congr 1; omega
 ·intro s hs
  unfold ir R99 at hs
  rw [List.getElem?_map, List.getElem?_append_left (by simp; omega), List.getElem?_map, List.getElem?_take_of_lt (by omega), hr] at hs
  injection hs with hs
  rw [← hs]
  show (r ++ [99]).map V.int = _
  rw [List.map_append]; rfl
section
variable {P : Program} {w : World} {K : W.Frag} {mg : Str → Option Value} {base : Heap} {cFE cC cN cM cP cL cB cD cZ : Addr} {tP tS tC tI : Tok}
theorem sc_law_own : FnScope ["_law_found", "_law_due", "_law_row"] ["_law_found", "_law_due"] (defScope s_law_own) := ⟨rfl, rfl, rfl, by decide +kernel, rfl, by decide +kernel, by decide +kernel⟩
theorem ok_law_own {f : Addr} {fd : FuncData} (F : FunD K "_law_own" "_law_own" s_law_own .none f fd) (T : Txt K mg cFE cC cN cM cP cL cB cD cZ tP tS tC tI) : FnOk P w K mg base CX0 1 f fd ["_law_found", "_law_due"] (spOwn) := by
 refine F.ok sc_law_own (fun vs H Q E h => ?_) (fun cdv A outer s H vs Q E hr h => ?_)
 ·obtain ⟨f, d, ps, qs, R, rfl, _⟩ := h; rfl
 ·obtain ⟨f, d, ps, qs, R, rfl, pf, pd, dis, hl, hw, k⟩ := h
  have hu : _ + 64 < cLine := hr.units
  have lf : ps.length = R.length := by have := pf.len; rw [ir_len] at this; exact this
  refine ⟨_, (pss_cons (ps_for PassesOwn.never rfl (piK K rfl (pv 0)) (pg_name (i := 2) sc_law_own.nd rfl (.inl rfl)) (pss_one (ps_expr (pe_bm PySem.F.plainAttrs_list PySem.F.slot_list_append PySem.F.type_list_append mt_append (pv 2) (pa_cons pe_int pa_nil)))))
    (pss_one (ps_ret (pe_cmpR (eqDK K rfl hu) (pv 0) (pe_comp (N := ["_law_row"]) (src := [none]) rfl ⟨rfl, rfl, rfl, rfl, rfl, by decide +kernel⟩ (piK K rfl (pv 1)) (fun s H C fp => pg_name (i := 0) (show (["_law_row"] : List Str).Nodup by decide +kernel) rfl (.inl rfl)) (fun s H C fp => pts_nil) (fun s H C fp => (pe_op op_cat (pv 0) (pe_lst (pa_cons pe_int pa_nil))))) (nomark _))))), ?_⟩
  refine ⟨_, rfl, f, rfl, ⟨_, SqL.of pf.top⟩, ?_⟩
  refine for_list (xs := ps.map V.ref) (fun i σ H1 => (∀ b o, H b = some o → b ∉ ps → H1 b = some o) ∧ PicV H1 f ps (ir ((R99 (R.take i)) ++ R.drop i)) ∧ ∃ v, σ = [some (.ref f), some (.ref d), v]) ⟨fun b o h _ => h, by simpa [R99] using pf, none, rfl⟩ (fun i σ H1 _ q => SqL.of q.2.1.top) ?_ ?_
  ·rintro i x σ H1 hx ⟨fr, pic, v, rfl⟩
   obtain ⟨p, hp, rfl⟩ := getElem?_ref hx
   have hi : i < R.length := by rw [← lf]; exact (List.getElem?_eq_some_iff.mp hp).1
   obtain ⟨e, pic'⟩ := own_step pic hp (List.getElem?_eq_getElem hi)
   refine ⟨_, rfl, .inl ⟨rfl, _, SqL.of e⟩, p, _, _, rfl, rfl, e, Nat.lt_of_lt_of_le (by rw [List.length_map]; have := hw _ (List.getElem_mem hi); omega : _ < 5000) (by decide), ?_⟩
   exact ⟨fun b o hb hn => by rw [upd_ne (fun z => hn (by rw [z]; exact List.mem_of_getElem? hp))]; exact fr b o hb hn, pic', _, rfl⟩
  ·rintro σ H1 ⟨fr, pic, v, rfl⟩
   rw [List.length_map, lf, List.take_length, List.drop_length, List.append_nil] at pic
   have pd1 : PicV H1 d qs (ir R) := ⟨fr _ _ pd.top (fun z => dis d z List.mem_cons_self), Paired.mapI pd.row fun q r hq e => fr _ _ e (fun z => dis q z (List.mem_cons_of_mem _ hq)), pd.nd, pd.out⟩
   refine ⟨_, rfl, _, rfl, d, rfl, ⟨_, SqL.of pd1.top⟩, fun D hD => ?_⟩
   refine comp_rows (k := 0) (fun x => (rowOf H1 x).getD [] ++ [.int 99]) (src_list (SqL.of pd1.top)) (by rw [List.length_map, pd1.len, ir_len]; exact Nat.le_trans hl (by decide)) hD (fun x hx H' Q' sm kk => ?_) fun us H2 s2 fq pv => ?_
   ·obtain ⟨q, hq, rfl⟩ := List.mem_map.mp hx
    obtain ⟨r, hr', er⟩ := pd1.mem hq
    obtain ⟨ns, hns, rfl⟩ := List.mem_map.mp hr'
    rw [rowOf_lst er] at kk
    refine ⟨_, rfl, sz1, fun l1 h1 => ?_⟩
    have z1 := same_new (o := HO.lst [V.int 99]) h1
    refine ⟨q, l1, _, _, rfl, rfl, z1 _ _ (sm _ _ er), upd_same, Nat.le_trans (by show (ns.map V.int).length + 1 ≤ 5000; rw [List.length_map]; have := hw ns hns; omega) (by decide), fun l2 h2 => ?_⟩
    exact kk l2 _ (z1.trans (same_new h2)) (z1.free h2) upd_same
   ·rw [map_pair (φ := fun r => r ++ [.int 99]) (fun q r e => by rw [rowOf_lst e]; rfl) qs _ pd1.row] at pv
    have e99 : (ir R).map (fun r => r ++ [V.int 99]) = ir (R99 R) := by unfold ir R99; rw [List.map_map, List.map_map]; exact List.map_congr_left fun r _ => by simp
    rw [e99] at pv
    exact ⟨2, f, D, true, by decide, rfl, rfl, eq_pics (pic.mono s2) pv (rows_self ir_flat), k H2 (fun b o hb hn => s2 _ _ (fr b o hb hn))⟩
end
theorem cut_hi (xs : List V) (k : Nat) : cutV xs none (some (k : Int)) = xs.take k := by
 unfold cutV
 rw [HT.sIx_none, HT.sIx_nat, List.drop_zero, Nat.sub_zero]
 exact List.take_eq_take_iff.mpr (by omega)
theorem cutV_mem {xs : List V} {lo hi : Option Int} {y : V} (h : y ∈ cutV xs lo hi) : y ∈ xs := List.mem_of_mem_drop (List.mem_of_mem_take h)
theorem cut_lo (xs : List V) (k : Nat) (h : k ≤ xs.length) : cutV xs (some (k : Int)) none = xs.drop k := by
 unfold cutV
 rw [HT.sIx_none, HT.sIx_nat, Nat.min_eq_left h]
 exact List.take_of_length_le (by rw [List.length_drop]; omega)
theorem bad_lens {K : W.Frag} {H : Hp} {p : Addr} {xs : List V} {x y : V} (e : H p = some (.lst xs)) (hl : xs.length ≤ 1000) (hk : ∀ x ∈ xs, Rw K H x) (hx : x ∈ xs) (hy : y ∈ xs) (hne : lenOf H x ≠ lenOf H y) : BadQ K H (.ref p) := by
 refine ⟨(Th.lst e hl hk).1, ?_⟩
 have : (xs.all fun x => decide (lenOf H x = lenOf H (xs.headD .non))) = false := by
  rw [Bool.eq_false_iff]
  intro z
  rw [List.all_eq_true] at z
  exact hne ((of_decide_eq_true (z x hx)).trans (of_decide_eq_true (z y hy)).symm)
 unfold picB; rw [rowOf_lst e]; dsimp only; rw [this, Bool.and_false, Bool.and_false]
theorem Good.rw {K : W.Frag} {H : Hp} {a : Addr} {ps : List Addr} {rows : List (List Int)} {wd : Nat} (g : Good rows wd) (p : PicV H a ps (ir rows)) : ∀ x ∈ ps.map V.ref, Rw K H x := fun x hx => by
 obtain ⟨q, hq, rfl⟩ := List.mem_map.mp hx
 obtain ⟨ns, e, hl, hc, _⟩ := g.mem2 p hq
 exact Rw.lst e (by rw [List.length_map, hl]; have := g.w24; omega) kd_ints
theorem not_row {H : Hp} {q : Addr} {r : List V} {v : V} (e : H q = some (.lst r)) (hv : v ∈ r) (hw : isWh 0 15 v = false) : rowQ H (.ref q) = false := by
 unfold rowQ; rw [rowOf_lst e]; dsimp only; unfold rowB
 have : r.all (isWh 0 15) = false := by
  rw [Bool.eq_false_iff]
  intro z
  rw [List.all_eq_true] at z
  rw [z v hv] at hw; cases hw
 rw [this, Bool.false_and]
theorem put_ {H : Hp} {a : Addr} (o : HO) (h : H a = none) : Same H (upd H a o) ∧ upd H a o a = some o := ⟨same_new h, upd_same⟩
theorem ixN_at {n y : Nat} (h : y < n) : ixN n (y : Int) = some y := by
 unfold ixN
 simp [h]
 try omega
noncomputable def spNoPic (K : W.Frag) : Sp := fun vs H Q _ => ∃ (a : Addr) (ps : List Addr) (rows : List (List Int)) (wd : Nat) (od : V) (n : Nat), vs = [.ref a, od, .int (n : Int)] ∧ PicV H a ps (ir rows) ∧ Good rows wd ∧ Kd K H od ∧ isWh 0 15 od = false ∧ ∀ v H', Same H H' → BadQ K H' v → Q v H'
section
variable {P : Program} {w : World} {K : W.Frag} {mg : Str → Option Value} {base : Heap} {cFE cC cN cM cP cL cB cD cZ : Addr} {tP tS tC tI : Tok}
theorem sc_law_no_picture : FnScope ["_law_rows", "_law_odd", "_law_number", "_law_y", "_law_x", "_law_spoilt", "_law_longer", "_law_some"] ["_law_rows", "_law_odd", "_law_number"] (defScope s_law_no_picture) := ⟨rfl, rfl, rfl, by decide +kernel, rfl, by decide +kernel, by decide +kernel⟩
theorem ok_law_no_picture {f : Addr} {fd : FuncData} (F : FunD K "_law_no_picture" "_law_no_picture" s_law_no_picture .none f fd) (T : Txt K mg cFE cC cN cM cP cL cB cD cZ tP tS tC tI) (g__law_copied : Def P w K mg base 1 "_law_copied" ["_law_rows"] [] (spCop)) : FnOk P w K mg base CX0 2 f fd ["_law_rows", "_law_odd", "_law_number"] (spNoPic K) := by
 refine F.ok sc_law_no_picture (fun vs H Q E h => ?_) (fun cdv A outer s H vs Q E hr h => ?_)
 ·obtain ⟨a, ps, rows, wd, od, n, rfl, _⟩ := h; rfl
 ·obtain ⟨a, ps, rows, wd, od, n, rfl, pic, gd, kod, wod, k⟩ := h
  have hne := gd.ne
  have hle := gd.le
  have hw1 := gd.w1
  have hw24 := gd.w24
  have lp : (ps.map V.ref).length = rows.length := by rw [List.length_map, pic.len, ir_len]
  have lir : (ir rows).length ≤ 1000 := by rw [ir_len]; omega
  obtain ⟨y, ey, hy⟩ : ∃ y : Nat, (n : Int) / 16 % (((ps.map V.ref).length : Nat) : Int) = (y : Int) ∧ y < rows.length := by
   rw [lp, show (n : Int) / 16 = ((n / 16 : Nat) : Int) by omega]
   exact ⟨n / 16 % rows.length, by push_cast; rfl, Nat.mod_lt _ (by omega)⟩
  obtain ⟨qy, hqy⟩ : ∃ q, ps[y]? = some q := ⟨_, List.getElem?_eq_getElem (by rw [← List.length_map (f := V.ref), lp]; exact hy)⟩
  have mqy := List.mem_of_getElem? hqy
  obtain ⟨rr, er, hrl, hrc, hrm⟩ := gd.mem2 pic mqy
  have lrr : (rr.map V.int).length = wd := by rw [List.length_map, hrl]
  obtain ⟨x, ex, hx⟩ : ∃ x : Nat, (n : Int) / 512 % ((((rr.map V.int).length : Nat) : Int) + 1) = (x : Int) ∧ x ≤ wd := by
   rw [lrr, show (n : Int) / 512 = ((n / 512 : Nat) : Int) by omega]
   exact ⟨n / 512 % (wd + 1), by push_cast; rfl, Nat.le_of_lt_succ (Nat.mod_lt _ (by omega))⟩
  have eqy : (ps.map V.ref)[y]? = some (.ref qy) := by rw [List.getElem?_map, hqy]; rfl
  obtain ⟨q0, hq0⟩ : ∃ q, ps[0]? = some q := ⟨_, List.getElem?_eq_getElem (by rw [← List.length_map (f := V.ref), lp]; omega)⟩
  have mq0 := List.mem_of_getElem? hq0
  obtain ⟨r0, er0, hr0, hc0, hm0⟩ := gd.mem2 pic mq0
  have eq0 : (ps.map V.ref)[0]? = some (.ref q0) := by rw [List.getElem?_map, hq0]; rfl
  obtain ⟨c00, hc00⟩ : ∃ c, r0[0]? = some c := ⟨_, List.getElem?_eq_getElem (by omega)⟩
  obtain ⟨t8, r8, k8⟩ : ∃ tr, PSs ((cxOf CX0 P w K mg base ["_law_rows", "_law_odd", "_law_number", "_law_y", "_law_x", "_law_spoilt", "_law_longer", "_law_some"] "_law_no_picture" (defScope s_law_no_picture) f cdv A outer s H E).nox) ((defBody s_law_no_picture).drop 8) tr ∧
    ∀ (v5 v6 : Option V) (v3 v4 : V) (L : Addr) (xs : List V) (H1 : Hp), Same H H1 → H1 L = some (.lst xs) → xs.length = 14 → BadQs K H1 xs → tr { nx := fun _ H' => Q .non H', rt := Q } [some (.ref a), some od, some (.int (n : Int)), some v3, some v4, v5, v6, some (.ref L)] H1 := by
   refine ⟨_, (pss_one (ps_ret (pe_ix (ixK K rfl) (pv 7) (pe_op op_mod (pv 2) pe_int) (fun _ _ => rfl)))), ?_⟩
   intro v5 v6 v3 v4 L xs H1 s1 eL hl hb
   obtain ⟨v, hv, ev⟩ := at_mod (xs := xs) (m := (n : Int)) 14 hl (by decide)
   exact ⟨_, rfl, _, rfl, _, _, rfl, rfl, (by show (0 : Int) < 14; decide), L, _, _, v, rfl, rfl, SqL.of eL, ev, k v H1 s1 (hb v hv)⟩
  obtain ⟨t6, r6, k6⟩ : ∃ tr, PSs ((cxOf CX0 P w K mg base ["_law_rows", "_law_odd", "_law_number", "_law_y", "_law_x", "_law_spoilt", "_law_longer", "_law_some"] "_law_no_picture" (defScope s_law_no_picture) f cdv A outer s H E).nox) ((defBody s_law_no_picture).drop 6) tr ∧
    ∀ (sp lg : Addr) (xs us : List V) (z : V) (H1 : Hp), Same H H1 → H1 sp = some (.lst xs) → xs.length = rows.length → (∀ x ∈ xs, Rw K H1 x) → BadQ K H1 (.ref sp) → H1 lg = some (.lst us) → us.length ≤ 24 → (∀ x ∈ us, Rw K H1 x) → z ∈ us → lenOf H1 z = wd + 1 → tr { nx := fun _ H' => Q .non H', rt := Q } [some (.ref a), some od, some (.int (n : Int)), some (.int (y : Int)), some (.int (x : Int)), some (.ref sp), some (.ref lg), none] H1 := by
   refine ⟨_, (pss_cons (ps_set (i := 7) sc_law_no_picture.nd rfl (.inl rfl) (ShE.pe (qpe_lst (qpa_cons (ShE.mk (pv 5)) slN (qpa_cons (ShE.mk (pv 5)) slN (qpa_cons (ShE.mk (pv 5)) slN (qpa_cons (ShE.mk (pe_op op_cat (pv 6) (pe_slice (slK K rfl) (pe_callD g__law_copied (hr.mono (by decide)) rfl (pa_cons (pv 0) pa_nil)) po_none (po_some pe_int)))) slBin (qpa_cons (ShE.mk (pe_lst pa_nil)) slLst (qpa_cons (ShE.mk pe_non) slC (qpa_cons (ShE.mk (pe_callTy call_tuple_of rfl T.tuple PyProof.Rows.boot_tuple (pa_cons (pv 0) pa_nil))) slCall (qpa_cons (ShE.mk (pe_lst (pa_cons (pe_tup pa_nil) pa_nil))) slLst (qpa_cons (ShE.mk (pe_lst (pa_cons (pe_lst pa_nil) pa_nil))) slLst (qpa_cons (ShE.mk (pe_ix (ixK K rfl) (pv 0) pe_int (fun _ _ => rfl))) slSub (qpa_cons (ShE.mk pe_dict0) (fun _ _ => rfl) qpa_nil))))))))))))))
    (pss_cons (ps_set (i := 7) sc_law_no_picture.nd rfl (.inl rfl) (pe_op op_cat (pv 7) (ShE.pe (qpe_lst (qpa_cons (ShE.mk (pe_op op_rep (pe_callD g__law_copied (hr.mono (by decide)) rfl (pa_cons (pe_slice (slK K rfl) (pv 0) po_none (po_some pe_int)) pa_nil)) pe_int)) slBin (qpa_cons (ShE.mk (pe_lst (pa_cons (pe_op op_rep (pe_callTy (listK K rfl) rfl T.list PyProof.Rows.boot_list (pa_cons (pe_slice (slK K rfl) (pe_ix (ixK K rfl) (pv 0) pe_int (fun _ _ => rfl)) po_none (po_some pe_int)) pa_nil)) pe_int) pa_nil))) slLst (qpa_cons (ShE.mk (pe_op op_cat (pe_op op_cat (pe_slice (slK K rfl) (pv 5) po_none (po_some (pv 3))) (pe_lst (pa_cons (pe_callTy call_tuple_of rfl T.tuple PyProof.Rows.boot_tuple (pa_cons (pe_ix (ixK K rfl) (pv 0) (pv 3) (fun _ _ => rfl)) pa_nil)) pa_nil))) (pe_slice (slK K rfl) (pv 5) (po_some (pe_op op_add (pv 3) pe_int)) po_none))) slBin qpa_nil)))))))
    (@r8))), ?_⟩
   intro sp lg xs us z H1 sm esp hxl hxr bsp elg hul hur hz hzl
   have pic := pic.mono sm
   have er := sm _ _ er
   have er0 := sm _ _ er0
   have sm1 := Same.refl H1
   refine ⟨_, rfl, _, rfl, _, rfl, _, rfl, _, rfl, a, ps, ir rows, rfl, pic, lir, fun cq cqs Hc z_ fcq fcqs pcq => ?_⟩
   have sm := sm.trans z_
   have sm1 := sm1.trans z_
   have esp := z_ _ _ esp
   have bsp := bsp.mono z_
   have elg := z_ _ _ elg
   have pic := pic.mono z_
   have er := z_ _ _ er
   have er0 := z_ _ _ er0
   clear z_
   refine ⟨_, rfl, cq, _, rfl, SqL.of pcq.top, fun s1 h_ => ?_⟩
   obtain ⟨z_, es1⟩ := put_ (HO.lst (cutV (cqs.map V.ref) none (some 1))) h_
   generalize upd Hc s1 (HO.lst (cutV (cqs.map V.ref) none (some 1))) = G1 at z_ es1 ⊢
   have sm := sm.trans z_
   have sm1 := sm1.trans z_
   have esp := z_ _ _ esp
   have bsp := bsp.mono z_
   have elg := z_ _ _ elg
   have pic := pic.mono z_
   have er := z_ _ _ er
   have er0 := z_ _ _ er0
   have pcq := pcq.mono z_
   clear z_ h_
   have lc1 := cutV_length (cqs.map V.ref) none (some 1)
   have lcq : (cqs.map V.ref).length = rows.length := by rw [List.length_map, pcq.len, ir_len]
   refine ⟨lg, s1, _, _, rfl, rfl, elg, es1, Nat.le_trans (by show us.length + (cutV (cqs.map V.ref) none (some 1)).length ≤ 5000; omega) (by decide), fun e4 h_ => ?_⟩
   obtain ⟨z_, ee4⟩ := put_ (HO.lst (us ++ (cutV (cqs.map V.ref) none (some 1)))) h_
   generalize upd G1 e4 (HO.lst (us ++ (cutV (cqs.map V.ref) none (some 1)))) = G2 at z_ ee4 ⊢
   have sm := sm.trans z_
   have sm1 := sm1.trans z_
   have esp := z_ _ _ esp
   have bsp := bsp.mono z_
   have elg := z_ _ _ elg
   have pic := pic.mono z_
   have er := z_ _ _ er
   have er0 := z_ _ _ er0
   have pcq := pcq.mono z_
   have es1 := z_ _ _ es1
   clear z_ h_
   have be4 : BadQ K G2 (.ref e4) := by
    have ecut : (cutV (cqs.map V.ref) none (some 1)) = (cqs.map V.ref).take 1 := cut_hi _ 1
    obtain ⟨w0, hw0⟩ : ∃ q, cqs[0]? = some q := ⟨_, List.getElem?_eq_getElem (by rw [← List.length_map (f := V.ref), lcq]; omega)⟩
    obtain ⟨ns0, en0, hn0, _, _⟩ := gd.mem2 pcq (List.mem_of_getElem? hw0)
    have mw : V.ref w0 ∈ us ++ (cutV (cqs.map V.ref) none (some 1)) := List.mem_append_right _ (by rw [ecut]; exact List.mem_iff_getElem?.mpr ⟨0, by rw [List.getElem?_take_of_lt (by decide), List.getElem?_map, hw0]; rfl⟩)
    refine bad_lens ee4 (by rw [List.length_append]; omega) (fun x hx => ?_) (List.mem_append_left _ hz) mw (by rw [lenOf_mono (hur z hz).kd sm1, hzl, lenOf_lst en0, List.length_map, hn0]; omega)
    rcases List.mem_append.mp hx with hx | hx
    ·exact (hur x hx).mono sm1
    ·exact gd.rw pcq x (cutV_mem hx)
   clear es1 ee4
   refine ⟨sz0, fun e5 h_ => ?_⟩
   obtain ⟨z_, ee5⟩ := put_ (HO.lst []) h_
   generalize upd G2 e5 (HO.lst []) = G3 at z_ ee5 ⊢
   have sm := sm.trans z_
   have sm1 := sm1.trans z_
   have esp := z_ _ _ esp
   have bsp := bsp.mono z_
   have elg := z_ _ _ elg
   have pic := pic.mono z_
   have er := z_ _ _ er
   have er0 := z_ _ _ er0
   have pcq := pcq.mono z_
   have be4 := be4.mono z_
   clear z_ h_
   refine ⟨_, rfl, a, _, rfl, .inl ⟨SqL.of pic.top, fun e7 h_ => ?_⟩⟩
   obtain ⟨z_, ee7⟩ := put_ (HO.tup (ps.map V.ref)) h_
   generalize upd G3 e7 (HO.tup (ps.map V.ref)) = G4 at z_ ee7 ⊢
   have sm := sm.trans z_
   have sm1 := sm1.trans z_
   have esp := z_ _ _ esp
   have bsp := bsp.mono z_
   have elg := z_ _ _ elg
   have pic := pic.mono z_
   have er := z_ _ _ er
   have er0 := z_ _ _ er0
   have pcq := pcq.mono z_
   have be4 := be4.mono z_
   have ee5 := z_ _ _ ee5
   clear z_ h_
   refine ⟨sz0, fun i8 h_ => ?_⟩
   obtain ⟨z_, ei8⟩ := put_ (HO.tup []) h_
   generalize upd G4 i8 (HO.tup []) = G5 at z_ ei8 ⊢
   have sm := sm.trans z_
   have sm1 := sm1.trans z_
   have esp := z_ _ _ esp
   have bsp := bsp.mono z_
   have elg := z_ _ _ elg
   have pic := pic.mono z_
   have er := z_ _ _ er
   have er0 := z_ _ _ er0
   have pcq := pcq.mono z_
   have be4 := be4.mono z_
   have ee5 := z_ _ _ ee5
   have ee7 := z_ _ _ ee7
   clear z_ h_
   refine ⟨sz1, fun e8 h_ => ?_⟩
   obtain ⟨z_, ee8⟩ := put_ (HO.lst [V.ref i8]) h_
   generalize upd G5 e8 (HO.lst [V.ref i8]) = G6 at z_ ee8 ⊢
   have sm := sm.trans z_
   have sm1 := sm1.trans z_
   have esp := z_ _ _ esp
   have bsp := bsp.mono z_
   have elg := z_ _ _ elg
   have pic := pic.mono z_
   have er := z_ _ _ er
   have er0 := z_ _ _ er0
   have pcq := pcq.mono z_
   have be4 := be4.mono z_
   have ee5 := z_ _ _ ee5
   have ee7 := z_ _ _ ee7
   have ei8 := z_ _ _ ei8
   clear z_ h_
   refine ⟨sz0, fun i9 h_ => ?_⟩
   obtain ⟨z_, ei9⟩ := put_ (HO.lst []) h_
   generalize upd G6 i9 (HO.lst []) = G7 at z_ ei9 ⊢
   have sm := sm.trans z_
   have sm1 := sm1.trans z_
   have esp := z_ _ _ esp
   have bsp := bsp.mono z_
   have elg := z_ _ _ elg
   have pic := pic.mono z_
   have er := z_ _ _ er
   have er0 := z_ _ _ er0
   have pcq := pcq.mono z_
   have be4 := be4.mono z_
   have ee5 := z_ _ _ ee5
   have ee7 := z_ _ _ ee7
   have ei8 := z_ _ _ ei8
   have ee8 := z_ _ _ ee8
   clear z_ h_
   refine ⟨sz1, fun e9 h_ => ?_⟩
   obtain ⟨z_, ee9⟩ := put_ (HO.lst [V.ref i9]) h_
   generalize upd G7 e9 (HO.lst [V.ref i9]) = G8 at z_ ee9 ⊢
   have sm := sm.trans z_
   have sm1 := sm1.trans z_
   have esp := z_ _ _ esp
   have bsp := bsp.mono z_
   have elg := z_ _ _ elg
   have pic := pic.mono z_
   have er := z_ _ _ er
   have er0 := z_ _ _ er0
   have pcq := pcq.mono z_
   have be4 := be4.mono z_
   have ee5 := z_ _ _ ee5
   have ee7 := z_ _ _ ee7
   have ei8 := z_ _ _ ei8
   have ee8 := z_ _ _ ee8
   have ei9 := z_ _ _ ei9
   clear z_ h_
   refine ⟨_, rfl, a, _, _, _, rfl, rfl, SqL.of pic.top, atI_nat (j := 0) eq0, ?_⟩
   refine fun e11 h_ => ?_
   obtain ⟨z_, ee11⟩ := put_ (DictO e11) h_
   generalize upd G8 e11 (DictO e11) = G9 at z_ ee11 ⊢
   have sm := sm.trans z_
   have sm1 := sm1.trans z_
   have esp := z_ _ _ esp
   have bsp := bsp.mono z_
   have elg := z_ _ _ elg
   have pic := pic.mono z_
   have er := z_ _ _ er
   have er0 := z_ _ _ er0
   have pcq := pcq.mono z_
   have be4 := be4.mono z_
   have ee5 := z_ _ _ ee5
   have ee7 := z_ _ _ ee7
   have ei8 := z_ _ _ ei8
   have ee8 := z_ _ _ ee8
   have ei9 := z_ _ _ ei9
   have ee9 := z_ _ _ ee9
   clear z_ h_
   refine ⟨sz11, fun L1 h_ => ?_⟩
   obtain ⟨z_, eL1⟩ := put_ (HO.lst [V.ref sp, .ref sp, .ref sp, .ref e4, .ref e5, .non, .ref e7, .ref e8, .ref e9, .ref q0, .ref e11]) h_
   generalize upd G9 L1 (HO.lst [V.ref sp, .ref sp, .ref sp, .ref e4, .ref e5, .non, .ref e7, .ref e8, .ref e9, .ref q0, .ref e11]) = G10 at z_ eL1 ⊢
   have sm := sm.trans z_
   have sm1 := sm1.trans z_
   have esp := z_ _ _ esp
   have bsp := bsp.mono z_
   have elg := z_ _ _ elg
   have pic := pic.mono z_
   have er := z_ _ _ er
   have er0 := z_ _ _ er0
   have pcq := pcq.mono z_
   have be4 := be4.mono z_
   have ee5 := z_ _ _ ee5
   have ee7 := z_ _ _ ee7
   have ei8 := z_ _ _ ei8
   have ee8 := z_ _ _ ee8
   have ei9 := z_ _ _ ei9
   have ee9 := z_ _ _ ee9
   have ee11 := z_ _ _ ee11
   clear z_ h_
   have b11 : BadQs K G10 [V.ref sp, .ref sp, .ref sp, .ref e4, .ref e5, .non, .ref e7, .ref e8, .ref e9, .ref q0, .ref e11] := fun v hv => by
    simp only [List.mem_cons, List.not_mem_nil, or_false] at hv
    rcases hv with rfl | rfl | rfl | rfl | rfl | rfl | rfl | rfl | rfl | rfl | rfl
    ·exact bsp
    ·exact bsp
    ·exact bsp
    ·exact be4
    ·exact bad_len ee5 (by decide) (fun x hx => nomatch hx) (by decide)
    ·exact bad_leaf .non rfl
    ·exact bad_leaf (.tup ee7) (by simp only [rowOf, ee7])
    ·exact bad_row ee8 (by show 1 ≤ 1000; decide) (fun x hx => by rw [List.mem_singleton.mp hx]; exact Rw.tup ei8) ⟨_, List.mem_cons_self, by unfold rowQ; simp only [rowOf, ei8]⟩
    ·exact bad_one ee9 ei9 (by decide) (fun x hx => nomatch hx) rfl
    ·exact bad_row er0 (by rw [List.length_map]; omega) (fun x hx => by obtain ⟨c, _, rfl⟩ := List.mem_map.mp hx; exact Rw.flat rfl) ⟨.int c00, List.mem_map.mpr ⟨c00, List.mem_of_getElem? hc00, rfl⟩, rfl⟩
    ·exact bad_leaf (.dict ee11) (rowOf_dict ee11)
   clear be4 ee5 ee7 ei8 ee8 ei9 ee9 ee11 pcq elg
   have epic := pic.top
   refine ⟨_, rfl, _, rfl, _, rfl, a, _, rfl, SqL.of epic, fun s2 h_ => ?_⟩
   obtain ⟨z_, es2⟩ := put_ (HO.lst (cutV (ps.map V.ref) none (some 1))) h_
   generalize upd G10 s2 (HO.lst (cutV (ps.map V.ref) none (some 1))) = G11 at z_ es2 ⊢
   have sm := sm.trans z_
   have sm1 := sm1.trans z_
   have esp := z_ _ _ esp
   have bsp := bsp.mono z_
   have pic := pic.mono z_
   have er := z_ _ _ er
   have er0 := z_ _ _ er0
   have eL1 := z_ _ _ eL1
   have b11 := b11.mono z_
   have epic := z_ _ _ epic
   clear z_ h_
   have pic1 : PicV G11 s2 [q0] [r0.map V.int] := by
    refine ⟨?_, .cons er0 .nil, by simp, fun z => ?_⟩
    ·rw [es2, show cutV (ps.map V.ref) none (some 1) = (ps.map V.ref).take 1 from cut_hi _ 1]
     have : (ps.map V.ref).take 1 = [V.ref q0] := by
      cases ps with
      | nil => cases hq0
      | cons p ps => cases hq0; rfl
     rw [this]; rfl
    ·rw [List.mem_singleton.mp z] at es2
     rw [er0] at es2
     have es2 : r0.map V.int = cutV (ps.map V.ref) none (some 1) := by injection es2 with q; injection q
     have m0 : V.int c00 ∈ cutV (ps.map V.ref) none (some 1) := by rw [← es2]; exact List.mem_map.mpr ⟨c00, List.mem_of_getElem? hc00, rfl⟩
     obtain ⟨_, _, e⟩ := List.mem_map.mp (cutV_mem m0)
     cases e
   refine ⟨s2, [q0], [r0.map V.int], rfl, pic1, by show 1 ≤ 1000; decide, fun c1 c1s Hd z_ fc1 fc1s pc1 => ?_⟩
   clear es2 pic1
   have sm := sm.trans z_
   have sm1 := sm1.trans z_
   have esp := z_ _ _ esp
   have bsp := bsp.mono z_
   have pic := pic.mono z_
   have er := z_ _ _ er
   have er0 := z_ _ _ er0
   have eL1 := z_ _ _ eL1
   have b11 := b11.mono z_
   have epic := z_ _ _ epic
   clear z_
   obtain ⟨d1, rfl⟩ : ∃ d1, c1s = [d1] := by
    have := pc1.len
    match c1s, this with
    | [x], _ => exact ⟨x, rfl⟩
   have ec1 : Hd c1 = some (.lst [V.ref d1]) := pc1.top
   have ed1 : Hd d1 = some (.lst (r0.map V.int)) := by cases pc1.row with | cons e _ => exact e
   refine ⟨c1, 25, _, rfl, rfl, ec1, by decide, by decide, by show 1 * 25 ≤ sizeLine; decide, fun f1 h_ => ?_⟩
   obtain ⟨z_, ef1⟩ := put_ (HO.lst ((List.replicate (25 : Int).toNat [V.ref d1]).flatten)) h_
   generalize upd Hd f1 (HO.lst ((List.replicate (25 : Int).toNat [V.ref d1]).flatten)) = G12 at z_ ef1 ⊢
   have sm := sm.trans z_
   have sm1 := sm1.trans z_
   have esp := z_ _ _ esp
   have bsp := bsp.mono z_
   have pic := pic.mono z_
   have er := z_ _ _ er
   have er0 := z_ _ _ er0
   have eL1 := z_ _ _ eL1
   have b11 := b11.mono z_
   have epic := z_ _ _ epic
   have ec1 := z_ _ _ ec1
   have ed1 := z_ _ _ ed1
   clear z_ h_
   have bf1 : BadQ K G12 (.ref f1) := bad_len ef1 (by rw [len25]; show 25 * 1 ≤ 1000; decide) (fun x hx => by
    obtain ⟨l, hl, hx⟩ := List.mem_flatten.mp hx
    rw [List.eq_of_mem_replicate hl] at hx
    rw [List.mem_singleton.mp hx]
    exact Rw.lst ed1 (by rw [List.length_map]; omega) kd_ints) (by rw [len25]; rfl)
   clear ef1 ec1 ed1 pc1
   refine ⟨_, rfl, a, _, _, _, rfl, rfl, SqL.of epic, atI_nat (j := 0) eq0, _, rfl, q0, _, rfl, SqL.of er0, fun s3 h_ => ?_⟩
   obtain ⟨z_, es3⟩ := put_ (HO.lst (cutV (r0.map V.int) none (some 1))) h_
   generalize upd G12 s3 (HO.lst (cutV (r0.map V.int) none (some 1))) = G13 at z_ es3 ⊢
   have sm := sm.trans z_
   have sm1 := sm1.trans z_
   have esp := z_ _ _ esp
   have bsp := bsp.mono z_
   have pic := pic.mono z_
   have er := z_ _ _ er
   have er0 := z_ _ _ er0
   have eL1 := z_ _ _ eL1
   have b11 := b11.mono z_
   have epic := z_ _ _ epic
   have bf1 := bf1.mono z_
   clear z_ h_
   refine ⟨s3, _, rfl, .inl (SqL.of es3), fun l3 h_ => ?_⟩
   obtain ⟨z_, el3⟩ := put_ (HO.lst (cutV (r0.map V.int) none (some 1))) h_
   generalize upd G13 l3 (HO.lst (cutV (r0.map V.int) none (some 1))) = G14 at z_ el3 ⊢
   have sm := sm.trans z_
   have sm1 := sm1.trans z_
   have esp := z_ _ _ esp
   have bsp := bsp.mono z_
   have pic := pic.mono z_
   have er := z_ _ _ er
   have er0 := z_ _ _ er0
   have eL1 := z_ _ _ eL1
   have b11 := b11.mono z_
   have epic := z_ _ _ epic
   have bf1 := bf1.mono z_
   have es3 := z_ _ _ es3
   clear z_ h_
   have ln1 : (cutV (r0.map V.int) none (some 1)).length = 1 := by rw [show cutV (r0.map V.int) none (some 1) = (r0.map V.int).take 1 from cut_hi _ 1, List.length_take, List.length_map]; omega
   refine ⟨l3, 25, _, rfl, rfl, el3, by decide, by decide, by rw [ln1]; decide, fun m3 h_ => ?_⟩
   obtain ⟨z_, em3⟩ := put_ (HO.lst ((List.replicate (25 : Int).toNat (cutV (r0.map V.int) none (some 1))).flatten)) h_
   generalize upd G14 m3 (HO.lst ((List.replicate (25 : Int).toNat (cutV (r0.map V.int) none (some 1))).flatten)) = G15 at z_ em3 ⊢
   have sm := sm.trans z_
   have sm1 := sm1.trans z_
   have esp := z_ _ _ esp
   have bsp := bsp.mono z_
   have pic := pic.mono z_
   have er := z_ _ _ er
   have er0 := z_ _ _ er0
   have eL1 := z_ _ _ eL1
   have b11 := b11.mono z_
   have epic := z_ _ _ epic
   have bf1 := bf1.mono z_
   have es3 := z_ _ _ es3
   have el3 := z_ _ _ el3
   clear z_ h_
   refine ⟨sz1, fun f2 h_ => ?_⟩
   obtain ⟨z_, ef2⟩ := put_ (HO.lst [V.ref m3]) h_
   generalize upd G15 f2 (HO.lst [V.ref m3]) = G16 at z_ ef2 ⊢
   have sm := sm.trans z_
   have sm1 := sm1.trans z_
   have esp := z_ _ _ esp
   have bsp := bsp.mono z_
   have pic := pic.mono z_
   have er := z_ _ _ er
   have er0 := z_ _ _ er0
   have eL1 := z_ _ _ eL1
   have b11 := b11.mono z_
   have epic := z_ _ _ epic
   have bf1 := bf1.mono z_
   have es3 := z_ _ _ es3
   have el3 := z_ _ _ el3
   have em3 := z_ _ _ em3
   clear z_ h_
   have bf2 : BadQ K G16 (.ref f2) := bad_one ef2 em3 (by rw [len25, ln1]; decide) (fun x hx => by
    obtain ⟨l, hl, hx⟩ := List.mem_flatten.mp hx
    rw [List.eq_of_mem_replicate hl] at hx
    exact kd_ints x (cutV_mem hx)) (by unfold rowB; rw [len25, ln1]; rw [show isWh 1 24 (.int ((25 * 1 : Nat) : Int)) = false from rfl, Bool.and_false])
   clear es3 el3 em3 ef2
   refine ⟨_, rfl, _, rfl, _, rfl, sp, _, rfl, SqL.of esp, fun t1 h_ => ?_⟩
   obtain ⟨z_, et1⟩ := put_ (HO.lst (cutV xs none (some (y : Int)))) h_
   generalize upd G16 t1 (HO.lst (cutV xs none (some (y : Int)))) = G17 at z_ et1 ⊢
   have sm := sm.trans z_
   have sm1 := sm1.trans z_
   have esp := z_ _ _ esp
   have bsp := bsp.mono z_
   have pic := pic.mono z_
   have er := z_ _ _ er
   have er0 := z_ _ _ er0
   have eL1 := z_ _ _ eL1
   have b11 := b11.mono z_
   have epic := z_ _ _ epic
   have bf1 := bf1.mono z_
   have bf2 := bf2.mono z_
   clear z_ h_
   refine ⟨_, rfl, _, rfl, a, _, _, _, rfl, rfl, SqL.of epic, atI_nat (j := y) eqy, qy, _, rfl, .inl ⟨SqL.of er, fun tr h_ => ?_⟩⟩
   obtain ⟨z_, etr⟩ := put_ (HO.tup (rr.map V.int)) h_
   generalize upd G17 tr (HO.tup (rr.map V.int)) = G18 at z_ etr ⊢
   have sm := sm.trans z_
   have sm1 := sm1.trans z_
   have esp := z_ _ _ esp
   have bsp := bsp.mono z_
   have pic := pic.mono z_
   have er := z_ _ _ er
   have er0 := z_ _ _ er0
   have eL1 := z_ _ _ eL1
   have b11 := b11.mono z_
   have epic := z_ _ _ epic
   have bf1 := bf1.mono z_
   have bf2 := bf2.mono z_
   have et1 := z_ _ _ et1
   clear z_ h_
   refine ⟨sz1, fun t2 h_ => ?_⟩
   obtain ⟨z_, et2⟩ := put_ (HO.lst [V.ref tr]) h_
   generalize upd G18 t2 (HO.lst [V.ref tr]) = G19 at z_ et2 ⊢
   have sm := sm.trans z_
   have sm1 := sm1.trans z_
   have esp := z_ _ _ esp
   have bsp := bsp.mono z_
   have pic := pic.mono z_
   have er := z_ _ _ er
   have er0 := z_ _ _ er0
   have eL1 := z_ _ _ eL1
   have b11 := b11.mono z_
   have epic := z_ _ _ epic
   have bf1 := bf1.mono z_
   have bf2 := bf2.mono z_
   have et1 := z_ _ _ et1
   have etr := z_ _ _ etr
   clear z_ h_
   have lx1 := cutV_length xs none (some (y : Int))
   have lx2 := cutV_length xs (some ((y : Int) + 1)) none
   refine ⟨t1, t2, _, _, rfl, rfl, et1, et2, Nat.le_trans (by show (cutV xs none (some (y : Int))).length + 1 ≤ 5000; omega) (by decide), fun t3 h_ => ?_⟩
   obtain ⟨z_, et3⟩ := put_ (HO.lst ((cutV xs none (some (y : Int))) ++ [V.ref tr])) h_
   generalize upd G19 t3 (HO.lst ((cutV xs none (some (y : Int))) ++ [V.ref tr])) = G20 at z_ et3 ⊢
   have sm := sm.trans z_
   have sm1 := sm1.trans z_
   have esp := z_ _ _ esp
   have bsp := bsp.mono z_
   have pic := pic.mono z_
   have er := z_ _ _ er
   have er0 := z_ _ _ er0
   have eL1 := z_ _ _ eL1
   have b11 := b11.mono z_
   have epic := z_ _ _ epic
   have bf1 := bf1.mono z_
   have bf2 := bf2.mono z_
   have et1 := z_ _ _ et1
   have etr := z_ _ _ etr
   have et2 := z_ _ _ et2
   clear z_ h_
   refine ⟨_, rfl, _, rfl, _, _, rfl, rfl, _, rfl, sp, _, rfl, SqL.of esp, fun t4 h_ => ?_⟩
   obtain ⟨z_, et4⟩ := put_ (HO.lst (cutV xs (some ((y : Int) + 1)) none)) h_
   generalize upd G20 t4 (HO.lst (cutV xs (some ((y : Int) + 1)) none)) = G21 at z_ et4 ⊢
   have sm := sm.trans z_
   have sm1 := sm1.trans z_
   have esp := z_ _ _ esp
   have bsp := bsp.mono z_
   have pic := pic.mono z_
   have er := z_ _ _ er
   have er0 := z_ _ _ er0
   have eL1 := z_ _ _ eL1
   have b11 := b11.mono z_
   have epic := z_ _ _ epic
   have bf1 := bf1.mono z_
   have bf2 := bf2.mono z_
   have et1 := z_ _ _ et1
   have etr := z_ _ _ etr
   have et2 := z_ _ _ et2
   have et3 := z_ _ _ et3
   clear z_ h_
   refine ⟨t3, t4, _, _, rfl, rfl, et3, et4, Nat.le_trans (by show ((cutV xs none (some (y : Int))) ++ [V.ref tr]).length + (cutV xs (some ((y : Int) + 1)) none).length ≤ 5000; rw [List.length_append]; show _ + 1 + _ ≤ _; omega) (by decide), fun f3 h_ => ?_⟩
   obtain ⟨z_, ef3⟩ := put_ (HO.lst (((cutV xs none (some (y : Int))) ++ [V.ref tr]) ++ (cutV xs (some ((y : Int) + 1)) none))) h_
   generalize upd G21 f3 (HO.lst (((cutV xs none (some (y : Int))) ++ [V.ref tr]) ++ (cutV xs (some ((y : Int) + 1)) none))) = G22 at z_ ef3 ⊢
   have sm := sm.trans z_
   have sm1 := sm1.trans z_
   have esp := z_ _ _ esp
   have bsp := bsp.mono z_
   have pic := pic.mono z_
   have er := z_ _ _ er
   have er0 := z_ _ _ er0
   have eL1 := z_ _ _ eL1
   have b11 := b11.mono z_
   have epic := z_ _ _ epic
   have bf1 := bf1.mono z_
   have bf2 := bf2.mono z_
   have et1 := z_ _ _ et1
   have etr := z_ _ _ etr
   have et2 := z_ _ _ et2
   have et3 := z_ _ _ et3
   have et4 := z_ _ _ et4
   clear z_ h_
   have bf3 : BadQ K G22 (.ref f3) := bad_row ef3 (by rw [List.length_append, List.length_append]; show _ + 1 + _ ≤ _; omega) (fun x hx => by
    rcases List.mem_append.mp hx with hx | hx
    ·rcases List.mem_append.mp hx with hx | hx
     ·exact (hxr x (cutV_mem hx)).mono sm1
     ·rw [List.mem_singleton.mp hx]; exact Rw.tup etr
    ·exact (hxr x (cutV_mem hx)).mono sm1) ⟨.ref tr, List.mem_append_left _ (List.mem_append_right _ List.mem_cons_self), by unfold rowQ; simp only [rowOf, etr]⟩
   clear et1 et2 et3 et4 etr ef3
   refine ⟨sz3, fun L2 h_ => ?_⟩
   obtain ⟨z_, eL2⟩ := put_ (HO.lst [V.ref f1, .ref f2, .ref f3]) h_
   generalize upd G22 L2 (HO.lst [V.ref f1, .ref f2, .ref f3]) = G23 at z_ eL2 ⊢
   have sm := sm.trans z_
   have sm1 := sm1.trans z_
   have esp := z_ _ _ esp
   have bsp := bsp.mono z_
   have pic := pic.mono z_
   have er := z_ _ _ er
   have er0 := z_ _ _ er0
   have eL1 := z_ _ _ eL1
   have b11 := b11.mono z_
   have epic := z_ _ _ epic
   have bf1 := bf1.mono z_
   have bf2 := bf2.mono z_
   have bf3 := bf3.mono z_
   clear z_ h_
   refine ⟨L1, L2, _, _, rfl, rfl, eL1, eL2, by show 11 + 3 ≤ sizeLine; decide, fun L3 h_ => ?_⟩
   obtain ⟨z_, eL3⟩ := put_ (HO.lst ([V.ref sp, .ref sp, .ref sp, .ref e4, .ref e5, .non, .ref e7, .ref e8, .ref e9, .ref q0, .ref e11] ++ [V.ref f1, .ref f2, .ref f3])) h_
   generalize upd G23 L3 (HO.lst ([V.ref sp, .ref sp, .ref sp, .ref e4, .ref e5, .non, .ref e7, .ref e8, .ref e9, .ref q0, .ref e11] ++ [V.ref f1, .ref f2, .ref f3])) = G24 at z_ eL3 ⊢
   have sm := sm.trans z_
   have sm1 := sm1.trans z_
   have esp := z_ _ _ esp
   have bsp := bsp.mono z_
   have pic := pic.mono z_
   have er := z_ _ _ er
   have er0 := z_ _ _ er0
   have eL1 := z_ _ _ eL1
   have b11 := b11.mono z_
   have epic := z_ _ _ epic
   have bf1 := bf1.mono z_
   have bf2 := bf2.mono z_
   have bf3 := bf3.mono z_
   have eL2 := z_ _ _ eL2
   clear z_ h_
   exact k8 _ _ _ _ L3 _ _ sm eL3 rfl (fun v hv => by
    rcases List.mem_append.mp hv with hv | hv
    ·exact b11 v hv
    ·simp only [List.mem_cons, List.not_mem_nil, or_false] at hv
     rcases hv with rfl | rfl | rfl
     ·exact bf1
     ·exact bf2
     ·exact bf3)
  refine ⟨_, (pss_cons (ps_set (i := 3) sc_law_no_picture.nd rfl (.inl rfl) (pe_op op_mod (pe_op op_fdiv (pv 2) pe_int) (pe_callB (lenK K rfl) rfl T.len PySem.boot_len (pa_cons (pv 0) pa_nil))))
    (pss_cons (ps_set (i := 4) sc_law_no_picture.nd rfl (.inl rfl) (pe_op op_mod (pe_op op_fdiv (pv 2) pe_int) (pe_op op_add (pe_callB (lenK K rfl) rfl T.len PySem.boot_len (pa_cons (pe_ix (ixK K rfl) (pv 0) (pv 3) (fun _ _ => rfl)) pa_nil)) pe_int)))
    (pss_cons (ps_set (i := 5) sc_law_no_picture.nd rfl (.inl rfl) (pe_callD g__law_copied (hr.mono (by decide)) rfl (pa_cons (pv 0) pa_nil)))
    (pss_cons (ps_asg (pe_op op_cat (pe_op op_cat (pe_slice (slK K rfl) (pe_ix (ixK K rfl) (pv 5) (pv 3) (fun _ _ => rfl)) po_none (po_some (pv 4))) (pe_lst (pa_cons (pv 1) pa_nil))) (pe_slice (slK K rfl) (pe_ix (ixK K rfl) (pv 5) (pv 3) (fun _ _ => rfl)) (po_some (pe_op op_add (pv 4) pe_int)) po_none)) (pg_sub (pv 5) (pv 3) set_list))
    (pss_cons (ps_set (i := 6) sc_law_no_picture.nd rfl (.inl rfl) (pe_callD g__law_copied (hr.mono (by decide)) rfl (pa_cons (pv 0) pa_nil)))
    (pss_cons (ps_expr (pe_bm PySem.F.plainAttrs_list PySem.F.slot_list_append PySem.F.type_list_append mt_append (pe_ix (ixK K rfl) (pv 6) (pv 3) (fun _ _ => rfl)) (pa_cons (pe_ix (ixK K rfl) (pe_ix (ixK K rfl) (pv 0) pe_int (fun _ _ => rfl)) pe_int (fun _ _ => rfl)) pa_nil)))
    (@r6))))))), ?_⟩
  refine ⟨_, rfl, _, _, rfl, rfl, ⟨by decide, by decide⟩, _, rfl, a, _, rfl, .inl (SqL.of pic.top), _, _, rfl, rfl, (by rw [lp]; omega), ?_⟩
  show gName 3 (.int ((n : Int) / 16 % (((ps.map V.ref).length : Nat) : Int))) _ _ _
  rw [ey]
  refine ⟨_, rfl, _, _, rfl, rfl, ⟨by decide, by decide⟩, _, rfl, _, rfl, a, _, _, _, rfl, rfl, SqL.of pic.top, atI_nat (j := y) eqy, qy, _, rfl, .inl (SqL.of er), _, _, rfl, rfl, _, _, rfl, rfl, (by show (0 : Int) < (((rr.map V.int).length : Nat) : Int) + 1; omega), ?_⟩
  show gName 4 (.int ((n : Int) / 512 % ((((rr.map V.int).length : Nat) : Int) + 1))) _ _ _
  rw [ex]
  refine ⟨_, rfl, a, ps, ir rows, rfl, pic, lir, fun sp sps H1 s1 fsp fsps psp => ?_⟩
  obtain ⟨sy, hsy⟩ : ∃ q, sps[y]? = some q := ⟨_, List.getElem?_eq_getElem (by rw [psp.len, ir_len]; exact hy)⟩
  have esy : H1 sy = some (.lst (rr.map V.int)) := by
   obtain ⟨r1, h1, e1⟩ := psp.at hsy
   obtain ⟨r2, h2, e2⟩ := pic.at hqy
   rw [h2] at h1
   cases h1
   rw [er] at e2
   rw [e1]; exact e2.symm
  have lsp : (sps.map V.ref).length = rows.length := by rw [List.length_map, psp.len, ir_len]
  have eqs : (sps.map V.ref)[y]? = some (.ref sy) := by rw [List.getElem?_map, hsy]; rfl
  have sm := s1
  have tsp := psp.top
  refine ⟨_, rfl, _, rfl, sp, _, _, _, rfl, rfl, SqL.of tsp, atI_nat (j := y) eqs, _, rfl, _, rfl, sy, _, rfl, SqL.of esy, fun u1 h_ => ?_⟩
  obtain ⟨z_, eu1⟩ := put_ (HO.lst (cutV (rr.map V.int) none (some (x : Int)))) h_
  generalize upd H1 u1 (HO.lst (cutV (rr.map V.int) none (some (x : Int)))) = B1 at z_ eu1 ⊢
  have sm := sm.trans z_
  have s1 := s1.trans z_
  have esy := z_ _ _ esy
  have psp := psp.mono z_
  have tsp := z_ _ _ tsp
  clear z_ h_
  refine ⟨_, rfl, sz1, fun u2 h_ => ?_⟩
  obtain ⟨z_, eu2⟩ := put_ (HO.lst [od]) h_
  generalize upd B1 u2 (HO.lst [od]) = B2 at z_ eu2 ⊢
  have sm := sm.trans z_
  have s1 := s1.trans z_
  have esy := z_ _ _ esy
  have psp := psp.mono z_
  have tsp := z_ _ _ tsp
  have eu1 := z_ _ _ eu1
  clear z_ h_
  have lk1 := cutV_length (rr.map V.int) none (some (x : Int))
  have lk2 := cutV_length (rr.map V.int) (some ((x : Int) + 1)) none
  refine ⟨u1, u2, _, _, rfl, rfl, eu1, eu2, Nat.le_trans (by show (cutV (rr.map V.int) none (some (x : Int))).length + 1 ≤ 5000; omega) (by decide), fun u3 h_ => ?_⟩
  obtain ⟨z_, eu3⟩ := put_ (HO.lst ((cutV (rr.map V.int) none (some (x : Int))) ++ [od])) h_
  generalize upd B2 u3 (HO.lst ((cutV (rr.map V.int) none (some (x : Int))) ++ [od])) = B3 at z_ eu3 ⊢
  have sm := sm.trans z_
  have s1 := s1.trans z_
  have esy := z_ _ _ esy
  have psp := psp.mono z_
  have tsp := z_ _ _ tsp
  have eu1 := z_ _ _ eu1
  have eu2 := z_ _ _ eu2
  clear z_ h_
  refine ⟨_, rfl, _, rfl, sp, _, _, _, rfl, rfl, SqL.of tsp, atI_nat (j := y) eqs, _, rfl, _, _, rfl, rfl, _, rfl, sy, _, rfl, SqL.of esy, fun u4 h_ => ?_⟩
  obtain ⟨z_, eu4⟩ := put_ (HO.lst (cutV (rr.map V.int) (some ((x : Int) + 1)) none)) h_
  generalize upd B3 u4 (HO.lst (cutV (rr.map V.int) (some ((x : Int) + 1)) none)) = B4 at z_ eu4 ⊢
  have sm := sm.trans z_
  have s1 := s1.trans z_
  have esy := z_ _ _ esy
  have psp := psp.mono z_
  have tsp := z_ _ _ tsp
  have eu1 := z_ _ _ eu1
  have eu2 := z_ _ _ eu2
  have eu3 := z_ _ _ eu3
  clear z_ h_
  refine ⟨u3, u4, _, _, rfl, rfl, eu3, eu4, Nat.le_trans (by show ((cutV (rr.map V.int) none (some (x : Int))) ++ [od]).length + (cutV (rr.map V.int) (some ((x : Int) + 1)) none).length ≤ 5000; rw [List.length_append]; show _ + 1 + _ ≤ _; omega) (by decide), fun nr h_ => ?_⟩
  have nspn : sp ≠ nr := ne_of_none tsp h_
  obtain ⟨z_, enr⟩ := put_ (HO.lst (((cutV (rr.map V.int) none (some (x : Int))) ++ [od]) ++ (cutV (rr.map V.int) (some ((x : Int) + 1)) none))) h_
  generalize upd B4 nr (HO.lst (((cutV (rr.map V.int) none (some (x : Int))) ++ [od]) ++ (cutV (rr.map V.int) (some ((x : Int) + 1)) none))) = B5 at z_ enr ⊢
  have sm := sm.trans z_
  have s1 := s1.trans z_
  have esy := z_ _ _ esy
  have psp := psp.mono z_
  have tsp := z_ _ _ tsp
  have eu1 := z_ _ _ eu1
  have eu2 := z_ _ _ eu2
  have eu3 := z_ _ _ eu3
  have eu4 := z_ _ _ eu4
  clear z_ h_
  refine ⟨_, rfl, _, rfl, sp, _, _, y, rfl, rfl, tsp, (by rw [lsp]; exact ixN_at hy), ?_⟩
  dsimp only
  have nq : ∀ q ∈ sps, q ≠ sp := fun q hq z => psp.out (by rw [← z]; exact hq)
  have eX : upd B5 sp (.lst ((sps.map V.ref).set y (.ref nr))) sp = some (.lst ((sps.map V.ref).set y (.ref nr))) := upd_same
  have enr6 : upd B5 sp (.lst ((sps.map V.ref).set y (.ref nr))) nr = some (.lst (((cutV (rr.map V.int) none (some (x : Int))) ++ [od]) ++ (cutV (rr.map V.int) (some ((x : Int) + 1)) none))) := by rw [upd_ne nspn.symm]; exact enr
  have eq6 : ∀ q ∈ sps, ∃ ns : List Int, upd B5 sp (.lst ((sps.map V.ref).set y (.ref nr))) q = some (.lst (ns.map V.int)) ∧ ns.length = wd := fun q hq => by
   obtain ⟨ns, e, hl, _, _⟩ := gd.mem2 psp hq
   exact ⟨ns, by rw [upd_ne (nq q hq)]; exact e, hl⟩
  have s6 : Same H (upd B5 sp (.lst ((sps.map V.ref).set y (.ref nr)))) := same_upd sm fsp
  generalize upd B5 sp (.lst ((sps.map V.ref).set y (.ref nr))) = H6 at eX enr6 eq6 s6 ⊢
  have rwX : ∀ v ∈ ((sps.map V.ref).set y (.ref nr)), Rw K H6 v := fun v hv => by
   rcases List.mem_or_eq_of_mem_set hv with hv | rfl
   ·obtain ⟨q, hq, rfl⟩ := List.mem_map.mp hv
    obtain ⟨ns, e, hl⟩ := eq6 q hq
    exact Rw.lst e (by rw [List.length_map, hl]; omega) kd_ints
   ·refine Rw.lst enr6 (by rw [List.length_append, List.length_append]; show _ + 1 + _ ≤ _; omega) fun v hv => ?_
    rcases List.mem_append.mp hv with hv | hv
    ·rcases List.mem_append.mp hv with hv | hv
     ·exact kd_ints v (cutV_mem hv)
     ·rw [List.mem_singleton.mp hv]; exact kod.mono s6
    ·exact kd_ints v (cutV_mem hv)
  have lX : ((sps.map V.ref).set y (.ref nr)).length = rows.length := by rw [List.length_set, lsp]
  have bX : BadQ K H6 (.ref sp) := bad_row eX (by rw [lX]; omega) rwX ⟨.ref nr, List.mem_set (by rw [lsp]; exact hy) _, not_row enr6 (List.mem_append_left _ (List.mem_append_right _ List.mem_cons_self)) wod⟩
  refine ⟨_, rfl, a, ps, ir rows, rfl, pic.mono s6, lir, fun lg lgs H7 s7 flg flgs plg => ?_⟩
  obtain ⟨ly, hly⟩ : ∃ q, lgs[y]? = some q := ⟨_, List.getElem?_eq_getElem (by rw [plg.len, ir_len]; exact hy)⟩
  have mly := List.mem_of_getElem? hly
  have ely : H7 ly = some (.lst (rr.map V.int)) := by
   obtain ⟨r1, h1, e1⟩ := plg.at hly
   obtain ⟨r2, h2, e2⟩ := pic.at hqy
   rw [h2] at h1
   cases h1
   rw [er] at e2
   rw [e1]; exact e2.symm
  have llg : (lgs.map V.ref).length = rows.length := by rw [List.length_map, plg.len, ir_len]
  have eql : (lgs.map V.ref)[y]? = some (.ref ly) := by rw [List.getElem?_map, hly]; rfl
  have s07 := s6.trans s7
  refine ⟨_, rfl, _, rfl, lg, _, _, _, rfl, rfl, SqL.of plg.top, atI_nat (j := y) eql, .inl ⟨rfl, _, SqL.of ely⟩, _, rfl, a, _, _, _, rfl, rfl, SqL.of (s07 _ _ pic.top), atI_nat (j := 0) eq0, q0, _, _, _, rfl, rfl, SqL.of (s07 _ _ er0), atI_nat (j := 0) (by rw [List.getElem?_map, hc00]; rfl), ly, _, _, rfl, rfl, ely, Nat.lt_of_lt_of_le (by rw [lrr]; omega : _ < 5000) (by decide), ?_⟩
  dsimp only
  have fly : H6 ly = none := flgs ly mly
  have s8 : Same H6 (upd H7 ly (.lst (rr.map V.int ++ [.int c00]))) := same_upd s7 fly
  have nll : lg ≠ ly := fun z => plg.out (by rw [z]; exact mly)
  have rwL : ∀ v ∈ lgs.map V.ref, Rw K (upd H7 ly (.lst (rr.map V.int ++ [.int c00]))) v := fun v hv => by
   obtain ⟨q, hq, rfl⟩ := List.mem_map.mp hv
   by_cases hql : q = ly
   ·subst hql
    refine Rw.lst upd_same (by rw [List.length_append, lrr]; show _ + 1 ≤ _; omega) fun v hv => ?_
    rcases List.mem_append.mp hv with hv | hv
    ·exact kd_ints v hv
    ·rw [List.mem_singleton.mp hv]; exact .int _
   ·obtain ⟨ns, e, hl, _, _⟩ := gd.mem2 plg hq
    exact Rw.lst (by rw [upd_ne hql]; exact e) (by rw [List.length_map, hl]; omega) kd_ints
  exact k6 sp lg _ _ (.ref ly) _ (s6.trans s8) (s8 _ _ eX) lX (fun v hv => (rwX v hv).mono s8) (bX.mono s8) (by rw [upd_ne nll]; exact plg.top) (by rw [llg]; exact hle) rwL (List.mem_map.mpr ⟨ly, mly, rfl⟩) (by rw [lenOf_lst upd_same, List.length_append, lrr]; rfl)
end
noncomputable def spPD : Sp := fun vs H Q _ => ∃ (o1 o2 : Addr) (c1 c2 : List (Addr × Nat × Nat × Nat)), vs = [.ref o1, .ref o2] ∧ ColsV H o1 c1 ∧ ColsV H o2 c2 ∧ c1.length ≤ 100 ∧ c2.length ≤ 100 ∧ ∀ t q m H', Same H H' → H t = none → H q = none → H m = none → q ≠ m → ColsV H' q (pourC c1 c2) → H' m = some (.lst (c2.map fun d => V.int (idx (pourC c1 c2) d : Int))) → H' t = some (.tup [.ref q, .ref m]) → Q (.ref t) H'
noncomputable def spLPour (cL : Addr) : Sp := fun vs H Q _ => ∃ (p1 l1 p2 l2 : Addr) (c1 c2 : List (Addr × Nat × Nat × Nat)), vs = [.ref p1, .ref p2] ∧ PalV cL H p1 l1 c1 ∧ PalV cL H p2 l2 c2 ∧ 1 ≤ c1.length ∧ c1.length ≤ 16 ∧ (c1.map kc).Nodup ∧ c2.length ≤ 1000 ∧
 ((pourC c1 c2).length ≤ 16 → ∀ u t p3 l3 m H', Same H H' → H u = none → H t = none → H p3 = none → H l3 = none → H m = none → m ≠ l3 → PalV cL H' p3 l3 (pourC c1 c2) → H' m = some (.lst (c2.map fun d => V.int (idx (pourC c1 c2) d : Int))) → H' t = some (.tup [.ref p3, .ref m]) → H' u = some (.tup [.str "told", .ref t]) → Q (.ref u) H') ∧
 (16 < (pourC c1 c2).length → ∀ u H', Same H H' → H u = none → H' u = some (.tup [.str "many"]) → Q (.ref u) H')
noncomputable def spNew : Sp := fun vs H Q _ => ∃ (l : Addr) (cs : List (Addr × Nat × Nat × Nat)), vs = [.ref l] ∧ ColsV H l cs ∧ cs.length ≤ 100 ∧ ∀ q ds H', Same H H' → H q = none → ColsV H' q ds → ds.length ≤ 1 → (∀ d ∈ ds, H d.1 = none ∧ cs.findIdx? (isC d.2.1 d.2.2.1 d.2.2.2) = none) → Q (.ref q) H'
noncomputable abbrev spWs (cN cM cB cD ea : Addr) : Sp := fun vs H Q E => spW cN "none" ea vs H Q E ∨ (spW cM "many" ea vs H Q E ∨ (spW cB "picture" ea vs H Q E ∨ spW cD "cell" ea vs H Q E))
noncomputable def spRefd (K : W.Frag) : Sp := fun vs H Q _ => ∃ (x y : V), vs = [x, y] ∧ ((BadQ K H x ∧ ∀ u H', Same H H' → H u = none → H' u = some (.tup [.str "picture"]) → Q (.ref u) H') ∨ ∃ a ps rows wd, x = .ref a ∧ PicV H a ps (ir rows) ∧ Good rows wd ∧
 ((TCs K H y ∧ cellsB H y 16 = false ∧ ∀ u H', Same H H' → H u = none → H' u = some (.tup [.str "cell"]) → Q (.ref u) H') ∨ ∃ (l : Addr) (ns : List Int), y = .ref l ∧ H l = some (.lst (ns.map V.int)) ∧ ns.length ≤ 16 ∧ (∀ c ∈ ns, 0 ≤ c ∧ c ≤ 15) ∧ (ns.length : Int) ≤ maxI rows.flatten ∧ ∀ u H', Same H H' → H u = none → H' u = some (.tup [.str "none"]) → Q (.ref u) H'))
theorem pour_find {c1 c2 : List (Addr × Nat × Nat × Nat)} {d : Addr × Nat × Nat × Nat} (h : d ∈ c2) : (pourC c1 c2).findIdx? (isC d.2.1 d.2.2.1 d.2.2.2) = some (idx (pourC c1 c2) d) := by
 obtain ⟨i, hi⟩ := List.getElem?_of_mem h
 have tk : c2.take (i + 1) = c2.take i ++ [d] := by rw [List.take_add_one, hi]; rfl
 obtain ⟨e, he⟩ := pour_take c1 c2 (i + 1)
 rw [tk, pour_snoc] at he
 obtain ⟨j, hj⟩ := addC_find (pourC c1 (c2.take i)) d
 have := find_pre (e := e) hj
 rw [← he] at this
 unfold idx
 rw [this]; rfl
theorem pour_len (c1 c2 : List (Addr × Nat × Nat × Nat)) : (pourC c1 c2).length ≤ c1.length + c2.length := by
 induction c2 generalizing c1 with
 | nil => exact Nat.le_refl _
 | cons d ds ih =>
  have := ih (addC c1 d)
  have h2 : (addC c1 d).length ≤ c1.length + 1 := by unfold addC; split <;> simp
  show (pourC (addC c1 d) ds).length ≤ _
  rw [List.length_cons]; omega
section
variable {P : Program} {w : World} {K : W.Frag} {mg : Str → Option Value} {base : Heap} {cFE cC cN cM cP cL cB cD cZ : Addr} {tP tS tC tI : Tok}
theorem sc_law_poured_due : FnScope ["_law_ones", "_law_others", "_law_colours", "_law_colour_here"] ["_law_ones", "_law_others"] (defScope s_law_poured_due) := ⟨rfl, rfl, rfl, by decide +kernel, rfl, by decide +kernel, by decide +kernel⟩
theorem ok_law_poured_due {f : Addr} {fd : FuncData} (F : FunD K "_law_poured_due" "_law_poured_due" s_law_poured_due .none f fd) (T : Txt K mg cFE cC cN cM cP cL cB cD cZ tP tS tC tI) : FnOk P w K mg base CX0 1 f fd ["_law_ones", "_law_others"] (spPD) := by
 refine F.ok sc_law_poured_due (fun vs H Q E h => ?_) (fun cdv A outer s H vs Q E hr h => ?_)
 ·obtain ⟨o1, o2, c1, c2, rfl, _⟩ := h; rfl
 ·obtain ⟨o1, o2, c1, c2, rfl, v1, v2, h1, h2, k⟩ := h
  have hu : _ + 64 < cLine := hr.units
  refine ⟨_, (pss_cons (ps_set (i := 2) sc_law_poured_due.nd rfl (by first | exact Or.inl rfl | exact Or.inr rfl) (pe_callTy (listK K rfl) rfl T.list PyProof.Rows.boot_list (pa_cons (pv 0) pa_nil)))
    (pss_cons (ps_for PassesOwn.never rfl (piK K rfl (pv 1)) (pg_name (i := 3) sc_law_poured_due.nd rfl (by first | exact Or.inl rfl | exact Or.inr rfl)) (pss_one (ps_if (pt_cmpR (op_notInD K rfl 1 (by decide) hu) (pv 3) (pv 2) (by with_unfolding_all rfl)) (pss_one (ps_expr (pe_bm PySem.F.plainAttrs_list PySem.F.slot_list_append PySem.F.type_list_append mt_append (pv 2) (pa_cons (pv 3) pa_nil)))) pss_nil)))
    (pss_one (ps_ret (pe_tup (pa_cons (pv 2) (pa_cons (pe_comp (N := ["_law_colour_here", "_law_colours"]) (src := [none, some 2]) rfl ⟨rfl, rfl, rfl, rfl, rfl, by decide +kernel⟩ (piK K rfl (pv 1)) (fun s H C fp => pg_name (i := 0) (show (["_law_colour_here", "_law_colours"] : List Str).Nodup by decide +kernel) rfl (by first | exact Or.inl rfl | exact Or.inr rfl)) (fun s H C fp => pts_nil) (fun s H C fp => (pe_bmK K rfl PySem.F.plainAttrs_list PySem.F.slot_list_index PySem.F.type_list_index (mt_indexL K rfl 1 (by decide) hu) (pv 1) (pa_cons (pv 0) pa_nil)))) pa_nil))))))), ?_⟩
  refine ⟨_, rfl, o1, _, rfl, .inl (SqL.of v1.1), fun q hq => ?_⟩
  have z1 := same_new (o := HO.lst (c1.map (fun c : Addr × Nat × Nat × Nat => V.ref c.1))) hq
  refine ⟨_, rfl, o2, rfl, ⟨_, SqL.of (z1 _ _ v2.1)⟩, ?_⟩
  refine for_list (xs := c2.map (fun c : Addr × Nat × Nat × Nat => V.ref c.1)) (fun i σ H1 => Same H H1 ∧ ColsV H1 q (pourC c1 (c2.take i)) ∧ ∃ v, σ = [some (.ref o1), some (.ref o2), some (.ref q), v]) ⟨z1, ⟨upd_same, fun c hc => (v1.2 c hc).mono z1⟩, none, rfl⟩ (fun i σ H1 _ p => SqL.of (p.1 _ _ v2.1)) ?_ ?_
  ·rintro i x σ H1 hx ⟨s1, cq, v, rfl⟩
   rw [List.getElem?_map] at hx
   cases hd : c2[i]? with
   | none => rw [hd] at hx; cases hx
   | some d =>
    rw [hd] at hx
    cases hx
    have hil : i < c2.length := (List.getElem?_eq_some_iff.mp hd).1
    have cd := (v2.2 d (List.mem_of_getElem? hd)).mono s1
    have tk : c2.take (i + 1) = c2.take i ++ [d] := by rw [List.take_add_one, hd]; rfl
    have pk : pourC c1 (c2.take (i + 1)) = addC (pourC c1 (c2.take i)) d := by rw [tk, pour_snoc]
    refine ⟨_, rfl, _, rfl, in_cols (neg := true) cq cd ⟨_, rfl, ?_⟩⟩
    cases hf : (pourC c1 (c2.take i)).findIdx? (isC d.2.1 d.2.2.1 d.2.2.2) with
    | some j =>
     have ea : addC (pourC c1 (c2.take i)) d = pourC c1 (c2.take i) := by unfold addC; rw [hf]; rfl
     exact ⟨s1, by rw [pk, ea]; exact cq, _, rfl⟩
    | none =>
     have ea : addC (pourC c1 (c2.take i)) d = pourC c1 (c2.take i) ++ [d] := by unfold addC; rw [hf]; rfl
     have pl := pour_len c1 (c2.take i)
     rw [List.length_take] at pl
     refine ⟨_, rfl, .inl ⟨rfl, _, SqL.of cq.1⟩, _, rfl, q, _, _, rfl, rfl, cq.1, Nat.lt_of_lt_of_le (by rw [List.length_map]; omega : _ < 5000) (by decide), ?_⟩
     have f5 : Fr0 q H1 (upd H1 q (.lst ((pourC c1 (c2.take i)).map (fun c : Addr × Nat × Nat × Nat => V.ref c.1) ++ [.ref d.1]))) := fun b o hb hne => by rw [upd_ne hne]; exact hb
     exact ⟨same_upd s1 hq, by rw [pk, ea]; exact ColsV.snoc upd_same (fun x hx => f5.col cq.1 (cq.2 x hx)) (f5.col cq.1 cd), _, rfl⟩
  ·rintro σ H1 ⟨s1, cq, v, rfl⟩
   rw [List.length_map, List.take_length] at cq
   have v21 := v2.mono s1
   refine ⟨_, rfl, _, rfl, o2, rfl, ⟨_, SqL.of v21.1⟩, fun D hD => ?_⟩
   refine comp_fm (k := 0) (fun x => match tupOf H1 x with | some [.int r, .int g, .int b] => .int (((pourC c1 c2).findIdx? (isC r.toNat g.toNat b.toNat)).getD 0 : Nat) | _ => .non) (fun _ => true) (src_list (SqL.of v21.1)) (by rw [List.length_map]; exact Nat.le_trans h2 (by decide)) hD (fun x _ H' Qb _ kk => kk H' (Same.refl _)) (fun x hx _ H' Q' sm kk => ?_) fun H2 s2 hD2 => ?_
   ·obtain ⟨d, hd, rfl⟩ := List.mem_map.mp hx
    have cd := v21.2 d hd
    have := kk H' (Same.refl _)
    rw [tupOf_tup cd.top] at this
    refine ⟨_, rfl, .inl ⟨rfl, _, SqL.of (sm _ _ cq.1)⟩, _, rfl, ?_⟩
    dsimp only [tNil]
    exact index_cols (cq.mono sm) (cd.mono sm) (pour_find hd) this
   ·have eD : H2 D = some (.lst (c2.map fun d => V.int (idx (pourC c1 c2) d : Int))) := by
     rw [hD2, filter_t, List.map_map]
     congr 2
     refine List.map_congr_left fun d hd => ?_
     show (match tupOf H1 (.ref d.1) with | some [.int r, .int g, .int b] => V.int (((pourC c1 c2).findIdx? (isC r.toNat g.toNat b.toNat)).getD 0 : Nat) | _ => .non) = _
     rw [tupOf_tup (v21.2 d hd).top]; rfl
    refine ⟨sz2, fun t ht => ?_⟩
    have zt := same_new (o := HO.tup [V.ref q, .ref D]) ht
    have s12 := s1.trans s2
    exact k t q D _ (s12.trans zt) (s12.free ht) hq (s1.free hD) (ne_of_none cq.1 hD) ((cq.mono s2).mono zt) (zt _ _ eD) upd_same
theorem sc_law_poured : FnScope ["_law_one", "_law_other", "_law_e"] ["_law_one", "_law_other"] (defScope s_law_poured) := ⟨rfl, rfl, rfl, by decide +kernel, rfl, by decide +kernel, by decide +kernel⟩
theorem ok_law_poured {f : Addr} {fd : FuncData} (F : FunD K "_law_poured" "_law_poured" s_law_poured .none f fd) (T : Txt K mg cFE cC cN cM cP cL cB cD cZ tP tS tC tI) (g_poured_palettes : DefX P w K mg base 8 "poured_palettes" ["one", "other"] [] (spPour cM cL)) (g__law_word : DefM P w K mg base 2 "_law_word" ["_law_e"] [] (spWs cN cM cB cD)) : FnOk P w K mg base CX0 9 f fd ["_law_one", "_law_other"] (spLPour cL) := by
 refine F.ok sc_law_poured (fun vs H Q E h => ?_) (fun cdv A outer s H vs Q E hr h => ?_)
 ·obtain ⟨p1, l1, p2, l2, c1, c2, rfl, _⟩ := h; rfl
 ·obtain ⟨p1, l1, p2, l2, c1, c2, rfl, q1, q2, h1, h16, nd, h2, kY, kN⟩ := h
  have hr1 : Room 2 _ := hr.mono (by decide)
  refine ⟨_, (pss_one (ps_tryG (i := 2) sc_law_poured.nd rfl rfl rfl T.FolioError rfl rfl (fun pn XE R hx => (pss_one (ps_ret (pe_tup (pa_cons pe_str (pa_cons (pe_callX g_poured_palettes (hr.mono (by decide)) hx rfl (pa_cons (pv 0) (pa_cons (pv 1) pa_nil))) pa_nil)))))) (fun ea => (pss_one (ps_ret (pe_callM g__law_word hr1 rfl (pa_cons (pv 2) pa_nil))))))), ?_⟩
  refine ⟨_, rfl, _, rfl, p1, l1, p2, l2, c1, c2, rfl, q1, q2, h1, h16, nd, h2, fun hl t p3 l3 m H3 s3 ht hp3 hl3 hm nml pq em et => ?_, fun hl H3 s3 => ⟨cM, rfl, T.eM, fun ea hea => ?_⟩⟩
  ·refine ⟨sz2, fun u hu => ?_⟩
   have zu := same_new (o := HO.tup [V.str "told", .ref t]) hu
   exact kY hl u t p3 l3 m _ (s3.trans zu) (s3.free hu) ht hp3 hl3 hm nml (pq.mono zu) (zu _ _ em) (zu _ _ et) upd_same
  ·have k := kN hl
   have ex : upd H3 ea (ExcO ea cM) ea = some (ExcO ea cM) := upd_same
   have s4 := s3.trans (same_new (o := ExcO ea cM) hea)
   exact ⟨_, rfl, .inr (.inl ⟨rfl, ex, fun t H5 s5 ht et => k t H5 (s4.trans s5) (s4.free ht) et⟩)⟩
theorem sc_law_refused : FnScope ["_law_picture_here", "_law_numbers", "_law_e"] ["_law_picture_here", "_law_numbers"] (defScope s_law_refused) := ⟨rfl, rfl, rfl, by decide +kernel, rfl, by decide +kernel, by decide +kernel⟩
theorem ok_law_refused {f : Addr} {fd : FuncData} (F : FunD K "_law_refused" "_law_refused" s_law_refused .none f fd) (T : Txt K mg cFE cC cN cM cP cL cB cD cZ tP tS tC tI) (g_recoloured : DefX P w K mg base 10 "recoloured" ["picture", "numbers"] [] (spRec K cB cD cN)) (g__law_word : DefM P w K mg base 2 "_law_word" ["_law_e"] [] (spWs cN cM cB cD)) : FnOk P w K mg base CX0 11 f fd ["_law_picture_here", "_law_numbers"] (spRefd K) := by
 refine F.ok sc_law_refused (fun vs H Q E h => ?_) (fun cdv A outer s H vs Q E hr h => ?_)
 ·obtain ⟨x, y, rfl, _⟩ := h; rfl
 ·obtain ⟨x, y, rfl, h⟩ := h
  have hr1 : Room 2 _ := hr.mono (by decide)
  refine ⟨_, (pss_cons (ps_tryG (i := 2) sc_law_refused.nd rfl rfl rfl T.FolioError rfl rfl (fun pn XE R hx => (pss_one (ps_expr (pe_callX g_recoloured (hr.mono (by decide)) hx rfl (pa_cons (pv 0) (pa_cons (pv 1) pa_nil)))))) (fun ea => (pss_one (ps_ret (pe_callM g__law_word hr1 rfl (pa_cons (pv 2) pa_nil))))))
    (pss_one (ps_ret (pe_tup pa_nil)))), ?_⟩
  rcases h with ⟨bad, k⟩ | ⟨a, ps, rows, wd, rfl, pic, gd, ⟨ty, by_, k⟩ | ⟨l, ns, rfl, el, hl, hc, hm, k⟩⟩
  ·refine ⟨_, rfl, _, rfl, x, y, rfl, .inl ⟨bad, fun H3 s3 => ⟨cB, rfl, T.eB, fun ea hea => ?_⟩⟩⟩
   have ex : upd H3 ea (ExcO ea cB) ea = some (ExcO ea cB) := upd_same
   have s4 := s3.trans (same_new (o := ExcO ea cB) hea)
   exact ⟨_, rfl, .inr (.inr (.inl ⟨rfl, ex, fun t H5 s5 ht et => k t H5 (s4.trans s5) (s4.free ht) et⟩))⟩
  ·refine ⟨_, rfl, _, rfl, _, y, rfl, .inr ⟨a, ps, rows, wd, rfl, pic, gd, .inl ⟨ty, by_, fun H3 s3 => ⟨cD, rfl, T.eD, fun ea hea => ?_⟩⟩⟩⟩
   have ex : upd H3 ea (ExcO ea cD) ea = some (ExcO ea cD) := upd_same
   have s4 := s3.trans (same_new (o := ExcO ea cD) hea)
   exact ⟨_, rfl, .inr (.inr (.inr ⟨rfl, ex, fun t H5 s5 ht et => k t H5 (s4.trans s5) (s4.free ht) et⟩))⟩
  ·refine ⟨_, rfl, _, rfl, _, _, rfl, .inr ⟨a, ps, rows, wd, rfl, pic, gd, .inr ⟨l, ns, rfl, el, hl, hc, fun hlt => absurd hlt (by omega), fun _ H3 s3 => ⟨cN, rfl, T.eN, fun ea hea => ?_⟩⟩⟩⟩
   have ex : upd H3 ea (ExcO ea cN) ea = some (ExcO ea cN) := upd_same
   have s4 := s3.trans (same_new (o := ExcO ea cN) hea)
   exact ⟨_, rfl, .inl ⟨rfl, ex, fun t H5 s5 ht et => k t H5 (s4.trans s5) (s4.free ht) et⟩⟩
end
end K18
namespace L2
open PySem PySem.Spec PyProof.Rows C5
structure ShI (X : Cx) (tg e : Expr) (w : TI) : Prop where
 pi : PI X tg e w
section
variable {X : Cx} {sc : Scope} {N : List Str} {src : List (Option Nat)}
theorem qpiK {tg l : Expr} {tl : TE} (K : W.Frag) (h : X.K = K) (hl : ShE X l tl) : ShI X tg l (iList K tl) := ⟨by subst h; exact pi_list hl.pe⟩
theorem qpe_comp {elt tgt iter : Expr} {ifs : List Expr} {wi : TI} {g : TG} {tt : TT} {te : TE} {pos : Pos} (hc : X.calm = true) (B : BkScope X.env.scope sc X.N N src) (hi : ShI X tgt iter wi)
  (hg : ∀ (s : Shared) (H : Hp) (C : Addr) (fp : List Addr), PG (cxB X sc N fp C s H) tgt g) (ht : ∀ (s : Shared) (H : Hp) (C : Addr) (fp : List Addr), PTs (cxB X sc N fp C s H) ifs tt)
  (he : ∀ (s : Shared) (H : Hp) (C : Addr) (fp : List Addr), PE (cxB X sc N fp C s H) elt te) (hs : ∀ x, foldedSetIterable iter X.env x = pure x := by intro _; rfl) :
  ShE X (.ListComp elt [⟨tgt, iter, ifs, 0⟩] sc pos) (tComp src wi g tt te) := ⟨pe_comp hc B hi.pi hg ht he hs⟩
theorem qpe_slice {r : V → Option Int → Option Int → Hp → VK → Prop} {e : Expr} {te : TE} {lo hi : Option Expr} {tl th : TO} {p2 pos : Pos} (hr : SlR X r) (he : ShE X e te) (hl : PO X lo tl) (hu : PO X hi th) : ShE X (.Subscript e (.Slice lo hi none p2) pos) (tSl r te tl th) := ⟨pe_slice hr he.pe hl hu⟩
end
end L2
set_option maxHeartbeats 400000
namespace K18
open PySem L2 M4
noncomputable def Fr (X : List Addr) (H H' : Hp) : Prop := ∀ b o, H b = some o → b ∉ X → H' b = some o
theorem Fr.trans {X : List Addr} {H H1 H2 : Hp} (a : Fr X H H1) (b : Fr X H1 H2) : Fr X H H2 := fun c o h n => b c o (a c o h n) n
theorem Same.fr {X : List Addr} {H H' : Hp} (s : Same H H') : Fr X H H' := fun b o h _ => s b o h
noncomputable def Lsts (H : Hp) (X : List Addr) : Prop := ∀ x ∈ X, ∃ ys, H x = some (.lst ys)
theorem Fr.oth {X : List Addr} {H H' : Hp} {b : Addr} {o : HO} (f : Fr X H H') (l : Lsts H X) (h : H b = some o) (d : ∀ ys, o ≠ .lst ys) : H' b = some o :=
 f b o h fun z => by
  obtain ⟨ys, e⟩ := l b z
  rw [h] at e
  exact d ys (Option.some.inj e)
theorem Fr.col {X : List Addr} {H H' : Hp} {a : Addr} {r g b : Nat} (f : Fr X H H') (l : Lsts H X) (c : Col H a r g b) : Col H' a r g b := ⟨f.oth l c.top (fun ys z => by cases z), c.lr, c.lg, c.lb⟩
theorem Fr.cols {X : List Addr} {H H' : Hp} {a : Addr} {cs : List (Addr × Nat × Nat × Nat)} (f : Fr X H H') (l : Lsts H X) (v : ColsV H a cs) (n : a ∉ X) : ColsV H' a cs := ⟨f a _ v.1 n, fun c hc => f.col l (v.2 c hc)⟩
structure Two (cL : Addr) (H : Hp) (p l o : Bool → Addr) (c : Bool → List (Addr × Nat × Nat × Nat)) : Prop where
 pal : ∀ b, PalV cL H (p b) (l b) (c b)
 own : ∀ b, ColsV H (o b) (c b)
 le : ∀ b, (c b).length ≤ 16
 ll : l true ≠ l false
 oo : o true ≠ o false
 ol : ∀ i j, o i ≠ l j
noncomputable def XX (l o : Bool → Addr) : List Addr := [o true, o false, l true, l false]
theorem Two.mono {cL : Addr} {H H' : Hp} {p l o : Bool → Addr} {c : Bool → List (Addr × Nat × Nat × Nat)} (w : Two cL H p l o c) (s : Same H H') : Two cL H' p l o c := ⟨fun b => (w.pal b).mono s, fun b => (w.own b).mono s, w.le, w.ll, w.oo, w.ol⟩
theorem mem_XX {l o : Bool → Addr} {x : Addr} : x ∈ XX l o ↔ ∃ b, x = o b ∨ x = l b := by
 unfold XX
 simp only [List.mem_cons, List.not_mem_nil, or_false]
 constructor
 ·rintro (h | h | h | h)
  ·exact ⟨true, .inl h⟩
  ·exact ⟨false, .inl h⟩
  ·exact ⟨true, .inr h⟩
  ·exact ⟨false, .inr h⟩
 ·rintro ⟨b, h | h⟩ <;> cases b <;> simp [h]
noncomputable def spBy (cL : Addr) : Sp := fun vs H Q _ => ∃ (p l o : Bool → Addr) (c : Bool → List (Addr × Nat × Nat × Nat)), vs = [.ref (p false), .ref (o false), .ref (p true), .ref (o true)] ∧ Two cL H p l o c ∧
 ∀ (c' : Bool → List (Addr × Nat × Nat × Nat)) H', Fr (XX l o) H H' → Two cL H' p l o c' → (c' false = c false ∨ ∃ d, c' false = c false ++ [d] ∧ ∀ b, (c b).findIdx? (isC d.2.1 d.2.2.1 d.2.2.2) = none) → Q (.bl true) H'
theorem find_app {a b : List (Addr × Nat × Nat × Nat)} {f : Addr × Nat × Nat × Nat → Bool} (h : (a ++ b).findIdx? f = none) : a.findIdx? f = none ∧ b.findIdx? f = none := by
 rw [List.findIdx?_eq_none_iff] at h ⊢
 refine ⟨fun x hx => h x (List.mem_append_left _ hx), ?_⟩
 rw [List.findIdx?_eq_none_iff]
 exact fun x hx => h x (List.mem_append_right _ hx)
section
variable {P : Program} {w : World} {K : W.Frag} {mg : Str → Option Value} {base : Heap} {cFE cC cN cM cP cL cB cD cZ : Addr} {tP tS tC tI : Tok}
theorem sc_law_new_colour : FnScope ["_law_colours"] ["_law_colours"] (defScope s_law_new_colour) := ⟨rfl, rfl, rfl, by decide +kernel, rfl, by decide +kernel, by decide +kernel⟩
theorem ok_law_new_colour {f : Addr} {fd : FuncData} (F : FunD K "_law_new_colour" "_law_new_colour" s_law_new_colour .none f fd) (T : Txt K mg cFE cC cN cM cP cL cB cD cZ tP tS tC tI) : FnOk P w K mg base CX0 1 f fd ["_law_colours"] (spNew) := by
 refine F.ok sc_law_new_colour (fun vs H Q E h => ?_) (fun cdv A outer s H vs Q E hr h => ?_)
 ·obtain ⟨l, cs, rfl, _⟩ := h; rfl
 ·obtain ⟨l, cs, rfl, cv, hl, k⟩ := h
  have hu : _ + 64 < cLine := hr.units
  have hh : ShB ((cxOf CX0 P w K mg base ["_law_colours"] "_law_new_colour" (defScope s_law_new_colour) f cdv A outer s H E).nox) (defBody s_law_new_colour) _ := (qpss_one (qps_ret (qpe_slice (slK K rfl) (qpe_comp (N := ["_law_colour_here", "_law_colours"]) (src := [none, some 0]) rfl ⟨rfl, rfl, rfl, rfl, rfl, by decide +kernel⟩ (qpiK K rfl (qpe_lst (qpa_cons (qpe_tup (qpa_cons qpe_int slC (qpa_cons qpe_int slC (qpa_cons qpe_int slC qpa_nil)))) slTup (qpa_cons (qpe_tup (qpa_cons qpe_int slC (qpa_cons qpe_int slC (qpa_cons qpe_int slC qpa_nil)))) slTup (qpa_cons (qpe_tup (qpa_cons qpe_int slC (qpa_cons qpe_int slC (qpa_cons qpe_int slC qpa_nil)))) slTup qpa_nil))))) (fun s H C fp => pg_name (i := 0) (show (["_law_colour_here", "_law_colours"] : List Str).Nodup by decide +kernel) rfl (.inl rfl)) (fun s H C fp => (pts_one (pt_cmpR (op_notInD K rfl 1 (by decide) hu) (pv 0) (pv 1) (by with_unfolding_all rfl)))) (fun s H C fp => (pv 0))) po_none (po_some pe_int))))
  obtain ⟨hh⟩ := hh
  refine ⟨_, @hh, ?_⟩
  refine ⟨sz3, fun t1 h1 => ?_⟩
  have z1 := same_new (o := HO.tup [V.int 1, .int 2, .int 3]) h1
  refine ⟨sz3, fun t2 h2 => ?_⟩
  have z2 := same_new (o := HO.tup [V.int 4, .int 5, .int 6]) h2
  refine ⟨sz3, fun t3 h3 => ?_⟩
  have z3 := same_new (o := HO.tup [V.int 7, .int 8, .int 9]) h3
  refine ⟨sz3, fun S hS => ?_⟩
  have z4 := same_new (o := HO.lst [V.ref t1, .ref t2, .ref t3]) hS
  have c1 : Col _ t1 1 2 3 := ⟨(z2.trans (z3.trans z4)) t1 (.tup [.int 1, .int 2, .int 3]) upd_same, by decide, by decide, by decide⟩
  have c2 : Col _ t2 4 5 6 := ⟨(z3.trans z4) t2 (.tup [.int 4, .int 5, .int 6]) upd_same, by decide, by decide, by decide⟩
  have c3 : Col _ t3 7 8 9 := ⟨z4 t3 (.tup [.int 7, .int 8, .int 9]) upd_same, by decide, by decide, by decide⟩
  have zz := z1.trans (z2.trans (z3.trans z4))
  have eS : upd (upd (upd (upd H t1 (.tup [V.int 1, .int 2, .int 3])) t2 (.tup [V.int 4, .int 5, .int 6])) t3 (.tup [V.int 7, .int 8, .int 9])) S (.lst [V.ref t1, .ref t2, .ref t3]) S = some (.lst [V.ref t1, .ref t2, .ref t3]) := upd_same
  have ft1 : H t1 = none := h1
  have ft2 : H t2 = none := z1.free h2
  have ft3 : H t3 = none := (z1.trans z2).free h3
  generalize upd (upd (upd (upd H t1 (.tup [V.int 1, .int 2, .int 3])) t2 (.tup [V.int 4, .int 5, .int 6])) t3 (.tup [V.int 7, .int 8, .int 9])) S (.lst [V.ref t1, .ref t2, .ref t3]) = H1 at c1 c2 c3 zz eS ⊢
  clear z1 z2 z3 z4 h1 h2 h3 hS
  have all : ∀ d ∈ ([(t1, 1, 2, 3), (t2, 4, 5, 6), (t3, 7, 8, 9)] : List (Addr × Nat × Nat × Nat)), Col H1 d.1 d.2.1 d.2.2.1 d.2.2.2 ∧ H d.1 = none := fun d hd => by
   simp only [List.mem_cons, List.not_mem_nil, or_false] at hd
   rcases hd with rfl | rfl | rfl
   ·exact ⟨c1, ft1⟩
   ·exact ⟨c2, ft2⟩
   ·exact ⟨c3, ft3⟩
  have eS : H1 S = some (.lst (([(t1, 1, 2, 3), (t2, 4, 5, 6), (t3, 7, 8, 9)] : List (Addr × Nat × Nat × Nat)).map (fun c : Addr × Nat × Nat × Nat => V.ref c.1))) := eS
  have lc : ([(t1, 1, 2, 3), (t2, 4, 5, 6), (t3, 7, 8, 9)] : List (Addr × Nat × Nat × Nat)).length ≤ 3 := Nat.le_refl _
  generalize ([(t1, 1, 2, 3), (t2, 4, 5, 6), (t3, 7, 8, 9)] : List (Addr × Nat × Nat × Nat)) = cands at all eS lc
  refine ⟨S, rfl, ⟨_, SqL.of eS⟩, fun D hD => ?_⟩
  refine comp_fm (L := cands.map (fun c : Addr × Nat × Nat × Nat => V.ref c.1)) (k := 0) (fun x => x) (fun x => match tupOf H1 x with | some [.int r, .int g, .int b] => !(cs.findIdx? (isC r.toNat g.toNat b.toNat)).isSome | _ => false) (src_list (SqL.of eS)) (by rw [List.length_map]; exact Nat.le_trans lc (by decide)) hD (fun x hx H' Qb sm kk => ?_) (fun x hx _ H' Q' sm kk => ⟨_, rfl, kk H' (Same.refl _)⟩) fun H2 s2 hD2 => ?_
  ·obtain ⟨d, hd, rfl⟩ := List.mem_map.mp hx
   have cd := (all d hd).1
   rw [tupOf_tup cd.top] at kk
   exact ⟨_, rfl, _, rfl, in_cols (neg := true) (cv.mono (zz.trans sm)) (cd.mono sm) ⟨_, rfl, kk H' (Same.refl _)⟩⟩
  ·refine ⟨_, rfl, D, _, rfl, SqL.of hD2, fun q hq => ?_⟩
   have zq := same_new (o := HO.lst (cutV ((((cands.map (fun c : Addr × Nat × Nat × Nat => V.ref c.1)).filter fun x => match tupOf H1 x with | some [.int r, .int g, .int b] => !(cs.findIdx? (isC r.toNat g.toNat b.toNat)).isSome | _ => false)).map fun x => x) none (some 1))) hq
   have s02 := zz.trans s2
   have ef : (cutV ((((cands.map (fun c : Addr × Nat × Nat × Nat => V.ref c.1)).filter fun x => match tupOf H1 x with | some [.int r, .int g, .int b] => !(cs.findIdx? (isC r.toNat g.toNat b.toNat)).isSome | _ => false)).map fun x => x) none (some 1)) = ((cands.filter fun d => !(cs.findIdx? (isC d.2.1 d.2.2.1 d.2.2.2)).isSome).take 1).map (fun c : Addr × Nat × Nat × Nat => V.ref c.1) := by
    rw [show ∀ xs : List V, cutV xs none (some 1) = xs.take 1 from fun xs => cut_hi xs 1, List.map_id', List.filter_map, ← List.map_take]
    congr 2
    refine List.filter_congr fun d hd => ?_
    show (match tupOf H1 (.ref d.1) with | some [.int r, .int g, .int b] => !(cs.findIdx? (isC r.toNat g.toNat b.toNat)).isSome | _ => false) = _
    rw [tupOf_tup (all d hd).1.top]; rfl
   refine k q _ _ (s02.trans zq) (s02.free hq) ⟨by rw [upd_same, ef], fun d hd => ((all d ((List.mem_filter.mp (List.mem_of_mem_take hd)).1)).1.mono s2).mono zq⟩ (by rw [List.length_take]; omega) (fun d hd => ?_)
   have md := List.mem_of_mem_take hd
   refine ⟨(all d ((List.mem_filter.mp md).1)).2, ?_⟩
   have := (List.mem_filter.mp md).2
   simpa using this
end
noncomputable def upC (c : Bool → List (Addr × Nat × Nat × Nat)) (b : Bool) (d : Addr × Nat × Nat × Nat) : Bool → List (Addr × Nat × Nat × Nat) := fun x => if x = b then c b ++ [d] else c x
theorem Two.lsts {cL : Addr} {H : Hp} {p l o : Bool → Addr} {c : Bool → List (Addr × Nat × Nat × Nat)} (w : Two cL H p l o c) : Lsts H (XX l o) := fun x hx => by
 obtain ⟨b, rfl | rfl⟩ := mem_XX.mp hx
 ·exact ⟨_, (w.own b).1⟩
 ·exact ⟨_, (w.pal b).2.1⟩
theorem Two.half {cL : Addr} {H H2 : Hp} {p l o : Bool → Addr} {c : Bool → List (Addr × Nat × Nat × Nat)} {b : Bool} {d : Addr × Nat × Nat × Nat} (w : Two cL H p l o c) (cd : Col H d.1 d.2.1 d.2.2.1 d.2.2.2)
  (k2 : ∀ x q, H x = some q → x ≠ l b → H2 x = some q) (e2 : H2 (l b) = some (.lst ((c b).map (fun c : Addr × Nat × Nat × Nat => V.ref c.1) ++ [.ref d.1]))) :
  PalV cL H2 (p b) (l b) (c b ++ [d]) ∧ PalV cL H2 (p (!b)) (l (!b)) (c (!b)) ∧ (∀ i, ColsV H2 (o i) (c i)) ∧ Col H2 d.1 d.2.1 d.2.2.1 d.2.2.2 := by
 have f : Fr0 (l b) H H2 := k2
 have el := (w.pal b).2.1
 obtain ⟨⟨dx, hp⟩, cv⟩ := w.pal b
 have cd2 := f.col el cd
 have nl : l (!b) ≠ l b := by cases b; exact w.ll; exact w.ll.symm
 exact ⟨⟨⟨dx, f.oth el hp (fun ys z => by cases z)⟩, ColsV.snoc e2 (fun x hx => f.col el (cv.2 x hx)) cd2⟩, f.pal el (w.pal (!b)) nl, fun i => f.cols el (w.own i) (w.ol i b), cd2⟩
theorem Two.step {cL : Addr} {H H2 H3 : Hp} {p l o : Bool → Addr} {c : Bool → List (Addr × Nat × Nat × Nat)} {b : Bool} {d : Addr × Nat × Nat × Nat} (w : Two cL H p l o c) (cd : Col H d.1 d.2.1 d.2.2.1 d.2.2.2)
  (k2 : ∀ x q, H x = some q → x ≠ l b → H2 x = some q) (e2 : H2 (l b) = some (.lst ((c b).map (fun c : Addr × Nat × Nat × Nat => V.ref c.1) ++ [.ref d.1]))) (h16 : (c b).length < 16) (s : Same H2 H3) :
  Two cL (upd H3 (o b) (.lst ((c b).map (fun c : Addr × Nat × Nat × Nat => V.ref c.1) ++ [.ref d.1]))) p l o (upC c b d) ∧ Fr (XX l o) H (upd H3 (o b) (.lst ((c b).map (fun c : Addr × Nat × Nat × Nat => V.ref c.1) ++ [.ref d.1]))) := by
 obtain ⟨h1, h2, h3, h4⟩ := w.half cd k2 e2
 have f : Fr0 (o b) H3 (upd H3 (o b) (.lst ((c b).map (fun c : Addr × Nat × Nat × Nat => V.ref c.1) ++ [.ref d.1]))) := fun x q hx hne => by rw [upd_ne hne]; exact hx
 have eo := ((h3 b).mono s).1
 have ub : upC c b d b = c b ++ [d] := if_pos rfl
 have un : upC c b d (!b) = c (!b) := if_neg (by cases b <;> decide)
 have spl : ∀ {P : Bool → Prop}, P b → P (!b) → ∀ x, P x := fun {P} a1 a2 x => by cases b <;> cases x <;> assumption
 refine ⟨⟨spl ?_ ?_, spl ?_ ?_, spl ?_ ?_, w.ll, w.oo, w.ol⟩, fun x q hx hn => ?_⟩
 ·rw [ub]; exact f.pal eo (h1.mono s) (w.ol b b).symm
 ·rw [un]; exact f.pal eo (h2.mono s) (w.ol b (!b)).symm
 ·rw [ub]; exact ColsV.snoc upd_same (fun x hx => f.col eo (((h3 b).mono s).2 x hx)) (f.col eo (h4.mono s))
 ·rw [un]; exact f.cols eo ((h3 (!b)).mono s) (by cases b; exact w.oo; exact w.oo.symm)
 ·rw [ub, List.length_append]; show _ + 1 ≤ 16; omega
 ·rw [un]; exact w.le _
 ·have n1 : x ≠ l b := fun z => hn (mem_XX.mpr ⟨b, .inr z⟩)
  have n2 : x ≠ o b := fun z => hn (mem_XX.mpr ⟨b, .inl z⟩)
  rw [upd_ne n2]; exact s _ _ (k2 x q hx n1)
section
variable {P : Program} {w : World} {K : W.Frag} {mg : Str → Option Value} {base : Heap} {cFE cC cN cM cP cL cB cD cZ : Addr} {tP tS tC tI : Tok}
theorem sc_law_by_itself : FnScope ["_law_one", "_law_ones", "_law_poured_here", "_law_colours", "_law_palette", "_law_own_here", "_law_beside", "_law_due", "_law_fresh"] ["_law_one", "_law_ones", "_law_poured_here", "_law_colours"] (defScope s_law_by_itself) := ⟨rfl, rfl, rfl, by decide +kernel, rfl, by decide +kernel, by decide +kernel⟩
theorem ok_law_by_itself {f : Addr} {fd : FuncData} (F : FunD K "_law_by_itself" "_law_by_itself" s_law_by_itself .none f fd) (T : Txt K mg cFE cC cN cM cP cL cB cD cZ tP tS tC tI) (g__law_new_colour : Def P w K mg base 1 "_law_new_colour" ["_law_colours"] [] (spNew)) (g_m_colours : MetD P w K mg base cL 1 "colours" ["self"] (spCols cL)) (g_m_add_colour : MetX P w K mg base cL 6 "add_colour" ["self", "colour"] (spAdd K cC cM cL)) : FnOk P w K mg base CX0 7 f fd ["_law_one", "_law_ones", "_law_poured_here", "_law_colours"] (spBy cL) := by
 refine F.ok sc_law_by_itself (fun vs H Q E h => ?_) (fun cdv A outer s H vs Q E hr h => ?_)
 ·obtain ⟨p, l, o, c, rfl, _⟩ := h; rfl
 ·obtain ⟨p, l, o, c, rfl, w, k⟩ := h
  have hu : _ + 64 < cLine := hr.units
  refine ⟨_, (pss_cons (ps_for PassesOwn.never rfl (piTK K rfl (pe_tup (pa_cons (pe_tup (pa_cons (pv 2) (pa_cons (pv 3) (pa_cons (pv 0) (pa_cons (pv 1) pa_nil))))) (pa_cons (pe_tup (pa_cons (pv 0) (pa_cons (pv 1) (pa_cons (pv 2) (pa_cons (pv 3) pa_nil))))) pa_nil)))) (pg_tup rfl (pgs_cons (pg_name (i := 4) sc_law_by_itself.nd rfl (.inl rfl)) (pgs_cons (pg_name (i := 5) sc_law_by_itself.nd rfl (.inl rfl)) (pgs_cons (pg_name (i := 6) sc_law_by_itself.nd rfl (.inl rfl)) (pgs_cons (pg_name (i := 7) sc_law_by_itself.nd rfl (.inl rfl)) pgs_nil))))) (pss_cons (ps_set (i := 8) sc_law_by_itself.nd rfl (.inl rfl) (pe_callD g__law_new_colour (hr.mono (by decide)) rfl (pa_cons (pe_op op_cat (pv 5) (pv 7)) pa_nil)))
    (pss_one (ps_if (PW.pt (pw_and (pt_cmpR op_lt (pe_callB (lenK K rfl) rfl T.len PySem.boot_len (pa_cons (pv 5) pa_nil)) pe_int (nomark _)) (pw_and1 (pt_cmpR (neDK K rfl hu) (pv 8) (pe_lst pa_nil) (nomark _))))) (pss_cons (ps_if (PW.pt (pw_or (pt_cmpR op_ne (pe_metX (pv 4) T.cl g_m_add_colour (hr.mono (by decide)) passF (pa_cons (pe_ix (ixK K rfl) (pv 8) pe_int (fun _ _ => rfl)) pa_nil)) (pe_callB (lenK K rfl) rfl T.len PySem.boot_len (pa_cons (pv 5) pa_nil)) (nomark _)) (pw_or1 (pt_cmpR (neDK K rfl hu) (pe_metD0 (pv 6) T.cl g_m_colours (hr.mono (by decide))) (pv 7) (nomark _))))) (pss_one (ps_ret pe_bl)) pss_nil)
    (pss_one (ps_expr (pe_bm PySem.F.plainAttrs_list PySem.F.slot_list_append PySem.F.type_list_append mt_append (pv 5) (pa_cons (pe_ix (ixK K rfl) (pv 8) pe_int (fun _ _ => rfl)) pa_nil))))) pss_nil))))
    (pss_one (ps_ret pe_bl))), ?_⟩
  refine ⟨_, rfl, _, rfl, _, rfl, _, rfl, sz4, fun t1 h1 => ?_⟩
  have z1 := same_new (o := HO.tup [V.ref (p true), .ref (o true), .ref (p false), .ref (o false)]) h1
  refine ⟨_, rfl, _, rfl, _, rfl, _, rfl, sz4, fun t2 h2 => ?_⟩
  have z2 := same_new (o := HO.tup [V.ref (p false), .ref (o false), .ref (p true), .ref (o true)]) h2
  refine ⟨sz2, fun T3 h3 => ?_⟩
  have z3 := same_new (o := HO.tup [V.ref t1, .ref t2]) h3
  have e1 := (z2.trans z3) t1 (.tup [V.ref (p true), .ref (o true), .ref (p false), .ref (o false)]) upd_same
  have e2 := z3 t2 (.tup [V.ref (p false), .ref (o false), .ref (p true), .ref (o true)]) upd_same
  have e3 : upd (upd (upd H t1 (.tup [V.ref (p true), .ref (o true), .ref (p false), .ref (o false)])) t2 (.tup [V.ref (p false), .ref (o false), .ref (p true), .ref (o true)])) T3 (.tup [V.ref t1, .ref t2]) T3 = some (.tup [V.ref t1, .ref t2]) := upd_same
  have zz := z1.trans (z2.trans z3)
  generalize upd (upd (upd H t1 (.tup [V.ref (p true), .ref (o true), .ref (p false), .ref (o false)])) t2 (.tup [V.ref (p false), .ref (o false), .ref (p true), .ref (o true)])) T3 (.tup [V.ref t1, .ref t2]) = H1 at zz e1 e2 e3 ⊢
  clear z1 z2 z3
  refine ⟨T3, rfl, ⟨_, SqT.of e3⟩, ?_⟩
  refine for_tup (xs := [V.ref t1, .ref t2]) (fun i σ H2 => Fr (XX l o) H H2 ∧ H2 T3 = some (.tup [V.ref t1, .ref t2]) ∧ H2 t1 = some (.tup [V.ref (p true), .ref (o true), .ref (p false), .ref (o false)]) ∧ H2 t2 = some (.tup [V.ref (p false), .ref (o false), .ref (p true), .ref (o true)]) ∧
   (∃ c' : Bool → List (Addr × Nat × Nat × Nat), Two cL H2 p l o c' ∧ (∃ e, c' true = c true ++ e) ∧ (i ≤ 1 → c' false = c false) ∧ (c' false = c false ∨ ∃ d, c' false = c false ++ [d] ∧ ∀ b, (c b).findIdx? (isC d.2.1 d.2.2.1 d.2.2.2) = none)) ∧
   ∃ v1 v2 v3 v4 v5 : Option V, σ = [some (.ref (p false)), some (.ref (o false)), some (.ref (p true)), some (.ref (o true)), v1, v2, v3, v4, v5]) ⟨Same.fr zz, e3, e1, e2, ⟨c, w.mono zz, ⟨[], by simp⟩, fun _ => rfl, .inl rfl⟩, _, _, _, _, _, rfl⟩ (fun i σ H2 _ q => SqT.of q.2.1) ?_ ?_
  ·rintro i x σ H2 hx ⟨fr, e3, e1, e2, ⟨c', w2, ⟨ex, hex⟩, hf1, hf⟩, v1, v2, v3, v4, v5, rfl⟩
   obtain ⟨b, tb, rfl, eb, hib⟩ : ∃ (b : Bool) (tb : Addr), x = .ref tb ∧ H2 tb = some (.tup [V.ref (p b), .ref (o b), .ref (p (!b)), .ref (o (!b))]) ∧ ((i = 0 ∧ b = true) ∨ (i = 1 ∧ b = false)) := by
    match i, hx with
    | 0, hx => cases hx; exact ⟨true, t1, rfl, e1, .inl ⟨rfl, rfl⟩⟩
    | 1, hx => cases hx; exact ⟨false, t2, rfl, e2, .inr ⟨rfl, rfl⟩⟩
   refine ⟨tb, _, rfl, SqT.of eb, rfl, _, _, rfl, _, _, rfl, _, _, rfl, _, _, rfl, rfl, ?_⟩
   refine ⟨_, rfl, _, rfl, o b, o (!b), _, _, rfl, rfl, (w2.own b).1, (w2.own (!b)).1, Nat.le_trans (by rw [List.length_map, List.length_map]; have := w2.le b; have := w2.le (!b); omega : _ ≤ 5000) (by decide), fun q1 hq1 => ?_⟩
   have z4 := same_new (o := HO.lst ((c' b).map (fun c : Addr × Nat × Nat × Nat => V.ref c.1) ++ (c' (!b)).map (fun c : Addr × Nat × Nat × Nat => V.ref c.1))) hq1
   have cq : ColsV (upd H2 q1 (.lst ((c' b).map (fun c : Addr × Nat × Nat × Nat => V.ref c.1) ++ (c' (!b)).map (fun c : Addr × Nat × Nat × Nat => V.ref c.1)))) q1 (c' b ++ c' (!b)) := ⟨by rw [upd_same, List.map_append], fun d hd => (by rcases List.mem_append.mp hd with hd | hd; exact ((w2.own b).2 d hd).mono z4; exact ((w2.own (!b)).2 d hd).mono z4)⟩
   refine ⟨q1, _, rfl, cq, by rw [List.length_append]; have := w2.le b; have := w2.le (!b); omega, fun q ds H3 s3 hq cd hl hds => ?_⟩
   have s23 := z4.trans s3
   have w3 := w2.mono s23
   have stay : ∀ H4, Same H2 H4 → Fr (XX l o) H H4 ∧ H4 T3 = some (.tup [V.ref t1, .ref t2]) ∧ H4 t1 = some (.tup [V.ref (p true), .ref (o true), .ref (p false), .ref (o false)]) ∧ H4 t2 = some (.tup [V.ref (p false), .ref (o false), .ref (p true), .ref (o true)]) ∧
    (∃ c' : Bool → List (Addr × Nat × Nat × Nat), Two cL H4 p l o c' ∧ (∃ e, c' true = c true ++ e) ∧ (i + 1 ≤ 1 → c' false = c false) ∧ (c' false = c false ∨ ∃ d, c' false = c false ++ [d] ∧ ∀ b, (c b).findIdx? (isC d.2.1 d.2.2.1 d.2.2.2) = none)) := fun H4 s4 => ⟨fr.trans (Same.fr s4), s4 _ _ e3, s4 _ _ e1, s4 _ _ e2, c', w2.mono s4, ⟨ex, hex⟩, fun h => hf1 (by omega), hf⟩
   refine ⟨_, rfl, o b, _, rfl, .inl (SqL.of (w3.own b).1), _, _, rfl, rfl, _, rfl, ite2 (fun h16 => ?_) (fun h16 => ?_)⟩
   case refine_2 =>
    obtain ⟨a1, a2, a3, a4, a5⟩ := stay H3 s23
    exact ⟨a1, a2, a3, a4, a5, _, _, _, _, _, rfl⟩
   rw [List.length_map] at h16
   have h16 : (c' b).length < 16 := by have := of_decide_eq_true h16; omega
   refine ⟨_, rfl, sz0, fun en hen => ?_⟩
   have z5 := same_new (o := HO.lst []) hen
   refine ⟨0, q, en, _, by decide, rfl, rfl, EqL.nil (SqL.of (z5 _ _ cd.1)) (SqL.of upd_same), _, rfl, ?_⟩
   have cd := cd.mono z5
   have w3 := w3.mono z5
   have s25 := s23.trans z5
   generalize upd H3 en (.lst []) = H5 at cd w3 s25 ⊢
   cases ds with
   | nil =>
    obtain ⟨a1, a2, a3, a4, a5⟩ := stay H5 s25
    exact ⟨a1, a2, a3, a4, a5, _, _, _, _, _, rfl⟩
   | cons d ds =>
    have cdd := cd.2 d List.mem_cons_self
    obtain ⟨fd1, fd2⟩ := find_app (hds d List.mem_cons_self).2
    obtain ⟨⟨dx, hp⟩, cvp⟩ := id (w3.pal b)
    refine ⟨_, rfl, p b, dx, _, rfl, hp, lk_kept (by decide +kernel), _, rfl, q, _, _, _, rfl, rfl, SqL.of cd.1, atI_nat (j := 0) rfl, p b, l b, _, _, rfl, w3.pal b, w3.le b, cdd.tc, fun a' r' g' b' e c6 => ?_, fun hb => (by rw [cdd.yes] at hb; cases hb)⟩
    cases e
    obtain ⟨rfl, rfl, rfl⟩ := cdd.inj c6
    refine ⟨fun j hj => (by rw [fd1] at hj; cases hj), fun _ h16' => absurd h16' (by omega), fun _ _ H6 k6 e6 => ?_⟩
    obtain ⟨hp1, hp2, ho, cd6⟩ := w3.half (b := b) cdd k6 e6
    refine ⟨_, rfl, o b, _, rfl, .inl (SqL.of (ho b).1), rfl, _, rfl, ite2 (fun h => absurd h (by rw [List.length_map]; simp)) fun _ => ?_⟩
    obtain ⟨⟨dx2, hpn⟩, cvn⟩ := id hp2
    refine ⟨_, rfl, p (!b), dx2, _, rfl, hpn, lk_kept (by decide +kernel), p (!b), l (!b), _, rfl, hp2, fun r hr => ?_⟩
    have z7 := same_new (o := HO.lst ((c' (!b)).map (fun c : Addr × Nat × Nat × Nat => V.ref c.1))) hr
    refine ⟨_, rfl, 0, r, o (!b), true, by decide, rfl, rfl, eq_lsts upd_same (z7 _ _ (ho (!b)).1) refs_flat, _, rfl, ?_⟩
    obtain ⟨w8, fr8⟩ := w3.step (b := b) cdd k6 e6 h16 z7
    have eo7 := ((ho b).mono z7).1
    have cd7 := z7 _ _ (k6 _ _ cd.1 (ne_of_none (z4 _ _ (w2.pal b).2.1) hq).symm)
    generalize upd H6 r (.lst ((c' (!b)).map (fun c : Addr × Nat × Nat × Nat => V.ref c.1))) = H7 at w8 fr8 eo7 cd7 ⊢
    refine ⟨_, rfl, .inl ⟨rfl, _, SqL.of eo7⟩, _, rfl, q, _, _, _, rfl, rfl, SqL.of cd7, atI_nat (j := 0) rfl, o b, _, _, rfl, rfl, eo7, Nat.lt_of_lt_of_le (by rw [List.length_map]; omega : _ < 5000) (by decide), ?_⟩
    refine ⟨(fr.trans (Same.fr s25)).trans fr8, fr8.oth w3.lsts (s25 _ _ e3) (fun ys z => by cases z), fr8.oth w3.lsts (s25 _ _ e1) (fun ys z => by cases z), fr8.oth w3.lsts (s25 _ _ e2) (fun ys z => by cases z), ⟨upC c' b d, w8, ?_⟩, _, _, _, _, _, rfl⟩
    rcases hib with ⟨rfl, rfl⟩ | ⟨rfl, rfl⟩
    ·exact ⟨⟨ex ++ [d], by show c' true ++ [d] = _; rw [hex, List.append_assoc]⟩, fun _ => hf1 (by decide), .inl (hf1 (by decide))⟩
    ·have ec := hf1 (by decide)
     refine ⟨⟨ex, hex⟩, fun h => absurd h (by decide), .inr ⟨d, by show c' false ++ [d] = _; rw [ec], fun x => ?_⟩⟩
     cases x with
     | false => rw [← ec]; exact fd1
     | true =>
      have fd2 : (c' true).findIdx? (isC d.2.1 d.2.2.1 d.2.2.2) = none := fd2
      rw [hex] at fd2
      exact (find_app fd2).1
  ·rintro σ H2 ⟨fr, e3, e1, e2, ⟨c', w2, _, _, hf⟩, v1, v2, v3, v4, v5, rfl⟩
   exact k c' H2 fr w2 hf
end
noncomputable def spPG (K : W.Frag) (cL : Addr) : Sp := fun vs H Q _ => ∃ (p o t a l : Addr) (c e : List (Addr × Nat × Nat × Nat)) (ps : List Addr) (rows : List (List Int)) (wd : Nat), vs = [.ref p, .ref o, .ref t, .ref a] ∧ PalV cL H p l c ∧ ColsV H o c ∧ o ≠ l ∧ ColsV H t e ∧ t ≠ o ∧ t ≠ l ∧ 1 ≤ c.length ∧ c.length ≤ 16 ∧ (c.map kc).Nodup ∧ 1 ≤ e.length ∧ e.length ≤ 16 ∧ (e.map kc).Nodup ∧
 PicV H a ps (ir rows) ∧ Good rows wd ∧ (∀ r ∈ rows, ∀ x ∈ r, x < (e.length : Int)) ∧ ∀ c' H', Fr [o, l] H H' → PalV cL H' p l c' → ColsV H' o c' → 1 ≤ c'.length → c'.length ≤ 16 → (c'.map kc).Nodup → Q (.bl true) H'
theorem key_rows {H : Hp} (g : Int → V) : ∀ (qs : List Addr) (R : List (List Int)), Paired (fun p r => H p = some (.lst r)) qs (ir R) → (qs.map V.ref).map (fun x => ((rowOf H x).getD []).map fun v => match v with | .int c => g c | _ => .non) = R.map fun r => r.map g := by
 intro qs
 induction qs with
 | nil => intro R h; cases R with
  | nil => rfl
  | cons r R => cases h
 | cons q qs ih =>
  intro R h
  cases R with
  | nil => cases h
  | cons r R =>
   cases h with
   | cons e1 h2 =>
    rw [List.map_cons, List.map_cons, ih R h2, rowOf_lst e1]
    show List.map _ (r.map V.int) :: _ = (r.map g) :: R.map fun r => r.map g
    rw [List.map_map]; rfl
theorem ints_flat {ns : List Int} : ∀ x ∈ ns.map V.int, (∃ a, x = .ref a) ∨ flatV x = true := fun x hx => by
 obtain ⟨i, _, rfl⟩ := List.mem_map.mp hx; exact .inr rfl
theorem idx_at {c e : List (Addr × Nat × Nat × Nat)} {d : Addr × Nat × Nat × Nat} (hd : d ∈ e) : ∃ x, (pourC c e)[idx (pourC c e) d]? = some x ∧ x.2 = d.2 := by
 have h := pour_find (c1 := c) hd
 obtain ⟨hlt, hp, _⟩ := List.findIdx?_eq_some_iff_getElem.mp h
 exact ⟨_, List.getElem?_eq_getElem hlt, of_decide_eq_true hp⟩
theorem idx_lt {c e : List (Addr × Nat × Nat × Nat)} {d : Addr × Nat × Nat × Nat} (hd : d ∈ e) : idx (pourC c e) d < (pourC c e).length := by
 obtain ⟨x, h, _⟩ := idx_at (c := c) hd
 exact (List.getElem?_eq_some_iff.mp h).1
noncomputable def nsOf (c e : List (Addr × Nat × Nat × Nat)) : List Int := e.map fun d => (idx (pourC c e) d : Int)
theorem nsOf_map (c e : List (Addr × Nat × Nat × Nat)) : (e.map fun d => V.int (idx (pourC c e) d : Int)) = (nsOf c e).map V.int := by unfold nsOf; rw [List.map_map]; rfl
theorem max_lt {rows : List (List Int)} {wd : Nat} {m : Int} (g : Good rows wd) (lt : ∀ r ∈ rows, ∀ x ∈ r, x < m) : maxI rows.flatten < m := by
 obtain ⟨r, hr, hc⟩ := List.mem_flatten.mp (maxI_mem g.fne)
 exact lt r hr _ hc
theorem good_rec {rows : List (List Int)} {wd : Nat} {ns : List Int} (g : Good rows wd) (h : ∀ x ∈ ns, 0 ≤ x ∧ x ≤ 15) : Good (recR ns rows) wd := by
 refine ⟨by unfold recR; rw [List.length_map]; exact g.ne, by unfold recR; rw [List.length_map]; exact g.le, g.w1, g.w24, fun r hr => ?_⟩
 obtain ⟨r0, h0, rfl⟩ := List.mem_map.mp hr
 refine ⟨by rw [List.length_map]; exact (g.row r0 h0).1, fun c hc => ?_⟩
 obtain ⟨x, hx, rfl⟩ := List.mem_map.mp hc
 rw [List.getD_eq_getElem?_getD]
 cases hn : ns[x.toNat]? with
 | none => exact ⟨Int.le_refl 0, by decide⟩
 | some v => exact h v (List.mem_of_getElem? hn)
theorem pour_eq {K : W.Frag} {H : Hp} {q t : Addr} {c e : List (Addr × Nat × Nat × Nat)} {rows : List (List Int)} {wd : Nat} (g : Good rows wd) (lt : ∀ r ∈ rows, ∀ x ∈ r, x < (e.length : Int)) (cq : ColsV H q (pourC c e)) (ct : ColsV H t e) : RowsEq K H (shR (pourC c e) (recR (nsOf c e) rows)) (shR e rows) := by
 unfold shR recR
 refine ⟨by simp only [List.length_map], fun i r s hr hs => ?_⟩
 rw [List.map_map, List.getElem?_map] at hr
 rw [List.getElem?_map] at hs
 cases hi : rows[i]? with
 | none => rw [hi] at hs; cases hs
 | some r0 =>
  rw [hi] at hr hs
  cases hr
  cases hs
  refine ⟨by simp only [Function.comp_apply, List.length_map], fun j x y hx hy => ?_⟩
  rw [List.getElem?_map] at hy
  have hx : ((r0.map fun c' => (nsOf c e).getD c'.toNat 0).map (clr (pourC c e)))[j]? = some x := hx
  rw [List.getElem?_map, List.getElem?_map] at hx
  cases hj : r0[j]? with
  | none => rw [hj] at hy; cases hy
  | some v =>
   rw [hj] at hx hy
   cases hx
   cases hy
   have mr := List.mem_of_getElem? hi
   have mv := List.mem_of_getElem? hj
   have v0 := ((g.row r0 mr).2 v mv).1
   have vl : v.toNat < e.length := by have := lt r0 mr v mv; omega
   have me : e[v.toNat] ∈ e := List.getElem_mem vl
   obtain ⟨x, hx, h2⟩ := idx_at (c := c) me
   have e1 : clr e v = .ref e[v.toNat].1 := by unfold clr; rw [List.getD_eq_getElem?_getD, List.getElem?_eq_getElem vl]; rfl
   have e2 : (nsOf c e).getD v.toNat 0 = (idx (pourC c e) e[v.toNat] : Int) := by
    unfold nsOf
    rw [List.getD_eq_getElem?_getD, List.getElem?_map, List.getElem?_eq_getElem vl]; rfl
   have e3 : clr (pourC c e) ((nsOf c e).getD v.toNat 0) = .ref x.1 := by
    rw [e2]; unfold clr; rw [Int.toNat_natCast, List.getD_eq_getElem?_getD, hx]; rfl
   rw [e1, e3]
   have ee := colour_eqD (K := K) (cq.2 x (List.mem_of_getElem? hx)) (ct.2 _ me)
   rw [decide_eq_true (show (x.2.1, x.2.2.1, x.2.2.2) = (e[v.toNat].2.1, e[v.toNat].2.2.1, e[v.toNat].2.2.2) by rw [h2])] at ee
   exact ee
theorem nd_snoc {c : List (Addr × Nat × Nat × Nat)} {d : Addr × Nat × Nat × Nat} (n : (c.map kc).Nodup) (h : c.findIdx? (isC d.2.1 d.2.2.1 d.2.2.2) = none) : ((c ++ [d]).map kc).Nodup := by
 rw [List.map_append, List.nodup_append]
 refine ⟨n, by simp, fun a ha b hb => ?_⟩
 obtain ⟨x, hx, rfl⟩ := List.mem_map.mp ha
 rw [List.map_cons, List.map_nil, List.mem_singleton] at hb
 subst hb
 intro z
 rw [List.findIdx?_eq_none_iff] at h
 have := of_decide_eq_false (h x hx)
 unfold kc at z
 simp only [List.cons.injEq, and_true] at z
 exact this (by ext <;> simp <;> omega)
section
variable {P : Program} {w : World} {K : W.Frag} {mg : Str → Option Value} {base : Heap} {cFE cC cN cM cP cL cB cD cZ : Addr} {tP tS tC tI : Tok}
theorem isTup_tup {K : W.Frag} {H : Hp} {a : Addr} {xs : List V} (e : H a = some (.tup xs)) : IsX K H (.ref a) (.type "tuple") true := by
 have := (Kd.tup (K := K) e).isTuple
 have h : isT H (.ref a) = true := by simp only [isT, e]
 rw [h] at this; exact this
theorem sc_law_pour_good : FnScope ["_law_one", "_law_ones", "_law_others", "_law_picture_here", "_law_colours", "_law_numbers", "_law_other", "_law_found", "_law_palette", "_law_told", "_law_shown"] ["_law_one", "_law_ones", "_law_others", "_law_picture_here"] (defScope s_law_pour_good) := ⟨rfl, rfl, rfl, by decide +kernel, rfl, by decide +kernel, by decide +kernel⟩
theorem ok_law_pour_good {f : Addr} {fd : FuncData} (F : FunD K "_law_pour_good" "_law_pour_good" s_law_pour_good .none f fd) (T : Txt K mg cFE cC cN cM cP cL cB cD cZ tP tS tC tI) (g__law_poured_due : Def P w K mg base 1 "_law_poured_due" ["_law_ones", "_law_others"] [] (spPD)) (g_Palette : MakX P w K mg base cL 5 "Palette" ["self", "colours"] (spInit K cP cL)) (g__law_poured : Def P w K mg base 9 "_law_poured" ["_law_one", "_law_other"] [] (spLPour cL)) (g_m_colours : MetD P w K mg base cL 1 "colours" ["self"] (spCols cL)) (g__law_whole : Def P w K mg base 1 "_law_whole" ["_law_found"] [] (spWhole)) (g_shown_picture : DefX P w K mg base 11 "shown_picture" ["picture", "palette"] [] (spShow K cB cN cL)) (g_recoloured : DefX P w K mg base 10 "recoloured" ["picture", "numbers"] [] (spRec K cB cD cN)) (g__law_by_itself : Def P w K mg base 7 "_law_by_itself" ["_law_one", "_law_ones", "_law_poured_here", "_law_colours"] [] (spBy cL)) : FnOk P w K mg base CX0 12 f fd ["_law_one", "_law_ones", "_law_others", "_law_picture_here"] (spPG K cL) := by
 refine F.ok sc_law_pour_good (fun vs H Q E h => ?_) (fun cdv A outer s H vs Q E hr h => ?_)
 ·obtain ⟨p, o, t, a, l, c, e, ps, rows, wd, rfl, _⟩ := h; rfl
 ·obtain ⟨p, o, t, a, l, c, e, ps, rows, wd, rfl, pp, po, ol, pt, to, tl, c1, c16, cn, e1, e16, en, pic, gd, lt, k⟩ := h
  have hu : _ + 64 < cLine := hr.units
  refine ⟨_, (pss_cons (ps_asg (pe_callD g__law_poured_due (hr.mono (by decide)) rfl (pa_cons (pv 1) (pa_cons (pv 2) pa_nil))) (pg_tup rfl (pgs_cons (pg_name (i := 4) sc_law_pour_good.nd rfl (.inl rfl)) (pgs_cons (pg_name (i := 5) sc_law_pour_good.nd rfl (.inl rfl)) pgs_nil))))
    (pss_cons (ps_set (i := 6) sc_law_pour_good.nd rfl (.inl rfl) (pe_makX g_Palette (hr.mono (by decide)) passF rfl (pa_cons (pe_callTy (listK K rfl) rfl T.list PyProof.Rows.boot_list (pa_cons (pv 2) pa_nil)) pa_nil)))
    (pss_cons (ps_set (i := 7) sc_law_pour_good.nd rfl (.inl rfl) (pe_callD g__law_poured (hr.mono (by decide)) rfl (pa_cons (pv 0) (pa_cons (pv 6) pa_nil))))
    (pss_cons (ps_if (pt_cmpR op_gt (pe_callB (lenK K rfl) rfl T.len PySem.boot_len (pa_cons (pv 4) pa_nil)) pe_int (nomark _)) (pss_one (ps_ret (pe_and (pe_cmpR (eqDK K rfl hu) (pv 7) (pe_tup (pa_cons pe_str pa_nil)) (nomark _)) (pe_and (pe_cmpR (eqDK K rfl hu) (pe_metD0 (pv 0) T.cl g_m_colours (hr.mono (by decide))) (pv 1) (nomark _)) (pe_one (pe_cmpR (eqDK K rfl hu) (pe_metD0 (pv 6) T.cl g_m_colours (hr.mono (by decide))) (pv 2) (nomark _))))))) pss_nil)
    (pss_cons (ps_if (PW.pt (pw_or (pt_cmpR op_ne (pe_ix (ixTK K rfl) (pv 7) pe_int (fun _ _ => rfl)) pe_str (nomark _)) (pw_or (pt_not (pt_val (isiK K rfl (pe_ix (ixTK K rfl) (pv 7) pe_int (fun _ _ => rfl)) rfl T.isinstance rfl T.tuple PyProof.Rows.boot_tuple))) (pw_or1 (pt_cmpR op_ne (pe_callB (lenK K rfl) rfl T.len PySem.boot_len (pa_cons (pe_ix (ixTK K rfl) (pv 7) pe_int (fun _ _ => rfl)) pa_nil)) pe_int (nomark _)))))) (pss_one (ps_ret pe_bl)) pss_nil)
    (pss_cons (ps_asg (pe_ix (ixTK K rfl) (pv 7) pe_int (fun _ _ => rfl)) (pg_tup rfl (pgs_cons (pg_name (i := 8) sc_law_pour_good.nd rfl (.inl rfl)) (pgs_cons (pg_name (i := 9) sc_law_pour_good.nd rfl (.inl rfl)) pgs_nil))))
    (pss_cons (ps_if (PW.pt (pw_or (pt_not (pt_val (isiCK K rfl (pv 8) rfl T.isinstance rfl T.mgL))) (pw_or (pt_cmpR (neDK K rfl hu) (pe_metD0 (pv 8) T.cl g_m_colours (hr.mono (by decide))) (pv 4) (nomark _)) (pw_or1 (pt_not (pt_val (isiK K rfl (pv 9) rfl T.isinstance rfl T.list PyProof.Rows.boot_list))))))) (pss_one (ps_ret pe_bl)) pss_nil)
    (pss_cons (ps_if (PW.pt (pw_or (pt_cmpR (neDK K rfl hu) (pv 9) (pv 5) (nomark _)) (pw_or (pt_not (pt_val (pe_callB (allK K rfl rfl) rfl T.all PyProof.Rows.boot_all (pa_cons (pe_comp (N := ["_law_cell"]) (src := [none]) rfl ⟨rfl, rfl, rfl, rfl, rfl, by decide +kernel⟩ (piK K rfl (pv 9)) (fun s H C fp => pg_name (i := 0) (show (["_law_cell"] : List Str).Nodup by decide +kernel) rfl (.inl rfl)) (fun s H C fp => pts_nil) (fun s H C fp => (pe_callD g__law_whole (hr.mono (by decide)) rfl (pa_cons (pv 0) pa_nil)))) pa_nil)))) (pw_or1 (pt_cmpR (neDK K rfl hu) (pe_metD0 (pv 0) T.cl g_m_colours (hr.mono (by decide))) (pv 1) (nomark _)))))) (pss_one (ps_ret pe_bl)) pss_nil)
    (pss_cons (ps_set (i := 10) sc_law_pour_good.nd rfl (.inl rfl) (pe_callX g_shown_picture (hr.mono (by decide)) passF rfl (pa_cons (pe_callX g_recoloured (hr.mono (by decide)) passF rfl (pa_cons (pv 3) (pa_cons (pv 9) pa_nil))) (pa_cons (pv 8) pa_nil))))
    (pss_cons (ps_if (PW.pt (pw_or (pt_cmpR (neDK K rfl hu) (pe_metD0 (pv 6) T.cl g_m_colours (hr.mono (by decide))) (pv 2) (nomark _)) (pw_or1 (pt_cmpR (neDK K rfl hu) (pv 10) (pe_comp (N := ["_law_row", "_law_others"]) (src := [none, some 2]) rfl ⟨rfl, rfl, rfl, rfl, rfl, by decide +kernel⟩ (piK K rfl (pv 3)) (fun s H C fp => pg_name (i := 0) (show (["_law_row", "_law_others"] : List Str).Nodup by decide +kernel) rfl (.inl rfl)) (fun s H C fp => pts_nil) (fun s H C fp => (pe_comp (N := ["_law_cell", "_law_others"]) (src := [none, some 1]) rfl ⟨rfl, rfl, rfl, rfl, rfl, by decide +kernel⟩ (piK K rfl (pv 0)) (fun s H C fp => pg_name (i := 0) (show (["_law_cell", "_law_others"] : List Str).Nodup by decide +kernel) rfl (.inl rfl)) (fun s H C fp => pts_nil) (fun s H C fp => (pe_ix (ixK K rfl) (pv 1) (pv 0) (fun _ _ => rfl)))))) (nomark _))))) (pss_one (ps_ret pe_bl)) pss_nil)
    (pss_cons (ps_expr (pe_bm PySem.F.plainAttrs_list PySem.F.slot_list_append PySem.F.type_list_append mt_append (pv 9) (pa_cons pe_int pa_nil)))
    (pss_one (ps_ret (pe_callD g__law_by_itself (hr.mono (by decide)) rfl (pa_cons (pv 0) (pa_cons (pv 1) (pa_cons (pv 8) (pa_cons (pv 4) pa_nil)))))))))))))))))), ?_⟩
  have sm := Same.refl H
  have pp0 := pp
  have po0 := po
  refine ⟨_, rfl, _, rfl, o, t, c, e, rfl, po, pt, by omega, by omega, fun u1 q m1 H1 s1 fu1 fq fm1 nqm cq em1 eu1 => ?_⟩
  have sm := sm.trans s1
  have pp := pp.mono s1
  have po := po.mono s1
  have pt := pt.mono s1
  have pic := pic.mono s1
  clear s1
  refine ⟨u1, _, rfl, SqT.of eu1, rfl, _, _, rfl, _, _, rfl, rfl, ?_⟩
  clear eu1
  refine ⟨_, rfl, t, _, rfl, .inl (SqL.of pt.1), fun r h_ => ?_⟩
  obtain ⟨z_, er⟩ := put_ (HO.lst (e.map (fun c : Addr × Nat × Nat × Nat => V.ref c.1))) h_
  generalize upd H1 r (HO.lst (e.map (fun c : Addr × Nat × Nat × Nat => V.ref c.1))) = G1 at z_ er ⊢
  have fr := sm.free h_
  have sm := sm.trans z_
  have pp := pp.mono z_
  have po := po.mono z_
  have pt := pt.mono z_
  have pic := pic.mono z_
  have cq := cq.mono z_
  have em1 := z_ _ _ em1
  clear z_ h_
  intro p2 dx2 np2 ndx2 ne2
  have x1 : Same G1 (upd (upd G1 dx2 (.own p2)) p2 (.ins cL dx2 [])) := fun b q e => by rw [upd_ne (ne_of_none e np2), upd_ne (ne_of_none e ndx2)]; exact e
  have vr : ColsV G1 r e := ⟨er, fun d hd => pt.2 d hd⟩
  refine ⟨p2, dx2, _, rfl, upd_same, (vr.mono x1).tm (by omega), fun a' d' ea cv' _ _ _ l2 H2 hl2 kp2 pq2 => ⟨rfl, ?_⟩, fun ng => (ng ⟨r, e, rfl, vr.mono x1, e1, e16, en⟩).elim⟩
  cases ea
  cases (vr.mono x1).inj cv'
  have s2 : Same G1 H2 := fun b q e => kp2 b q (x1 b q e) (ne_of_none e np2)
  clear kp2 cv' vr x1 np2 ndx2 ne2 hl2
  have sm := sm.trans s2
  have pp := pp.mono s2
  have po := po.mono s2
  have pt := pt.mono s2
  have pic := pic.mono s2
  have cq := cq.mono s2
  have em1 := s2 _ _ em1
  clear s2
  refine ⟨_, rfl, _, rfl, p, l, p2, l2, c, e, rfl, pp, pq2, c1, c16, cn, by omega, fun hl u t2 p3 l3 m H3 s3 fu ft2 fp3 fl3 fm nml pq3 em et eu => ?_, fun hl u H3 s3 fu eu => ?_⟩
  case refine_2 =>
   have sm := sm.trans s3
   have pp := pp.mono s3
   have po := po.mono s3
   have pt := pt.mono s3
   have pic := pic.mono s3
   have cq := cq.mono s3
   have em1 := s3 _ _ em1
   have pq2 := pq2.mono s3
   clear s3
   refine ⟨_, rfl, q, _, rfl, .inl (SqL.of cq.1), _, _, rfl, rfl, _, rfl, ite2 (fun _ => ?_) fun h => absurd (decide_eq_true (by rw [List.length_map]; omega)) h⟩
   refine ⟨_, rfl, sz1, fun v h_ => ?_⟩
   obtain ⟨z_, ev⟩ := put_ (HO.tup [V.str "many"]) h_
   generalize upd H3 v (HO.tup [V.str "many"]) = G2 at z_ ev ⊢
   have sm := sm.trans z_
   have pp := pp.mono z_
   have po := po.mono z_
   have pt := pt.mono z_
   have pic := pic.mono z_
   have cq := cq.mono z_
   have em1 := z_ _ _ em1
   have pq2 := pq2.mono z_
   have eu := z_ _ _ eu
   clear z_ h_
   refine ⟨0, u, v, true, by decide, rfl, rfl, eq_tups eu ev (fun y hy => (by rw [List.mem_singleton.mp hy]; exact .inr rfl)), _, rfl, ?_⟩
   obtain ⟨⟨dx_, hp_⟩, _⟩ := id pp
   refine ⟨_, rfl, p, dx_, _, rfl, hp_, lk_kept (by decide +kernel), p, l, c, rfl, pp, fun r1 h_ => ?_⟩
   obtain ⟨z_, er1⟩ := put_ (HO.lst (c.map (fun c : Addr × Nat × Nat × Nat => V.ref c.1))) h_
   generalize upd G2 r1 (HO.lst (c.map (fun c : Addr × Nat × Nat × Nat => V.ref c.1))) = G3 at z_ er1 ⊢
   have fr1 := sm.free h_
   have sm := sm.trans z_
   have pp := pp.mono z_
   have po := po.mono z_
   have pt := pt.mono z_
   have pic := pic.mono z_
   have cq := cq.mono z_
   have em1 := z_ _ _ em1
   have pq2 := pq2.mono z_
   have eu := z_ _ _ eu
   have ev := z_ _ _ ev
   clear z_ h_
   refine ⟨_, rfl, 0, r1, o, true, by decide, rfl, rfl, eq_lsts er1 po.1 refs_flat, ?_⟩
   refine ⟨_, rfl, ?_⟩
   obtain ⟨⟨dx_, hp_⟩, _⟩ := id pq2
   refine ⟨_, rfl, p2, dx_, _, rfl, hp_, lk_kept (by decide +kernel), p2, l2, e, rfl, pq2, fun r2 h_ => ?_⟩
   obtain ⟨z_, er2⟩ := put_ (HO.lst (e.map (fun c : Addr × Nat × Nat × Nat => V.ref c.1))) h_
   generalize upd G3 r2 (HO.lst (e.map (fun c : Addr × Nat × Nat × Nat => V.ref c.1))) = G4 at z_ er2 ⊢
   have sm := sm.trans z_
   have pp := pp.mono z_
   have po := po.mono z_
   have pt := pt.mono z_
   have pic := pic.mono z_
   have cq := cq.mono z_
   have em1 := z_ _ _ em1
   have pq2 := pq2.mono z_
   have eu := z_ _ _ eu
   have ev := z_ _ _ ev
   have er1 := z_ _ _ er1
   clear z_ h_
   refine ⟨_, rfl, 0, r2, t, true, by decide, rfl, rfl, eq_lsts er2 pt.1 refs_flat, ?_⟩
   exact k c _ (Same.fr sm) pp po c1 c16 cn
  have nql := ne_of_none cq.1 fl3
  have nqm2 := ne_of_none cq.1 fm
  have fl3 := sm.free fl3
  have fm := sm.free fm
  clear fu ft2 fp3
  have sm := sm.trans s3
  have pp := pp.mono s3
  have po := po.mono s3
  have pt := pt.mono s3
  have pic := pic.mono s3
  have cq := cq.mono s3
  have em1 := s3 _ _ em1
  have pq2 := pq2.mono s3
  clear s3
  refine ⟨_, rfl, q, _, rfl, .inl (SqL.of cq.1), _, _, rfl, rfl, _, rfl, ite2 (fun h => absurd (of_decide_eq_true h) (by rw [List.length_map]; omega)) fun _ => ?_⟩
  refine ⟨_, rfl, u, _, _, _, rfl, rfl, SqT.of eu, atI_nat (j := 0) rfl, rfl, _, rfl, ite2 (fun h => absurd h (by simp)) fun _ => ?_⟩
  refine ⟨_, rfl, u, _, _, _, rfl, rfl, SqT.of eu, atI_nat (j := 1) rfl, true, isTup_tup et, _, rfl, ?_⟩
  refine ⟨_, rfl, u, _, _, _, rfl, rfl, SqT.of eu, atI_nat (j := 1) rfl, t2, _, rfl, .inr (SqT.of et), rfl, _, rfl, ?_⟩
  refine ⟨_, rfl, u, _, _, _, rfl, rfl, SqT.of eu, atI_nat (j := 1) rfl, t2, _, rfl, SqT.of et, rfl, _, _, rfl, _, _, rfl, rfl, ?_⟩
  obtain ⟨⟨dx_, hp_⟩, _⟩ := id pq3
  refine ⟨_, rfl, true, ⟨_, .of (TyOf.ins hp_ T.cl T.cA T.cG T.cT T.cO), T.kL⟩, _, rfl, ?_⟩
  obtain ⟨⟨dx_, hp_⟩, _⟩ := id pq3
  refine ⟨_, rfl, p3, dx_, _, rfl, hp_, lk_kept (by decide +kernel), p3, l3, (pourC c e), rfl, pq3, fun r1 h_ => ?_⟩
  obtain ⟨z_, er1⟩ := put_ (HO.lst ((pourC c e).map (fun c : Addr × Nat × Nat × Nat => V.ref c.1))) h_
  generalize upd H3 r1 (HO.lst ((pourC c e).map (fun c : Addr × Nat × Nat × Nat => V.ref c.1))) = G22 at z_ er1 ⊢
  have fr1 := sm.free h_
  have sm := sm.trans z_
  have pp := pp.mono z_
  have po := po.mono z_
  have pt := pt.mono z_
  have pic := pic.mono z_
  have cq := cq.mono z_
  have em1 := z_ _ _ em1
  have pq2 := pq2.mono z_
  have em := z_ _ _ em
  have et := z_ _ _ et
  have eu := z_ _ _ eu
  have pq3 := pq3.mono z_
  clear z_ h_
  refine ⟨_, rfl, 0, r1, q, true, by decide, rfl, rfl, eq_lsts er1 cq.1 refs_flat, ?_⟩
  refine ⟨_, rfl, ?_⟩
  refine ⟨_, rfl, true, isList_lst em, _, rfl, ?_⟩
  refine ⟨_, rfl, _, rfl, 0, m, m1, true, by decide, rfl, rfl, eq_lsts em em1 (by rw [nsOf_map]; exact ints_flat), _, rfl, ?_⟩
  refine ⟨_, rfl, m, rfl, ⟨_, SqL.of em⟩, fun D hD => ?_⟩
  refine comp_fm (k := 0) (fun _ => .bl true) (fun _ => true) (src_list (SqL.of em)) (by rw [List.length_map]; exact Nat.le_trans e16 (by decide)) hD (fun x _ H' Qb _ kk => kk H' (Same.refl _)) (fun x hx _ H' Q' sm' kk => ?_) fun H4 s4 hD4 => ?_
  ·obtain ⟨d, _, rfl⟩ := List.mem_map.mp hx
   exact ⟨_, rfl, _, rfl, kk H' (Same.refl _)⟩
  have eD : H4 D = some (.lst (((e.map fun d => V.int (idx (pourC c e) d : Int)).map fun _ => true).map V.bl)) := by rw [hD4, filter_t]; simp only [List.map_map]; rfl
  clear hD4
  have sm := sm.trans s4
  have pp := pp.mono s4
  have po := po.mono s4
  have pt := pt.mono s4
  have pic := pic.mono s4
  have cq := cq.mono s4
  have em1 := s4 _ _ em1
  have pq2 := pq2.mono s4
  have em := s4 _ _ em
  have et := s4 _ _ et
  have eu := s4 _ _ eu
  have pq3 := pq3.mono s4
  have er1 := s4 _ _ er1
  clear s4
  refine ⟨D, _, rfl, SqL.of eD, ?_⟩
  rw [all_rep]
  refine ⟨_, rfl, ?_⟩
  obtain ⟨⟨dx_, hp_⟩, _⟩ := id pp
  refine ⟨_, rfl, p, dx_, _, rfl, hp_, lk_kept (by decide +kernel), p, l, c, rfl, pp, fun r3 h_ => ?_⟩
  obtain ⟨z_, er3⟩ := put_ (HO.lst (c.map (fun c : Addr × Nat × Nat × Nat => V.ref c.1))) h_
  generalize upd H4 r3 (HO.lst (c.map (fun c : Addr × Nat × Nat × Nat => V.ref c.1))) = G23 at z_ er3 ⊢
  have sm := sm.trans z_
  have pp := pp.mono z_
  have po := po.mono z_
  have pt := pt.mono z_
  have pic := pic.mono z_
  have cq := cq.mono z_
  have em1 := z_ _ _ em1
  have pq2 := pq2.mono z_
  have em := z_ _ _ em
  have et := z_ _ _ et
  have eu := z_ _ _ eu
  have pq3 := pq3.mono z_
  have er1 := z_ _ _ er1
  clear z_ h_
  refine ⟨_, rfl, 0, r3, o, true, by decide, rfl, rfl, eq_lsts er3 po.1 refs_flat, ?_⟩
  refine ⟨_, rfl, ?_⟩
  have n15 : ∀ x ∈ nsOf c e, 0 ≤ x ∧ x ≤ 15 := fun x hx => by obtain ⟨d, hd, rfl⟩ := List.mem_map.mp hx; have := idx_lt (c := c) hd; omega
  have nle : (nsOf c e).length = e.length := List.length_map _
  refine ⟨_, rfl, _, rfl, _, _, rfl, .inr ⟨a, ps, rows, wd, rfl, pic, gd, .inr ⟨m, nsOf c e, rfl, by rw [← nsOf_map]; exact em, by omega, n15, fun _ r4 qs4 H5 s5 _ _ pic5 => ?_, fun h => absurd h (by have := max_lt gd lt; omega)⟩⟩⟩
  have sm := sm.trans s5
  have pp := pp.mono s5
  have po := po.mono s5
  have pt := pt.mono s5
  have pic := pic.mono s5
  have cq := cq.mono s5
  have em1 := s5 _ _ em1
  have pq2 := pq2.mono s5
  have em := s5 _ _ em
  have et := s5 _ _ et
  have eu := s5 _ _ eu
  have pq3 := pq3.mono s5
  have er1 := s5 _ _ er1
  have er3 := s5 _ _ er3
  clear s5
  have gd5 := good_rec gd n15
  have lt5 : ∀ r ∈ recR (nsOf c e) rows, ∀ x ∈ r, x < ((pourC c e).length : Int) := fun r hr x hx => by
   obtain ⟨r0, h0, rfl⟩ := List.mem_map.mp hr
   obtain ⟨y, hy, rfl⟩ := List.mem_map.mp hx
   rw [List.getD_eq_getElem?_getD]
   cases hn : (nsOf c e)[y.toNat]? with
   | none =>
    have : 0 < (pourC c e).length := by (obtain ⟨d, hd⟩ := List.exists_mem_of_length_pos (show 0 < e.length by omega); have := idx_lt (c := c) hd; omega)
    show (0 : Int) < _
    omega
   | some v => obtain ⟨d, hd, rfl⟩ := List.mem_map.mp (List.mem_of_getElem? hn); have := idx_lt (c := c) hd; show (idx (pourC c e) d : Int) < _; omega
  refine ⟨_, rfl, _, p3, l3, _, rfl, pq3, .inl ⟨r4, qs4, _, wd, rfl, pic5, gd5, fun _ r5 qs5 H6 s6 _ _ pic6 => ?_, fun h => absurd h (by have := max_lt gd5 lt5; omega)⟩⟩
  have sm := sm.trans s6
  have pp := pp.mono s6
  have po := po.mono s6
  have pt := pt.mono s6
  have pic := pic.mono s6
  have cq := cq.mono s6
  have em1 := s6 _ _ em1
  have pq2 := pq2.mono s6
  have em := s6 _ _ em
  have et := s6 _ _ et
  have eu := s6 _ _ eu
  have pq3 := pq3.mono s6
  have er1 := s6 _ _ er1
  have er3 := s6 _ _ er3
  have pic5 := pic5.mono s6
  clear s6
  obtain ⟨⟨dx_, hp_⟩, _⟩ := id pq2
  refine ⟨_, rfl, p2, dx_, _, rfl, hp_, lk_kept (by decide +kernel), p2, l2, e, rfl, pq2, fun r6 h_ => ?_⟩
  obtain ⟨z_, er6⟩ := put_ (HO.lst (e.map (fun c : Addr × Nat × Nat × Nat => V.ref c.1))) h_
  generalize upd H6 r6 (HO.lst (e.map (fun c : Addr × Nat × Nat × Nat => V.ref c.1))) = G24 at z_ er6 ⊢
  have sm := sm.trans z_
  have pp := pp.mono z_
  have po := po.mono z_
  have pt := pt.mono z_
  have pic := pic.mono z_
  have cq := cq.mono z_
  have em1 := z_ _ _ em1
  have pq2 := pq2.mono z_
  have em := z_ _ _ em
  have et := z_ _ _ et
  have eu := z_ _ _ eu
  have pq3 := pq3.mono z_
  have er1 := z_ _ _ er1
  have er3 := z_ _ _ er3
  have pic5 := pic5.mono z_
  have pic6 := pic6.mono z_
  clear z_ h_
  refine ⟨_, rfl, 0, r6, t, true, by decide, rfl, rfl, eq_lsts er6 pt.1 refs_flat, ?_⟩
  refine ⟨_, rfl, ?_⟩
  refine ⟨_, rfl, _, rfl, a, rfl, ⟨_, SqL.of pic.top⟩, fun D2 hD2 => ?_⟩
  refine comp_rows (k := 0) (fun x => ((rowOf G24 x).getD []).map fun v => match v with | .int c => clr e c | _ => .non) (src_list (SqL.of pic.top)) (by rw [List.length_map, pic.len, ir_len]; exact Nat.le_trans gd.le (by decide)) hD2 (fun x hx H' Q' sm' kk => ?_) fun qs7 H7 s7 fq7 pv7 => ?_
  ·obtain ⟨y, hy, rfl⟩ := List.mem_map.mp hx
   obtain ⟨rs, ey, hl', hcs, hmem⟩ := gd.mem2 pic hy
   rw [rowOf_lst ey] at kk
   refine ⟨_, rfl, y, rfl, ⟨_, SqL.of (sm' _ _ ey)⟩, fun D3 hD3 => ?_⟩
   refine comp_fm (k := 0) (fun v => match v with | .int c => clr e c | _ => .non) (fun _ => true) (src_list (SqL.of (sm' _ _ ey))) (by rw [List.length_map, hl']; exact Nat.le_trans gd.w24 (by decide)) hD3 (fun x _ H' Qb _ kk => kk H' (Same.refl _)) (fun x hx _ H8 Q8 s8 kk8 => ?_) fun H8 s8 e8 => ?_
   ·obtain ⟨v, hv, rfl⟩ := List.mem_map.mp hx
    have v0 := (hcs v hv).1
    have vl : v.toNat < e.length := by have := lt rs hmem v hv; omega
    have pt8 := (pt.mono sm').mono s8
    refine ⟨_, rfl, _, rfl, t, _, _, _, rfl, rfl, SqL.of pt8.1, ?_, kk8 H8 (Same.refl _)⟩
    have := atI_nat (xs := e.map (fun c : Addr × Nat × Nat × Nat => V.ref c.1)) (j := v.toNat) (v := clr e v) (by unfold clr; rw [List.getElem?_map, List.getD_eq_getElem?_getD, List.getElem?_eq_getElem vl]; rfl)
    rw [Int.toNat_of_nonneg v0] at this
    exact this
   ·refine kk D3 H8 s8 hD3 ?_
    rw [e8, filter_t]; rfl
  rw [key_rows (clr e) ps rows pic.row] at pv7
  have sm := sm.trans s7
  have pp := pp.mono s7
  have po := po.mono s7
  have pt := pt.mono s7
  have pic := pic.mono s7
  have cq := cq.mono s7
  have em1 := s7 _ _ em1
  have pq2 := pq2.mono s7
  have em := s7 _ _ em
  have et := s7 _ _ et
  have eu := s7 _ _ eu
  have pq3 := pq3.mono s7
  have er1 := s7 _ _ er1
  have er3 := s7 _ _ er3
  have pic5 := pic5.mono s7
  have pic6 := pic6.mono s7
  have er6 := s7 _ _ er6
  clear s7
  have pv7 : PicV H7 D2 qs7 (shR e rows) := pv7
  refine ⟨2, r5, D2, true, by decide, rfl, rfl, eq_pics pic6 pv7 (pour_eq gd lt cq pt), _, rfl, ?_⟩
  refine ⟨_, rfl, .inl ⟨rfl, _, SqL.of em⟩, m, _, _, rfl, rfl, em, Nat.lt_of_lt_of_le (by rw [List.length_map]; omega : _ < 5000) (by decide), ?_⟩
  have f8 : Fr0 m H7 (upd H7 m (.lst ((e.map fun d => V.int (idx (pourC c e) d : Int)) ++ [.int 99]))) := fun b ob hb hne => by rw [upd_ne hne]; exact hb
  have s8 : Same H (upd H7 m (.lst ((e.map fun d => V.int (idx (pourC c e) d : Int)) ++ [.int 99]))) := same_upd sm fm
  have nlm := ne_of_none pp0.2.1 fm
  have nom := ne_of_none po0.1 fm
  have pp := f8.pal em pp nlm
  have po := f8.cols em po nom
  have pq3 := f8.pal em pq3 nml.symm
  have cq := f8.cols em cq nqm2
  clear f8
  show tSeq _ _ _ _ (upd H7 m (.lst ((e.map fun d => V.int (idx (pourC c e) d : Int)) ++ [.int 99])))
  generalize upd H7 m (.lst ((e.map fun d => V.int (idx (pourC c e) d : Int)) ++ [.int 99])) = H8 at s8 pp po pq3 cq ⊢
  refine ⟨_, rfl, _, rfl, _, rfl, _, rfl, fun b => cond b p3 p, fun b => cond b l3 l, fun b => cond b q o, fun b => cond b (pourC c e) c, rfl, ⟨fun b => ?_, fun b => ?_, fun b => ?_, (ne_of_none pp0.2.1 fl3).symm, (ne_of_none po0.1 fq).symm, fun i j => ?_⟩, fun c' H' fr w hd => ?_⟩
  ·cases b; exact pp; exact pq3
  ·cases b; exact po; exact cq
  ·cases b; exact c16; exact hl
  ·cases i <;> cases j
   ·exact ol
   ·exact ne_of_none po0.1 fl3
   ·exact (ne_of_none pp0.2.1 fq).symm
   ·exact nql
  have hfr : Fr [o, l] H H' := fun b ob hb hn => fr b ob (s8 b ob hb) fun hx => by
   obtain ⟨x, h | h⟩ := mem_XX.mp hx <;> cases x
   ·exact hn (by rw [h]; exact List.mem_cons_self)
   ·exact ne_of_none hb fq h
   ·exact hn (by rw [h]; exact List.mem_cons_of_mem _ List.mem_cons_self)
   ·exact ne_of_none hb fl3 h
  rcases hd with h | ⟨d, h, hn⟩
  ·exact k (c' false) H' hfr (w.pal false) (w.own false) (by rw [h]; exact c1) (w.le false) (by rw [h]; exact cn)
  ·exact k (c' false) H' hfr (w.pal false) (w.own false) (by rw [h, List.length_append]; show 1 ≤ c.length + 1; omega) (w.le false) (by rw [h]; exact nd_snoc cn (hn false))
end
theorem Paired.getMap {α β : Type} {F G : α → β → Prop} : ∀ {l1 : List α} {l2 : List β}, Paired F l1 l2 → (∀ (j : Nat) a b, l1[j]? = some a → F a b → G a b) → Paired G l1 l2
 | [], [], .nil, _ => .nil
 | a :: l1, b :: l2, .cons h t, k => .cons (k 0 a b rfl h) (Paired.getMap t fun j x y hx hf => k (j + 1) x y hx hf)
theorem PicV.row_at {H : Hp} {a : Addr} {ps : List Addr} {rows : List (List Int)} {i : Nat} {r : List Int} (p : PicV H a ps (ir rows)) (h : rows[i]? = some r) : ∃ q, ps[i]? = some q ∧ H q = some (.lst (r.map V.int)) := by
 have hl : ps.length = rows.length := by rw [p.len, ir_len]
 have hi : i < ps.length := by rw [hl]; exact (List.getElem?_eq_some_iff.mp h).1
 have e : ps[i]? = some ps[i] := by simp [hi]
 obtain ⟨r', h1, h2⟩ := p.at e
 have e2 : (ir rows)[i]? = some (r.map V.int) := by unfold ir; rw [List.getElem?_map, h]; rfl
 rw [e2] at h1; cases h1
 exact ⟨_, e, h2⟩
theorem Paired.setL {α β : Type} {F G : α → β → Prop} {r : β} : ∀ {l1 : List α} {l2 : List β} (i : Nat), Paired F l1 l2 → (∀ (j : Nat) a b, l1[j]? = some a → j ≠ i → F a b → G a b) → (∀ a, l1[i]? = some a → G a r) → Paired G l1 (l2.set i r)
 | [], [], i, .nil, _, _ => .nil
 | a :: l1, b :: l2, 0, .cons h t, h1, h2 => .cons (h2 a rfl) (Paired.getMap t fun j x y hx hf => h1 (j + 1) x y hx (by omega) hf)
 | a :: l1, b :: l2, i + 1, .cons h t, h1, h2 => .cons (h1 0 a b rfl (by omega) h) (Paired.setL i t (fun j x y hx hj hf => h1 (j + 1) x y hx (by omega) hf) fun x hx => h2 x hx)
theorem nodup_at {ps : List Addr} (nd : ps.Nodup) {i j : Nat} {p : Addr} (h1 : ps[i]? = some p) (h2 : ps[j]? = some p) : i = j := by
 have l1 := (List.getElem?_eq_some_iff.mp h1)
 have l2 := (List.getElem?_eq_some_iff.mp h2)
 obtain ⟨a1, b1⟩ := l1
 obtain ⟨a2, b2⟩ := l2
 exact (List.getElem_inj nd).mp (b1.trans b2.symm)
theorem PicV.setRow {H : Hp} {a q : Addr} {ps : List Addr} {R : List (List V)} {i : Nat} {r : List V} (p : PicV H a ps R) (hq : ps[i]? = some q) : PicV (upd H q (.lst r)) a ps (R.set i r) := by
 have hm := List.mem_of_getElem? hq
 refine ⟨?_, Paired.setL i p.row (fun j c b hj hne e => ?_) (fun c hc => ?_), p.nd, p.out⟩
 ·rw [upd_ne (fun z => p.out (by rw [z]; exact hm))]; exact p.top
 ·rw [upd_ne (fun z => hne (nodup_at p.nd hj (by rw [z]; exact hq)))]; exact e
 ·rw [hq] at hc; cases hc
  exact upd_same
noncomputable def spRecG (K : W.Frag) : Sp := fun vs H Q _ => ∃ (a n : Addr) (ps : List Addr) (rows : List (List Int)) (wd : Nat) (ns : List Int), vs = [.ref a, .ref n] ∧ PicV H a ps (ir rows) ∧ Good rows wd ∧ H n = some (.lst (ns.map V.int)) ∧ ns.length ≤ 16 ∧ (∀ x ∈ ns, 0 ≤ x ∧ x ≤ 15) ∧ ∀ H', Same H H' → Q (.bl true) H'
noncomputable def iv : V → Int
 | .int i => i
 | _ => 0
theorem iv_map (ns : List Int) : (ns.map V.int).map iv = ns := by rw [List.map_map]; exact List.map_id' ns
theorem max_max {rows : List (List Int)} {wd : Nat} (g : Good rows wd) : maxI (rows.map maxI) = maxI rows.flatten := by
 have n1 : rows.map maxI ≠ [] := fun z => by have h := congrArg List.length z; rw [List.length_map] at h; have := g.ne; rw [h] at this; exact absurd this (by decide)
 have rne : ∀ r ∈ rows, r ≠ [] := fun r hr z => by have h := (g.row r hr).1; rw [z] at h; have := g.w1; rw [← h] at this; exact absurd this (by decide)
 refine Int.le_antisymm ?_ ?_
 ·obtain ⟨r, hr, e⟩ := List.mem_map.mp (maxI_mem n1)
  rw [← e]
  exact le_maxI g.fne _ (List.mem_flatten.mpr ⟨r, hr, maxI_mem (rne r hr)⟩)
 ·obtain ⟨r, hr, hc⟩ := List.mem_flatten.mp (maxI_mem g.fne)
  exact Int.le_trans (le_maxI (rne r hr) _ hc) (le_maxI n1 _ (List.mem_map.mpr ⟨r, hr, rfl⟩))
theorem key_row1 {H : Hp} (g : List Int → V) : ∀ (qs : List Addr) (R : List (List Int)), Paired (fun p r => H p = some (.lst r)) qs (ir R) → (qs.map V.ref).map (fun x => g (((rowOf H x).getD []).map iv)) = R.map g := by
 intro qs
 induction qs with
 | nil => intro R h; cases R with
  | nil => rfl
  | cons r R => cases h
 | cons q qs ih =>
  intro R h
  cases R with
  | nil => cases h
  | cons r R =>
   cases h with
   | cons e1 h2 =>
    rw [List.map_cons, List.map_cons, ih R h2, rowOf_lst e1]
    show g ((r.map V.int).map iv) :: _ = g r :: _
    rw [iv_map]
theorem eq_handed {K : W.Frag} {H : Hp} {hd w h0 h1 a n : Addr} {hs ps : List Addr} {R : List (List Int)} {ns : List Int} (e1 : H hd = some (.lst [.ref h0, .ref h1])) (e2 : H w = some (.lst [.ref a, .ref n])) (p1 : PicV H h0 hs (ir R)) (p2 : PicV H a ps (ir R)) (n1 : H h1 = some (.lst (ns.map V.int))) (n2 : H n = some (.lst (ns.map V.int))) : EqL K H (EqD K H 3) hd w true := by
 have up : ∀ {x y : Addr}, EqL K H (EqD K H 2) x y true → EqD K H 3 (.ref x) (.ref y) true := fun {x y} e => by
  by_cases h : x = y
  ·subst h; exact .inl (.inl (.inl (.inl ⟨x, rfl, rfl, rfl⟩)))
  ·exact .inr ⟨x, y, rfl, rfl, h, e⟩
 refine ⟨_, _, .inr ⟨.inl ⟨SqL.of e1, SqL.of e2⟩, rfl, fun _ => true, fun i x y hx hy => ?_, by simp⟩⟩
 match i, hx, hy with
 | 0, hx, hy => cases hx; cases hy; exact up (eq_pics p1 p2 (rows_self ir_flat))
 | 1, hx, hy =>
  cases hx; cases hy
  refine up ?_
  obtain ⟨xs, ys, h⟩ := eq_lsts (K := K) n1 n2 ints_flat
  refine ⟨xs, ys, ?_⟩
  rcases h with h | ⟨a, c, f, d, g⟩
  ·exact .inl h
  ·exact .inr ⟨a, c, f, fun i x y hx hy => eqD_up (eqD_up (d i x y hx hy)), g⟩
theorem Fr0.pic {x : Addr} {H H' : Hp} {a : Addr} {ps : List Addr} {R : List (List V)} (f : Fr0 x H H') (p : PicV H a ps R) (n : x ∉ a :: ps) : PicV H' a ps R :=
 ⟨f _ _ p.top (fun z => n (by rw [z]; exact List.mem_cons_self)), Paired.mapI p.row fun q _ hq e => f _ _ e (fun z => n (by rw [← z]; exact List.mem_cons_of_mem _ hq)), p.nd, p.out⟩
theorem good_rev {rows : List (List Int)} {wd : Nat} {r : List Int} (g : Good rows wd) (h : rows[0]? = some r) : Good (rows.set 0 r.reverse) wd := by
 refine ⟨by rw [List.length_set]; exact g.ne, by rw [List.length_set]; exact g.le, g.w1, g.w24, fun s hs => ?_⟩
 rcases List.mem_or_eq_of_mem_set hs with hs | rfl
 ·exact g.row s hs
 ·have := g.row r (List.mem_of_getElem? h)
  exact ⟨by rw [List.length_reverse]; exact this.1, fun c hc => this.2 c (List.mem_reverse.mp hc)⟩
theorem lt_rev {rows : List (List Int)} {r : List Int} {m : Int} (h : rows[0]? = some r) (lt : ∀ r ∈ rows, ∀ x ∈ r, x < m) : ∀ s ∈ rows.set 0 r.reverse, ∀ x ∈ s, x < m := fun s hs x hx => by
 rcases List.mem_or_eq_of_mem_set hs with hs | rfl
 ·exact lt s hs x hx
 ·exact lt r (List.mem_of_getElem? h) x (List.mem_reverse.mp hx)
section
variable {P : Program} {w : World} {K : W.Frag} {mg : Str → Option Value} {base : Heap} {cFE cC cN cM cP cL cB cD cZ : Addr} {tP tS tC tI : Tok}
theorem sc_law_recoloured_good : FnScope ["_law_picture_here", "_law_numbers", "_law_handed", "_law_due", "_law_found", "_law_again"] ["_law_picture_here", "_law_numbers"] (defScope s_law_recoloured_good) := ⟨rfl, rfl, rfl, by decide +kernel, rfl, by decide +kernel, by decide +kernel⟩
theorem ok_law_recoloured_good {f : Addr} {fd : FuncData} (F : FunD K "_law_recoloured_good" "_law_recoloured_good" s_law_recoloured_good .none f fd) (T : Txt K mg cFE cC cN cM cP cL cB cD cZ tP tS tC tI) (g__law_copied : Def P w K mg base 1 "_law_copied" ["_law_rows"] [] (spCop)) (g__law_refused : Def P w K mg base 11 "_law_refused" ["_law_picture_here", "_law_numbers"] [] (spRefd K)) (g_recoloured : DefX P w K mg base 10 "recoloured" ["picture", "numbers"] [] (spRec K cB cD cN)) (g__law_rows_good : Def P w K mg base 1 "_law_rows_good" ["_law_found", "_law_due"] [] (spRG K)) (g__law_whole : Def P w K mg base 1 "_law_whole" ["_law_found"] [] (spWhole)) (g__law_own : Def P w K mg base 1 "_law_own" ["_law_found", "_law_due"] [] (spOwn)) : FnOk P w K mg base CX0 12 f fd ["_law_picture_here", "_law_numbers"] (spRecG K) := by
 refine F.ok sc_law_recoloured_good (fun vs H Q E h => ?_) (fun cdv A outer s H vs Q E hr h => ?_)
 ·obtain ⟨a, n, ps, rows, wd, ns, rfl, _⟩ := h; rfl
 ·obtain ⟨a, n, ps, rows, wd, ns, rfl, pic, gd, en, nl, n15, k⟩ := h
  have hu : _ + 64 < cLine := hr.units
  refine ⟨_, (pss_cons (ps_set (i := 2) sc_law_recoloured_good.nd rfl (by first | exact Or.inl rfl | exact Or.inr rfl) (pe_lst (pa_cons (pe_callD g__law_copied (hr.mono (by decide)) rfl (pa_cons (pv 0) pa_nil)) (pa_cons (pe_callTy (listK K rfl) rfl T.list PyProof.Rows.boot_list (pa_cons (pv 1) pa_nil)) pa_nil))))
    (pss_cons (ps_if (pt_cmpR op_ge (pe_callB (call_maxI K rfl rfl) rfl T.max PyProof.Rows.boot_max (pa_cons (pe_comp (N := ["_law_row"]) (src := [none]) rfl ⟨rfl, rfl, rfl, rfl, rfl, by decide +kernel⟩ (piK K rfl (pv 0)) (fun s H C fp => pg_name (i := 0) (show (["_law_row"] : List Str).Nodup by decide +kernel) rfl (by first | exact Or.inl rfl | exact Or.inr rfl)) (fun s H C fp => pts_nil) (fun s H C fp => (pe_callB (call_maxI K rfl rfl) rfl T.max PyProof.Rows.boot_max (pa_cons (pv 0) pa_nil)))) pa_nil)) (pe_callB (lenK K rfl) rfl T.len PySem.boot_len (pa_cons (pv 1) pa_nil)) (nomark _)) (pss_one (ps_ret (pe_and (pe_cmpR (eqDK K rfl hu) (pe_callD g__law_refused (hr.mono (by decide)) rfl (pa_cons (pe_ix (ixK K rfl) (pv 2) pe_int (fun _ _ => rfl)) (pa_cons (pe_ix (ixK K rfl) (pv 2) pe_int (fun _ _ => rfl)) pa_nil))) (pe_tup (pa_cons pe_str pa_nil)) (nomark _)) (pe_one (pe_cmpR (eqDK K rfl hu) (pv 2) (pe_lst (pa_cons (pv 0) (pa_cons (pv 1) pa_nil))) (nomark _)))))) pss_nil)
    (pss_cons (ps_setC (ix := 3) (N := ["_law_row", "_law_numbers"]) (src := [none, some 1]) sc_law_recoloured_good.nd rfl rfl rfl ⟨rfl, rfl, rfl, rfl, rfl, by decide +kernel⟩ (piK K rfl (pv 0)) (fun s H C fp => pg_name (i := 0) (show (["_law_row", "_law_numbers"] : List Str).Nodup by decide +kernel) rfl (by first | exact Or.inl rfl | exact Or.inr rfl)) (fun s H C fp => pts_nil) (fun s H C fp => (pe_comp (N := ["_law_cell", "_law_numbers"]) (src := [none, some 1]) rfl ⟨rfl, rfl, rfl, rfl, rfl, by decide +kernel⟩ (piK K rfl (pv 0)) (fun s H C fp => pg_name (i := 0) (show (["_law_cell", "_law_numbers"] : List Str).Nodup by decide +kernel) rfl (by first | exact Or.inl rfl | exact Or.inr rfl)) (fun s H C fp => pts_nil) (fun s H C fp => (pe_ix (ixK K rfl) (pv 1) (pv 0) (fun _ _ => rfl))))))
    (pss_cons (ps_set (i := 4) sc_law_recoloured_good.nd rfl (by first | exact Or.inl rfl | exact Or.inr rfl) (pe_callX g_recoloured (hr.mono (by decide)) passF rfl (pa_cons (pe_ix (ixK K rfl) (pv 2) pe_int (fun _ _ => rfl)) (pa_cons (pe_ix (ixK K rfl) (pv 2) pe_int (fun _ _ => rfl)) pa_nil))))
    (pss_cons (ps_if (PW.pt (pw_or (pt_not (pt_val (pe_callD g__law_rows_good (hr.mono (by decide)) rfl (pa_cons (pv 4) (pa_cons (pv 3) pa_nil))))) (pw_or1 (pt_cmpR (neDK K rfl hu) (pv 2) (pe_lst (pa_cons (pv 0) (pa_cons (pv 1) pa_nil))) (nomark _))))) (pss_one (ps_ret pe_bl)) pss_nil)
    (pss_cons (ps_if (PW.pt (pw_or (pt_not (pt_val (pe_callB (allK K rfl rfl) rfl T.all PyProof.Rows.boot_all (pa_cons (pe_comp (N := ["_law_row"]) (src := [none]) rfl ⟨rfl, rfl, rfl, rfl, rfl, by decide +kernel⟩ (piK K rfl (pv 4)) (fun s H C fp => pg_name (i := 0) (show (["_law_row"] : List Str).Nodup by decide +kernel) rfl (by first | exact Or.inl rfl | exact Or.inr rfl)) (fun s H C fp => pts_nil) (fun s H C fp => (pe_callB (allK K rfl rfl) rfl T.all PyProof.Rows.boot_all (pa_cons (pe_comp (N := ["_law_cell"]) (src := [none]) rfl ⟨rfl, rfl, rfl, rfl, rfl, by decide +kernel⟩ (piK K rfl (pv 0)) (fun s H C fp => pg_name (i := 0) (show (["_law_cell"] : List Str).Nodup by decide +kernel) rfl (by first | exact Or.inl rfl | exact Or.inr rfl)) (fun s H C fp => pts_nil) (fun s H C fp => (pe_callD g__law_whole (hr.mono (by decide)) rfl (pa_cons (pv 0) pa_nil)))) pa_nil)))) pa_nil)))) (pw_or1 (pt_not (pt_val (pe_callD g__law_own (hr.mono (by decide)) rfl (pa_cons (pv 4) (pa_cons (pv 3) pa_nil)))))))) (pss_one (ps_ret pe_bl)) pss_nil)
    (pss_cons (ps_if (pt_cmpR (neDK K rfl hu) (pv 2) (pe_lst (pa_cons (pv 0) (pa_cons (pv 1) pa_nil))) (nomark _)) (pss_one (ps_ret pe_bl)) pss_nil)
    (pss_cons (ps_expr (pe_bm0 PySem.F.plainAttrs_list PySem.F.slot_list_reverse PySem.F.type_list_reverse mt_reverse (pe_ix (ixK K rfl) (pe_ix (ixK K rfl) (pv 2) pe_int (fun _ _ => rfl)) pe_int (fun _ _ => rfl))))
    (pss_cons (ps_expr (pe_bm0 PySem.F.plainAttrs_list PySem.F.slot_list_reverse PySem.F.type_list_reverse mt_reverse (pe_ix (ixK K rfl) (pv 2) pe_int (fun _ _ => rfl))))
    (pss_cons (ps_setC (ix := 5) (N := ["_law_row", "_law_handed"]) (src := [none, some 2]) sc_law_recoloured_good.nd rfl rfl rfl ⟨rfl, rfl, rfl, rfl, rfl, by decide +kernel⟩ (piK K rfl (pe_ix (ixK K rfl) (pv 2) pe_int (fun _ _ => rfl))) (fun s H C fp => pg_name (i := 0) (show (["_law_row", "_law_handed"] : List Str).Nodup by decide +kernel) rfl (by first | exact Or.inl rfl | exact Or.inr rfl)) (fun s H C fp => pts_nil) (fun s H C fp => (pe_comp (N := ["_law_cell", "_law_handed"]) (src := [none, some 1]) rfl ⟨rfl, rfl, rfl, rfl, rfl, by decide +kernel⟩ (piK K rfl (pv 0)) (fun s H C fp => pg_name (i := 0) (show (["_law_cell", "_law_handed"] : List Str).Nodup by decide +kernel) rfl (by first | exact Or.inl rfl | exact Or.inr rfl)) (fun s H C fp => pts_nil) (fun s H C fp => (pe_ix (ixK K rfl) (pe_ix (ixK K rfl) (pv 1) pe_int (fun _ _ => rfl)) (pv 0) (fun _ _ => rfl))))))
    (pss_one (ps_ret (pe_cmpR (eqDK K rfl hu) (pe_callX g_recoloured (hr.mono (by decide)) passF rfl (pa_cons (pe_ix (ixK K rfl) (pv 2) pe_int (fun _ _ => rfl)) (pa_cons (pe_ix (ixK K rfl) (pv 2) pe_int (fun _ _ => rfl)) pa_nil))) (pv 5) (nomark _)))))))))))))), ?_⟩
  have sm := Same.refl H
  refine ⟨_, rfl, a, ps, _, rfl, pic, by rw [ir_len]; have := gd.le; omega, fun h0 hs H1 s1 fh0 fhs pich => ?_⟩
  have sm := sm.trans s1
  have pic := pic.mono s1
  have en := s1 _ _ en
  clear s1
  refine ⟨_, rfl, n, _, rfl, .inl (SqL.of en), fun h1 h_ => ?_⟩
  have n1 : h1 ∉ h0 :: hs := fun z => by (rcases List.mem_cons.mp z with z | z; exact ne_of_none pich.top h_ z.symm; (obtain ⟨_, _, e⟩ := pich.mem z; rw [h_] at e; cases e))
  obtain ⟨z_, eh1⟩ := put_ (HO.lst (ns.map V.int)) h_
  generalize upd H1 h1 (HO.lst (ns.map V.int)) = G1 at z_ eh1 ⊢
  have fh1 := sm.free h_
  have sm := sm.trans z_
  have pic := pic.mono z_
  have en := z_ _ _ en
  have pich := pich.mono z_
  clear z_ h_
  refine ⟨sz2, fun hd h_ => ?_⟩
  have n2 : hd ∉ h0 :: hs := fun z => by (rcases List.mem_cons.mp z with z | z; exact ne_of_none pich.top h_ z.symm; (obtain ⟨_, _, e⟩ := pich.mem z; rw [h_] at e; cases e))
  have n3 : hd ≠ h1 := (ne_of_none eh1 h_).symm
  obtain ⟨z_, ehd⟩ := put_ (HO.lst [V.ref h0, .ref h1]) h_
  generalize upd G1 hd (HO.lst [V.ref h0, .ref h1]) = G2 at z_ ehd ⊢
  have sm := sm.trans z_
  have pic := pic.mono z_
  have en := z_ _ _ en
  have pich := pich.mono z_
  have eh1 := z_ _ _ eh1
  clear z_ h_
  refine ⟨_, rfl, a, rfl, ⟨_, SqL.of pic.top⟩, fun D hD => ?_⟩
  refine comp_fm (k := 0) (fun x => .int (maxI (((rowOf G2 x).getD []).map iv))) (fun _ => true) (src_list (SqL.of pic.top)) (by rw [List.length_map, pic.len, ir_len]; exact Nat.le_trans gd.le (by decide)) hD (fun x _ H' Qb _ kk => kk H' (Same.refl _)) (fun x hx _ H' Q' sm' kk => ?_) fun H2 s2 hD2 => ?_
  case refine_1 =>
   obtain ⟨y, hy, rfl⟩ := List.mem_map.mp hx
   obtain ⟨rs, ey, hl', hcs, hmem⟩ := gd.mem2 pic hy
   have kk := kk H' (Same.refl _)
   rw [rowOf_lst ey] at kk
   have kk : Q' (.int (maxI ((rs.map V.int).map iv))) H' := kk
   rw [iv_map] at kk
   exact ⟨_, rfl, y, rs, rfl, SqL.of (sm' _ _ ey), fun z => (by rw [z] at hl'; have := gd.w1; simp at hl'; omega), kk⟩
  have eD : H2 D = some (.lst ((rows.map maxI).map V.int)) := by
   rw [hD2, filter_t, key_row1 (fun r => .int (maxI r)) ps rows pic.row, List.map_map]; rfl
  clear hD2
  have sm := sm.trans s2
  have pic := pic.mono s2
  have en := s2 _ _ en
  have pich := pich.mono s2
  have eh1 := s2 _ _ eh1
  have ehd := s2 _ _ ehd
  clear s2
  have rne : rows.map maxI ≠ [] := fun z => by have h := congrArg List.length z; rw [List.length_map] at h; have := gd.ne; rw [h] at this; exact absurd this (by decide)
  refine ⟨D, rows.map maxI, rfl, SqL.of eD, rne, _, rfl, n, _, rfl, .inl (SqL.of en), _, _, rfl, rfl, _, rfl, ite2 (fun hm => ?_) (fun hm => ?_)⟩
  case refine_1 =>
   have hm := of_decide_eq_true hm
   rw [max_max gd, List.length_map] at hm
   refine ⟨_, rfl, hd, _, _, _, rfl, rfl, SqL.of ehd, atI_nat (j := 0) rfl, _, rfl, hd, _, _, _, rfl, rfl, SqL.of ehd, atI_nat (j := 1) rfl, _, _, rfl, .inr ⟨h0, hs, rows, wd, rfl, pich, gd, .inr ⟨h1, ns, rfl, eh1, nl, n15, hm, fun u H4 s4 fu eu => ?_⟩⟩⟩
   have sm := sm.trans s4
   have pic := pic.mono s4
   have en := s4 _ _ en
   have pich := pich.mono s4
   have eh1 := s4 _ _ eh1
   have ehd := s4 _ _ ehd
   clear s4
   refine ⟨sz1, fun v h_ => ?_⟩
   obtain ⟨z_, ev⟩ := put_ (HO.tup [V.str "none"]) h_
   generalize upd H4 v (HO.tup [V.str "none"]) = G3 at z_ ev ⊢
   have sm := sm.trans z_
   have pic := pic.mono z_
   have en := z_ _ _ en
   have pich := pich.mono z_
   have eh1 := z_ _ _ eh1
   have ehd := z_ _ _ ehd
   have eu := z_ _ _ eu
   clear z_ h_
   refine ⟨0, u, v, true, by decide, rfl, rfl, eq_tups eu ev (fun y hy => (by rw [List.mem_singleton.mp hy]; exact .inr rfl)), _, rfl, ?_⟩
   refine ⟨_, rfl, _, rfl, _, rfl, sz2, fun w1 h_ => ?_⟩
   obtain ⟨z_, ew1⟩ := put_ (HO.lst [V.ref a, .ref n]) h_
   generalize upd G3 w1 (HO.lst [V.ref a, .ref n]) = G4 at z_ ew1 ⊢
   have fw1 := sm.free h_
   have sm := sm.trans z_
   have pic := pic.mono z_
   have en := z_ _ _ en
   have pich := pich.mono z_
   have eh1 := z_ _ _ eh1
   have ehd := z_ _ _ ehd
   have eu := z_ _ _ eu
   have ev := z_ _ _ ev
   clear z_ h_
   exact ⟨3, hd, w1, true, by decide, rfl, rfl, eq_handed ehd ew1 pich pic eh1 en, k _ sm⟩
  have hm : maxI rows.flatten < (ns.length : Int) := by have := of_decide_eq_false (eq_false_of_ne_true hm); rw [max_max gd, List.length_map] at this; omega
  have lt : ∀ r ∈ rows, ∀ x ∈ r, x < (ns.length : Int) := fun r hr x hx => by have := le_maxI gd.fne x (List.mem_flatten.mpr ⟨r, hr, hx⟩); omega
  refine ⟨_, rfl, a, rfl, ⟨_, SqL.of pic.top⟩, fun due hD_ => ?_⟩
  refine comp_rows (k := 0) (fun x => ((rowOf H2 x).getD []).map fun v => match v with | .int c => .int (ns.getD c.toNat 0) | _ => .non) (src_list (SqL.of pic.top)) (by rw [List.length_map, pic.len, ir_len]; exact Nat.le_trans gd.le (by decide)) hD_ (fun x hx H' Q' sm' kk => ?_) fun qsdue Hdue sdue fqdue pvdue => ?_
  case refine_1 =>
   obtain ⟨y, hy, rfl⟩ := List.mem_map.mp hx
   obtain ⟨rs, ey, hl', hcs, hmem⟩ := gd.mem2 pic hy
   rw [rowOf_lst ey] at kk
   refine ⟨_, rfl, y, rfl, ⟨_, SqL.of (sm' _ _ ey)⟩, fun D3 hD3 => ?_⟩
   refine comp_fm (k := 0) (fun v => match v with | .int c => .int (ns.getD c.toNat 0) | _ => .non) (fun _ => true) (src_list (SqL.of (sm' _ _ ey))) (by rw [List.length_map, hl']; exact Nat.le_trans gd.w24 (by decide)) hD3 (fun x _ H' Qb _ kk => kk H' (Same.refl _)) (fun x hx _ H8 Q8 s8 kk8 => ?_) fun H8 s8 e8 => ?_
   ·obtain ⟨v, hv, rfl⟩ := List.mem_map.mp hx
    have v0 := (hcs v hv).1
    have vl : v.toNat < ns.length := by have := lt rs hmem v hv; omega
    have e9 := s8 _ _ (sm' _ _ en)
    refine ⟨_, rfl, _, rfl, n, _, _, _, rfl, rfl, SqL.of e9, ?_, kk8 H8 (Same.refl _)⟩
    have := atI_nat (xs := ns.map V.int) (j := v.toNat) (v := .int (ns.getD v.toNat 0)) (by rw [List.getElem?_map, List.getD_eq_getElem?_getD, List.getElem?_eq_getElem vl]; rfl)
    rw [Int.toNat_of_nonneg v0] at this
    exact this
   ·refine kk D3 H8 s8 hD3 ?_
    rw [e8, filter_t]; rfl
  have pvdue : PicV Hdue due qsdue (ir (recR ns rows)) := by
   have ee : rows.map (fun r => r.map fun c => V.int (ns.getD c.toNat 0)) = ir (recR ns rows) := by unfold ir recR; rw [List.map_map]; exact List.map_congr_left fun r _ => (List.map_map ..).symm
   have e2 := key_rows (H := H2) (fun c => .int (ns.getD c.toNat 0)) ps rows pic.row
   exact Eq.mp (congrArg (PicV Hdue due qsdue) (e2.trans ee)) pvdue
  have sm := sm.trans sdue
  have pic := pic.mono sdue
  have en := sdue _ _ en
  have pich := pich.mono sdue
  have eh1 := sdue _ _ eh1
  have ehd := sdue _ _ ehd
  clear sdue
  have Kpic := pic
  have Ken := en
  have Kpich := pich
  have Keh1 := eh1
  have Kehd := ehd
  have Ksm := sm
  have sK := Same.refl Hdue
  refine ⟨_, rfl, hd, _, _, _, rfl, rfl, SqL.of ehd, atI_nat (j := 0) rfl, _, rfl, hd, _, _, _, rfl, rfl, SqL.of ehd, atI_nat (j := 1) rfl, _, _, rfl, .inr ⟨h0, hs, rows, wd, rfl, pich, gd, .inr ⟨h1, ns, rfl, eh1, nl, n15, fun _ fo fs H5 s5 ffo ffs picf => ?_, fun h => absurd h (by omega)⟩⟩⟩
  have nfd : ∀ p ∈ fs, p ∉ due :: qsdue := fun p hp z => by
   have fp := ffs p hp
   rcases List.mem_cons.mp z with z | z
   ·rw [z, pvdue.top] at fp; cases fp
   ·obtain ⟨_, _, e⟩ := pvdue.mem z
    rw [fp] at e; cases e
  have sm := sm.trans s5
  have sK := sK.trans s5
  have pic := pic.mono s5
  have en := s5 _ _ en
  have pich := pich.mono s5
  have eh1 := s5 _ _ eh1
  have ehd := s5 _ _ ehd
  have pvdue := pvdue.mono s5
  clear s5
  have gd5 := good_rec gd n15
  refine ⟨_, rfl, _, rfl, fo, due, fs, qsdue, _, _, rfl, picf, pvdue, by rw [ir_len]; have := gd5.le; omega, rows_self ir_flat, fun H6 s6 => ⟨_, rfl, ?_⟩⟩
  have sm := sm.trans s6
  have sK := sK.trans s6
  have pic := pic.mono s6
  have en := s6 _ _ en
  have pich := pich.mono s6
  have eh1 := s6 _ _ eh1
  have ehd := s6 _ _ ehd
  have pvdue := pvdue.mono s6
  have picf := picf.mono s6
  clear s6
  refine ⟨_, rfl, _, rfl, _, rfl, sz2, fun w1 h_ => ?_⟩
  obtain ⟨z_, ew1⟩ := put_ (HO.lst [V.ref a, .ref n]) h_
  generalize upd H6 w1 (HO.lst [V.ref a, .ref n]) = G33 at z_ ew1 ⊢
  have fw1 := sm.free h_
  have sm := sm.trans z_
  have sK := sK.trans z_
  have pic := pic.mono z_
  have en := z_ _ _ en
  have pich := pich.mono z_
  have eh1 := z_ _ _ eh1
  have ehd := z_ _ _ ehd
  have pvdue := pvdue.mono z_
  have picf := picf.mono z_
  clear z_ h_
  refine ⟨3, hd, w1, true, by decide, rfl, rfl, eq_handed ehd ew1 pich pic eh1 en, _, rfl, ?_⟩
  refine ⟨_, rfl, fo, rfl, ⟨_, SqL.of picf.top⟩, fun D4 hD4 => ?_⟩
  refine comp_fm (k := 0) (fun _ => .bl true) (fun _ => true) (src_list (SqL.of picf.top)) (by rw [List.length_map, picf.len, ir_len]; exact Nat.le_trans gd5.le (by decide)) hD4 (fun x _ H' Qb _ kk => kk H' (Same.refl _)) (fun x hx _ H' Q' sm' kk => ?_) fun H7 s7 hD7 => ?_
  case refine_1 =>
   obtain ⟨y, hy, rfl⟩ := List.mem_map.mp hx
   obtain ⟨rs, ey, hl', hcs, hmem⟩ := gd5.mem2 picf hy
   refine ⟨_, rfl, y, rfl, ⟨_, SqL.of (sm' _ _ ey)⟩, fun D3 hD3 => ?_⟩
   refine comp_fm (k := 0) (fun _ => .bl true) (fun _ => true) (src_list (SqL.of (sm' _ _ ey))) (by rw [List.length_map, hl']; exact Nat.le_trans gd.w24 (by decide)) hD3 (fun x _ H' Qb _ kk => kk H' (Same.refl _)) (fun x hx _ H8 Q8 s8 kk8 => ?_) fun H8 s8 e8 => ?_
   ·obtain ⟨v, hv, rfl⟩ := List.mem_map.mp hx
    exact ⟨_, rfl, _, rfl, kk8 H8 (Same.refl _)⟩
   ·have eD3 : H8 D3 = some (.lst (((rs.map V.int).map fun _ => true).map V.bl)) := by rw [e8, filter_t]; simp only [List.map_map]; rfl
    refine ⟨D3, _, rfl, SqL.of eD3, ?_⟩
    rw [all_rep]
    exact kk H8 s8
  have eD4 : H7 D4 = some (.lst (((fs.map V.ref).map fun _ => true).map V.bl)) := by rw [hD7, filter_t]; simp only [List.map_map]; rfl
  clear hD7
  have sm := sm.trans s7
  have sK := sK.trans s7
  have pic := pic.mono s7
  have en := s7 _ _ en
  have pich := pich.mono s7
  have eh1 := s7 _ _ eh1
  have ehd := s7 _ _ ehd
  have pvdue := pvdue.mono s7
  have picf := picf.mono s7
  have ew1 := s7 _ _ ew1
  clear s7
  refine ⟨D4, _, rfl, SqL.of eD4, ?_⟩
  rw [all_rep]
  refine ⟨_, rfl, ?_⟩
  refine ⟨_, rfl, _, rfl, fo, due, fs, qsdue, recR ns rows, rfl, picf, pvdue, nfd, by have := gd5.le; omega, fun r hr => by have := (gd5.row r hr).1; have := gd.w24; omega, fun H9 k9 => ⟨_, rfl, ?_⟩⟩
  have sK9 : Same Hdue H9 := fun b ob hb => k9 b ob (sK b ob hb) (fun z => by have := ffs b z; rw [hb] at this; cases this)
  clear k9
  have sm := Ksm.trans sK9
  have pic := Kpic.mono sK9
  have en := sK9 _ _ Ken
  have pich := Kpich.mono sK9
  have eh1 := sK9 _ _ Keh1
  have ehd := sK9 _ _ Kehd
  refine ⟨_, rfl, _, rfl, _, rfl, sz2, fun w2 h_ => ?_⟩
  obtain ⟨z_, ew2⟩ := put_ (HO.lst [V.ref a, .ref n]) h_
  generalize upd H9 w2 (HO.lst [V.ref a, .ref n]) = G34 at z_ ew2 ⊢
  have sm := sm.trans z_
  have pic := pic.mono z_
  have en := z_ _ _ en
  have pich := pich.mono z_
  have eh1 := z_ _ _ eh1
  have ehd := z_ _ _ ehd
  clear z_ h_
  refine ⟨3, hd, w2, true, by decide, rfl, rfl, eq_handed ehd ew2 pich pic eh1 en, _, rfl, ?_⟩
  obtain ⟨r0, hr0⟩ : ∃ r0, rows[0]? = some r0 := ⟨_, List.getElem?_eq_getElem (by have := gd.ne; omega)⟩
  obtain ⟨hq, hhq, ehq⟩ := PicV.row_at pich hr0
  have mhq := List.mem_of_getElem? hhq
  have at0 : (hs.map V.ref)[0]? = some (.ref hq) := by rw [List.getElem?_map, hhq]; rfl
  refine ⟨_, rfl, hd, _, _, _, rfl, rfl, SqL.of ehd, atI_nat (j := 0) rfl, h0, _, _, _, rfl, rfl, SqL.of pich.top, atI_nat (j := 0) at0, .inl ⟨rfl, _, SqL.of ehq⟩, hq, _, rfl, rfl, ehq, ?_⟩
  have sm : Same H (upd G34 hq (.lst (r0.map V.int).reverse)) := same_upd sm (fhs hq mhq)
  have n1q : h1 ≠ hq := fun z => n1 (by rw [z]; exact List.mem_cons_of_mem _ mhq)
  have n2q : hd ≠ hq := fun z => n2 (by rw [z]; exact List.mem_cons_of_mem _ mhq)
  have pich : PicV (upd G34 hq (.lst (r0.map V.int).reverse)) h0 hs (ir (rows.set 0 r0.reverse)) := by
   have := PicV.setRow (r := (r0.map V.int).reverse) pich hhq
   have ee : (ir rows).set 0 (r0.map V.int).reverse = ir (rows.set 0 r0.reverse) := by unfold ir; rw [List.map_set, List.map_reverse]
   rw [ee] at this; exact this
  have eh1 : upd G34 hq (.lst (r0.map V.int).reverse) h1 = _ := (upd_ne n1q).trans eh1
  have ehd : upd G34 hq (.lst (r0.map V.int).reverse) hd = _ := (upd_ne n2q).trans ehd
  clear ehq pic en ew2
  show tSeq _ _ _ _ (upd G34 hq (.lst (r0.map V.int).reverse))
  generalize upd G34 hq (.lst (r0.map V.int).reverse) = X1 at sm pich eh1 ehd ⊢
  refine ⟨_, rfl, hd, _, _, _, rfl, rfl, SqL.of ehd, atI_nat (j := 1) rfl, .inl ⟨rfl, _, SqL.of eh1⟩, h1, _, rfl, rfl, eh1, ?_⟩
  have sm : Same H (upd X1 h1 (.lst (ns.map V.int).reverse)) := same_upd sm fh1
  have f2 : Fr0 h1 X1 (upd X1 h1 (.lst (ns.map V.int).reverse)) := fun b ob hb hne => by rw [upd_ne hne]; exact hb
  have pich := f2.pic pich n1
  have ehd := f2 _ _ ehd n3
  have eh1 : upd X1 h1 (.lst (ns.map V.int).reverse) h1 = some (.lst (ns.reverse.map V.int)) := by rw [upd_same, List.map_reverse]
  clear f2
  show tSeq _ _ _ _ (upd X1 h1 (.lst (ns.map V.int).reverse))
  generalize upd X1 h1 (.lst (ns.map V.int).reverse) = X2 at sm pich eh1 ehd ⊢
  have gdr := good_rev gd hr0
  have ltr : ∀ s ∈ rows.set 0 r0.reverse, ∀ x ∈ s, x < (ns.reverse.length : Int) := by rw [List.length_reverse]; exact lt_rev hr0 lt
  refine ⟨_, rfl, hd, _, _, _, rfl, rfl, SqL.of ehd, atI_nat (j := 0) rfl, h0, rfl, ⟨_, SqL.of pich.top⟩, fun again hD_ => ?_⟩
  refine comp_rows (k := 0) (fun x => ((rowOf X2 x).getD []).map fun v => match v with | .int c => .int (ns.reverse.getD c.toNat 0) | _ => .non) (src_list (SqL.of pich.top)) (by rw [List.length_map, pich.len, ir_len]; exact Nat.le_trans gdr.le (by decide)) hD_ (fun x hx H' Q' sm' kk => ?_) fun qsagain Hagain sagain fqagain pvagain => ?_
  case refine_1 =>
   obtain ⟨y, hy, rfl⟩ := List.mem_map.mp hx
   obtain ⟨rs, ey, hl', hcs, hmem⟩ := gdr.mem2 pich hy
   rw [rowOf_lst ey] at kk
   refine ⟨_, rfl, y, rfl, ⟨_, SqL.of (sm' _ _ ey)⟩, fun D3 hD3 => ?_⟩
   refine comp_fm (k := 0) (fun v => match v with | .int c => .int (ns.reverse.getD c.toNat 0) | _ => .non) (fun _ => true) (src_list (SqL.of (sm' _ _ ey))) (by rw [List.length_map, hl']; exact Nat.le_trans gdr.w24 (by decide)) hD3 (fun x _ H' Qb _ kk => kk H' (Same.refl _)) (fun x hx _ H8 Q8 s8 kk8 => ?_) fun H8 s8 e8 => ?_
   ·obtain ⟨v, hv, rfl⟩ := List.mem_map.mp hx
    have v0 := (hcs v hv).1
    have vl : v.toNat < ns.reverse.length := by have := ltr rs hmem v hv; omega
    have e9 := s8 _ _ (sm' _ _ eh1)
    refine ⟨_, rfl, hd, _, _, _, rfl, rfl, SqL.of (s8 _ _ (sm' _ _ ehd)), atI_nat (j := 1) rfl, _, rfl, h1, _, _, _, rfl, rfl, SqL.of e9, ?_, kk8 H8 (Same.refl _)⟩
    have := atI_nat (xs := ns.reverse.map V.int) (j := v.toNat) (v := .int (ns.reverse.getD v.toNat 0)) (by rw [List.getElem?_map, List.getD_eq_getElem?_getD, List.getElem?_eq_getElem vl]; rfl)
    rw [Int.toNat_of_nonneg v0] at this
    exact this
   ·refine kk D3 H8 s8 hD3 ?_
    rw [e8, filter_t]; rfl
  have pvagain : PicV Hagain again qsagain (ir (recR ns.reverse (rows.set 0 r0.reverse))) := by
   have ee : (rows.set 0 r0.reverse).map (fun r => r.map fun c => V.int (ns.reverse.getD c.toNat 0)) = ir (recR ns.reverse (rows.set 0 r0.reverse)) := by unfold ir recR; rw [List.map_map]; exact List.map_congr_left fun r _ => (List.map_map ..).symm
   have e2 := key_rows (H := X2) (fun c => .int (ns.reverse.getD c.toNat 0)) hs (rows.set 0 r0.reverse) pich.row
   exact Eq.mp (congrArg (PicV Hagain again qsagain) (e2.trans ee)) pvagain
  have sm := sm.trans sagain
  have pich := pich.mono sagain
  have eh1 := sagain _ _ eh1
  have ehd := sagain _ _ ehd
  clear sagain
  refine ⟨_, rfl, hd, _, _, _, rfl, rfl, SqL.of ehd, atI_nat (j := 0) rfl, _, rfl, hd, _, _, _, rfl, rfl, SqL.of ehd, atI_nat (j := 1) rfl, _, _, rfl, .inr ⟨h0, hs, rows.set 0 r0.reverse, wd, rfl, pich, gdr, .inr ⟨h1, ns.reverse, rfl, eh1, by rw [List.length_reverse]; exact nl, fun x hx => n15 x (List.mem_reverse.mp hx), fun _ z zs H11 s11 _ _ picz => ?_, fun h => absurd h (by have := max_lt gdr ltr; omega)⟩⟩⟩
  have sm := sm.trans s11
  have pich := pich.mono s11
  have eh1 := s11 _ _ eh1
  have ehd := s11 _ _ ehd
  have pvagain := pvagain.mono s11
  clear s11
  exact ⟨_, rfl, 2, z, again, true, by decide, rfl, rfl, eq_pics picz pvagain (rows_self ir_flat), k _ sm⟩
end
end K18
namespace L2
open PySem PySem.Spec PyProof.Rows C5
section
variable {X : Cx}
noncomputable def rLR : List V → Hp → VK → Prop := fun xs H Q => xs = [.int 16] ∧ ∀ l, H l = none → Q (.ref l) (upd H l (.lst ((List.range 16).map fun i : Nat => V.int (i : Int))))
theorem vals_range {n : Nat} {acc : Array Value} (h : ItemsOf (fun i v => ∃ t, v = Value.int ((0 : Int) + i * 1) t) acc n) : Vals ((List.range n).map fun i : Nat => V.int (i : Int)) acc.toList := by
 have key : ∀ (us : List Value) (k : Nat), (∀ (i : Nat) (v : Value), us[i]? = some v → ∃ t, v = Value.int ((k + i : Nat) : Int) t) → Vals ((List.range' k us.length).map fun i : Nat => V.int (i : Int)) us := by
  intro us
  induction us with
  | nil => intro k _; exact .nil
  | cons u us ih =>
   intro k hu
   obtain ⟨t, rfl⟩ := hu 0 u rfl
   refine .cons ⟨t, by simp⟩ (ih (k + 1) fun i v hv => ?_)
   obtain ⟨t', e⟩ := hu (i + 1) v hv
   exact ⟨t', by rw [e]; congr 2; omega⟩
 have := key acc.toList 0 fun i v hv => by
  have hv' : acc[i]? = some v := by rw [← Array.getElem?_toList]; exact hv
  obtain ⟨t, e⟩ := h.2 i v hv'
  exact ⟨t, by rw [e]; congr 1; simp⟩
 rw [Array.length_toList, h.1, ← List.range_eq_range'] at this
 exact this
theorem pe_listRange {a : Expr} {ta : TA} {p1 p2 pos1 pos2 : Pos} (hc : X.calm = true) (hg1 : Gl X "list") (hm1 : X.mg "list" = none) (hg2 : Gl X "range") (hm2 : X.mg "range" = none) (ha : PA X [a] ta) (hs : starEach [a] X.env = [(false, eval a X.env)] := by rfl)
  (he : starEach [.Call (.Name "range" p2) [a] [] pos2] X.env = (false, eval (.Call (.Name "range" p2) [a] [] pos2) X.env) :: starEach [] X.env := by rfl) (hpl : (backTo pos1 (starEach [] X.env)).any (·.1) = false := by rfl) :
  PE X (.Call (.Name "list" p1) [.Call (.Name "range" p2) [a] [] pos2] [] pos1) (tCB rLR ta) := by
 intro pins s σ H Q I h
 refine wpAny_Call_Name_kw (ld_blt I hg1 hm1 PyProof.Rows.boot_list (PyProof.Rows.callWith_type1 ?_ he hpl))
 rw [he]
 show wpAny _ _ (spliced ((false, eval (.Call (.Name "range" p2) [a] [] pos2) X.env) :: [])) _ _ s
 refine Calls.spliced_cons (Call_ (ld_blt I hg2 hm2 boot_range (PyProof.Rows.callWith_type1 (thn (ha pos2 pins s σ H _ I h) fun us s1 ⟨vs, H1, I1, r1, q1⟩ => ?_) (by rw [hs]; rfl) (by rfl))))
 obtain ⟨e, q⟩ := q1
 subst e
 obtain ⟨u1, rfl, ru1⟩ := Vals.one r1
 obtain ⟨t, rfl⟩ := ru1
 refine call_range_1 (Calls.spliced_nil ?_)
 have sz : (s1.heap.push { cls := .type "range", data := .fields #[.int 0 s1.toks, .int 16 t, .int 1 (s1.toks + 1)] }).objs.size = s1.heap.objs.size + 1 := Heap.size_push ..
 refine call_list_range (n := 16) (s := { s1 with heap := s1.heap.push { cls := .type "range", data := .fields #[.int 0 s1.toks, .int 16 t, .int 1 (s1.toks + 1)] }, toks := s1.toks + 1 + 1 }) (I.ok.hd hc) (Heap.get?_push_size _ rfl) (by decide) (by decide) (by decide) fun h' tk acc' c' kp hD hacc => ?_
 have k1 : ∀ b o, s1.heap.get? b = some o → h'.get? b = some o := fun b o e => kp b o (Heap.get?_push_of_some _ e)
 refine ⟨.ref (s1.heap.push { cls := .type "range", data := .fields #[.int 0 s1.toks, .int 16 t, .int 1 (s1.toks + 1)] }).objs.size, _, I1.laid (t' := tk) k1 (by rw [sz]; exact Nat.le_succ _) (show ObjOk X.prog X.w _ h' _ (.lst ((List.range 16).map fun i : Nat => V.int (i : Int))) from ⟨by decide, acc'.toList, c', vals_range hacc, by simpa using hD⟩), rfl, q _ (I1.hok.fresh (by rw [sz]; exact Nat.le_succ _))⟩
end
end L2
set_option maxHeartbeats 800000
namespace K18
open PySem L2 M4
noncomputable def spLaw (K : W.Frag) : Sp := fun vs H Q _ => ∃ (a : Addr) (ns : List Int), vs = [.ref a] ∧ SqL K H a (ns.map V.int) ∧ ∀ H', Q (.bl true) H'
theorem bad_none {K : W.Frag} {H : Hp} {v : V} (k : Kd K H v) (h : rowOf H v = none) : TCs K H v ∧ cellsB H v 16 = false := by
 refine ⟨⟨k, fun xs e => ?_, fun xs e => ?_⟩, ?_⟩
 ·rw [h] at e; cases e
 ·rw [h] at e; cases e
 ·unfold cellsB; rw [h]
theorem odd_no {K : W.Frag} {H : Hp} {p : Addr} {v : V} (ep : H p = some (.lst [.int 0])) (hm : v ∈ [V.int 16, .int (-1), .bl true, .non, .str "0", .ref p, .int (10 ^ 20), .bl false]) : Kd K H v ∧ isWh 0 15 v = false := by
 simp only [List.mem_cons, List.not_mem_nil, or_false] at hm
 rcases hm with rfl | rfl | rfl | rfl | rfl | rfl | rfl | rfl
 ·exact ⟨.int _, by decide⟩
 ·exact ⟨.int _, by decide⟩
 ·exact ⟨.bl _, rfl⟩
 ·exact ⟨.non, rfl⟩
 ·exact ⟨.str _, rfl⟩
 ·exact ⟨.lst ep, rfl⟩
 ·exact ⟨.int _, by decide⟩
 ·exact ⟨.bl _, rfl⟩
theorem cut_mid (xs : List V) (i k : Nat) : cutV xs (some (i : Int)) (some ((i + k : Nat) : Int)) = (xs.drop i).take k := by
 unfold cutV
 rw [HT.sIx_nat, HT.sIx_nat]
 by_cases h : i ≤ xs.length
 ·rw [Nat.min_eq_left h]
  refine List.take_eq_take_iff.mpr ?_
  rw [List.length_drop]; omega
 ·rw [List.drop_eq_nil_of_le (by omega), List.drop_eq_nil_of_le (by omega), List.take_nil, List.take_nil]
theorem bad_in {K : W.Frag} {H : Hp} {p : Addr} {cs : List Int} {k : Nat} {x : V} (e : H p = some (.lst (((cs.map V.int).take k ++ [x]) ++ (cs.map V.int).drop k))) (kx : Kd K H x) (nx : isWh 0 15 x = false) (hl : cs.length ≤ 16) : TCs K H (.ref p) ∧ cellsB H (.ref p) 16 = false := by
 refine ⟨⟨.lst e, fun xs h => ?_, fun xs h y hy => ?_⟩, ?_⟩
 ·rw [rowOf_lst e] at h; cases h
  rw [List.length_append, List.length_append, List.length_take, List.length_drop, List.length_map, List.length_singleton]; omega
 ·rw [rowOf_lst e] at h; cases h
  rcases List.mem_append.mp hy with hy | hy
  ·rcases List.mem_append.mp hy with hy | hy
   ·obtain ⟨i, _, rfl⟩ := List.mem_map.mp (List.mem_of_mem_take hy); exact .int i
   ·rw [List.mem_singleton.mp hy]; exact kx
  ·obtain ⟨i, _, rfl⟩ := List.mem_map.mp (List.mem_of_mem_drop hy); exact .int i
 ·unfold cellsB
  rw [rowOf_lst e]
  show ((((cs.map V.int).take k ++ [x]) ++ (cs.map V.int).drop k).all (isWh 0 15) && _) = false
  rw [List.all_append, List.all_append]
  have : [x].all (isWh 0 15) = false := by rw [List.all_cons, nx]; rfl
  rw [this, Bool.and_false, Bool.false_and, Bool.false_and]
theorem bad_all {K : W.Frag} {H : Hp} {p5 p7 p8 d : Addr} {xs : List V} {v : V} (h5 : TCs K H (.ref p5) ∧ cellsB H (.ref p5) 16 = false) (e7 : H p7 = some (.lst ((List.replicate 17 (0 : Int)).map V.int))) (e8 : H p8 = some (.tup xs)) (ed : H d = some (DictO d)) (hm : v ∈ [V.ref p5, .ref p7, .non, .ref p8, .ref d, .str "0"]) : TCs K H v ∧ cellsB H v 16 = false := by
 simp only [List.mem_cons, List.not_mem_nil, or_false] at hm
 rcases hm with rfl | rfl | rfl | rfl | rfl | rfl
 ·exact h5
 ·refine ⟨⟨.lst e7, fun xs h => ?_, fun xs h y hy => ?_⟩, ?_⟩
  ·rw [rowOf_lst e7] at h; cases h
   rw [List.length_map, List.length_replicate]; decide
  ·rw [rowOf_lst e7] at h; cases h
   obtain ⟨i, _, rfl⟩ := List.mem_map.mp hy; exact .int i
  ·unfold cellsB
   rw [rowOf_lst e7]
   show (_ && decide ((((List.replicate 17 (0 : Int)).map V.int).length : Int) ≤ 16)) = false
   rw [List.length_map, List.length_replicate, decide_eq_false (by decide), Bool.and_false]
 ·exact bad_none .non rfl
 ·exact bad_none (.tup e8) (by simp only [rowOf, e8])
 ·exact bad_none (.dict ed) (by simp only [rowOf, ed]; rfl)
 ·exact bad_none (.str _) rfl
theorem window_nd {ds : List (Addr × Nat × Nat × Nat)} {f m : Nat} (nd : (ds.map kc).Nodup) (hf : f ≤ ds.length) (hm : m ≤ ds.length) : ((((ds ++ ds).drop f).take m).map kc).Nodup := by
 have e : ((ds ++ ds).drop f).take m = (ds.drop f ++ ds.take f).take m := by
  rw [List.drop_append_of_le_length hf]
  have h1 : ds.drop f ++ ds = (ds.drop f ++ ds.take f) ++ ds.drop f := by rw [List.append_assoc, List.take_append_drop]
  rw [h1, List.take_append_of_le_length (by rw [List.length_append, List.length_drop, List.length_take]; omega)]
 rw [e, List.map_take]
 refine List.Nodup.sublist (List.take_sublist _ _) ?_
 rw [List.map_append]
 refine (List.perm_append_comm.nodup_iff).mp ?_
 rw [← List.map_append, List.take_append_drop]
 exact nd
theorem Fr.pic {X : List Addr} {H H' : Hp} {a : Addr} {ps : List Addr} {R : List (List V)} (f : Fr X H H') (p : PicV H a ps R) (n : ∀ x ∈ X, x ∉ a :: ps) : PicV H' a ps R :=
 ⟨f _ _ p.top (fun z => n _ z List.mem_cons_self), Paired.mapI p.row fun q _ hq e => f _ _ e (fun z => n _ z (List.mem_cons_of_mem _ hq)), p.nd, p.out⟩
theorem not_pic {H : Hp} {a x : Addr} {ps : List Addr} {R : List (List V)} (p : PicV H a ps R) (h : H x = none) : x ∉ a :: ps := fun z => by
 rcases List.mem_cons.mp z with z | z
 ·rw [z, p.top] at h; cases h
 ·obtain ⟨_, _, e⟩ := p.mem z
  rw [h] at e; cases e
section
variable {P : Program} {w : World} {K : W.Frag} {mg : Str → Option Value} {base : Heap} {cFE cC cN cM cP cL cB cD cZ : Addr} {tP tS tC tI : Tok}
noncomputable abbrev nmlaw : List Str := ["_law_script", "_law_number", "_law_pool_here", "_law_most", "_law_ones", "_law_first", "_law_others", "_law_picture_here", "_law_one", "_law_turn", "_law_more", "_law_numbers", "_law_odd", "_law_at", "_law_wrong", "_law_bad"]
theorem sc_law : FnScope ["_law_script", "_law_number", "_law_pool_here", "_law_most", "_law_ones", "_law_first", "_law_others", "_law_picture_here", "_law_one", "_law_turn", "_law_more", "_law_numbers", "_law_odd", "_law_at", "_law_wrong", "_law_bad"] ["_law_script"] (defScope s_law) := ⟨rfl, rfl, rfl, by decide +kernel, rfl, by decide +kernel, by decide +kernel⟩
theorem ok_law {f : Addr} {fd : FuncData} (F : FunD K "law" "law" s_law .none f fd) (T : Txt K mg cFE cC cN cM cP cL cB cD cZ tP tS tC tI) (g__law_draw : Def P w K mg base 1 "_law_draw" ["_law_script", "_law_k"] [] (spDraw K)) (g__law_pool : Def P w K mg base 2 "_law_pool" ["_law_script", "_law_first", "_law_near"] [] (spPool K)) (g__law_picture : Def P w K mg base 2 "_law_picture" ["_law_script", "_law_first", "_law_many"] [] (spLPic K)) (g_Palette : MakX P w K mg base cL 5 "Palette" ["self", "colours"] (spInit K cP cL)) (g__law_pour_good : Def P w K mg base 12 "_law_pour_good" ["_law_one", "_law_ones", "_law_others", "_law_picture_here"] [] (spPG K cL)) (g__law_recoloured_good : Def P w K mg base 12 "_law_recoloured_good" ["_law_picture_here", "_law_numbers"] [] (spRecG K)) (g__law_no_picture : Def P w K mg base 2 "_law_no_picture" ["_law_rows", "_law_odd", "_law_number"] [] (spNoPic K)) (g__law_refused : Def P w K mg base 11 "_law_refused" ["_law_picture_here", "_law_numbers"] [] (spRefd K)) (g__law_copied : Def P w K mg base 1 "_law_copied" ["_law_rows"] [] (spCop)) : FnOk P w K mg base CX0 13 f fd ["_law_script"] (spLaw K) := by
 refine F.ok sc_law (fun vs H Q E h => ?_) (fun cdv A outer s H vs Q E hr h => ?_)
 ·obtain ⟨a, ns, rfl, _⟩ := h; rfl
 ·obtain ⟨a, ns, rfl, hS, k⟩ := h
  have hu : _ + 64 < cLine := hr.units
  obtain ⟨t16, r16, k16⟩ : ∃ tr, PSs ((cxOf CX0 P w K mg base nmlaw "law" (defScope s_law) f cdv A outer s H E).nox) ((defBody s_law).drop 16) tr ∧
    ∀ (w2 w3 w4 w5 w6 w8 w9 : Option V) (A N : Addr) (ps : List Addr) (rows : List (List Int)) (wd n mo m : Nat) (x w : V) (H1 : Hp), PicV H1 A ps (ir rows) → Good rows wd → Kd K H1 x → isWh 0 15 x = false → TCs K H1 w → cellsB H1 w 16 = false → tr { nx := fun _ H' => Q .non H', rt := Q } [some (.ref a), some (.int (n : Int)), w2, w3, w4, w5, w6, some (.ref A), w8, w9, some (.int (mo : Int)), some (.ref N), some x, some (.int (m : Int)), some w, none] H1 := by
   refine ⟨_, (pss_cons (ps_set (i := 15) sc_law.nd rfl (.inl rfl) (pe_callD g__law_no_picture (hr.mono (by decide)) rfl (pa_cons (pv 7) (pa_cons (pv 12) (pa_cons (pe_op op_fdiv (pv 1) pe_int) pa_nil)))))
    (pss_one (ps_ret (pe_and (pe_cmpR (eqDK K rfl hu) (pe_callD g__law_refused (hr.mono (by decide)) rfl (pa_cons (pe_callD g__law_copied (hr.mono (by decide)) rfl (pa_cons (pv 7) pa_nil)) (pa_cons (pv 14) pa_nil))) (pe_tup (pa_cons pe_str pa_nil)) (nomark _)) (pe_one (pe_cmpR (eqDK K rfl hu) (pe_callD g__law_refused (hr.mono (by decide)) rfl (pa_cons (pv 15) (pa_cons (pv 14) pa_nil))) (pe_tup (pa_cons pe_str pa_nil)) (nomark _))))))), ?_⟩
   intro w2 w3 w4 w5 w6 w8 w9 A N ps rows wd n mo m x w H1 pic gd kx nx ty cb
   have ty0 := ty
   have sm := Same.refl H1
   refine ⟨_, rfl, _, rfl, _, rfl, _, _, rfl, rfl, ⟨by decide, by decide⟩, A, ps, rows, wd, x, n / 256, ?_, pic, gd, kx, nx, fun bv H2 s2 bad => ?_⟩
   ·show [V.ref A, x, V.int ((n : Int) / 256)] = _
    rw [show (n : Int) / 256 = ((n / 256 : Nat) : Int) by omega]
   have sm := sm.trans s2
   have pic := pic.mono s2
   have ty := ty.mono s2
   clear s2
   refine ⟨_, rfl, A, ps, _, rfl, pic, by rw [ir_len]; have := gd.le; omega, fun q qs H3 s3 _ _ picq => ?_⟩
   have sm := sm.trans s3
   have pic := pic.mono s3
   have ty := ty.mono s3
   have bad := bad.mono s3
   clear s3
   refine ⟨_, rfl, _, _, rfl, .inr ⟨q, qs, rows, wd, rfl, picq, gd, .inl ⟨ty, ?_, fun u H4 s4 fu eu => ?_⟩⟩⟩
   ·rw [cellsB_mono ty0 sm]; exact cb
   have sm := sm.trans s4
   have pic := pic.mono s4
   have ty := ty.mono s4
   have bad := bad.mono s4
   have picq := picq.mono s4
   clear s4
   refine ⟨sz1, fun v1 h_ => ?_⟩
   obtain ⟨z_, ev1⟩ := put_ (HO.tup [V.str "cell"]) h_
   generalize upd H4 v1 (HO.tup [V.str "cell"]) = G1 at z_ ev1 ⊢
   have sm := sm.trans z_
   have pic := pic.mono z_
   have ty := ty.mono z_
   have bad := bad.mono z_
   have picq := picq.mono z_
   have eu := z_ _ _ eu
   clear z_ h_
   refine ⟨0, u, v1, true, by decide, rfl, rfl, eq_tups eu ev1 (fun y hy => (by rw [List.mem_singleton.mp hy]; exact .inr rfl)), _, rfl, ?_⟩
   refine ⟨_, rfl, _, rfl, _, _, rfl, .inl ⟨bad, fun u2 H5 s5 fu2 eu2 => ?_⟩⟩
   have sm := sm.trans s5
   have pic := pic.mono s5
   have ty := ty.mono s5
   have bad := bad.mono s5
   have picq := picq.mono s5
   have eu := s5 _ _ eu
   have ev1 := s5 _ _ ev1
   clear s5
   refine ⟨sz1, fun v2 h_ => ?_⟩
   obtain ⟨z_, ev2⟩ := put_ (HO.tup [V.str "picture"]) h_
   generalize upd H5 v2 (HO.tup [V.str "picture"]) = G2 at z_ ev2 ⊢
   have sm := sm.trans z_
   have pic := pic.mono z_
   have ty := ty.mono z_
   have bad := bad.mono z_
   have picq := picq.mono z_
   have eu := z_ _ _ eu
   have ev1 := z_ _ _ ev1
   have eu2 := z_ _ _ eu2
   clear z_ h_
   exact ⟨0, u2, v2, true, by decide, rfl, rfl, eq_tups eu2 ev2 (fun y hy => (by rw [List.mem_singleton.mp hy]; exact .inr rfl)), k _⟩
  obtain ⟨t15, r15, k15⟩ : ∃ tr, PSs ((cxOf CX0 P w K mg base nmlaw "law" (defScope s_law) f cdv A outer s H E).nox) ((defBody s_law).drop 15) tr ∧
    ∀ (w2 w3 w4 w5 w6 w8 w9 : Option V) (A N : Addr) (ps : List Addr) (rows : List (List Int)) (wd n mo m : Nat) (cs : List Int) (x : V) (H1 : Hp), PicV H1 A ps (ir rows) → Good rows wd → H1 N = some (.lst (cs.map V.int)) → cs.length ≤ 16 → m ≤ cs.length → Kd K H1 x → isWh 0 15 x = false → tr { nx := fun _ H' => Q .non H', rt := Q } [some (.ref a), some (.int (n : Int)), w2, w3, w4, w5, w6, some (.ref A), w8, w9, some (.int (mo : Int)), some (.ref N), some x, some (.int (m : Int)), none, none] H1 := by
   refine ⟨_, (pss_cons (ps_set (i := 14) sc_law.nd rfl (.inl rfl) (pe_ix (ixK K rfl) (pe_lst (pa_cons (pe_op op_cat (pe_op op_cat (pe_slice (slK K rfl) (pv 11) po_none (po_some (pv 13))) (pe_lst (pa_cons (pv 12) pa_nil))) (pe_slice (slK K rfl) (pv 11) (po_some (pv 13)) po_none)) (pa_cons (pe_op op_rep (pe_lst (pa_cons pe_int pa_nil)) pe_int) (pa_cons pe_non (pa_cons (pe_callTy call_tuple_of rfl T.tuple PyProof.Rows.boot_tuple (pa_cons (pv 11) pa_nil)) (pa_cons pe_dict0 (pa_cons pe_str pa_nil))))))) (pe_op op_mod (pe_op op_fdiv (pv 10) pe_int) pe_int) (fun _ _ => rfl)))
    (@r16)), ?_⟩
   intro w2 w3 w4 w5 w6 w8 w9 A N ps rows wd n mo m cs x H1 pic gd eN hl hmc kx nx
   have sm := Same.refl H1
   refine ⟨_, rfl, _, rfl, _, rfl, N, _, rfl, SqL.of eN, fun q1 h_ => ?_⟩
   rw [cut_hi]
   obtain ⟨z_, eq1⟩ := put_ (HO.lst ((cs.map V.int).take m)) h_
   generalize upd H1 q1 (HO.lst ((cs.map V.int).take m)) = G1 at z_ eq1 ⊢
   have sm := sm.trans z_
   have pic := pic.mono z_
   have eN := z_ _ _ eN
   have kx := kx.mono z_
   clear z_ h_
   refine ⟨_, rfl, sz1, fun q2 h_ => ?_⟩
   obtain ⟨z_, eq2⟩ := put_ (HO.lst [x]) h_
   generalize upd G1 q2 (HO.lst [x]) = G2 at z_ eq2 ⊢
   have sm := sm.trans z_
   have pic := pic.mono z_
   have eN := z_ _ _ eN
   have kx := kx.mono z_
   have eq1 := z_ _ _ eq1
   clear z_ h_
   refine ⟨q1, q2, _, _, rfl, rfl, eq1, eq2, Nat.le_trans (by rw [List.length_take, List.length_map, List.length_singleton]; omega : _ ≤ 2000) (by decide), fun q3 h_ => ?_⟩
   obtain ⟨z_, eq3⟩ := put_ (HO.lst ((cs.map V.int).take m ++ [x])) h_
   generalize upd G2 q3 (HO.lst ((cs.map V.int).take m ++ [x])) = G3 at z_ eq3 ⊢
   have sm := sm.trans z_
   have pic := pic.mono z_
   have eN := z_ _ _ eN
   have kx := kx.mono z_
   have eq1 := z_ _ _ eq1
   have eq2 := z_ _ _ eq2
   clear z_ h_
   refine ⟨_, rfl, _, rfl, _, rfl, N, _, rfl, SqL.of eN, fun q4 h_ => ?_⟩
   rw [cut_lo _ m (by rw [List.length_map]; exact hmc)]
   obtain ⟨z_, eq4⟩ := put_ (HO.lst ((cs.map V.int).drop m)) h_
   generalize upd G3 q4 (HO.lst ((cs.map V.int).drop m)) = G4 at z_ eq4 ⊢
   have sm := sm.trans z_
   have pic := pic.mono z_
   have eN := z_ _ _ eN
   have kx := kx.mono z_
   have eq1 := z_ _ _ eq1
   have eq2 := z_ _ _ eq2
   have eq3 := z_ _ _ eq3
   clear z_ h_
   refine ⟨q3, q4, _, _, rfl, rfl, eq3, eq4, Nat.le_trans (by rw [List.length_append, List.length_take, List.length_drop, List.length_map, List.length_singleton]; omega : _ ≤ 2000) (by decide), fun q5 h_ => ?_⟩
   obtain ⟨z_, eq5⟩ := put_ (HO.lst (((cs.map V.int).take m ++ [x]) ++ (cs.map V.int).drop m)) h_
   generalize upd G4 q5 (HO.lst (((cs.map V.int).take m ++ [x]) ++ (cs.map V.int).drop m)) = G5 at z_ eq5 ⊢
   have sm := sm.trans z_
   have pic := pic.mono z_
   have eN := z_ _ _ eN
   have kx := kx.mono z_
   have eq1 := z_ _ _ eq1
   have eq2 := z_ _ _ eq2
   have eq3 := z_ _ _ eq3
   have eq4 := z_ _ _ eq4
   clear z_ h_
   refine ⟨sz1, fun q6 h_ => ?_⟩
   obtain ⟨z_, eq6⟩ := put_ (HO.lst [V.int 0]) h_
   generalize upd G5 q6 (HO.lst [V.int 0]) = G6 at z_ eq6 ⊢
   have sm := sm.trans z_
   have pic := pic.mono z_
   have eN := z_ _ _ eN
   have kx := kx.mono z_
   have eq1 := z_ _ _ eq1
   have eq2 := z_ _ _ eq2
   have eq3 := z_ _ _ eq3
   have eq4 := z_ _ _ eq4
   have eq5 := z_ _ _ eq5
   clear z_ h_
   refine ⟨q6, 17, _, rfl, rfl, eq6, by decide, by decide, (by show 1 * 17 ≤ sizeLine; decide), fun q7 h_ => ?_⟩
   have er : (List.replicate (17 : Int).toNat [V.int 0]).flatten = (List.replicate 17 (0 : Int)).map V.int := rfl
   rw [er]
   obtain ⟨z_, eq7⟩ := put_ (HO.lst ((List.replicate 17 (0 : Int)).map V.int)) h_
   generalize upd G6 q7 (HO.lst ((List.replicate 17 (0 : Int)).map V.int)) = G7 at z_ eq7 ⊢
   have sm := sm.trans z_
   have pic := pic.mono z_
   have eN := z_ _ _ eN
   have kx := kx.mono z_
   have eq1 := z_ _ _ eq1
   have eq2 := z_ _ _ eq2
   have eq3 := z_ _ _ eq3
   have eq4 := z_ _ _ eq4
   have eq5 := z_ _ _ eq5
   have eq6 := z_ _ _ eq6
   clear z_ h_
   refine ⟨_, rfl, N, _, rfl, .inl ⟨SqL.of eN, fun q8 h_ => ?_⟩⟩
   obtain ⟨z_, eq8⟩ := put_ (HO.tup (cs.map V.int)) h_
   generalize upd G7 q8 (HO.tup (cs.map V.int)) = G8 at z_ eq8 ⊢
   have sm := sm.trans z_
   have pic := pic.mono z_
   have eN := z_ _ _ eN
   have kx := kx.mono z_
   have eq1 := z_ _ _ eq1
   have eq2 := z_ _ _ eq2
   have eq3 := z_ _ _ eq3
   have eq4 := z_ _ _ eq4
   have eq5 := z_ _ _ eq5
   have eq6 := z_ _ _ eq6
   have eq7 := z_ _ _ eq7
   clear z_ h_
   refine fun d h_ => ?_
   obtain ⟨z_, ed⟩ := put_ (DictO d) h_
   generalize upd G8 d (DictO d) = G9 at z_ ed ⊢
   have fd := sm.free h_
   have sm := sm.trans z_
   have pic := pic.mono z_
   have eN := z_ _ _ eN
   have kx := kx.mono z_
   have eq1 := z_ _ _ eq1
   have eq2 := z_ _ _ eq2
   have eq3 := z_ _ _ eq3
   have eq4 := z_ _ _ eq4
   have eq5 := z_ _ _ eq5
   have eq6 := z_ _ _ eq6
   have eq7 := z_ _ _ eq7
   have eq8 := z_ _ _ eq8
   clear z_ h_
   refine ⟨sz6, fun L h_ => ?_⟩
   obtain ⟨z_, eL⟩ := put_ (HO.lst [V.ref q5, .ref q7, .non, .ref q8, .ref d, .str "0"]) h_
   generalize upd G9 L (HO.lst [V.ref q5, .ref q7, .non, .ref q8, .ref d, .str "0"]) = G10 at z_ eL ⊢
   have sm := sm.trans z_
   have pic := pic.mono z_
   have eN := z_ _ _ eN
   have kx := kx.mono z_
   have eq1 := z_ _ _ eq1
   have eq2 := z_ _ _ eq2
   have eq3 := z_ _ _ eq3
   have eq4 := z_ _ _ eq4
   have eq5 := z_ _ _ eq5
   have eq6 := z_ _ _ eq6
   have eq7 := z_ _ _ eq7
   have eq8 := z_ _ _ eq8
   have ed := z_ _ _ ed
   clear z_ h_
   obtain ⟨v, hm, hv⟩ := at_mod (xs := [V.ref q5, .ref q7, .non, .ref q8, .ref d, .str "0"]) (m := (mo : Int) / 4096) 6 rfl (by decide)
   have b5 := bad_in (K := K) eq5 kx nx hl
   have hb := bad_all (K := K) b5 eq7 eq8 ed hm
   refine ⟨_, rfl, _, _, rfl, rfl, ⟨by decide, by decide⟩, _, _, rfl, rfl, (by show (0 : Int) < 6; decide), L, _, _, v, rfl, rfl, SqL.of eL, hv, ?_⟩
   exact k16 w2 w3 w4 w5 w6 w8 w9 A N ps rows wd n mo m x v _ pic gd kx nx hb.1 hb.2
  obtain ⟨t13, r13, k13⟩ : ∃ tr, PSs ((cxOf CX0 P w K mg base nmlaw "law" (defScope s_law) f cdv A outer s H E).nox) ((defBody s_law).drop 13) tr ∧
    ∀ (w2 w3 w4 w5 w6 w8 w9 : Option V) (A N : Addr) (ps : List Addr) (rows : List (List Int)) (wd n mo : Nat) (cs : List Int) (H1 : Hp), PicV H1 A ps (ir rows) → Good rows wd → H1 N = some (.lst (cs.map V.int)) → cs.length ≤ 16 → tr { nx := fun _ H' => Q .non H', rt := Q } [some (.ref a), some (.int (n : Int)), w2, w3, w4, w5, w6, some (.ref A), w8, w9, some (.int (mo : Int)), some (.ref N), none, none, none, none] H1 := by
   refine ⟨_, (pss_cons (ps_set (i := 12) sc_law.nd rfl (.inl rfl) (pe_ix (ixK K rfl) (pe_lst (pa_cons pe_int (pa_cons (pe_un un_neg pe_int) (pa_cons pe_bl (pa_cons pe_non (pa_cons pe_str (pa_cons (pe_lst (pa_cons pe_int pa_nil)) (pa_cons (pe_op op_pow pe_int pe_int) (pa_cons pe_bl pa_nil))))))))) (pe_op op_mod (pe_op op_fdiv (pv 10) pe_int) pe_int) (fun _ _ => rfl)))
    (pss_cons (ps_set (i := 13) sc_law.nd rfl (.inl rfl) (pe_op op_mod (pe_op op_fdiv (pv 10) pe_int) (pe_op op_add (pe_callB (lenK K rfl) rfl T.len PySem.boot_len (pa_cons (pv 11) pa_nil)) pe_int)))
    (@r15))), ?_⟩
   intro w2 w3 w4 w5 w6 w8 w9 A N ps rows wd n mo cs H1 pic gd eN hl
   refine ⟨_, rfl, sz1, fun p hp => ?_⟩
   have z1 := same_new (o := HO.lst [V.int 0]) hp
   refine ⟨_, _, rfl, rfl, ⟨by decide, by decide, by decide⟩, sz8, fun L hL => ?_⟩
   obtain ⟨x, hm, hx⟩ := at_mod (xs := [V.int 16, .int (-1), .bl true, .non, .str "0", .ref p, .int (10 ^ 20), .bl false]) (m := (mo : Int) / 17) 8 rfl (by decide)
   have z2 := same_new (o := HO.lst [V.int 16, .int (-1), .bl true, .non, .str "0", .ref p, .int (10 ^ 20), .bl false]) hL
   refine ⟨_, rfl, _, _, rfl, rfl, ⟨by decide, by decide⟩, _, _, rfl, rfl, (by show (0 : Int) < 8; decide), L, _, _, x, rfl, rfl, SqL.of upd_same, hx, ?_⟩
   have ep := z2 p (.lst [.int 0]) upd_same
   have hb : Kd K _ x ∧ isWh 0 15 x = false := odd_no ep hm
   have zz := z1.trans z2
   have eN2 := zz _ _ eN
   refine ⟨_, rfl, _, _, rfl, rfl, ⟨by decide, by decide⟩, _, rfl, N, _, rfl, .inl (SqL.of eN2), _, _, rfl, rfl, _, _, rfl, rfl, (by show (0 : Int) < (((cs.map V.int).length : Nat) : Int) + 1; omega), ?_⟩
   obtain ⟨m, em, hm⟩ : ∃ m : Nat, (mo : Int) / 136 % ((((cs.map V.int).length : Nat) : Int) + 1) = (m : Int) ∧ m ≤ cs.length := by
    have f0 := Int.emod_nonneg ((mo : Int) / 136) (show (((cs.map V.int).length : Nat) : Int) + 1 ≠ 0 by omega)
    have f1 := Int.emod_lt_of_pos ((mo : Int) / 136) (show (0 : Int) < (((cs.map V.int).length : Nat) : Int) + 1 by omega)
    rw [List.length_map] at f0 f1 ⊢
    exact ⟨((mo : Int) / 136 % ((cs.length : Int) + 1)).toNat, by omega, by omega⟩
   show gName 13 (.int ((mo : Int) / 136 % ((((cs.map V.int).length : Nat) : Int) + 1))) _ _ _
   rw [em]
   exact k15 w2 w3 w4 w5 w6 w8 w9 A N ps rows wd n mo m cs x _ (pic.mono zz) gd eN2 hl hm hb.1 hb.2
  obtain ⟨t9, r9, k9⟩ : ∃ tr, PSs ((cxOf CX0 P w K mg base nmlaw "law" (defScope s_law) f cdv A outer s H E).nox) ((defBody s_law).drop 9) tr ∧
    ∀ (w2 w3 w4 w5 w6 w8 w9 : Option V) (A : Addr) (ps : List Addr) (rows : List (List Int)) (wd n : Nat) (H1 : Hp), SqL K H1 a (ns.map V.int) → PicV H1 A ps (ir rows) → Good rows wd → tr { nx := fun _ H' => Q .non H', rt := Q } [some (.ref a), some (.int (n : Int)), w2, w3, w4, w5, w6, some (.ref A), w8, w9, none, none, none, none, none, none] H1 := by
   refine ⟨_, (pss_cons (ps_set (i := 10) sc_law.nd rfl (.inl rfl) (pe_callD g__law_draw (hr.mono (by decide)) rfl (pa_cons (pv 0) (pa_cons pe_int pa_nil))))
    (pss_cons (ps_setC (ix := 11) (N := ["_law_k", "_law_script"]) (src := [none, some 0]) sc_law.nd rfl rfl rfl ⟨rfl, rfl, rfl, rfl, rfl, by decide +kernel⟩ (pi_range1 rfl T.range (pa_cons (pe_op op_mod (pv 10) pe_int) pa_nil)) (fun s H C fp => pg_name (i := 0) (show (["_law_k", "_law_script"] : List Str).Nodup by decide +kernel) rfl (.inl rfl)) (fun s H C fp => pts_nil) (fun s H C fp => (pe_op op_mod (pe_op op_fdiv (pe_callD g__law_draw (hr.mono (by decide)) rfl (pa_cons (pv 1) (pa_cons (pe_op op_add pe_int (pv 0)) pa_nil))) pe_int) pe_int)))
    (pss_cons (ps_if (pt_cmpR op_eq (pe_op op_mod (pe_op op_fdiv (pv 10) pe_int) pe_int) pe_int (nomark _)) (pss_one (ps_set (i := 11) sc_law.nd rfl (.inl rfl) (pe_listRange rfl rfl T.list rfl T.range (pa_cons pe_int pa_nil)))) pss_nil)
    (pss_cons (ps_if (pt_not (pt_val (pe_callD g__law_recoloured_good (hr.mono (by decide)) rfl (pa_cons (pv 7) (pa_cons (pv 11) pa_nil))))) (pss_one (ps_ret pe_bl)) pss_nil)
    (@r13))))), ?_⟩
   intro w2 w3 w4 w5 w6 w8 w9 A ps rows wd n H1 hS pic gd
   refine ⟨_, rfl, a, ns, 1, rfl, hS, by decide, fun mo H2 hmo s2 => ?_⟩
   have hS := s2.seq hS
   have pic := pic.mono s2
   refine ⟨_, rfl, _, _, rfl, rfl, (by show (0 : Int) < 17; decide), _, rfl, by have := Int.emod_nonneg (mo : Int) (show (17 : Int) ≠ 0 by decide); show -(2 ^ 62) ≤ (mo : Int) % 17; omega, by show (mo : Int) % 17 < 2 ^ 62; omega, fun D hD => ?_⟩
   have n16 : ((mo : Int) % 17).toNat ≤ 16 := by omega
   refine comp_range (k := 0) (Nat.le_trans n16 (by decide)) (fun i ys H' => Same H2 H' ∧ ∃ cs : List Int, ys = cs.map V.int ∧ ∀ c ∈ cs, 0 ≤ c ∧ c ≤ 15) ⟨same_new hD, [], rfl, fun c hc => nomatch hc⟩ ?_ ?_
   ·rintro i ys H3 N hi hyl hys hD3 ⟨s3, cs, rfl, hcs⟩ kN
    have hD4 : ∀ H4, Same H3 H4 → H4 D = some (.lst (cs.map V.int)) := fun H4 s4 => s4 _ _ hD3
    refine ⟨_, rfl, _, rfl, _, _, rfl, rfl, a, ns, 100 + i, ?_, s3.seq hS, by omega, fun nn H4 _ s4 => ⟨_, _, rfl, rfl, ⟨by decide, by decide⟩, _, _, rfl, rfl, (by show (0 : Int) < 16; decide), _, hD4 H4 s4, hys, kN _ _ upd_same (by rw [List.length_append]; show _ + 1 ≤ _; omega) ⟨same_upd (s3.trans s4) hD, cs ++ [(nn : Int) / 4 % 16], by rw [List.map_append]; rfl, fun c hc => ?_⟩⟩⟩
    ·show [V.ref a, V.int (100 + (0 + (i : Int)))] = _
     rw [show (100 : Int) + (0 + (i : Int)) = ((100 + i : Nat) : Int) by omega]
    ·rcases List.mem_append.mp hc with hc | hc
     ·exact hcs c hc
     ·rw [List.mem_singleton.mp hc]; omega
   ·rintro ys H3 hD3 hyl ⟨s3, cs, rfl, hcs⟩
    rw [List.length_map] at hyl
    have hl : cs.length ≤ 16 := by omega
    have pic := pic.mono s3
    refine ⟨_, rfl, _, _, rfl, rfl, ⟨by decide, by decide⟩, _, _, rfl, rfl, (by show (0 : Int) < 8; decide), rfl, _, rfl, ite2 (fun _ => ?_) (fun _ => ?_)⟩
    ·refine ⟨rfl, fun l hl16 => ?_⟩
     have z4 := same_new (o := HO.lst ((List.range 16).map fun i : Nat => V.int (i : Int))) hl16
     have e4 : upd H3 l (.lst ((List.range 16).map fun i : Nat => V.int (i : Int))) l = some (.lst (((List.range 16).map fun i : Nat => (i : Int)).map V.int)) := by rw [upd_same, List.map_map]; rfl
     have c4 : ∀ c ∈ (List.range 16).map fun i : Nat => (i : Int), 0 ≤ c ∧ c ≤ 15 := fun c hc => by
      obtain ⟨i, hi, rfl⟩ := List.mem_map.mp hc
      have := List.mem_range.mp hi
      omega
     refine ⟨_, rfl, _, rfl, A, l, ps, rows, wd, _, rfl, pic.mono z4, gd, e4, by decide, c4, fun H5 s5 => ⟨_, rfl, ?_⟩⟩
     exact k13 w2 w3 w4 w5 w6 w8 w9 A l ps rows wd n mo _ H5 ((pic.mono z4).mono s5) gd (s5 _ _ e4) (by decide)
    ·refine ⟨_, rfl, _, rfl, A, D, ps, rows, wd, cs, rfl, pic, gd, hD3, hl, hcs, fun H5 s5 => ⟨_, rfl, ?_⟩⟩
     exact k13 w2 w3 w4 w5 w6 w8 w9 A D ps rows wd n mo cs H5 (pic.mono s5) gd (s5 _ _ hD3) hl
  refine ⟨_, (pss_cons (ps_set (i := 1) sc_law.nd rfl (.inl rfl) (pe_callD g__law_draw (hr.mono (by decide)) rfl (pa_cons (pv 0) (pa_cons pe_int pa_nil))))
    (pss_cons (ps_set (i := 2) sc_law.nd rfl (.inl rfl) (pe_callD g__law_pool (hr.mono (by decide)) rfl (pa_cons (pv 0) (pa_cons pe_int (pa_cons (pe_cmpR op_eq (pe_op op_mod (pv 1) pe_int) pe_int (nomark _)) pa_nil)))))
    (pss_cons (ps_set (i := 3) sc_law.nd rfl (.inl rfl) (pe_callB (call_min2 rfl) rfl T.min PyProof.Rows.boot_min (pa_cons pe_int (pa_cons (pe_callB (lenK K rfl) rfl T.len PySem.boot_len (pa_cons (pv 2) pa_nil)) pa_nil))))
    (pss_cons (ps_set (i := 4) sc_law.nd rfl (.inl rfl) (pe_slice (slK K rfl) (pv 2) po_none (po_some (pe_op op_add pe_int (pe_op op_mod (pe_op op_fdiv (pv 1) pe_int) (pv 3))))))
    (pss_cons (ps_set (i := 5) sc_law.nd rfl (.inl rfl) (pe_op op_mod (pe_op op_fdiv (pv 1) pe_int) (pe_callB (lenK K rfl) rfl T.len PySem.boot_len (pa_cons (pv 2) pa_nil))))
    (pss_cons (ps_set (i := 6) sc_law.nd rfl (.inl rfl) (pe_slice (slK K rfl) (pe_op op_cat (pv 2) (pv 2)) (po_some (pv 5)) (po_some (pe_op op_add (pe_op op_add (pv 5) pe_int) (pe_op op_mod (pe_op op_fdiv (pv 1) pe_int) (pv 3))))))
    (pss_cons (ps_set (i := 7) sc_law.nd rfl (.inl rfl) (pe_callD g__law_picture (hr.mono (by decide)) rfl (pa_cons (pv 0) (pa_cons pe_int (pa_cons (pe_callB (lenK K rfl) rfl T.len PySem.boot_len (pa_cons (pv 6) pa_nil)) pa_nil)))))
    (pss_cons (ps_set (i := 8) sc_law.nd rfl (.inl rfl) (pe_makX g_Palette (hr.mono (by decide)) passF rfl (pa_cons (pe_callTy (listK K rfl) rfl T.list PyProof.Rows.boot_list (pa_cons (pv 4) pa_nil)) pa_nil)))
    (pss_cons (ps_for PassesOwn.never rfl (pi_range1 rfl T.range (pa_cons pe_int pa_nil)) (pg_name (i := 9) sc_law.nd rfl (.inl rfl)) (pss_one (ps_if (pt_not (pt_val (pe_callD g__law_pour_good (hr.mono (by decide)) rfl (pa_cons (pv 8) (pa_cons (pv 4) (pa_cons (pv 6) (pa_cons (pv 7) pa_nil))))))) (pss_one (ps_ret pe_bl)) pss_nil)))
    (@r9)))))))))), ?_⟩
  refine ⟨_, rfl, a, ns, 0, rfl, hS, by decide, fun n H1 hn s1 => ?_⟩
  refine ⟨_, rfl, _, rfl, _, _, rfl, rfl, (by show (0 : Int) < 2; decide), rfl, a, ns, 60, _, rfl, s1.seq hS, by decide, fun pl ds H2 s2 hpl cp d1 d2 nd => ?_⟩
  have s02 := s1.trans s2
  have lp : (ds.map fun c => V.ref c.1).length = ds.length := List.length_map _
  have em : (if ((((ds.map fun c => V.ref c.1).length : Nat) : Int)) < 16 then ((((ds.map fun c => V.ref c.1).length : Nat) : Int)) else 16) = ((min 16 ds.length : Nat) : Int) := by rw [lp]; split <;> omega
  obtain ⟨m1, em1, l1a, l1b⟩ : ∃ m1 : Nat, (1 : Int) + (n : Int) / 2 % ((min 16 ds.length : Nat) : Int) = (m1 : Int) ∧ 1 ≤ m1 ∧ m1 ≤ min 16 ds.length := by
   refine ⟨1 + n / 2 % min 16 ds.length, by push_cast; rfl, by omega, ?_⟩
   have := Nat.mod_lt (n / 2) (show 0 < min 16 ds.length by omega)
   omega
  obtain ⟨fi, ef, lf⟩ : ∃ fi : Nat, (n : Int) / 32 % (((ds.map fun c => V.ref c.1).length : Nat) : Int) = (fi : Int) ∧ fi < ds.length := by
   rw [lp]
   exact ⟨n / 32 % ds.length, by push_cast; rfl, Nat.mod_lt _ (by omega)⟩
  obtain ⟨m2, em2, l2a, l2b⟩ : ∃ m2 : Nat, (1 : Int) + (n : Int) / 1024 % ((min 16 ds.length : Nat) : Int) = (m2 : Int) ∧ 1 ≤ m2 ∧ m2 ≤ min 16 ds.length := by
   refine ⟨1 + n / 1024 % min 16 ds.length, by push_cast; rfl, by omega, ?_⟩
   have := Nat.mod_lt (n / 1024) (show 0 < min 16 ds.length by omega)
   omega
  refine ⟨_, rfl, pl, _, rfl, .inl (SqL.of cp.1), _, _, rfl, ?_⟩
  show gName 3 (.int (if ((((ds.map fun c => V.ref c.1).length : Nat) : Int)) < 16 then ((((ds.map fun c => V.ref c.1).length : Nat) : Int)) else 16)) _ _ _
  rw [em]
  refine ⟨_, rfl, _, rfl, _, _, rfl, rfl, ⟨by decide, by decide⟩, _, rfl, _, _, rfl, rfl, (by show (0 : Int) < ((min 16 ds.length : Nat) : Int); omega), _, _, rfl, rfl, (m1 : Int), ?_, pl, _, rfl, SqL.of cp.1, fun o ho => ?_⟩
  ·show V.int (1 + (n : Int) / 2 % ((min 16 ds.length : Nat) : Int)) = _
   rw [em1]
  rw [cut_hi, ← List.map_take]
  have y1 := same_new (o := HO.lst ((ds.take m1).map fun c => V.ref c.1)) ho
  have eo : upd H2 o (.lst ((ds.take m1).map fun c => V.ref c.1)) o = some (.lst ((ds.take m1).map fun c => V.ref c.1)) := upd_same
  have fo : H o = none := s02.free ho
  have npo : pl ≠ o := ne_of_none cp.1 ho
  show gName 4 _ _ _ _
  generalize upd H2 o (.lst ((ds.take m1).map fun c => V.ref c.1)) = H3 at y1 eo ⊢
  have cp := cp.mono y1
  have s03 := s02.trans y1
  refine ⟨_, rfl, _, _, rfl, rfl, ⟨by decide, by decide⟩, _, rfl, pl, _, rfl, .inl (SqL.of cp.1), _, _, rfl, rfl, (by show (0 : Int) < (((ds.map fun c => V.ref c.1).length : Nat) : Int); rw [lp]; omega), ?_⟩
  show gName 5 (.int ((n : Int) / 32 % (((ds.map fun c => V.ref c.1).length : Nat) : Int))) _ _ _
  rw [ef]
  refine ⟨_, rfl, _, rfl, pl, pl, _, _, rfl, rfl, cp.1, cp.1, Nat.le_trans (by rw [lp]; omega : _ ≤ 5000) (by decide), fun dbl hdbl => ?_⟩
  have y2 := same_new (o := HO.lst ((ds.map fun c => V.ref c.1) ++ (ds.map fun c => V.ref c.1))) hdbl
  have ed : upd H3 dbl (.lst ((ds.map fun c => V.ref c.1) ++ (ds.map fun c => V.ref c.1))) dbl = some (.lst ((ds ++ ds).map fun c => V.ref c.1)) := by rw [upd_same, List.map_append]
  generalize upd H3 dbl (.lst ((ds.map fun c => V.ref c.1) ++ (ds.map fun c => V.ref c.1))) = H4 at y2 ed ⊢
  refine ⟨_, rfl, (fi : Int), rfl, _, rfl, _, _, rfl, rfl, _, rfl, _, _, rfl, rfl, ⟨by decide, by decide⟩, _, rfl, _, _, rfl, rfl, (by show (0 : Int) < ((min 16 ds.length : Nat) : Int); omega), _, _, rfl, rfl, ((fi + m2 : Nat) : Int), ?_, dbl, _, rfl, SqL.of ed, fun t ht => ?_⟩
  ·show V.int ((fi : Int) + 1 + (n : Int) / 1024 % ((min 16 ds.length : Nat) : Int)) = _
   rw [Int.add_assoc, em2]; rfl
  rw [cut_mid, ← List.map_drop, ← List.map_take]
  have y3 := same_new (o := HO.lst ((((ds ++ ds).drop fi).take m2).map fun c => V.ref c.1)) ht
  have et : upd H4 t (.lst ((((ds ++ ds).drop fi).take m2).map fun c => V.ref c.1)) t = some (.lst ((((ds ++ ds).drop fi).take m2).map fun c => V.ref c.1)) := upd_same
  have ft : H4 t = none := ht
  show gName 6 _ _ _ _
  generalize upd H4 t (.lst ((((ds ++ ds).drop fi).take m2).map fun c => V.ref c.1)) = H5 at y3 et ⊢
  have nto : t ≠ o := (ne_of_none (y2 _ _ eo) ft).symm
  have y25 := y2.trans y3
  have cp5 := cp.mono y25
  have ct : ColsV H5 t (((ds ++ ds).drop fi).take m2) := ⟨et, fun c hc => by
   have := List.mem_of_mem_drop (List.mem_of_mem_take hc)
   exact cp5.2 c (by rcases List.mem_append.mp this with h | h <;> exact h)⟩
  have co : ColsV H5 o (ds.take m1) := ⟨y25 _ _ eo, fun c hc => cp5.2 c (List.mem_of_mem_take hc)⟩
  have t1 : (ds.take m1).length = m1 := by rw [List.length_take]; omega
  have t2 : (((ds ++ ds).drop fi).take m2).length = m2 := by rw [List.length_take, List.length_drop, List.length_append]; omega
  have n1 : ((ds.take m1).map kc).Nodup := by rw [List.map_take]; exact nd.sublist (List.take_sublist _ _)
  have n2 : ((((ds ++ ds).drop fi).take m2).map kc).Nodup := window_nd nd (by omega) (by omega)
  have s05 := s03.trans y25
  generalize ds.take m1 = u1 at co t1 n1
  generalize ((ds ++ ds).drop fi).take m2 = u2 at ct t2 n2
  clear et ed eo y1 y2 y3 y25 ht cp5
  refine ⟨_, rfl, _, rfl, t, _, rfl, .inl (SqL.of ct.1), a, ns, 2, u2.length, ?_, s05.seq hS, by decide, by omega, by omega, fun A ps rows wd H6 s6 fA fps pic gd lt => ?_⟩
  ·show [V.ref a, V.int 2, V.int ((u2.map fun c => V.ref c.1).length : Nat)] = _
   rw [List.length_map]; rfl
  have nop : o ∉ A :: ps := fun z => by
   rcases List.mem_cons.mp z with z | z
   ·rw [← z, co.1] at fA; cases fA
   ·have := fps o z; rw [co.1] at this; cases this
  have co := co.mono s6
  have ct := ct.mono s6
  have s06 := s05.trans s6
  refine ⟨_, rfl, o, _, rfl, .inl (SqL.of co.1), fun ho2 hho2 => ?_⟩
  have y4 := same_new (o := HO.lst (u1.map fun c => V.ref c.1)) hho2
  have ch : ColsV (upd H6 ho2 (.lst (u1.map fun c => V.ref c.1))) ho2 u1 := ⟨upd_same, fun c hc => (co.2 c hc).mono y4⟩
  generalize upd H6 ho2 (.lst (u1.map fun c => V.ref c.1)) = H7 at y4 ch ⊢
  intro p dx np ndx ne
  have x1 : Same H7 (upd (upd H7 dx (.own p)) p (.ins cL dx [])) := fun b q e => by rw [upd_ne (ne_of_none e np), upd_ne (ne_of_none e ndx)]; exact e
  refine ⟨p, dx, _, rfl, upd_same, (ch.mono x1).tm (by omega), fun a' d' ea cv' _ _ _ l H8 hl kp pq => ⟨rfl, ?_⟩, fun ng => (ng ⟨ho2, u1, rfl, ch.mono x1, by omega, by omega, n1⟩).elim⟩
  cases ea
  cases (ch.mono x1).inj cv'
  have s78 : Same H7 H8 := fun b q e => kp b q (x1 b q e) (ne_of_none e np)
  have fl7 : H7 l = none := x1.free hl
  have fl6 : H6 l = none := y4.free fl7
  have s68 := y4.trans s78
  have s08 := s06.trans s68
  have fl : H l = none := s06.free fl6
  have nol : o ≠ l := ne_of_none co.1 fl6
  have ntl : t ≠ l := ne_of_none ct.1 fl6
  have nlp : l ∉ A :: ps := not_pic pic fl6
  have co := co.mono s68
  have ct := ct.mono s68
  have pic := pic.mono s68
  clear kp cv' ch x1 np ndx ne hl fl7 fl6 y4 s78 hho2 s6 fA fps
  have nX : ∀ x ∈ [o, l], x ∉ A :: ps := fun x hx => by
   simp only [List.mem_cons, List.not_mem_nil, or_false] at hx
   rcases hx with rfl | rfl
   ·exact nop
   ·exact nlp
  refine ⟨2, rfl, by decide, by decide, ?_⟩
  refine for_range (lo := 0) (n := 2) (fun i σ H9 => Fr [o, l] H8 H9 ∧ (∃ c, PalV cL H9 p l c ∧ ColsV H9 o c ∧ 1 ≤ c.length ∧ c.length ≤ 16 ∧ (c.map kc).Nodup) ∧ ∃ v9 : Option V, σ = [some (.ref a), some (.int (n : Int)), some (.ref pl), some (.int ((min 16 ds.length : Nat) : Int)), some (.ref o), some (.int (fi : Int)), some (.ref t), some (.ref A), some (.ref p), v9, none, none, none, none, none, none]) ⟨fun b ob hb _ => hb, ⟨u1, pq, co, by omega, by omega, n1⟩, none, rfl⟩ ?_ ?_
  ·rintro i σ H9 hi ⟨fr, ⟨c, pp, po, c1, c16, cn⟩, v9, rfl⟩
   have ls : Lsts H8 [o, l] := fun x hx => by
    simp only [List.mem_cons, List.not_mem_nil, or_false] at hx
    rcases hx with rfl | rfl
    ·exact ⟨_, co.1⟩
    ·exact ⟨_, pq.2.1⟩
   have ct9 := fr.cols ls ct (by simp only [List.mem_cons, List.not_mem_nil, or_false]; rintro (h | h); exact nto h; exact ntl h)
   refine ⟨_, rfl, _, rfl, _, rfl, _, rfl, p, o, t, A, l, c, u2, ps, rows, wd, rfl, pp, po, nol, ct9, nto, ntl, c1, c16, cn, by omega, by omega, n2, fr.pic pic nX, gd, lt, fun c' H10 fr' pp' po' d1 d2 d3 => ⟨_, rfl, ?_⟩⟩
   exact ⟨fr.trans fr', ⟨c', pp', po', d1, d2, d3⟩, _, rfl⟩
  ·rintro σ H9 ⟨fr, _, v9, rfl⟩
   have s09 : Same H H9 := fun b ob hb => fr b ob (s08 b ob hb) (by simp only [List.mem_cons, List.not_mem_nil, or_false]; rintro (h | h); exact ne_of_none hb fo h; exact ne_of_none hb fl h)
   exact k9 _ _ _ _ _ _ _ A ps rows wd n H9 (s09.seq hS) (fr.pic pic nX) gd
end
end K18
namespace L2
open PySem PySem.Spec PyProof.Rows
section
variable {P : Program} {w : World} {K : W.Frag} {mg : Str → Option Value} {base : Heap} {C : Addr}
theorem FunD.metD {x qual : Str} {st : Stmt} {f : Addr} {fd : FuncData} {ps : List Str} {k : Nat} {sp : Sp} (F : FunD K x qual st .none f fd) (G : FnOk P w K mg base CX0 k f fd ps sp) (hm : Meth K C x f)
  (h : ∀ (kV doc pm : Value) (an : Option Addr) (cdv ct : Value) (us : List Value), us.length = ps.length → bindArgs (W.fnOf x qual (defArgs st) (defBody st) (defScope st) .none kV doc pm an cdv ct) ⟨us, []⟩ = pure (ps.zip us)) : MetD P w K mg base C k x ps sp := by
 obtain ⟨oc, od, kV, doc, pm, an, cdv, ct, osl, rfl, lk, hcd⟩ := F.ex
 exact ⟨f, _, G, hm, .all (h kV doc pm an cdv ct)⟩
theorem FunD.metX {x qual : Str} {st : Stmt} {f : Addr} {fd : FuncData} {ps : List Str} {k : Nat} {sp : Sp} (F : FunD K x qual st .none f fd) (G : FnOk P w K mg base (CX1 P w) k f fd ps sp) (hm : Meth K C x f)
  (h : ∀ (kV doc pm : Value) (an : Option Addr) (cdv ct : Value) (us : List Value), us.length = ps.length → bindArgs (W.fnOf x qual (defArgs st) (defBody st) (defScope st) .none kV doc pm an cdv ct) ⟨us, []⟩ = pure (ps.zip us)) : MetX P w K mg base C k x ps sp := by
 obtain ⟨oc, od, kV, doc, pm, an, cdv, ct, osl, rfl, lk, hcd⟩ := F.ex
 exact ⟨f, _, G, hm, .all (h kV doc pm an cdv ct)⟩
theorem FunD.makX {x y qual : Str} {st : Stmt} {f : Addr} {fd : FuncData} {ps : List Str} {k : Nat} {sp : Sp} (F : FunD K x qual st .none f fd) (G : FnOk P w K mg base (CX1 P w) k f fd ps sp) (M : Mk K C f) (hm : mg y = some (.ref C))
  (h : ∀ (kV doc pm : Value) (an : Option Addr) (cdv ct : Value) (us : List Value), us.length = ps.length → bindArgs (W.fnOf x qual (defArgs st) (defBody st) (defScope st) .none kV doc pm an cdv ct) ⟨us, []⟩ = pure (ps.zip us)) : MakX P w K mg base C k y ps sp := by
 obtain ⟨oc, od, kV, doc, pm, an, cdv, ct, osl, rfl, lk, hcd⟩ := F.ex
 exact ⟨f, _, G, M, hm, .all (h kV doc pm an cdv ct)⟩
end
end L2
set_option maxHeartbeats 8000000
namespace K18
open PySem L2
theorem all_mk {l : W.OpenLaw} {w : World} {K : W.Frag} {h : Heap} {mg : Str → Option Value} {fa : Addr} (X : K.In h) (G : h.Ns mainGlobals mg) (hfa : mg "law" = some (.ref fa))
  {f1 f2 f3 f4 f5 f6 f7 f8 f9 f10 f11 f12 f13 f14 f15 f16 f17 f18 f19 f20 f21 f22 f23 f24 f25 f26 f27 f28 f29 f30 f31 f32 f33 f34 f35 f36 f37 f38 f39 f40 f41 f42 f43 f44 cFE cL cD cC d2 cP cB cZ cN cM d8 d9 d10 d11 d12 d13 d14 d15 d16 d17 d18 d19 d20 d21 d22 : Addr} {tP tS tC tI : Tok} {od1 an1 od2 an2 od3 an3 od4 an4 od5 an5 od6 an6 od7 an7 od8 an8 od9 an9 od10 an10 od11 an11 od12 an12 od13 an13 od14 an14 od15 an15 od16 an16 od17 an17 od18 an18 od19 an19 od20 an20 od21 an21 od22 an22 od23 an23 od24 an24 od25 an25 od26 an26 od27 an27 od28 an28 od29 an29 od30 an30 od31 an31 od32 an32 od33 an33 od34 an34 od35 an35 od36 an36 od37 an37 od38 an38 od39 an39 od40 an40 od41 an41 od42 an42 od43 an43 od44 an44 : Option Addr} {sl1 sl2 sl3 sl4 sl5 sl6 sl7 sl8 sl9 sl10 sl11 sl12 sl13 sl14 sl15 sl16 sl17 sl18 sl19 sl20 sl21 sl22 sl23 sl24 sl25 sl26 sl27 sl28 sl29 sl30 sl31 sl32 sl33 sl34 sl35 sl36 sl37 sl38 sl39 sl40 sl41 sl42 sl43 sl44 : Array (Option Value)} {oc1 kV1 dc1 pm1 cd1 ct1 oc2 kV2 dc2 pm2 cd2 ct2 oc3 kV3 dc3 pm3 cd3 ct3 oc4 kV4 dc4 pm4 cd4 ct4 oc5 kV5 dc5 pm5 cd5 ct5 oc6 kV6 dc6 pm6 cd6 ct6 oc7 kV7 dc7 pm7 cd7 ct7 oc8 kV8 dc8 pm8 cd8 ct8 oc9 kV9 dc9 pm9 cd9 ct9 oc10 kV10 dc10 pm10 cd10 ct10 oc11 kV11 dc11 pm11 cd11 ct11 oc12 kV12 dc12 pm12 cd12 ct12 oc13 kV13 dc13 pm13 cd13 ct13 oc14 kV14 dc14 pm14 cd14 ct14 oc15 kV15 dc15 pm15 cd15 ct15 oc16 kV16 dc16 pm16 cd16 ct16 oc17 kV17 dc17 pm17 cd17 ct17 oc18 kV18 dc18 pm18 cd18 ct18 oc19 kV19 dc19 pm19 cd19 ct19 oc20 kV20 dc20 pm20 cd20 ct20 oc21 kV21 dc21 pm21 cd21 ct21 oc22 kV22 dc22 pm22 cd22 ct22 oc23 kV23 dc23 pm23 cd23 ct23 oc24 kV24 dc24 pm24 cd24 ct24 oc25 kV25 dc25 pm25 cd25 ct25 oc26 kV26 dc26 pm26 cd26 ct26 oc27 kV27 dc27 pm27 cd27 ct27 oc28 kV28 dc28 pm28 cd28 ct28 oc29 kV29 dc29 pm29 cd29 ct29 oc30 kV30 dc30 pm30 cd30 ct30 oc31 kV31 dc31 pm31 cd31 ct31 oc32 kV32 dc32 pm32 cd32 ct32 oc33 kV33 dc33 pm33 cd33 ct33 oc34 kV34 dc34 pm34 cd34 ct34 oc35 kV35 dc35 pm35 cd35 ct35 oc36 kV36 dc36 pm36 cd36 ct36 oc37 kV37 dc37 pm37 cd37 ct37 oc38 kV38 dc38 pm38 cd38 ct38 oc39 kV39 dc39 pm39 cd39 ct39 oc40 kV40 dc40 pm40 cd40 ct40 oc41 kV41 dc41 pm41 cd41 ct41 oc42 kV42 dc42 pm42 cd42 ct42 oc43 kV43 dc43 pm43 cd43 ct43 oc44 kV44 dc44 pm44 cd44 ct44 : Value}
  (a1 : W.nsIn K mainGlobals "is_whole_from" = some (some (.ref f1))) (l1 : K.lookup f1 = some ⟨oc1, od1, .func (W.fnOf "is_whole_from" "is_whole_from" (defArgs s_is_whole_from) (defBody s_is_whole_from) (defScope s_is_whole_from) .none kV1 dc1 pm1 an1 cd1 ct1), sl1⟩) (c1 : W.codeIn K cd1 "is_whole_from" = true) (k1 : W.keepIn K (.ref f1) = true)
  (a2 : W.nsIn K mainGlobals "is_whole_within" = some (some (.ref f2))) (l2 : K.lookup f2 = some ⟨oc2, od2, .func (W.fnOf "is_whole_within" "is_whole_within" (defArgs s_is_whole_within) (defBody s_is_whole_within) (defScope s_is_whole_within) .none kV2 dc2 pm2 an2 cd2 ct2), sl2⟩) (c2 : W.codeIn K cd2 "is_whole_within" = true) (k2 : W.keepIn K (.ref f2) = true)
  (a3 : W.nsIn K mainGlobals "is_cell" = some (some (.ref f3))) (l3 : K.lookup f3 = some ⟨oc3, od3, .func (W.fnOf "is_cell" "is_cell" (defArgs s_is_cell) (defBody s_is_cell) (defScope s_is_cell) .none kV3 dc3 pm3 an3 cd3 ct3), sl3⟩) (c3 : W.codeIn K cd3 "is_cell" = true) (k3 : W.keepIn K (.ref f3) = true)
  (a4 : W.nsIn K mainGlobals "is_side" = some (some (.ref f4))) (l4 : K.lookup f4 = some ⟨oc4, od4, .func (W.fnOf "is_side" "is_side" (defArgs s_is_side) (defBody s_is_side) (defScope s_is_side) .none kV4 dc4 pm4 an4 cd4 ct4), sl4⟩) (c4 : W.codeIn K cd4 "is_side" = true) (k4 : W.keepIn K (.ref f4) = true)
  (a5 : W.nsIn K mainGlobals "is_list_of" = some (some (.ref f5))) (l5 : K.lookup f5 = some ⟨oc5, od5, .func (W.fnOf "is_list_of" "is_list_of" (defArgs s_is_list_of) (defBody s_is_list_of) (defScope s_is_list_of) .none kV5 dc5 pm5 an5 cd5 ct5), sl5⟩) (c5 : W.codeIn K cd5 "is_list_of" = true) (k5 : W.keepIn K (.ref f5) = true)
  (a6 : W.nsIn K mainGlobals "is_list_of_cells" = some (some (.ref f6))) (l6 : K.lookup f6 = some ⟨oc6, od6, .func (W.fnOf "is_list_of_cells" "is_list_of_cells" (defArgs s_is_list_of_cells) (defBody s_is_list_of_cells) (defScope s_is_list_of_cells) .none kV6 dc6 pm6 an6 cd6 ct6), sl6⟩) (c6 : W.codeIn K cd6 "is_list_of_cells" = true) (k6 : W.keepIn K (.ref f6) = true)
  (a7 : W.nsIn K mainGlobals "are_rows_of" = some (some (.ref f7))) (l7 : K.lookup f7 = some ⟨oc7, od7, .func (W.fnOf "are_rows_of" "are_rows_of" (defArgs s_are_rows_of) (defBody s_are_rows_of) (defScope s_are_rows_of) .none kV7 dc7 pm7 an7 cd7 ct7), sl7⟩) (c7 : W.codeIn K cd7 "are_rows_of" = true) (k7 : W.keepIn K (.ref f7) = true)
  (a8 : W.nsIn K mainGlobals "is_picture" = some (some (.ref f8))) (l8 : K.lookup f8 = some ⟨oc8, od8, .func (W.fnOf "is_picture" "is_picture" (defArgs s_is_picture) (defBody s_is_picture) (defScope s_is_picture) .none kV8 dc8 pm8 an8 cd8 ct8), sl8⟩) (c8 : W.codeIn K cd8 "is_picture" = true) (k8 : W.keepIn K (.ref f8) = true)
  (a9 : W.nsIn K mainGlobals "need_picture" = some (some (.ref f9))) (l9 : K.lookup f9 = some ⟨oc9, od9, .func (W.fnOf "need_picture" "need_picture" (defArgs s_need_picture) (defBody s_need_picture) (defScope s_need_picture) .none kV9 dc9 pm9 an9 cd9 ct9), sl9⟩) (c9 : W.codeIn K cd9 "need_picture" = true) (k9 : W.keepIn K (.ref f9) = true)
  (a10 : W.nsIn K mainGlobals "need_cells" = some (some (.ref f10))) (l10 : K.lookup f10 = some ⟨oc10, od10, .func (W.fnOf "need_cells" "need_cells" (defArgs s_need_cells) (defBody s_need_cells) (defScope s_need_cells) .none kV10 dc10 pm10 an10 cd10 ct10), sl10⟩) (c10 : W.codeIn K cd10 "need_cells" = true) (k10 : W.keepIn K (.ref f10) = true)
  (a11 : W.nsIn K mainGlobals "all_cells" = some (some (.ref f11))) (l11 : K.lookup f11 = some ⟨oc11, od11, .func (W.fnOf "all_cells" "all_cells" (defArgs s_all_cells) (defBody s_all_cells) (defScope s_all_cells) .none kV11 dc11 pm11 an11 cd11 ct11), sl11⟩) (c11 : W.codeIn K cd11 "all_cells" = true) (k11 : W.keepIn K (.ref f11) = true)
  (a12 : W.nsIn K mainGlobals "is_colour" = some (some (.ref f12))) (l12 : K.lookup f12 = some ⟨oc12, od12, .func (W.fnOf "is_colour" "is_colour" (defArgs s_is_colour) (defBody s_is_colour) (defScope s_is_colour) .none kV12 dc12 pm12 an12 cd12 ct12), sl12⟩) (c12 : W.codeIn K cd12 "is_colour" = true) (k12 : W.keepIn K (.ref f12) = true)
  (a13 : W.nsIn K mainGlobals "need_colour" = some (some (.ref f13))) (l13 : K.lookup f13 = some ⟨oc13, od13, .func (W.fnOf "need_colour" "need_colour" (defArgs s_need_colour) (defBody s_need_colour) (defScope s_need_colour) .none kV13 dc13 pm13 an13 cd13 ct13), sl13⟩) (c13 : W.codeIn K cd13 "need_colour" = true) (k13 : W.keepIn K (.ref f13) = true)
  (a14 : W.nsIn K mainGlobals "is_list_of" = some (some (.ref f14))) (l14 : K.lookup f14 = some ⟨oc14, od14, .func (W.fnOf "is_list_of" "is_list_of" (defArgs s_is_list_of) (defBody s_is_list_of) (defScope s_is_list_of) .none kV14 dc14 pm14 an14 cd14 ct14), sl14⟩) (c14 : W.codeIn K cd14 "is_list_of" = true) (k14 : W.keepIn K (.ref f14) = true)
  (a15 : W.findIn K (.ref cL) "__init__" = some (some (.ref f15))) (i15 : W.isFn K (.ref f15) = true) (l15 : K.lookup f15 = some ⟨oc15, od15, .func (W.fnOf "__init__" "Palette.__init__" (defArgs s_Palette.__init__) (defBody s_Palette.__init__) (defScope s_Palette.__init__) .none kV15 dc15 pm15 an15 cd15 ct15), sl15⟩) (c15 : W.codeIn K cd15 "Palette.__init__" = true) (k15 : W.keepIn K (.ref f15) = true)
  (a16 : W.findIn K (.ref cL) "colours" = some (some (.ref f16))) (i16 : W.isFn K (.ref f16) = true) (l16 : K.lookup f16 = some ⟨oc16, od16, .func (W.fnOf "colours" "Palette.colours" (defArgs s_Palette.colours) (defBody s_Palette.colours) (defScope s_Palette.colours) .none kV16 dc16 pm16 an16 cd16 ct16), sl16⟩) (c16 : W.codeIn K cd16 "Palette.colours" = true) (k16 : W.keepIn K (.ref f16) = true)
  (a17 : W.findIn K (.ref cL) "many" = some (some (.ref f17))) (i17 : W.isFn K (.ref f17) = true) (l17 : K.lookup f17 = some ⟨oc17, od17, .func (W.fnOf "many" "Palette.many" (defArgs s_Palette.many) (defBody s_Palette.many) (defScope s_Palette.many) .none kV17 dc17 pm17 an17 cd17 ct17), sl17⟩) (c17 : W.codeIn K cd17 "Palette.many" = true) (k17 : W.keepIn K (.ref f17) = true)
  (a18 : W.findIn K (.ref cL) "colour_of" = some (some (.ref f18))) (i18 : W.isFn K (.ref f18) = true) (l18 : K.lookup f18 = some ⟨oc18, od18, .func (W.fnOf "colour_of" "Palette.colour_of" (defArgs s_Palette.colour_of) (defBody s_Palette.colour_of) (defScope s_Palette.colour_of) .none kV18 dc18 pm18 an18 cd18 ct18), sl18⟩) (c18 : W.codeIn K cd18 "Palette.colour_of" = true) (k18 : W.keepIn K (.ref f18) = true)
  (a19 : W.findIn K (.ref cL) "cell_of" = some (some (.ref f19))) (i19 : W.isFn K (.ref f19) = true) (l19 : K.lookup f19 = some ⟨oc19, od19, .func (W.fnOf "cell_of" "Palette.cell_of" (defArgs s_Palette.cell_of) (defBody s_Palette.cell_of) (defScope s_Palette.cell_of) .none kV19 dc19 pm19 an19 cd19 ct19), sl19⟩) (c19 : W.codeIn K cd19 "Palette.cell_of" = true) (k19 : W.keepIn K (.ref f19) = true)
  (a20 : W.findIn K (.ref cL) "add_colour" = some (some (.ref f20))) (i20 : W.isFn K (.ref f20) = true) (l20 : K.lookup f20 = some ⟨oc20, od20, .func (W.fnOf "add_colour" "Palette.add_colour" (defArgs s_Palette.add_colour) (defBody s_Palette.add_colour) (defScope s_Palette.add_colour) .none kV20 dc20 pm20 an20 cd20 ct20), sl20⟩) (c20 : W.codeIn K cd20 "Palette.add_colour" = true) (k20 : W.keepIn K (.ref f20) = true)
  (a21 : W.nsIn K mainGlobals "need_cells_below" = some (some (.ref f21))) (l21 : K.lookup f21 = some ⟨oc21, od21, .func (W.fnOf "need_cells_below" "need_cells_below" (defArgs s_need_cells_below) (defBody s_need_cells_below) (defScope s_need_cells_below) .none kV21 dc21 pm21 an21 cd21 ct21), sl21⟩) (c21 : W.codeIn K cd21 "need_cells_below" = true) (k21 : W.keepIn K (.ref f21) = true)
  (a22 : W.nsIn K mainGlobals "need_shown" = some (some (.ref f22))) (l22 : K.lookup f22 = some ⟨oc22, od22, .func (W.fnOf "need_shown" "need_shown" (defArgs s_need_shown) (defBody s_need_shown) (defScope s_need_shown) .none kV22 dc22 pm22 an22 cd22 ct22), sl22⟩) (c22 : W.codeIn K cd22 "need_shown" = true) (k22 : W.keepIn K (.ref f22) = true)
  (a23 : W.nsIn K mainGlobals "shown_picture" = some (some (.ref f23))) (l23 : K.lookup f23 = some ⟨oc23, od23, .func (W.fnOf "shown_picture" "shown_picture" (defArgs s_shown_picture) (defBody s_shown_picture) (defScope s_shown_picture) .none kV23 dc23 pm23 an23 cd23 ct23), sl23⟩) (c23 : W.codeIn K cd23 "shown_picture" = true) (k23 : W.keepIn K (.ref f23) = true)
  (a24 : W.nsIn K mainGlobals "poured_palettes" = some (some (.ref f24))) (l24 : K.lookup f24 = some ⟨oc24, od24, .func (W.fnOf "poured_palettes" "poured_palettes" (defArgs s_poured_palettes) (defBody s_poured_palettes) (defScope s_poured_palettes) .none kV24 dc24 pm24 an24 cd24 ct24), sl24⟩) (c24 : W.codeIn K cd24 "poured_palettes" = true) (k24 : W.keepIn K (.ref f24) = true)
  (a25 : W.nsIn K mainGlobals "recoloured" = some (some (.ref f25))) (l25 : K.lookup f25 = some ⟨oc25, od25, .func (W.fnOf "recoloured" "recoloured" (defArgs s_recoloured) (defBody s_recoloured) (defScope s_recoloured) .none kV25 dc25 pm25 an25 cd25 ct25), sl25⟩) (c25 : W.codeIn K cd25 "recoloured" = true) (k25 : W.keepIn K (.ref f25) = true)
  (a26 : W.nsIn K mainGlobals "_law_draw" = some (some (.ref f26))) (l26 : K.lookup f26 = some ⟨oc26, od26, .func (W.fnOf "_law_draw" "_law_draw" (defArgs s_law_draw) (defBody s_law_draw) (defScope s_law_draw) .none kV26 dc26 pm26 an26 cd26 ct26), sl26⟩) (c26 : W.codeIn K cd26 "_law_draw" = true) (k26 : W.keepIn K (.ref f26) = true)
  (a27 : W.nsIn K mainGlobals "_law_whole" = some (some (.ref f27))) (l27 : K.lookup f27 = some ⟨oc27, od27, .func (W.fnOf "_law_whole" "_law_whole" (defArgs s_law_whole) (defBody s_law_whole) (defScope s_law_whole) .none kV27 dc27 pm27 an27 cd27 ct27), sl27⟩) (c27 : W.codeIn K cd27 "_law_whole" = true) (k27 : W.keepIn K (.ref f27) = true)
  (a28 : W.nsIn K mainGlobals "_law_word" = some (some (.ref f28))) (l28 : K.lookup f28 = some ⟨oc28, od28, .func (W.fnOf "_law_word" "_law_word" (defArgs s_law_word) (defBody s_law_word) (defScope s_law_word) .none kV28 dc28 pm28 an28 cd28 ct28), sl28⟩) (c28 : W.codeIn K cd28 "_law_word" = true) (k28 : W.keepIn K (.ref f28) = true)
  (a29 : W.nsIn K mainGlobals "_law_colour" = some (some (.ref f29))) (l29 : K.lookup f29 = some ⟨oc29, od29, .func (W.fnOf "_law_colour" "_law_colour" (defArgs s_law_colour) (defBody s_law_colour) (defScope s_law_colour) .none kV29 dc29 pm29 an29 cd29 ct29), sl29⟩) (c29 : W.codeIn K cd29 "_law_colour" = true) (k29 : W.keepIn K (.ref f29) = true)
  (a30 : W.nsIn K mainGlobals "_law_pool" = some (some (.ref f30))) (l30 : K.lookup f30 = some ⟨oc30, od30, .func (W.fnOf "_law_pool" "_law_pool" (defArgs s_law_pool) (defBody s_law_pool) (defScope s_law_pool) .none kV30 dc30 pm30 an30 cd30 ct30), sl30⟩) (c30 : W.codeIn K cd30 "_law_pool" = true) (k30 : W.keepIn K (.ref f30) = true)
  (a31 : W.nsIn K mainGlobals "_law_size" = some (some (.ref f31))) (l31 : K.lookup f31 = some ⟨oc31, od31, .func (W.fnOf "_law_size" "_law_size" (defArgs s_law_size) (defBody s_law_size) (defScope s_law_size) .none kV31 dc31 pm31 an31 cd31 ct31), sl31⟩) (c31 : W.codeIn K cd31 "_law_size" = true) (k31 : W.keepIn K (.ref f31) = true)
  (a32 : W.nsIn K mainGlobals "_law_picture" = some (some (.ref f32))) (l32 : K.lookup f32 = some ⟨oc32, od32, .func (W.fnOf "_law_picture" "_law_picture" (defArgs s_law_picture) (defBody s_law_picture) (defScope s_law_picture) .none kV32 dc32 pm32 an32 cd32 ct32), sl32⟩) (c32 : W.codeIn K cd32 "_law_picture" = true) (k32 : W.keepIn K (.ref f32) = true)
  (a33 : W.nsIn K mainGlobals "_law_copied" = some (some (.ref f33))) (l33 : K.lookup f33 = some ⟨oc33, od33, .func (W.fnOf "_law_copied" "_law_copied" (defArgs s_law_copied) (defBody s_law_copied) (defScope s_law_copied) .none kV33 dc33 pm33 an33 cd33 ct33), sl33⟩) (c33 : W.codeIn K cd33 "_law_copied" = true) (k33 : W.keepIn K (.ref f33) = true)
  (a34 : W.nsIn K mainGlobals "_law_rows_good" = some (some (.ref f34))) (l34 : K.lookup f34 = some ⟨oc34, od34, .func (W.fnOf "_law_rows_good" "_law_rows_good" (defArgs s_law_rows_good) (defBody s_law_rows_good) (defScope s_law_rows_good) .none kV34 dc34 pm34 an34 cd34 ct34), sl34⟩) (c34 : W.codeIn K cd34 "_law_rows_good" = true) (k34 : W.keepIn K (.ref f34) = true)
  (a35 : W.nsIn K mainGlobals "_law_own" = some (some (.ref f35))) (l35 : K.lookup f35 = some ⟨oc35, od35, .func (W.fnOf "_law_own" "_law_own" (defArgs s_law_own) (defBody s_law_own) (defScope s_law_own) .none kV35 dc35 pm35 an35 cd35 ct35), sl35⟩) (c35 : W.codeIn K cd35 "_law_own" = true) (k35 : W.keepIn K (.ref f35) = true)
  (a36 : W.nsIn K mainGlobals "_law_no_picture" = some (some (.ref f36))) (l36 : K.lookup f36 = some ⟨oc36, od36, .func (W.fnOf "_law_no_picture" "_law_no_picture" (defArgs s_law_no_picture) (defBody s_law_no_picture) (defScope s_law_no_picture) .none kV36 dc36 pm36 an36 cd36 ct36), sl36⟩) (c36 : W.codeIn K cd36 "_law_no_picture" = true) (k36 : W.keepIn K (.ref f36) = true)
  (a37 : W.nsIn K mainGlobals "_law_poured_due" = some (some (.ref f37))) (l37 : K.lookup f37 = some ⟨oc37, od37, .func (W.fnOf "_law_poured_due" "_law_poured_due" (defArgs s_law_poured_due) (defBody s_law_poured_due) (defScope s_law_poured_due) .none kV37 dc37 pm37 an37 cd37 ct37), sl37⟩) (c37 : W.codeIn K cd37 "_law_poured_due" = true) (k37 : W.keepIn K (.ref f37) = true)
  (a38 : W.nsIn K mainGlobals "_law_poured" = some (some (.ref f38))) (l38 : K.lookup f38 = some ⟨oc38, od38, .func (W.fnOf "_law_poured" "_law_poured" (defArgs s_law_poured) (defBody s_law_poured) (defScope s_law_poured) .none kV38 dc38 pm38 an38 cd38 ct38), sl38⟩) (c38 : W.codeIn K cd38 "_law_poured" = true) (k38 : W.keepIn K (.ref f38) = true)
  (a39 : W.nsIn K mainGlobals "_law_new_colour" = some (some (.ref f39))) (l39 : K.lookup f39 = some ⟨oc39, od39, .func (W.fnOf "_law_new_colour" "_law_new_colour" (defArgs s_law_new_colour) (defBody s_law_new_colour) (defScope s_law_new_colour) .none kV39 dc39 pm39 an39 cd39 ct39), sl39⟩) (c39 : W.codeIn K cd39 "_law_new_colour" = true) (k39 : W.keepIn K (.ref f39) = true)
  (a40 : W.nsIn K mainGlobals "_law_by_itself" = some (some (.ref f40))) (l40 : K.lookup f40 = some ⟨oc40, od40, .func (W.fnOf "_law_by_itself" "_law_by_itself" (defArgs s_law_by_itself) (defBody s_law_by_itself) (defScope s_law_by_itself) .none kV40 dc40 pm40 an40 cd40 ct40), sl40⟩) (c40 : W.codeIn K cd40 "_law_by_itself" = true) (k40 : W.keepIn K (.ref f40) = true)
  (a41 : W.nsIn K mainGlobals "_law_pour_good" = some (some (.ref f41))) (l41 : K.lookup f41 = some ⟨oc41, od41, .func (W.fnOf "_law_pour_good" "_law_pour_good" (defArgs s_law_pour_good) (defBody s_law_pour_good) (defScope s_law_pour_good) .none kV41 dc41 pm41 an41 cd41 ct41), sl41⟩) (c41 : W.codeIn K cd41 "_law_pour_good" = true) (k41 : W.keepIn K (.ref f41) = true)
  (a42 : W.nsIn K mainGlobals "_law_refused" = some (some (.ref f42))) (l42 : K.lookup f42 = some ⟨oc42, od42, .func (W.fnOf "_law_refused" "_law_refused" (defArgs s_law_refused) (defBody s_law_refused) (defScope s_law_refused) .none kV42 dc42 pm42 an42 cd42 ct42), sl42⟩) (c42 : W.codeIn K cd42 "_law_refused" = true) (k42 : W.keepIn K (.ref f42) = true)
  (a43 : W.nsIn K mainGlobals "_law_recoloured_good" = some (some (.ref f43))) (l43 : K.lookup f43 = some ⟨oc43, od43, .func (W.fnOf "_law_recoloured_good" "_law_recoloured_good" (defArgs s_law_recoloured_good) (defBody s_law_recoloured_good) (defScope s_law_recoloured_good) .none kV43 dc43 pm43 an43 cd43 ct43), sl43⟩) (c43 : W.codeIn K cd43 "_law_recoloured_good" = true) (k43 : W.keepIn K (.ref f43) = true)
  (a44 : W.nsIn K mainGlobals "law" = some (some (.ref f44))) (l44 : K.lookup f44 = some ⟨oc44, od44, .func (W.fnOf "law" "law" (defArgs s_law) (defBody s_law) (defScope s_law) .none kV44 dc44 pm44 an44 cd44 ct44), sl44⟩) (c44 : W.codeIn K cd44 "law" = true) (k44 : W.keepIn K (.ref f44) = true)
  (z1 : W.nsIn K mainGlobals "len" = some none)
  (z2 : W.nsIn K mainGlobals "range" = some none)
  (z3 : W.nsIn K mainGlobals "isinstance" = some none)
  (z4 : W.nsIn K mainGlobals "int" = some none)
  (z5 : W.nsIn K mainGlobals "bool" = some none)
  (z6 : W.nsIn K mainGlobals "list" = some none)
  (z7 : W.nsIn K mainGlobals "all" = some none)
  (z8 : W.nsIn K mainGlobals "enumerate" = some none)
  (z9 : W.nsIn K mainGlobals "min" = some none)
  (z10 : W.nsIn K mainGlobals "max" = some none)
  (z11 : W.nsIn K mainGlobals "sum" = some none)
  (z12 : W.nsIn K mainGlobals "tuple" = some none)
  (z13 : W.nsIn K mainGlobals "set" = some none)
  (z14 : W.nsIn K mainGlobals "sorted" = some none)
  (z15 : W.nsIn K mainGlobals "ValueError" = some none)
  (y1 : W.nsIn K mainGlobals "MOST_PART" = some (some (.int 255 tP)))
  (y2 : W.nsIn K mainGlobals "MOST_COLOURS" = some (some (.int 16 tS)))
  (y3 : W.nsIn K mainGlobals "MOST_CELL" = some (some (.int 15 tC)))
  (y4 : W.nsIn K mainGlobals "MOST_SIDE" = some (some (.int 24 tI)))
  (x1 : W.nsIn K mainGlobals "FolioError" = some (some (.ref cFE)))
  (x2 : W.nsIn K mainGlobals "Palette" = some (some (.ref cL)))
  (x3 : W.nsIn K mainGlobals "BadCell" = some (some (.ref cD)))
  (x4 : W.nsIn K mainGlobals "BadColour" = some (some (.ref cC)))
  (x5 : W.nsIn K mainGlobals "BadPack" = some (some (.ref d2)))
  (x6 : W.nsIn K mainGlobals "BadPalette" = some (some (.ref cP)))
  (x7 : W.nsIn K mainGlobals "BadPicture" = some (some (.ref cB)))
  (x8 : W.nsIn K mainGlobals "BadSize" = some (some (.ref cZ)))
  (x9 : W.nsIn K mainGlobals "NoColour" = some (some (.ref cN)))
  (x10 : W.nsIn K mainGlobals "TooMany" = some (some (.ref cM)))
  (x11 : W.nsIn K mainGlobals "BadRuns" = some (some (.ref d8)))
  (x12 : W.nsIn K mainGlobals "BadCheck" = some (some (.ref d9)))
  (x13 : W.nsIn K mainGlobals "BadDeed" = some (some (.ref d10)))
  (x14 : W.nsIn K mainGlobals "BadEdge" = some (some (.ref d11)))
  (x15 : W.nsIn K mainGlobals "BadHead" = some (some (.ref d12)))
  (x16 : W.nsIn K mainGlobals "BadMask" = some (some (.ref d13)))
  (x17 : W.nsIn K mainGlobals "BadName" = some (some (.ref d14)))
  (x18 : W.nsIn K mainGlobals "BadPart" = some (some (.ref d15)))
  (x19 : W.nsIn K mainGlobals "BadRule" = some (some (.ref d16)))
  (x20 : W.nsIn K mainGlobals "BadText" = some (some (.ref d17)))
  (x21 : W.nsIn K mainGlobals "NoPart" = some (some (.ref d18)))
  (x22 : W.nsIn K mainGlobals "NoPicture" = some (some (.ref d19)))
  (x23 : W.nsIn K mainGlobals "NothingDone" = some (some (.ref d20)))
  (x24 : W.nsIn K mainGlobals "OutOfPlace" = some (some (.ref d21)))
  (x25 : W.nsIn K mainGlobals "Twice" = some (some (.ref d22)))
  (q1 : W.plainGet K cL Str.empty = true)
  (q2 : W.hasDictIn K cL = true)
  (q3 : W.plainOver K cL = true)
  (q4 : W.findIn K (.ref cL) "__setattr__" = some (some (.builtin "object.__setattr__")))
  (q5 : W.findIn K (.ref cL) "kept" = some none)
  (q6 : W.makesIn K cL = true)
  (q7 : W.keepIn K (.ref cL) = true)
  (q8 : W.subIn K (.ref cFE) (.type "BaseException") = some true)
  (q9 : W.isClsIn K cFE = true)
  (q10 : W.typeIn K (.ref cFE) = some (.type "type"))
  (q11 : W.findIn K (.ref cL) "__class__" = some (some (.builtin "object.__class__")))
  (q12 : W.specialIn K (.builtin "object.__class__") "__get__" = some (some (.builtin "getset_descriptor.__get__")))
  (q13 : W.takesIn K (.builtin "object.__class__") = some true)
  (q14 : W.mroIn K cL (.type "object") = some true)
  (q15 : W.kitOne K (.ref cL) (.ref cL) = some true)
  (q16 : W.excIn K cC mroVE "ValueError.__new__" = true)
  (q17 : W.findIn K (.ref cC) "__getattribute__" = some (some (.builtin "BaseException.__getattribute__")))
  (q18 : W.findIn K (.ref cC) "__getattr__" = some none)
  (q19 : W.findIn K (.ref cC) "__class__" = some (some (.builtin "object.__class__")))
  (q20 : W.mroIn K cC (.type "BaseException") = some true)
  (q21 : W.mroIn K cC (.type "object") = some true)
  (q22 : W.isClsIn K cC = true)
  (q23 : W.subIn K (.ref cC) (.ref cFE) = some true)
  (q24 : W.excIn K cN mroVE "ValueError.__new__" = true)
  (q25 : W.findIn K (.ref cN) "__getattribute__" = some (some (.builtin "BaseException.__getattribute__")))
  (q26 : W.findIn K (.ref cN) "__getattr__" = some none)
  (q27 : W.findIn K (.ref cN) "__class__" = some (some (.builtin "object.__class__")))
  (q28 : W.mroIn K cN (.type "BaseException") = some true)
  (q29 : W.mroIn K cN (.type "object") = some true)
  (q30 : W.isClsIn K cN = true)
  (q31 : W.subIn K (.ref cN) (.ref cFE) = some true)
  (q32 : W.excIn K cM mroVE "ValueError.__new__" = true)
  (q33 : W.findIn K (.ref cM) "__getattribute__" = some (some (.builtin "BaseException.__getattribute__")))
  (q34 : W.findIn K (.ref cM) "__getattr__" = some none)
  (q35 : W.findIn K (.ref cM) "__class__" = some (some (.builtin "object.__class__")))
  (q36 : W.mroIn K cM (.type "BaseException") = some true)
  (q37 : W.mroIn K cM (.type "object") = some true)
  (q38 : W.isClsIn K cM = true)
  (q39 : W.subIn K (.ref cM) (.ref cFE) = some true)
  (q40 : W.excIn K cP mroVE "ValueError.__new__" = true)
  (q41 : W.findIn K (.ref cP) "__getattribute__" = some (some (.builtin "BaseException.__getattribute__")))
  (q42 : W.findIn K (.ref cP) "__getattr__" = some none)
  (q43 : W.findIn K (.ref cP) "__class__" = some (some (.builtin "object.__class__")))
  (q44 : W.mroIn K cP (.type "BaseException") = some true)
  (q45 : W.mroIn K cP (.type "object") = some true)
  (q46 : W.isClsIn K cP = true)
  (q47 : W.subIn K (.ref cP) (.ref cFE) = some true)
  (q48 : W.excIn K cB mroVE "ValueError.__new__" = true)
  (q49 : W.findIn K (.ref cB) "__getattribute__" = some (some (.builtin "BaseException.__getattribute__")))
  (q50 : W.findIn K (.ref cB) "__getattr__" = some none)
  (q51 : W.findIn K (.ref cB) "__class__" = some (some (.builtin "object.__class__")))
  (q52 : W.mroIn K cB (.type "BaseException") = some true)
  (q53 : W.mroIn K cB (.type "object") = some true)
  (q54 : W.isClsIn K cB = true)
  (q55 : W.subIn K (.ref cB) (.ref cFE) = some true)
  (q56 : W.excIn K cD mroVE "ValueError.__new__" = true)
  (q57 : W.findIn K (.ref cD) "__getattribute__" = some (some (.builtin "BaseException.__getattribute__")))
  (q58 : W.findIn K (.ref cD) "__getattr__" = some none)
  (q59 : W.findIn K (.ref cD) "__class__" = some (some (.builtin "object.__class__")))
  (q60 : W.mroIn K cD (.type "BaseException") = some true)
  (q61 : W.mroIn K cD (.type "object") = some true)
  (q62 : W.isClsIn K cD = true)
  (q63 : W.subIn K (.ref cD) (.ref cFE) = some true)
  (q64 : W.excIn K cZ mroVE "ValueError.__new__" = true)
  (q65 : W.findIn K (.ref cZ) "__getattribute__" = some (some (.builtin "BaseException.__getattribute__")))
  (q66 : W.findIn K (.ref cZ) "__getattr__" = some none)
  (q67 : W.findIn K (.ref cZ) "__class__" = some (some (.builtin "object.__class__")))
  (q68 : W.mroIn K cZ (.type "BaseException") = some true)
  (q69 : W.mroIn K cZ (.type "object") = some true)
  (q70 : W.isClsIn K cZ = true)
  (q71 : W.subIn K (.ref cZ) (.ref cFE) = some true)
  (q72 : W.kitOne K (.ref cN) (.type "ValueError") = some true)
  (q73 : W.kitOne K (.ref cN) (.ref cD) = some false)
  (q74 : W.kitOne K (.ref cN) (.ref cC) = some false)
  (q75 : W.kitOne K (.ref cN) (.ref d2) = some false)
  (q76 : W.kitOne K (.ref cN) (.ref cP) = some false)
  (q77 : W.kitOne K (.ref cN) (.ref cB) = some false)
  (q78 : W.kitOne K (.ref cN) (.ref cZ) = some false)
  (q79 : W.kitOne K (.ref cN) (.ref cN) = some true)
  (q80 : W.kitOne K (.ref cN) (.ref cM) = some false)
  (q81 : W.kitOne K (.ref cN) (.ref d8) = some false)
  (q82 : W.kitOne K (.ref cN) (.ref d9) = some false)
  (q83 : W.kitOne K (.ref cN) (.ref d10) = some false)
  (q84 : W.kitOne K (.ref cN) (.ref d11) = some false)
  (q85 : W.kitOne K (.ref cN) (.ref d12) = some false)
  (q86 : W.kitOne K (.ref cN) (.ref d13) = some false)
  (q87 : W.kitOne K (.ref cN) (.ref d14) = some false)
  (q88 : W.kitOne K (.ref cN) (.ref d15) = some false)
  (q89 : W.kitOne K (.ref cN) (.ref d16) = some false)
  (q90 : W.kitOne K (.ref cN) (.ref d17) = some false)
  (q91 : W.kitOne K (.ref cN) (.ref d18) = some false)
  (q92 : W.kitOne K (.ref cN) (.ref d19) = some false)
  (q93 : W.kitOne K (.ref cN) (.ref d20) = some false)
  (q94 : W.kitOne K (.ref cN) (.ref d21) = some false)
  (q95 : W.kitOne K (.ref cN) (.ref d22) = some false)
  (q96 : W.kitOne K (.ref cM) (.type "ValueError") = some true)
  (q97 : W.kitOne K (.ref cM) (.ref cD) = some false)
  (q98 : W.kitOne K (.ref cM) (.ref cC) = some false)
  (q99 : W.kitOne K (.ref cM) (.ref d2) = some false)
  (q100 : W.kitOne K (.ref cM) (.ref cP) = some false)
  (q101 : W.kitOne K (.ref cM) (.ref cB) = some false)
  (q102 : W.kitOne K (.ref cM) (.ref cZ) = some false)
  (q103 : W.kitOne K (.ref cM) (.ref cN) = some false)
  (q104 : W.kitOne K (.ref cM) (.ref cM) = some true)
  (q105 : W.kitOne K (.ref cM) (.ref d8) = some false)
  (q106 : W.kitOne K (.ref cM) (.ref d9) = some false)
  (q107 : W.kitOne K (.ref cM) (.ref d10) = some false)
  (q108 : W.kitOne K (.ref cM) (.ref d11) = some false)
  (q109 : W.kitOne K (.ref cM) (.ref d12) = some false)
  (q110 : W.kitOne K (.ref cM) (.ref d13) = some false)
  (q111 : W.kitOne K (.ref cM) (.ref d14) = some false)
  (q112 : W.kitOne K (.ref cM) (.ref d15) = some false)
  (q113 : W.kitOne K (.ref cM) (.ref d16) = some false)
  (q114 : W.kitOne K (.ref cM) (.ref d17) = some false)
  (q115 : W.kitOne K (.ref cM) (.ref d18) = some false)
  (q116 : W.kitOne K (.ref cM) (.ref d19) = some false)
  (q117 : W.kitOne K (.ref cM) (.ref d20) = some false)
  (q118 : W.kitOne K (.ref cM) (.ref d21) = some false)
  (q119 : W.kitOne K (.ref cM) (.ref d22) = some false)
  (q120 : W.kitOne K (.ref cB) (.type "ValueError") = some true)
  (q121 : W.kitOne K (.ref cB) (.ref cD) = some false)
  (q122 : W.kitOne K (.ref cB) (.ref cC) = some false)
  (q123 : W.kitOne K (.ref cB) (.ref d2) = some false)
  (q124 : W.kitOne K (.ref cB) (.ref cP) = some false)
  (q125 : W.kitOne K (.ref cB) (.ref cB) = some true)
  (q126 : W.kitOne K (.ref cB) (.ref cZ) = some false)
  (q127 : W.kitOne K (.ref cB) (.ref cN) = some false)
  (q128 : W.kitOne K (.ref cB) (.ref cM) = some false)
  (q129 : W.kitOne K (.ref cB) (.ref d8) = some false)
  (q130 : W.kitOne K (.ref cB) (.ref d9) = some false)
  (q131 : W.kitOne K (.ref cB) (.ref d10) = some false)
  (q132 : W.kitOne K (.ref cB) (.ref d11) = some false)
  (q133 : W.kitOne K (.ref cB) (.ref d12) = some false)
  (q134 : W.kitOne K (.ref cB) (.ref d13) = some false)
  (q135 : W.kitOne K (.ref cB) (.ref d14) = some false)
  (q136 : W.kitOne K (.ref cB) (.ref d15) = some false)
  (q137 : W.kitOne K (.ref cB) (.ref d16) = some false)
  (q138 : W.kitOne K (.ref cB) (.ref d17) = some false)
  (q139 : W.kitOne K (.ref cB) (.ref d18) = some false)
  (q140 : W.kitOne K (.ref cB) (.ref d19) = some false)
  (q141 : W.kitOne K (.ref cB) (.ref d20) = some false)
  (q142 : W.kitOne K (.ref cB) (.ref d21) = some false)
  (q143 : W.kitOne K (.ref cB) (.ref d22) = some false)
  (q144 : W.kitOne K (.ref cD) (.type "ValueError") = some true)
  (q145 : W.kitOne K (.ref cD) (.ref cD) = some true)
  (q146 : W.kitOne K (.ref cD) (.ref cC) = some false)
  (q147 : W.kitOne K (.ref cD) (.ref d2) = some false)
  (q148 : W.kitOne K (.ref cD) (.ref cP) = some false)
  (q149 : W.kitOne K (.ref cD) (.ref cB) = some false)
  (q150 : W.kitOne K (.ref cD) (.ref cZ) = some false)
  (q151 : W.kitOne K (.ref cD) (.ref cN) = some false)
  (q152 : W.kitOne K (.ref cD) (.ref cM) = some false)
  (q153 : W.kitOne K (.ref cD) (.ref d8) = some false)
  (q154 : W.kitOne K (.ref cD) (.ref d9) = some false)
  (q155 : W.kitOne K (.ref cD) (.ref d10) = some false)
  (q156 : W.kitOne K (.ref cD) (.ref d11) = some false)
  (q157 : W.kitOne K (.ref cD) (.ref d12) = some false)
  (q158 : W.kitOne K (.ref cD) (.ref d13) = some false)
  (q159 : W.kitOne K (.ref cD) (.ref d14) = some false)
  (q160 : W.kitOne K (.ref cD) (.ref d15) = some false)
  (q161 : W.kitOne K (.ref cD) (.ref d16) = some false)
  (q162 : W.kitOne K (.ref cD) (.ref d17) = some false)
  (q163 : W.kitOne K (.ref cD) (.ref d18) = some false)
  (q164 : W.kitOne K (.ref cD) (.ref d19) = some false)
  (q165 : W.kitOne K (.ref cD) (.ref d20) = some false)
  (q166 : W.kitOne K (.ref cD) (.ref d21) = some false)
  (q167 : W.kitOne K (.ref cD) (.ref d22) = some false)
  : ∃ fd : FuncData, (∀ (s : Shared) (v : Value), BindsTo s fd ⟨[v], []⟩ [("_law_script", v)]) ∧ ∀ base : Heap, K.In base → base.Ns mainGlobals mg → FnOk l.prog w K mg base CX0 13 fa fd ["_law_script"] (spLaw K) := by
 have e := hfa.symm.trans (W.mg_of X G a44)
 cases e
 have T : Txt K mg cFE cC cN cM cP cL cB cD cZ tP tS tC tI := ⟨W.mg_none_of X G z1, W.mg_none_of X G z2, W.mg_none_of X G z3, W.mg_none_of X G z4, W.mg_none_of X G z5, W.mg_none_of X G z6, W.mg_none_of X G z7, W.mg_none_of X G z8, W.mg_none_of X G z9, W.mg_none_of X G z10, W.mg_none_of X G z11, W.mg_none_of X G z12, W.mg_none_of X G z13, W.mg_none_of X G z14, W.mg_none_of X G z15, W.mg_of X G y1, W.mg_of X G y2, W.mg_of X G y3, W.mg_of X G y4, W.mg_of X G x1, W.mg_of X G x4, q16, ⟨q17, q18, q19, q20, q21, q22⟩, exm_mk q8 q9 q10 q23, W.mg_of X G x9, q24, ⟨q25, q26, q27, q28, q29, q30⟩, exm_mk q8 q9 q10 q31, W.mg_of X G x10, q32, ⟨q33, q34, q35, q36, q37, q38⟩, exm_mk q8 q9 q10 q39, W.mg_of X G x6, q40, ⟨q41, q42, q43, q44, q45, q46⟩, exm_mk q8 q9 q10 q47, W.mg_of X G x7, q48, ⟨q49, q50, q51, q52, q53, q54⟩, exm_mk q8 q9 q10 q55, W.mg_of X G x3, q56, ⟨q57, q58, q59, q60, q61, q62⟩, exm_mk q8 q9 q10 q63, W.mg_of X G x8, q64, ⟨q65, q66, q67, q68, q69, q70⟩, exm_mk q8 q9 q10 q71, ⟨q1, q2, q3, q4⟩, q5, W.mg_of X G x2, q11, q12, q13, q14, q15⟩
 have WN : TxtW K mg cN "none" false false false false false false true false false := ⟨T.kN, q72, fun _ _ _ _ _ _ _ _ _ => rfl, ⟨_, W.mg_of X G x3, q73⟩, ⟨_, W.mg_of X G x4, q74⟩, ⟨_, W.mg_of X G x5, q75⟩, ⟨_, W.mg_of X G x6, q76⟩, ⟨_, W.mg_of X G x7, q77⟩, ⟨_, W.mg_of X G x8, q78⟩, ⟨_, W.mg_of X G x9, q79⟩, ⟨_, W.mg_of X G x10, q80⟩, ⟨_, W.mg_of X G x11, q81⟩, ⟨_, W.mg_of X G x12, q82⟩, ⟨_, W.mg_of X G x13, q83⟩, ⟨_, W.mg_of X G x14, q84⟩, ⟨_, W.mg_of X G x15, q85⟩, ⟨_, W.mg_of X G x16, q86⟩, ⟨_, W.mg_of X G x17, q87⟩, ⟨_, W.mg_of X G x18, q88⟩, ⟨_, W.mg_of X G x19, q89⟩, ⟨_, W.mg_of X G x20, q90⟩, ⟨_, W.mg_of X G x21, q91⟩, ⟨_, W.mg_of X G x22, q92⟩, ⟨_, W.mg_of X G x23, q93⟩, ⟨_, W.mg_of X G x24, q94⟩, ⟨_, W.mg_of X G x25, q95⟩⟩
 have WM : TxtW K mg cM "many" false false false false false false false true false := ⟨T.kM, q96, fun _ _ _ _ _ _ _ _ _ => rfl, ⟨_, W.mg_of X G x3, q97⟩, ⟨_, W.mg_of X G x4, q98⟩, ⟨_, W.mg_of X G x5, q99⟩, ⟨_, W.mg_of X G x6, q100⟩, ⟨_, W.mg_of X G x7, q101⟩, ⟨_, W.mg_of X G x8, q102⟩, ⟨_, W.mg_of X G x9, q103⟩, ⟨_, W.mg_of X G x10, q104⟩, ⟨_, W.mg_of X G x11, q105⟩, ⟨_, W.mg_of X G x12, q106⟩, ⟨_, W.mg_of X G x13, q107⟩, ⟨_, W.mg_of X G x14, q108⟩, ⟨_, W.mg_of X G x15, q109⟩, ⟨_, W.mg_of X G x16, q110⟩, ⟨_, W.mg_of X G x17, q111⟩, ⟨_, W.mg_of X G x18, q112⟩, ⟨_, W.mg_of X G x19, q113⟩, ⟨_, W.mg_of X G x20, q114⟩, ⟨_, W.mg_of X G x21, q115⟩, ⟨_, W.mg_of X G x22, q116⟩, ⟨_, W.mg_of X G x23, q117⟩, ⟨_, W.mg_of X G x24, q118⟩, ⟨_, W.mg_of X G x25, q119⟩⟩
 have WB : TxtW K mg cB "picture" false false false false true false false false false := ⟨T.kB, q120, fun _ _ _ _ _ _ _ _ _ => rfl, ⟨_, W.mg_of X G x3, q121⟩, ⟨_, W.mg_of X G x4, q122⟩, ⟨_, W.mg_of X G x5, q123⟩, ⟨_, W.mg_of X G x6, q124⟩, ⟨_, W.mg_of X G x7, q125⟩, ⟨_, W.mg_of X G x8, q126⟩, ⟨_, W.mg_of X G x9, q127⟩, ⟨_, W.mg_of X G x10, q128⟩, ⟨_, W.mg_of X G x11, q129⟩, ⟨_, W.mg_of X G x12, q130⟩, ⟨_, W.mg_of X G x13, q131⟩, ⟨_, W.mg_of X G x14, q132⟩, ⟨_, W.mg_of X G x15, q133⟩, ⟨_, W.mg_of X G x16, q134⟩, ⟨_, W.mg_of X G x17, q135⟩, ⟨_, W.mg_of X G x18, q136⟩, ⟨_, W.mg_of X G x19, q137⟩, ⟨_, W.mg_of X G x20, q138⟩, ⟨_, W.mg_of X G x21, q139⟩, ⟨_, W.mg_of X G x22, q140⟩, ⟨_, W.mg_of X G x23, q141⟩, ⟨_, W.mg_of X G x24, q142⟩, ⟨_, W.mg_of X G x25, q143⟩⟩
 have WD : TxtW K mg cD "cell" true false false false false false false false false := ⟨T.kD, q144, fun _ _ _ _ _ _ _ _ _ => rfl, ⟨_, W.mg_of X G x3, q145⟩, ⟨_, W.mg_of X G x4, q146⟩, ⟨_, W.mg_of X G x5, q147⟩, ⟨_, W.mg_of X G x6, q148⟩, ⟨_, W.mg_of X G x7, q149⟩, ⟨_, W.mg_of X G x8, q150⟩, ⟨_, W.mg_of X G x9, q151⟩, ⟨_, W.mg_of X G x10, q152⟩, ⟨_, W.mg_of X G x11, q153⟩, ⟨_, W.mg_of X G x12, q154⟩, ⟨_, W.mg_of X G x13, q155⟩, ⟨_, W.mg_of X G x14, q156⟩, ⟨_, W.mg_of X G x15, q157⟩, ⟨_, W.mg_of X G x16, q158⟩, ⟨_, W.mg_of X G x17, q159⟩, ⟨_, W.mg_of X G x18, q160⟩, ⟨_, W.mg_of X G x19, q161⟩, ⟨_, W.mg_of X G x20, q162⟩, ⟨_, W.mg_of X G x21, q163⟩, ⟨_, W.mg_of X G x22, q164⟩, ⟨_, W.mg_of X G x23, q165⟩, ⟨_, W.mg_of X G x24, q166⟩, ⟨_, W.mg_of X G x25, q167⟩⟩
 have F1 := funD_mk (st := s_is_whole_from) l1 c1 k1
 have F2 := funD_mk (st := s_is_whole_within) l2 c2 k2
 have F3 := funD_mk (st := s_is_cell) l3 c3 k3
 have F4 := funD_mk (st := s_is_side) l4 c4 k4
 have F5 := funD_mk (st := s_is_list_of) l5 c5 k5
 have F6 := funD_mk (st := s_is_list_of_cells) l6 c6 k6
 have F7 := funD_mk (st := s_are_rows_of) l7 c7 k7
 have F8 := funD_mk (st := s_is_picture) l8 c8 k8
 have F9 := funD_mk (st := s_need_picture) l9 c9 k9
 have F10 := funD_mk (st := s_need_cells) l10 c10 k10
 have F11 := funD_mk (st := s_all_cells) l11 c11 k11
 have F12 := funD_mk (st := s_is_colour) l12 c12 k12
 have F13 := funD_mk (st := s_need_colour) l13 c13 k13
 have F14 := funD_mk (st := s_is_list_of) l14 c14 k14
 have F15 := funD_mk (st := s_Palette.__init__) l15 c15 k15
 have F16 := funD_mk (st := s_Palette.colours) l16 c16 k16
 have F17 := funD_mk (st := s_Palette.many) l17 c17 k17
 have F18 := funD_mk (st := s_Palette.colour_of) l18 c18 k18
 have F19 := funD_mk (st := s_Palette.cell_of) l19 c19 k19
 have F20 := funD_mk (st := s_Palette.add_colour) l20 c20 k20
 have F21 := funD_mk (st := s_need_cells_below) l21 c21 k21
 have F22 := funD_mk (st := s_need_shown) l22 c22 k22
 have F23 := funD_mk (st := s_shown_picture) l23 c23 k23
 have F24 := funD_mk (st := s_poured_palettes) l24 c24 k24
 have F25 := funD_mk (st := s_recoloured) l25 c25 k25
 have F26 := funD_mk (st := s_law_draw) l26 c26 k26
 have F27 := funD_mk (st := s_law_whole) l27 c27 k27
 have F28 := funD_mk (st := s_law_word) l28 c28 k28
 have F29 := funD_mk (st := s_law_colour) l29 c29 k29
 have F30 := funD_mk (st := s_law_pool) l30 c30 k30
 have F31 := funD_mk (st := s_law_size) l31 c31 k31
 have F32 := funD_mk (st := s_law_picture) l32 c32 k32
 have F33 := funD_mk (st := s_law_copied) l33 c33 k33
 have F34 := funD_mk (st := s_law_rows_good) l34 c34 k34
 have F35 := funD_mk (st := s_law_own) l35 c35 k35
 have F36 := funD_mk (st := s_law_no_picture) l36 c36 k36
 have F37 := funD_mk (st := s_law_poured_due) l37 c37 k37
 have F38 := funD_mk (st := s_law_poured) l38 c38 k38
 have F39 := funD_mk (st := s_law_new_colour) l39 c39 k39
 have F40 := funD_mk (st := s_law_by_itself) l40 c40 k40
 have F41 := funD_mk (st := s_law_pour_good) l41 c41 k41
 have F42 := funD_mk (st := s_law_refused) l42 c42 k42
 have F43 := funD_mk (st := s_law_recoloured_good) l43 c43 k43
 have F44 := funD_mk (st := s_law) l44 c44 k44
 refine ⟨W.fnOf "law" "law" (defArgs s_law) (defBody s_law) (defScope s_law) .none kV44 dc44 pm44 an44 cd44 ct44, fun s v => .of_eq rfl, fun base kb nb => ?_⟩
 have g1 := F1.def (P := l.prog) (w := w) (mg := mg) (base := base) (ok_is_whole_from F1 T) (W.mg_of X G a1) (fun _ _ _ _ _ _ us hl => (by obtain ⟨u0, u1, rfl⟩ := len2 hl; rfl))
 have g2 := F2.def (P := l.prog) (w := w) (mg := mg) (base := base) (ok_is_whole_within F2 g1) (W.mg_of X G a2) (fun _ _ _ _ _ _ us hl => (by obtain ⟨u0, u1, u2, rfl⟩ := len3 hl; rfl))
 have g3A := F3.defA (P := l.prog) (w := w) (mg := mg) (base := base) (ok_is_cell F3 T g2) (fun _ _ _ _ _ _ us hl => (by obtain ⟨u0, rfl⟩ := len1 hl; rfl))
 have g3 := F3.def (P := l.prog) (w := w) (mg := mg) (base := base) (ok_is_cell F3 T g2) (W.mg_of X G a3) (fun _ _ _ _ _ _ us hl => (by obtain ⟨u0, rfl⟩ := len1 hl; rfl))
 have g4 := F4.def (P := l.prog) (w := w) (mg := mg) (base := base) (ok_is_side F4 T g2) (W.mg_of X G a4) (fun _ _ _ _ _ _ us hl => (by obtain ⟨u0, rfl⟩ := len1 hl; rfl))
 have g5 := F5.def (P := l.prog) (w := w) (mg := mg) (base := base) (ok_is_list_of F5 T g3A) (W.mg_of X G a5) (fun _ _ _ _ _ _ us hl => (by obtain ⟨u0, u1, rfl⟩ := len2 hl; rfl))
 have g6 := F6.def (P := l.prog) (w := w) (mg := mg) (base := base) (ok_is_list_of_cells F6 (W.mg_of X G a3) g5) (W.mg_of X G a6) (fun _ _ _ _ _ _ us hl => (by obtain ⟨u0, rfl⟩ := len1 hl; rfl))
 have g7 := F7.def (P := l.prog) (w := w) (mg := mg) (base := base) (ok_are_rows_of F7 T g5 g4) (W.mg_of X G a7) (fun _ _ _ _ _ _ us hl => (by obtain ⟨u0, u1, rfl⟩ := len2 hl; rfl))
 have g8 := F8.def (P := l.prog) (w := w) (mg := mg) (base := base) (ok_is_picture F8 (W.mg_of X G a3) g7) (W.mg_of X G a8) (fun _ _ _ _ _ _ us hl => (by obtain ⟨u0, rfl⟩ := len1 hl; rfl))
 have g9 := F9.defX (P := l.prog) (w := w) (mg := mg) (base := base) (ok_need_picture F9 T g8) (W.mg_of X G a9) (fun _ _ _ _ _ _ us hl => (by obtain ⟨u0, rfl⟩ := len1 hl; rfl))
 have g10 := F10.defX (P := l.prog) (w := w) (mg := mg) (base := base) (ok_need_cells F10 T g6) (W.mg_of X G a10) (fun _ _ _ _ _ _ us hl => (by obtain ⟨u0, u1, rfl⟩ := len2 hl; rfl))
 have g11 := F11.defX (P := l.prog) (w := w) (mg := mg) (base := base) (ok_all_cells F11 T g9) (W.mg_of X G a11) (fun _ _ _ _ _ _ us hl => (by obtain ⟨u0, rfl⟩ := len1 hl; rfl))
 have g12A := F12.defA (P := l.prog) (w := w) (mg := mg) (base := base) (ok_is_colour F12 T g2) (fun _ _ _ _ _ _ us hl => (by obtain ⟨u0, rfl⟩ := len1 hl; rfl))
 have g12 := F12.def (P := l.prog) (w := w) (mg := mg) (base := base) (ok_is_colour F12 T g2) (W.mg_of X G a12) (fun _ _ _ _ _ _ us hl => (by obtain ⟨u0, rfl⟩ := len1 hl; rfl))
 have g13 := F13.defX (P := l.prog) (w := w) (mg := mg) (base := base) (ok_need_colour F13 T g12) (W.mg_of X G a13) (fun _ _ _ _ _ _ us hl => (by obtain ⟨u0, rfl⟩ := len1 hl; rfl))
 have g14 := F14.def (P := l.prog) (w := w) (mg := mg) (base := base) (ok_is_list_of_col F14 T g12A) (W.mg_of X G a14) (fun _ _ _ _ _ _ us hl => (by obtain ⟨u0, u1, rfl⟩ := len2 hl; rfl))
 have g15 := F15.makX (P := l.prog) (w := w) (mg := mg) (base := base) (ok_Palette.__init__ F15 T g14 (W.mg_of X G a12) g2) ⟨q6, a15, i15, q7⟩ (W.mg_of X G x2) (fun _ _ _ _ _ _ us hl => (by obtain ⟨u0, u1, rfl⟩ := len2 hl; rfl))
 have g16 := F16.metD (P := l.prog) (w := w) (mg := mg) (base := base) (ok_Palette.colours F16 T) ⟨a16, i16, k16⟩ (fun _ _ _ _ _ _ us hl => (by obtain ⟨u0, rfl⟩ := len1 hl; rfl))
 have g17 := F17.metD (P := l.prog) (w := w) (mg := mg) (base := base) (ok_Palette.many F17 T) ⟨a17, i17, k17⟩ (fun _ _ _ _ _ _ us hl => (by obtain ⟨u0, rfl⟩ := len1 hl; rfl))
 have g18 := F18.metX (P := l.prog) (w := w) (mg := mg) (base := base) (ok_Palette.colour_of F18 T g2 g17) ⟨a18, i18, k18⟩ (fun _ _ _ _ _ _ us hl => (by obtain ⟨u0, u1, rfl⟩ := len2 hl; rfl))
 have g19 := F19.metX (P := l.prog) (w := w) (mg := mg) (base := base) (ok_Palette.cell_of F19 T g13) ⟨a19, i19, k19⟩ (fun _ _ _ _ _ _ us hl => (by obtain ⟨u0, u1, rfl⟩ := len2 hl; rfl))
 have g20 := F20.metX (P := l.prog) (w := w) (mg := mg) (base := base) (ok_Palette.add_colour F20 T g19 g17) ⟨a20, i20, k20⟩ (fun _ _ _ _ _ _ us hl => (by obtain ⟨u0, u1, rfl⟩ := len2 hl; rfl))
 have g21 := F21.defX (P := l.prog) (w := w) (mg := mg) (base := base) (ok_need_cells_below F21 T g11) (W.mg_of X G a21) (fun _ _ _ _ _ _ us hl => (by obtain ⟨u0, u1, rfl⟩ := len2 hl; rfl))
 have g22 := F22.defX (P := l.prog) (w := w) (mg := mg) (base := base) (ok_need_shown F22 T g21 g17) (W.mg_of X G a22) (fun _ _ _ _ _ _ us hl => (by obtain ⟨u0, u1, rfl⟩ := len2 hl; rfl))
 have g23 := F23.defX (P := l.prog) (w := w) (mg := mg) (base := base) (ok_shown_picture F23 T g22 g18) (W.mg_of X G a23) (fun _ _ _ _ _ _ us hl => (by obtain ⟨u0, u1, rfl⟩ := len2 hl; rfl))
 have g24 := F24.defX (P := l.prog) (w := w) (mg := mg) (base := base) (ok_poured_palettes F24 T g15 g16 g20) (W.mg_of X G a24) (fun _ _ _ _ _ _ us hl => (by obtain ⟨u0, u1, rfl⟩ := len2 hl; rfl))
 have g25 := F25.defX (P := l.prog) (w := w) (mg := mg) (base := base) (ok_recoloured F25 T g9 g10 g21) (W.mg_of X G a25) (fun _ _ _ _ _ _ us hl => (by obtain ⟨u0, u1, rfl⟩ := len2 hl; rfl))
 have g26 := F26.def (P := l.prog) (w := w) (mg := mg) (base := base) (ok_law_draw F26 T) (W.mg_of X G a26) (fun _ _ _ _ _ _ us hl => (by obtain ⟨u0, u1, rfl⟩ := len2 hl; rfl))
 have g27 := F27.def (P := l.prog) (w := w) (mg := mg) (base := base) (ok_law_whole F27 T) (W.mg_of X G a27) (fun _ _ _ _ _ _ us hl => (by obtain ⟨u0, rfl⟩ := len1 hl; rfl))
 have g28 := F28.defM (P := l.prog) (w := w) (mg := mg) (base := base) (wordB (ok_law_word F28 T WN) (wordB (ok_law_word F28 T WM) (wordB (ok_law_word F28 T WB) (ok_law_word F28 T WD)))) (W.mg_of X G a28) (fun _ _ _ _ _ _ us hl => (by obtain ⟨u0, rfl⟩ := len1 hl; rfl))
 have g29 := F29.def (P := l.prog) (w := w) (mg := mg) (base := base) (ok_law_colour F29 T) (W.mg_of X G a29) (fun _ _ _ _ _ _ us hl => (by obtain ⟨u0, rfl⟩ := len1 hl; rfl))
 have g30 := F30.def (P := l.prog) (w := w) (mg := mg) (base := base) (ok_law_pool F30 T g26 g29) (W.mg_of X G a30) (fun _ _ _ _ _ _ us hl => (by obtain ⟨u0, u1, u2, rfl⟩ := len3 hl; rfl))
 have g31 := F31.def (P := l.prog) (w := w) (mg := mg) (base := base) (ok_law_size F31 T) (W.mg_of X G a31) (fun _ _ _ _ _ _ us hl => (by obtain ⟨u0, rfl⟩ := len1 hl; rfl))
 have g32 := F32.def (P := l.prog) (w := w) (mg := mg) (base := base) (ok_law_picture F32 T g26 g31) (W.mg_of X G a32) (fun _ _ _ _ _ _ us hl => (by obtain ⟨u0, u1, u2, rfl⟩ := len3 hl; rfl))
 have g33 := F33.def (P := l.prog) (w := w) (mg := mg) (base := base) (ok_law_copied F33 T) (W.mg_of X G a33) (fun _ _ _ _ _ _ us hl => (by obtain ⟨u0, rfl⟩ := len1 hl; rfl))
 have g34 := F34.def (P := l.prog) (w := w) (mg := mg) (base := base) (ok_law_rows_good F34 T) (W.mg_of X G a34) (fun _ _ _ _ _ _ us hl => (by obtain ⟨u0, u1, rfl⟩ := len2 hl; rfl))
 have g35 := F35.def (P := l.prog) (w := w) (mg := mg) (base := base) (ok_law_own F35 T) (W.mg_of X G a35) (fun _ _ _ _ _ _ us hl => (by obtain ⟨u0, u1, rfl⟩ := len2 hl; rfl))
 have g36 := F36.def (P := l.prog) (w := w) (mg := mg) (base := base) (ok_law_no_picture F36 T g33) (W.mg_of X G a36) (fun _ _ _ _ _ _ us hl => (by obtain ⟨u0, u1, u2, rfl⟩ := len3 hl; rfl))
 have g37 := F37.def (P := l.prog) (w := w) (mg := mg) (base := base) (ok_law_poured_due F37 T) (W.mg_of X G a37) (fun _ _ _ _ _ _ us hl => (by obtain ⟨u0, u1, rfl⟩ := len2 hl; rfl))
 have g38 := F38.def (P := l.prog) (w := w) (mg := mg) (base := base) (ok_law_poured F38 T g24 g28) (W.mg_of X G a38) (fun _ _ _ _ _ _ us hl => (by obtain ⟨u0, u1, rfl⟩ := len2 hl; rfl))
 have g39 := F39.def (P := l.prog) (w := w) (mg := mg) (base := base) (ok_law_new_colour F39 T) (W.mg_of X G a39) (fun _ _ _ _ _ _ us hl => (by obtain ⟨u0, rfl⟩ := len1 hl; rfl))
 have g40 := F40.def (P := l.prog) (w := w) (mg := mg) (base := base) (ok_law_by_itself F40 T g39 g16 g20) (W.mg_of X G a40) (fun _ _ _ _ _ _ us hl => (by obtain ⟨u0, u1, u2, u3, rfl⟩ := len4 hl; rfl))
 have g41 := F41.def (P := l.prog) (w := w) (mg := mg) (base := base) (ok_law_pour_good F41 T g37 g15 g38 g16 g27 g23 g25 g40) (W.mg_of X G a41) (fun _ _ _ _ _ _ us hl => (by obtain ⟨u0, u1, u2, u3, rfl⟩ := len4 hl; rfl))
 have g42 := F42.def (P := l.prog) (w := w) (mg := mg) (base := base) (ok_law_refused F42 T g25 g28) (W.mg_of X G a42) (fun _ _ _ _ _ _ us hl => (by obtain ⟨u0, u1, rfl⟩ := len2 hl; rfl))
 have g43 := F43.def (P := l.prog) (w := w) (mg := mg) (base := base) (ok_law_recoloured_good F43 T g33 g42 g25 g34 g27 g35) (W.mg_of X G a43) (fun _ _ _ _ _ _ us hl => (by obtain ⟨u0, u1, rfl⟩ := len2 hl; rfl))
 exact ok_law F44 T g26 g30 g32 g15 g41 g43 g36 g42 g33
theorem walk {l : W.OpenLaw} {q : Program} {loose : List Str} {XP : (Str → Option Value) → Heap → Prop} {YP : World → Heap → Prop} {d : DefRec} {K : Params → W.Frag} (hn : l.most = some 63) (hdf : d.params.defaults = [])
  (hY : ∀ (w : World) (h : Heap), YP w h → (K w.params).In h)
  (F : ∀ (w : World) (mg : Str → Option Value) (fa : Addr) (h : Heap), (K w.params).In h → h.Ns mainGlobals mg → mg d.name = some (.ref fa) →
   ∃ fd : FuncData, (∀ (s : Shared) (u : Value), BindsTo s fd ⟨[u], []⟩ [("_law_script", u)]) ∧ ∀ base : Heap, (K w.params).In base → base.Ns mainGlobals mg → FnOk l.prog w (K w.params) mg base CX0 13 fa fd ["_law_script"] (spLaw (K w.params))) :
  W.WalkO q loose XP YP l.row.toRowW d [] (fun f vs => PySem.call f vs) :=
 L2.walk_ofB (n := 63) (k := 13) (x := "_law_script") (CX := CX0) (sp := spLaw) hn (by decide) hdf ⟨rfl, by decide, by decide, rfl⟩ hY F (fun _ _ a ns _ hb _ hS => ⟨a, ns, rfl, hS, fun _ => rfl⟩) fun _ _ _ _ z => z
end K18
open PySem PySem.W PyProof.Rows
noncomputable def PySem.W.Fast.tw3252760347714535059 : PySem.Program := PySem.Challenge.pw_cellfolio_k18_poured_and_recoloured
theorem PySem.W.Fast.te3252760347714535059 : PySem.Challenge.pw_cellfolio_k18_poured_and_recoloured = PySem.W.Fast.tw3252760347714535059 := rfl
def PySem.W.Fast.tw4242626341889247968 : Nat := 0
def PySem.W.Fast.tw10699295409052585825 : Nat := 0
def PySem.W.Fast.tw17406001454332296065 : Nat := 0
def PySem.W.Fast.tw898906053203233956 : Nat := 0
def PySem.W.Fast.tw18282366290418803237 : Nat := 0
def PySem.W.Fast.tw6042539512194046533 : Nat := 0
def PySem.W.Fast.tw3049368162369561349 : Nat := 0
def PySem.W.Fast.tw14039376851190614952 : Nat := 0
def PySem.W.Fast.tw9674839509156651657 : Nat := 0
def PySem.W.Fast.tw5632556873993162729 : Nat := 0
def PySem.W.Fast.tw7533233766542470538 : Nat := 0
def PySem.W.Fast.tw2761659238451368012 : Nat := 0
def PySem.W.Fast.tw12718488807666272940 : Nat := 0
def PySem.W.Fast.tw11731343142138569229 : Nat := 0
def PySem.W.Fast.tw8125711490916277966 : Nat := 0
def PySem.W.Fast.tw7190506378701633167 : Nat := 0
def PySem.W.Fast.tw17506872680811805391 : Nat := 0
def PySem.W.Fast.tw3486329838496305488 : Nat := 0
def PySem.W.Fast.tw8208870364939297010 : Nat := 0
def PySem.W.Fast.tw4207370181981819218 : Nat := 0
def PySem.W.Fast.tw10864662750410698131 : Nat := 0
def PySem.W.Fast.tw10254015977008349396 : Nat := 0
def PySem.W.Fast.tw16846790697903721876 : Nat := 0
def PySem.W.Fast.tw7767321453207467349 : Nat := 0
def PySem.W.Fast.tw14782384591914168981 : Nat := 0
def PySem.W.Fast.tw7015721929486946935 : Nat := 0
def PySem.W.Fast.tw10820405682091070103 : Nat := 0
def PySem.W.Fast.tw6362433256224044951 : Nat := 0
def PySem.W.Fast.tw7324176778172066872 : Nat := 0
def PySem.W.Fast.tw13477027973996753560 : Nat := 0
def PySem.W.Fast.tw7416575644065168761 : Nat := 0
def PySem.W.Fast.tw17540468719147311641 : Nat := 0
def PySem.W.Fast.tw9333855256339717278 : Nat := 0
set_option maxRecDepth 100000 in
set_option maxHeartbeats 0 in
theorem PySem.Challenge.cw_cellfolio_k18_poured_and_recoloured_holds : PySem.Challenge.rw_cellfolio_k18_poured_and_recoloured.Holds := by
  w_on; o_law; k_head; (case hw => w_witness2)
  k_fill
  refine K18.walk (l := PySem.Challenge.rw_cellfolio_k18_poured_and_recoloured) rfl rfl (fun w h Y => PySem.W.kIn_of Y) ?F
  case F =>
    intro w mg fa h KX G hmg
    refine' K18.all_mk KX G hmg ?a1 ?l1 ?c1 ?k1 ?a2 ?l2 ?c2 ?k2 ?a3 ?l3 ?c3 ?k3 ?a4 ?l4 ?c4 ?k4 ?a5 ?l5 ?c5 ?k5 ?a6 ?l6 ?c6 ?k6 ?a7 ?l7 ?c7 ?k7 ?a8 ?l8 ?c8 ?k8 ?a9 ?l9 ?c9 ?k9 ?a10 ?l10 ?c10 ?k10 ?a11 ?l11 ?c11 ?k11 ?a12 ?l12 ?c12 ?k12 ?a13 ?l13 ?c13 ?k13 ?a14 ?l14 ?c14 ?k14 ?a15 ?i15 ?l15 ?c15 ?k15 ?a16 ?i16 ?l16 ?c16 ?k16 ?a17 ?i17 ?l17 ?c17 ?k17 ?a18 ?i18 ?l18 ?c18 ?k18 ?a19 ?i19 ?l19 ?c19 ?k19 ?a20 ?i20 ?l20 ?c20 ?k20 ?a21 ?l21 ?c21 ?k21 ?a22 ?l22 ?c22 ?k22 ?a23 ?l23 ?c23 ?k23 ?a24 ?l24 ?c24 ?k24 ?a25 ?l25 ?c25 ?k25 ?a26 ?l26 ?c26 ?k26 ?a27 ?l27 ?c27 ?k27 ?a28 ?l28 ?c28 ?k28 ?a29 ?l29 ?c29 ?k29 ?a30 ?l30 ?c30 ?k30 ?a31 ?l31 ?c31 ?k31 ?a32 ?l32 ?c32 ?k32 ?a33 ?l33 ?c33 ?k33 ?a34 ?l34 ?c34 ?k34 ?a35 ?l35 ?c35 ?k35 ?a36 ?l36 ?c36 ?k36 ?a37 ?l37 ?c37 ?k37 ?a38 ?l38 ?c38 ?k38 ?a39 ?l39 ?c39 ?k39 ?a40 ?l40 ?c40 ?k40 ?a41 ?l41 ?c41 ?k41 ?a42 ?l42 ?c42 ?k42 ?a43 ?l43 ?c43 ?k43 ?a44 ?l44 ?c44 ?k44 ?z1 ?z2 ?z3 ?z4 ?z5 ?z6 ?z7 ?z8 ?z9 ?z10 ?z11 ?z12 ?z13 ?z14 ?z15 ?y1 ?y2 ?y3 ?y4 ?x1 ?x2 ?x3 ?x4 ?x5 ?x6 ?x7 ?x8 ?x9 ?x10 ?x11 ?x12 ?x13 ?x14 ?x15 ?x16 ?x17 ?x18 ?x19 ?x20 ?x21 ?x22 ?x23 ?x24 ?x25 ?q1 ?q2 ?q3 ?q4 ?q5 ?q6 ?q7 ?q8 ?q9 ?q10 ?q11 ?q12 ?q13 ?q14 ?q15 ?q16 ?q17 ?q18 ?q19 ?q20 ?q21 ?q22 ?q23 ?q24 ?q25 ?q26 ?q27 ?q28 ?q29 ?q30 ?q31 ?q32 ?q33 ?q34 ?q35 ?q36 ?q37 ?q38 ?q39 ?q40 ?q41 ?q42 ?q43 ?q44 ?q45 ?q46 ?q47 ?q48 ?q49 ?q50 ?q51 ?q52 ?q53 ?q54 ?q55 ?q56 ?q57 ?q58 ?q59 ?q60 ?q61 ?q62 ?q63 ?q64 ?q65 ?q66 ?q67 ?q68 ?q69 ?q70 ?q71 ?q72 ?q73 ?q74 ?q75 ?q76 ?q77 ?q78 ?q79 ?q80 ?q81 ?q82 ?q83 ?q84 ?q85 ?q86 ?q87 ?q88 ?q89 ?q90 ?q91 ?q92 ?q93 ?q94 ?q95 ?q96 ?q97 ?q98 ?q99 ?q100 ?q101 ?q102 ?q103 ?q104 ?q105 ?q106 ?q107 ?q108 ?q109 ?q110 ?q111 ?q112 ?q113 ?q114 ?q115 ?q116 ?q117 ?q118 ?q119 ?q120 ?q121 ?q122 ?q123 ?q124 ?q125 ?q126 ?q127 ?q128 ?q129 ?q130 ?q131 ?q132 ?q133 ?q134 ?q135 ?q136 ?q137 ?q138 ?q139 ?q140 ?q141 ?q142 ?q143 ?q144 ?q145 ?q146 ?q147 ?q148 ?q149 ?q150 ?q151 ?q152 ?q153 ?q154 ?q155 ?q156 ?q157 ?q158 ?q159 ?q160 ?q161 ?q162 ?q163 ?q164 ?q165 ?q166 ?q167
    (case x1|x2|x3|x4|x5|x6|x7|x8|x9|x10|x11|x12|x13|x14|x15|x16|x17|x18|x19|x20|x21|x22|x23|x24|x25|a1|l1|c1|k1|a2|l2|c2|k2|a3|l3|c3|k3|a4|l4|c4|k4|a5|l5|c5|k5|a6|l6|c6|k6|a7|l7|c7|k7|a8|l8|c8|k8|a9|l9|c9|k9|a10|l10|c10|k10|a11|l11|c11|k11|a12|l12|c12|k12|a13|l13|c13|k13|a14|l14|c14|k14|a15|i15|l15|c15|k15|a16|i16|l16|c16|k16|a17|i17|l17|c17|k17|a18|i18|l18|c18|k18|a19|i19|l19|c19|k19|a20|i20|l20|c20|k20|a21|l21|c21|k21|a22|l22|c22|k22|a23|l23|c23|k23|a24|l24|c24|k24|a25|l25|c25|k25|a26|l26|c26|k26|a27|l27|c27|k27|a28|l28|c28|k28|a29|l29|c29|k29|a30|l30|c30|k30|a31|l31|c31|k31|a32|l32|c32|k32|a33|l33|c33|k33|a34|l34|c34|k34|a35|l35|c35|k35|a36|l36|c36|k36|a37|l37|c37|k37|a38|l38|c38|k38|a39|l39|c39|k39|a40|l40|c40|k40|a41|l41|c41|k41|a42|l42|c42|k42|a43|l43|c43|k43|a44|l44|c44|k44|z1|z2|z3|z4|z5|z6|z7|z8|z9|z10|z11|z12|z13|z14|z15|y1|y2|y3|y4|q1|q2|q3|q4|q5|q6|q7|q8|q9|q10|q11|q12|q13|q14 => k_is)
    (case q15 => kit_is)
    (case q16 => k_exc)
    (case q17|q18|q19|q20|q21|q22|q23 => k_is)
    (case q24 => k_exc)
    (case q25|q26|q27|q28|q29|q30|q31 => k_is)
    (case q32 => k_exc)
    (case q33|q34|q35|q36|q37|q38|q39 => k_is)
    (case q40 => k_exc)
    (case q41|q42|q43|q44|q45|q46|q47 => k_is)
    (case q48 => k_exc)
    (case q49|q50|q51|q52|q53|q54|q55 => k_is)
    (case q56 => k_exc)
    (case q57|q58|q59|q60|q61|q62|q63 => k_is)
    (case q64 => k_exc)
    (case q65|q66|q67|q68|q69|q70|q71 => k_is)
    (case q72|q73|q74|q75|q76|q77|q78|q79|q80|q81|q82|q83|q84|q85|q86|q87|q88|q89|q90|q91|q92|q93|q94|q95|q96|q97|q98|q99|q100|q101|q102|q103|q104|q105|q106|q107|q108|q109|q110|q111|q112|q113|q114|q115|q116|q117|q118|q119|q120|q121|q122|q123|q124|q125|q126|q127|q128|q129|q130|q131|q132|q133|q134|q135|q136|q137|q138|q139|q140|q141|q142|q143|q144|q145|q146|q147|q148|q149|q150|q151|q152|q153|q154|q155|q156|q157|q158|q159|q160|q161|q162|q163|q164|q165|q166|q167 => kit_is)
#print axioms PySem.Challenge.cw_cellfolio_k18_poured_and_recoloured_holds
