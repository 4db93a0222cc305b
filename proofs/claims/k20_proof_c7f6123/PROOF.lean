import PyProof.Rows.All
import Wide.All
import OpenK.AllK
import Wide.FinOn
import Lean
import PyProof.EqAt
import PyProof.EqKinds
import PyProof.NeKinds
import PyProof.ZipIter
import PyProof.Rows.ZipGen
import PyProof.ExcArgs
import PyProof.CompUse
import PyProof.TupleCall
import PyProof.CompFree
import PyProof.Cells
import OpenK.KEqL
import KE.KEqDict
import PyProof.EnumIter
import PyProof.EnumFor
import PyProof.EnumMake
import PyProof.EnumStmt
import PyProof.Rows.EnumRows
import KE.KRevIter
import OpenK.KRaise
import PyProof.Draws
import PyProof.StrWalks
import PyProof.StrCalls2
import PyProof.Rows.StrJoin2
import PyProof.StrLawsTight
import PyProof.StrLawsIn
import PyProof.SliceStr2
import PyProof.StrBlockI
import PyProof.StrLawsOcc
import PyProof.ConsumeS
import PyProof.MinMaxWalk
import PyProof.StrOps2
import PyProof.WalkInts
import PyProof.LongRange
import KE.KUnpack
import PyProof.Rows.IntBool
import KE.KBits
import PyProof.StrLawsChain
import PyProof.StrCalls3
import KE.KIntText
import KE.RegKIsAll
import PySem.Challenge.RW_cellfolio_k20_runs
set_option Elab.async false
set_option linter.all false
set_option maxRecDepth 100000
namespace L2
open PySem PySem.Spec PyProof.Rows
noncomputable abbrev Key := Sum Int Str
noncomputable def keyIs : Key → Value → Bool
  | .inl k, v => Value.isInt k v
  | .inr x, v => Value.isStrOf x v
noncomputable def keyH (w : World) : Key → Int
  | .inl k => hashInt k
  | .inr x => hashStr w x
theorem keyIs_shape : ∀ {k : Key} {v : Value}, keyIs k v = true → (∃ i t, k = Sum.inl i ∧ v = Value.int i t) ∨ (∃ x t, k = Sum.inr x ∧ v = Value.str x t)
  | .inl i, v, h => by
    obtain ⟨t, e⟩ := Value.isInt_shape (k := i) (v := v) h
    exact .inl ⟨i, t, rfl, e⟩
  | .inr x, v, h => by
    obtain ⟨t, e⟩ := Value.isStrOf_shape (x := x) (v := v) h
    exact .inr ⟨x, t, rfl, e⟩
theorem key_ll (a b : Int) : decide ((Sum.inl a : Key) = Sum.inl b) = (a == b) := by
  by_cases e : a = b
  · subst e; simp
  · have h : ¬ (Sum.inl a : Key) = Sum.inl b := fun q => e (Sum.inl.inj q)
    rw [decide_eq_false h]
    exact (beq_eq_false_iff_ne.mpr e).symm
theorem key_rr (a b : Str) : decide ((Sum.inr a : Key) = Sum.inr b) = decide (a = b) := by
  by_cases e : a = b
  · subst e; simp
  · have h : ¬ (Sum.inr a : Key) = Sum.inr b := fun q => e (Sum.inr.inj q)
    rw [decide_eq_false h, decide_eq_false e]
theorem key_lr (a : Int) (b : Str) : decide ((Sum.inl a : Key) = Sum.inr b) = false := decide_eq_false (fun q => nomatch q)
theorem key_rl (a : Str) (b : Int) : decide ((Sum.inr a : Key) = Sum.inl b) = false := decide_eq_false (fun q => nomatch q)
noncomputable def mixKind (prog : Program) (w : World) : PySem.KeyKind prog w Key where
  is := keyIs
  hash := keyH w
  inj := fun v a b ha hb => by
    rcases keyIs_shape ha with ⟨i, t, rfl, rfl⟩ | ⟨x, t, rfl, rfl⟩
    · rcases keyIs_shape hb with ⟨j, u, rfl, e⟩ | ⟨y, u, rfl, e⟩
      · injection e with e1 _; rw [e1]
      · exact nomatch e
    · rcases keyIs_shape hb with ⟨j, u, rfl, e⟩ | ⟨y, u, rfl, e⟩
      · exact nomatch e
      · injection e with e1 _; rw [e1]
  byValue := fun k v h => by
    rcases keyIs_shape h with ⟨i, t, rfl, rfl⟩ | ⟨x, t, rfl, rfl⟩ <;> rfl
  pyHash := fun hv h => by
    rcases keyIs_shape hv with ⟨i, t, rfl, rfl⟩ | ⟨x, t, rfl, rfl⟩
    · exact wpAny_pyHash_int h
    · exact wpAny_pyHash_str h
  eqBool := fun hu hv h => by
    rcases keyIs_shape hu with ⟨i, t, rfl, rfl⟩ | ⟨x, t, rfl, rfl⟩
    · rcases keyIs_shape hv with ⟨j, u, rfl, rfl⟩ | ⟨y, u, rfl, rfl⟩
      · rw [key_ll] at h; exact wpAny_eqBool_int h
      · rw [key_lr] at h; exact SeqAt.EqAt.int_str i t y u _ _ _ _ h
    · rcases keyIs_shape hv with ⟨j, u, rfl, rfl⟩ | ⟨y, u, rfl, rfl⟩
      · rw [key_rl] at h; exact SeqAt.EqAt.str_int x t j u _ _ _ _ h
      · rw [key_rr] at h; exact wpAny_eqBool_str h
  «strs» := fun k x t v h => by
    rcases keyIs_shape h with ⟨i, u, rfl, e⟩ | ⟨y, u, rfl, e⟩
    · exact nomatch e
    · injection e with e1 _
      subst e1
      cases v <;> rfl
end L2
namespace L2
open PySem PySem.Spec PyProof.Rows
inductive V where
  | non | bl (b : Bool) | int (i : Int) | str (x : Str) | byt (b : Array UInt8) | flt (b : UInt64) | ref (a : Addr) | ty (n : String)
  deriving DecidableEq
noncomputable def RelV : V → Value → Prop
  | .non, u => u = Value.none
  | .bl b, u => u = Value.bool b
  | .int i, u => ∃ t, u = Value.int i t
  | .str x, u => ∃ t, u = Value.str x t
  | .byt b, u => ∃ t, u = Value.bytes b t
  | .flt b, u => ∃ t, u = Value.float b t
  | .ref a, u => u = Value.ref a
  | .ty n, u => u = Value.type n
noncomputable abbrev Vals : List V → List Value → Prop := Paired RelV
theorem Vals.length {xs : List V} {us : List Value} (r : Vals xs us) : xs.length = us.length := Paired.length r
theorem Vals.get : ∀ {xs : List V} {us : List Value} {i : Nat} {x : V}, Vals xs us → xs[i]? = some x → ∃ u, us[i]? = some u ∧ RelV x u
  | _, _, _, _, .nil, e => by simp at e
  | _, _, 0, _, .cons r _, e => by simp at e; subst e; exact ⟨_, rfl, r⟩
  | _, _, i + 1, x, .cons _ t, e => by
    obtain ⟨u, h1, h2⟩ := Vals.get (i := i) (x := x) t (by simpa using e)
    exact ⟨u, by simpa using h1, h2⟩
theorem Vals.set {x : V} {u : Value} (r : RelV x u) : ∀ {xs : List V} {us : List Value} (i : Nat), Vals xs us → Vals (xs.set i x) (us.set i u)
  | _, _, _, .nil => .nil
  | _, _, 0, .cons _ t => .cons r t
  | _, _, i + 1, .cons q t => .cons q (Vals.set r i t)
theorem Vals.append : ∀ {xs ys : List V} {us ws : List Value}, Vals xs us → Vals ys ws → Vals (xs ++ ys) (us ++ ws)
  | _, _, _, _, .nil, s => s
  | _, _, _, _, .cons r t, s => .cons r (Vals.append t s)
theorem Vals.take : ∀ {xs : List V} {us : List Value} (n : Nat), Vals xs us → Vals (xs.take n) (us.take n)
  | _, _, 0, _ => .nil
  | _, _, _ + 1, .nil => .nil
  | _, _, n + 1, .cons r t => .cons r (Vals.take n t)
theorem Vals.drop : ∀ {xs : List V} {us : List Value} (n : Nat), Vals xs us → Vals (xs.drop n) (us.drop n)
  | _, _, 0, r => r
  | _, _, _ + 1, .nil => .nil
  | _, _, n + 1, .cons _ t => Vals.drop n t
noncomputable def RelO : Option V → Option Value → Prop
  | some v, some u => RelV v u
  | none, none => True
  | _, _ => False
noncomputable def KV {κ : Type} : List (κ × V) → List (κ × Value) → Prop := Paired fun (p : κ × V) (q : κ × Value) => p.1 = q.1 ∧ RelV p.2 q.2
noncomputable def kV : Key → V
  | .inl i => .int i
  | .inr x => .str x
inductive HO where
  | lst (xs : List V)
  | tup (xs : List V)
  | dK (kvs : List (Key × V)) | dT (kvs : List (List Key × V))
  | set (S : Int → Bool) (n : Nat)
  | ins (C dx : Addr) (fs : List (Str × V))
  | own (x : Addr)
  | xd (fs : List (Str × V))
  | met (f x : Addr)
  | rng (lo hi : Int)
  | frz (o : Obj) (u : HO)
  | tbl (ps : Array Value)
  | ext (φ : Heap → Prop)
noncomputable abbrev Hp := Addr → Option HO
noncomputable def upd (H : Hp) (a : Addr) (o : HO) : Hp := fun b => if b = a then some o else H b
theorem upd_same {H : Hp} {a : Addr} {o : HO} : upd H a o a = some o := by unfold upd; rw [if_pos rfl]
theorem upd_ne {H : Hp} {a b : Addr} {o : HO} (h : b ≠ a) : upd H a o b = H b := by unfold upd; rw [if_neg h]
theorem ne_of_none {H : Hp} {a b : Addr} {o : HO} (h : H a = some o) (h' : H b = none) : a ≠ b := by
  intro e; subst e; rw [h] at h'; cases h'
section
variable (P : Program) (w : World)
noncomputable def ObjOk (H : Hp) (h : Heap) (a : Addr) : HO → Prop
  | .lst xs => xs.length ≤ sizeLine ∧ ∃ (its : List Value) (n : Nat), Vals xs its ∧ h.get? a = some { cls := .type "list", data := .seq its.toArray n }
  | .tup xs => xs.length ≤ sizeLine ∧ ∃ its : List Value, Vals xs its ∧ IsTup h a its.toArray
  | .dK kvs => kvs.length ≤ sizeLine ∧ (a == sysModules) = false ∧ ∃ vs, KV kvs vs ∧ h.DictOf (mixKind P w) a vs
  | .dT kvs => kvs.length ≤ sizeLine ∧ (a == sysModules) = false ∧ ∃ xs : List (List Key × Addr × Value),
      Paired (fun (p : List Key × V) (q : List Key × Addr × Value) => p.1 = q.1 ∧ H q.2.1 = some (.tup (p.1.map kV)) ∧ RelV p.2 q.2.2) kvs xs ∧
      ∃ o es ep, h.get? a = some o ∧ o.ExactDict ∧ o.data = .dict es ep ∧ es.toList = xs.map (entryOfKey (tupleKind (mixKind P w))) ∧ (xs.map (·.1)).Nodup
  | .set S n => h.SetOf (intKind P w) a S n
  | .ins C dx fs => H dx = some (.own a) ∧ fs.length ≤ 1000 ∧ dx ≠ a ∧ h.get? a = some (PySem.W.instObj C dx) ∧
      ∃ mA, h.Ns1 dx mA ∧ (∀ f, RelO (fs.lookup f) (mA f)) ∧ PySem.Within mA (fs.map (·.1))
  | .own _ => ∃ o, h.get? a = some o
  | .xd fs => ∃ mA, h.Ns1 a mA ∧ ∀ f, RelO (fs.lookup f) (mA f)
  | .rng lo hi => ∃ t u v, h.get? a = some { cls := .type "range", data := .fields #[.int lo t, .int hi u, .int 1 v] }
  | .frz o u => h.get? a = some o ∧ ObjOk H h a u
  | .tbl ps => h.get? a = some { cls := .none, data := .fields ps }
  | .met f x => h.get? a = some (PySem.W.methodObj (.ref f) (.ref x))
  | .ext φ => φ h ∧ (∃ o, h.get? a = some o) ∧ ∀ h1 h2 : Heap, φ h1 → (∀ o, h1.get? a = some o → h2.get? a = some o) → φ h2
noncomputable def HOk (H : Hp) (h : Heap) : Prop := ∀ a o, H a = some o → ObjOk P w H h a o
end
section
variable {P : Program} {w : World} {H H' : Hp} {h h' : Heap} {a : Addr} {o : HO}
theorem ObjOk.lt (x : ObjOk P w H h a o) : a < h.objs.size := by
  cases o with
  | lst xs => obtain ⟨_, _, _, _, e⟩ := x; exact Heap.lt_size e
  | tup xs => obtain ⟨_, _, _, p⟩ := x; exact p.lt
  | dK kvs => obtain ⟨_, _, _, _, o, _, _, e, _⟩ := x; exact Heap.lt_size e
  | dT kvs => obtain ⟨_, _, _, _, o, _, _, e, _⟩ := x; exact Heap.lt_size e
  | set S n => obtain ⟨o, _, _, _, e, _⟩ := x; exact Heap.lt_size e
  | ins C dx fs => obtain ⟨_, _, _, e, _⟩ := x; exact Heap.lt_size e
  | own y => obtain ⟨_, e⟩ := x; exact Heap.lt_size e
  | xd fs => obtain ⟨_, ⟨_, _, _, e, _⟩, _⟩ := x; exact Heap.lt_size e
  | rng lo hi => obtain ⟨_, _, _, e⟩ := x; exact Heap.lt_size e
  | frz ob u => obtain ⟨e, _⟩ := x; exact Heap.lt_size e
  | tbl ps => exact Heap.lt_size (show h.get? a = some _ from x)
  | met f y => exact Heap.lt_size (show h.get? a = some _ from x)
  | ext φ => obtain ⟨_, ⟨_, e⟩, _⟩ := x; exact Heap.lt_size e
theorem Paired.mapP {α β : Type} {F G : α → β → Prop} : ∀ {l₁ : List α} {l₂ : List β}, Paired F l₁ l₂ → (∀ a b, F a b → G a b) → Paired G l₁ l₂
  | _, _, .nil, _ => .nil
  | _, _, .cons r t, f => .cons (f _ _ r) (Paired.mapP t f)
theorem ObjOk.stay (x : ObjOk P w H h a o) (k : ∀ b u, (b = a ∨ H b = some (.own a)) → h.get? b = some u → h'.get? b = some u)
    (ho : ∀ b, H b = some (.own a) → H' b = some (.own a)) (ht : ∀ b xs, H b = some (.tup xs) → H' b = some (.tup xs)) : ObjOk P w H' h' a o := by
  induction o with
  | lst xs => obtain ⟨z, its, n, r, e⟩ := x; exact ⟨z, its, n, r, k _ _ (.inl rfl) e⟩
  | tup xs => obtain ⟨z, its, r, ob, e, c⟩ := x; exact ⟨z, its, r, ob, k _ _ (.inl rfl) e, c⟩
  | dK kvs => obtain ⟨z, y, vs, r, ob, es, ep, e, c⟩ := x; exact ⟨z, y, vs, r, ob, es, ep, k _ _ (.inl rfl) e, c⟩
  | dT kvs =>
    obtain ⟨z, y, xs, r, ob, es, ep, e, c⟩ := x
    exact ⟨z, y, xs, Paired.mapP r fun p q z => ⟨z.1, ht _ _ z.2.1, z.2.2⟩, ob, es, ep, k _ _ (.inl rfl) e, c⟩
  | set S n => obtain ⟨ob, es, ep, t, e, c⟩ := x; exact ⟨ob, es, ep, t, k _ _ (.inl rfl) e, c⟩
  | ins C dx fs =>
    obtain ⟨d, z, ne, e, mA, ⟨od, es, ep, e2, c⟩, r⟩ := x
    exact ⟨ho _ d, z, ne, k _ _ (.inl rfl) e, mA, ⟨od, es, ep, k _ _ (.inr d) e2, c⟩, r⟩
  | own y => obtain ⟨ob, e⟩ := x; exact ⟨ob, k _ _ (.inl rfl) e⟩
  | xd fs => obtain ⟨mA, ⟨od, es, ep, e, c⟩, r⟩ := x; exact ⟨mA, ⟨od, es, ep, k _ _ (.inl rfl) e, c⟩, r⟩
  | rng lo hi => obtain ⟨t, u, v, e⟩ := x; exact ⟨t, u, v, k _ _ (.inl rfl) e⟩
  | frz ob u ih => obtain ⟨e, q⟩ := x; exact ⟨k _ _ (.inl rfl) e, ih q⟩
  | tbl ps =>
    have e : h.get? a = some { cls := .none, data := .fields ps } := x
    show h'.get? a = some { cls := .none, data := .fields ps }
    exact k a _ (.inl rfl) e
  | met f y =>
    have e : h.get? a = some (PySem.W.methodObj (.ref f) (.ref y)) := x
    show h'.get? a = some (PySem.W.methodObj (.ref f) (.ref y))
    exact k a _ (.inl rfl) e
  | ext φ => obtain ⟨p, ⟨o, e⟩, st⟩ := x; exact ⟨st _ _ p fun o q => k _ _ (.inl rfl) q, ⟨o, k _ _ (.inl rfl) e⟩, st⟩
theorem HOk.lt (x : HOk P w H h) (e : H a = some o) : a < h.objs.size := (x a o e).lt
theorem HOk.fresh (x : HOk P w H h) (e : h.objs.size ≤ a) : H a = none := by
  cases q : H a with
  | none => rfl
  | some u => exact absurd (Nat.lt_of_lt_of_le (x.lt q) e) (Nat.lt_irrefl _)
theorem HOk.kept (x : HOk P w H h) (k : ∀ b u, h.get? b = some u → h'.get? b = some u) : HOk P w H h' := fun a o e =>
  (x a o e).stay (fun b u _ q => k b u q) (fun _ q => q) fun _ _ q => q
theorem HOk.laid (x : HOk P w H h) (k : ∀ b u, h.get? b = some u → h'.get? b = some u) (hp : h.objs.size ≤ a) (new : ObjOk P w (upd H a o) h' a o) : HOk P w (upd H a o) h' := fun b u e => by
  have hn := x.fresh hp
  by_cases hb : b = a
  · subst hb; rw [upd_same] at e; cases e; exact new
  · rw [upd_ne hb] at e
    exact (x b u e).stay (fun c v _ q => k c v q) (fun c q => by rw [upd_ne (ne_of_none q hn)]; exact q) fun c xs q => by rw [upd_ne (ne_of_none q hn)]; exact q
end
noncomputable def Rd (H : Hp) (a : Addr) (u : HO) : Prop := H a = some u ∨ ∃ o, H a = some (.frz o u)
theorem Rd.ok {P : Program} {w : World} {H : Hp} {h : Heap} {a : Addr} {u : HO} (r : Rd H a u) (x : HOk P w H h) : ObjOk P w H h a u := by
  rcases r with r | ⟨o, r⟩
  · exact x a u r
  · obtain ⟨_, q⟩ := x a _ r
    exact q
noncomputable def Mut : Option HO → Prop
  | some (.lst _) => True
  | some (.dK _) => True
  | some (.dT _) => True
  | some (.set _ _) => True
  | some (.ins _ _ _) => True
  | some (.ext _) => True
  | _ => False
section
variable {P : Program} {w : World} {H : Hp} {h h' : Heap} {x e : Addr} {o' : HO}
theorem HOk.write (ok : HOk P w H h) (mu : Mut (H x)) (he : e = x ∨ H e = some (.own x)) (k : ∀ b u, b ≠ e → h.get? b = some u → h'.get? b = some u) (heo : ∃ u, h'.get? e = some u)
    (new : ObjOk P w (upd H x o') h' x o') : HOk P w (upd H x o') h' := fun b u q => by
  have nown : ∀ c y, H c = some (.own y) → c ≠ x := fun c y r z => by subst z; rw [r] at mu; exact mu
  have ntup : ∀ c xs, H c = some (.tup xs) → c ≠ x := fun c xs r z => by subst z; rw [r] at mu; exact mu
  by_cases hb : b = x
  · subst hb; rw [upd_same] at q; cases q; exact new
  · rw [upd_ne hb] at q
    by_cases hbe : b = e
    · have q' : H b = some (.own x) := by
        rcases he with z | z
        · exact absurd (hbe.trans z) hb
        · rw [hbe]; exact z
      rw [q] at q'; cases q'
      obtain ⟨v, hv⟩ := heo
      exact ⟨v, by rw [hbe]; exact hv⟩
    · refine (ok b u q).stay (fun c v hc r => k c v ?_ r) (fun c r => by rw [upd_ne (nown c b r)]; exact r) fun c xs r => by rw [upd_ne (ntup c xs r)]; exact r
      rcases hc with rfl | hc
      · exact hbe
      · rintro rfl
        rcases he with z | z
        · exact nown c b hc z
        · rw [hc] at z; cases z; exact hb rfl
end
structure Un (fs ex : List Addr) (H H' : Hp) (h h' : Heap) : Prop where
  keep : ∀ b o, h.get? b = some o → H b = none → b ∉ fs → b ∉ ex → h'.get? b = some o
  slot : ∀ b o, h.get? b = some o → H b = none → b ∈ fs → b ∉ ex → ∃ sl, h'.get? b = some { o with slots := sl }
  free : ∀ b o, h.get? b = some o → H b = none → b ∉ ex → H' b = none
  there : ∀ b o, h.get? b = some o → b ∉ ex → ∃ o', h'.get? b = some o'
  tups : ∀ b xs, H b = some (.tup xs) → H' b = some (.tup xs)
  frzs : ∀ b o u, H b = some (.frz o u) → H' b = some (.frz o u)
  tbls : ∀ b ps, H b = some (.tbl ps) → ∃ more, H' b = some (.tbl (ps ++ more))
section
variable {fs fs' ex ex' : List Addr} {H H1 H2 : Hp} {h h1 h2 h' : Heap} {a x e : Addr} {o : HO}
theorem Un.any (u : Un fs ex H H1 h h1) {b : Addr} {ob : Obj} (q : h.get? b = some ob) (n : H b = none) (hx : b ∉ ex) : ∃ sl, h1.get? b = some { ob with slots := sl } := by
  by_cases hb : b ∈ fs
  · exact u.slot b ob q n hb hx
  · exact ⟨ob.slots, u.keep b ob q n hb hx⟩
theorem Un.kept (k : ∀ b u, h.get? b = some u → h'.get? b = some u) : Un fs ex H H h h' :=
  ⟨fun b ob q _ _ _ => k b ob q, fun b ob q _ _ _ => ⟨ob.slots, k b ob q⟩, fun _ _ _ n _ => n, fun b ob q _ => ⟨ob, k b ob q⟩, fun _ _ q => q, fun _ _ _ q => q, fun _ ps q => ⟨#[], by rw [q]; simp⟩⟩
theorem Un.refl : Un fs ex H H h h := Un.kept fun _ _ q => q
theorem Un.laid (k : ∀ b u, h.get? b = some u → h'.get? b = some u) (hp : h.objs.size ≤ a) (hn : H a = none) : Un fs ex H (upd H a o) h h' where
  keep := fun b u q _ _ _ => k b u q
  slot := fun b u q _ _ _ => ⟨u.slots, k b u q⟩
  free := fun b u q n _ => by rw [upd_ne (Nat.ne_of_lt (Nat.lt_of_lt_of_le (Heap.lt_size q) hp))]; exact n
  there := fun b u q _ => ⟨u, k b u q⟩
  tups := fun b xs q => by rw [upd_ne (ne_of_none q hn)]; exact q
  frzs := fun b u xs q => by rw [upd_ne (ne_of_none q hn)]; exact q
  tbls := fun b ps q => ⟨#[], by rw [upd_ne (ne_of_none q hn), q]; simp⟩
theorem Un.write (mu : Mut (H x)) (he : e = x ∨ H e = some (.own x)) (k : ∀ b u, b ≠ e → h.get? b = some u → h'.get? b = some u) (heo : ∃ u, h'.get? e = some u) : Un fs ex H (upd H x o) h h' := by
  have hx : ∀ b, H b = none → b ≠ x := fun b n z => by subst z; rw [n] at mu; exact mu
  have hb : ∀ b, H b = none → b ≠ e := fun b n z => by
    subst z
    rcases he with r | r
    · exact hx b n r
    · rw [n] at r; cases r
  have hm : ∀ b u, H b = some u → ¬ Mut (some u) → b ≠ x := fun b u q nm z => by subst z; rw [q] at mu; exact nm mu
  refine ⟨fun b u q n _ _ => k b u (hb b n) q, fun b u q n _ _ => ⟨u.slots, k b u (hb b n) q⟩, fun b u q n _ => by rw [upd_ne (hx b n)]; exact n, fun b u q _ => ?_,
    fun b xs q => by rw [upd_ne (hm b _ q fun z => z)]; exact q, fun b u xs q => by rw [upd_ne (hm b _ q fun z => z)]; exact q, fun b ps q => ⟨#[], by rw [upd_ne (hm b _ q fun z => z), q]; simp⟩⟩
  by_cases hbe : b = e
  · subst hbe; exact heo
  · exact ⟨u, k b u hbe q⟩
end
noncomputable def trk (h : Heap) (H : Hp) : List Addr := (List.range h.objs.size).filter fun a => (H a).isSome
noncomputable def hidT (h : Heap) (H : Hp) : Heap := PySem.W.hideAll h (trk h H)
theorem hidT_size (h : Heap) (H : Hp) : (hidT h H).objs.size = h.objs.size := PySem.W.hideAll_size _ _
theorem hidT_get {h : Heap} {H : Hp} {b : Addr} {o : Obj} (e : h.get? b = some o) (n : H b = none) : (hidT h H).get? b = some o :=
  PySem.W.hideAll_get _ e fun hm => by
    have q : (H b).isSome = true := (List.mem_filter.mp hm).2
    rw [n] at q; simp at q
theorem of_hidT {h : Heap} {H : Hp} {b : Addr} {o : Obj} (e : (hidT h H).get? b = some o) : h.get? b = some o ∧ H b = none := by
  have e' : h.get? b = some o := PySem.W.of_hideAll (trk h H) e
  refine ⟨e', ?_⟩
  cases q : H b with
  | none => rfl
  | some x =>
    have hm : b ∈ trk h H := List.mem_filter.mpr ⟨List.mem_range.mpr (Heap.lt_size e'), by simp [q]⟩
    have z : (hidT h H).get? b = none := PySem.W.hideAll_none (trk h H) hm
    rw [z] at e; cases e
end L2
namespace L2
open PySem PySem.Spec PyProof.Rows
structure Mod (K : PySem.W.Frag) (mg : Str → Option Value) (base : Heap) : Prop where
  kin : K.In base
  glob : base.Ns mainGlobals mg
  blt : ∃ mb, base.Ns builtinsNs mb ∧ ∀ x : Str, x ≠ "__name__" → mb x = bootBuiltins x
  nolimit : base.NoLimit
structure Cx where
  prog : Program
  w : World
  K : PySem.W.Frag
  mg : Str → Option Value
  base : Heap
  A : Around
  N : List Str
  s₀ : Shared
  H₀ : Hp
  env : Env
  outer : List Env
  stack : List Env
  ex : List Addr
  fn : Str → Bool
  calm : Bool
  pn : List (Addr × Obj)
  xe : Value → Shared → Prop
noncomputable def frs (l : List Env) : List Addr := l.filterMap (·.frame)
noncomputable abbrev Cx.fs (X : Cx) : List Addr := frs X.outer
noncomputable def Vis (sc : Scope) (x : Str) : Prop := sc.names.lookup x = some .local ∨ sc.names.lookup x = some .cell ∨ sc.names.lookup x = some .free
noncomputable def Loc (sc : Scope) (x : Str) : Prop := sc.names.lookup x = some .local ∨ sc.names.lookup x = some .cell
noncomputable def Look (env : Env) (h : Heap) (m : Str → Option Value) (x : Str) (u : Value) : Prop :=
  (env.kindOf x = some .local ∧ m x = some u) ∨ ((env.kindOf x = some .cell ∨ env.kindOf x = some .free) ∧ ∃ c, env.cells.lookup x = some c ∧ h.IsCell c (some u))
structure Cx.Ok (X : Cx) : Prop where
  mod : Mod X.K X.mg X.base
  kind : X.env.scope.kind = .function
  glob : X.env.globals = mainGlobals
  blt : X.env.builtins = builtinsNs
  above : X.s₀.heap.objs.size ≤ X.env.locals
  inj : ∀ x y c, X.env.cells.lookup x = some c → X.env.cells.lookup y = some c → x = y
  has : ∀ x, (X.env.kindOf x = some .cell ∨ X.env.kindOf x = some .free) → ∃ c, X.env.cells.lookup x = some c
  cab : ∀ x c, X.fn x = true → X.env.cells.lookup x = some c → X.s₀.heap.objs.size ≤ c
  hd : X.calm = true → X.A.handled = none
  frames : X.A.frames = some X.stack
  stk : X.stack = X.outer ∨ (X.stack = X.env :: X.outer ∧ X.env.frame = some X.env.locals)
  exf : ∀ b ∈ X.ex, b ≠ X.env.locals ∧ ∀ x c, X.env.cells.lookup x = some c → c ≠ b
  bs : ∀ b o, X.base.get? b = some o → X.s₀.heap.get? b = some o ∧ X.H₀ b = none
  bsz : X.base.objs.size ≤ X.s₀.heap.objs.size
  noex : ∀ b o, X.base.get? b = some o → b ∉ X.ex
  exfs : ∀ b ∈ X.ex, b ∉ X.fs
  funs : X.s₀.heap.FunFrames X.base X.outer
  frf : ∀ b ∈ X.fs, X.H₀ b = none
structure Inv (X : Cx) (pins : List (Addr × Obj)) (σ : List (Option V)) (H : Hp) (s : Shared) : Prop where
  ok : X.Ok
  os : s.os = X.s₀.os
  bare : AllBare s.gens
  base : Un X.fs X.ex X.H₀ H X.s₀.heap s.heap
  loc : ∃ m, s.heap.Ns X.env.locals m ∧ ∀ (i : Nat) (x : Str) (v : V), X.N[i]? = some x → σ[i]? = some (some v) → Vis X.env.scope x → ∃ u, RelV v u ∧ Look X.env s.heap m x u
  cell : ∀ x c, X.env.cells.lookup x = some c → ∃ v, s.heap.IsCell c v
  free : H X.env.locals = none
  freeC : ∀ x c, X.env.cells.lookup x = some c → H c = none
  pin : ∀ p ∈ X.pn ++ pins, s.heap.get? p.1 = some p.2 ∧ H p.1 = none ∧ p.1 ≠ X.env.locals ∧ p.1 ∉ X.fs ∧ ∀ v, p.2.data ≠ .cell v
  hok : HOk X.prog X.w H s.heap
  len : σ.length = X.N.length
section
variable {X : Cx} {pins : List (Addr × Obj)} {σ : List (Option V)} {H H' : Hp} {s : Shared} {h' : Heap}
theorem Cx.Ok.nofr (ok : X.Ok) {b : Addr} {o : Obj} (e : X.base.get? b = some o) : b ∉ X.fs := fun hb => by
  have := (ok.funs.mem hb).1
  rw [e] at this; cases this
theorem Inv.bs (I : Inv X pins σ H s) : ∀ b o, X.base.get? b = some o → s.heap.get? b = some o ∧ H b = none := fun b o e =>
  ⟨I.base.keep b o (I.ok.bs b o e).1 (I.ok.bs b o e).2 (I.ok.nofr e) (I.ok.noex b o e), I.base.free b o (I.ok.bs b o e).1 (I.ok.bs b o e).2 (I.ok.noex b o e)⟩
theorem Inv.bk (I : Inv X pins σ H s) : ∀ b o, X.base.get? b = some o → s.heap.get? b = some o := fun b o e => (I.bs b o e).1
theorem Inv.mod (I : Inv X pins σ H s) : Mod X.K X.mg X.base := I.ok.mod
theorem Inv.kIn (I : Inv X pins σ H s) : X.K.In s.heap := I.ok.mod.kin.keeps I.bk
theorem Inv.lt (I : Inv X pins σ H s) : X.env.locals < s.heap.objs.size := let ⟨_, hn, _⟩ := I.loc; hn.lt
theorem Inv.sz (I : Inv X pins σ H s) : X.s₀.heap.objs.size ≤ s.heap.objs.size := Nat.le_trans I.ok.above (Nat.le_of_lt I.lt)
theorem Inv.nofs (I : Inv X pins σ H s) {a : Addr} (h : s.heap.objs.size ≤ a) : a ∉ X.fs := fun hb => by
  obtain ⟨_, o, ho, _⟩ := I.ok.funs.mem hb
  exact absurd (Nat.lt_of_lt_of_le (Heap.lt_size ho) (Nat.le_trans I.sz h)) (Nat.lt_irrefl _)
theorem Inv.cne (I : Inv X pins σ H s) : ∀ x c, X.env.cells.lookup x = some c → c ≠ X.env.locals := fun x c e z => by
  obtain ⟨v, o, ho, hd⟩ := I.cell x c e
  obtain ⟨m, ⟨o', es, ep, ho', hd', _⟩, _⟩ := I.loc
  rw [z, ho'] at ho; cases ho; rw [hd'] at hd; cases hd
theorem Inv.funs (I : Inv X pins σ H s) : s.heap.FunFrames X.base X.outer := by
  have all : ∀ (l : List Env), (∀ b ∈ frs l, b ∈ X.fs) → X.s₀.heap.FunFrames X.base l → s.heap.FunFrames X.base l := by
    intro l
    induction l with
    | nil => intro _ _; trivial
    | cons env r ih =>
      intro hs hl
      obtain ⟨hk, ⟨L, o, hf, hn, ho, hd⟩, hr⟩ := hl
      have hL : L ∈ X.fs := hs L (by unfold frs; rw [List.filterMap_cons, hf]; exact List.mem_cons_self)
      obtain ⟨sl, e⟩ := I.base.slot L o ho (I.ok.frf L hL) hL fun z => I.ok.exfs L z hL
      exact ⟨hk, ⟨L, _, hf, hn, e, hd⟩, ih (fun b hb => hs b (by unfold frs; rw [List.filterMap_cons, hf]; exact List.mem_cons_of_mem _ hb)) hr⟩
  exact all X.outer (fun _ hb => hb) I.ok.funs
theorem Inv.stack (I : Inv X pins σ H s) : s.heap.FunFrames X.base X.stack := by
  rcases I.ok.stk with e | ⟨e, hf⟩
  · rw [e]; exact I.funs
  · rw [e]
    obtain ⟨m, hn, _⟩ := I.loc
    refine .cons (by rw [I.ok.kind]; decide) hf hn ?_ I.funs
    exact Heap.get?_none_of_le (Nat.le_trans I.ok.bsz I.ok.above)
theorem Inv.stkSub (I : Inv X pins σ H s) : ∀ b ∈ frs X.stack, b ∈ X.env.locals :: X.fs := fun b hb => by
  rcases I.ok.stk with e | ⟨e, hf⟩
  · rw [e] at hb; exact List.mem_cons_of_mem _ hb
  · rw [e] at hb
    unfold frs at hb
    rw [List.filterMap_cons, hf] at hb
    exact hb
theorem Inv.stkFree (I : Inv X pins σ H s) : ∀ b ∈ frs X.stack, H b = none := fun b hb => by
  rcases List.mem_cons.mp (I.stkSub b hb) with e | hb
  · rw [e]; exact I.free
  · obtain ⟨_, o, ho, _⟩ := I.ok.funs.mem hb
    exact I.base.free b o ho (I.ok.frf b hb) fun z => I.ok.exfs b z hb
theorem Inv.step {g' : Array GenState} {t' : Nat} {d' : Drawn} {ch : List Addr} (I : Inv X pins σ H s)
    (hch : ∀ b ∈ ch, (b ∈ X.ex ∨ X.s₀.heap.objs.size ≤ b) ∧ b ≠ X.env.locals ∧ (∀ x c, X.env.cells.lookup x = some c → c ≠ b) ∧ ∀ p ∈ X.pn ++ pins, p.1 ≠ b)
    (keep : ∀ b o, b ≠ X.env.locals → b ∉ X.fs → b ∉ ch → s.heap.get? b = some o → H b = none → h'.get? b = some o)
    (slot : ∀ b o, b ≠ X.env.locals → b ∈ X.fs → b ∉ ch → s.heap.get? b = some o → H b = none → ∃ sl, h'.get? b = some { o with slots := sl }) (free : ∀ b o, b ∉ ch → s.heap.get? b = some o → H b = none → H' b = none)
    (there : ∀ b o, b ∉ ch → s.heap.get? b = some o → ∃ o', h'.get? b = some o')
    (tups : ∀ b xs, H b = some (.tup xs) → H' b = some (.tup xs)) (frzs : ∀ b o u, H b = some (.frz o u) → H' b = some (.frz o u)) (tbls : ∀ b ps, H b = some (.tbl ps) → ∃ more, H' b = some (.tbl (ps ++ more)))
    (ns : ∀ m, s.heap.Ns X.env.locals m → h'.Ns X.env.locals m) (hok : HOk X.prog X.w H' h') (hg : AllBare g') :
    Inv X pins σ H' { s with heap := h', gens := g', drawn := d', toks := t' } := by
  have neL : ∀ b o, X.s₀.heap.get? b = some o → b ≠ X.env.locals := fun b o e => Nat.ne_of_lt (Nat.lt_of_lt_of_le (Heap.lt_size e) I.ok.above)
  have neC : ∀ b o, X.s₀.heap.get? b = some o → b ∉ X.ex → b ∉ ch := fun b o e hx hb => by
    rcases (hch b hb).1 with z | z
    · exact hx z
    · exact absurd (Nat.lt_of_lt_of_le (Heap.lt_size e) z) (Nat.lt_irrefl _)
  have cellK : ∀ x c, X.env.cells.lookup x = some c → ∀ v, s.heap.IsCell c v → h'.IsCell c v := fun x c e v ⟨o, ho, hd⟩ => by
    have nch : c ∉ ch := fun z => (hch c z).2.2.1 x c e rfl
    by_cases hc : c ∈ X.fs
    · obtain ⟨sl, q⟩ := slot c o (I.cne x c e) hc nch ho (I.freeC x c e)
      exact ⟨_, q, hd⟩
    · exact ⟨o, keep c o (I.cne x c e) hc nch ho (I.freeC x c e), hd⟩
  refine ⟨I.ok, I.os, hg, ⟨fun b o e n hb hx => ?_, fun b o e n hb hx => ?_, fun b o e n hx => ?_, fun b o e hx => ?_, fun b xs e => tups b xs (I.base.tups b xs e), fun b o xs e => frzs b o xs (I.base.frzs b o xs e), fun b ps e => ?_⟩, ?_, fun x c e => ?_, ?_, fun x c e => ?_, fun p hp => ?_, hok, I.len⟩
  · exact keep b o (neL b o e) hb (neC b o e hx) (I.base.keep b o e n hb hx) (I.base.free b o e n hx)
  · obtain ⟨sl, e1⟩ := I.base.slot b o e n hb hx
    obtain ⟨sl', e2⟩ := slot b _ (neL b o e) hb (neC b o e hx) e1 (I.base.free b o e n hx)
    exact ⟨sl', e2⟩
  · obtain ⟨o', e1⟩ := I.base.there b o e hx
    exact free b o' (neC b o e hx) e1 (I.base.free b o e n hx)
  · obtain ⟨o', e1⟩ := I.base.there b o e hx
    exact there b o' (neC b o e hx) e1
  · obtain ⟨m1, e1⟩ := I.base.tbls b ps e
    obtain ⟨m2, e2⟩ := tbls b _ e1
    exact ⟨m1 ++ m2, by rw [e2, Array.append_assoc]⟩
  · obtain ⟨m, hn, hl⟩ := I.loc
    refine ⟨m, ns m hn, fun i x v e1 e2 e3 => ?_⟩
    obtain ⟨u, r, l⟩ := hl i x v e1 e2 e3
    refine ⟨u, r, ?_⟩
    rcases l with l | ⟨k, c, e, z⟩
    · exact .inl l
    · exact .inr ⟨k, c, e, cellK x c e _ z⟩
  · obtain ⟨v, z⟩ := I.cell x c e
    exact ⟨v, cellK x c e v z⟩
  · obtain ⟨m, ⟨o, _, _, ho, _⟩, _⟩ := I.loc
    exact free _ o (fun z => (hch _ z).2.1 rfl) ho I.free
  · obtain ⟨v, o, ho, hd⟩ := I.cell x c e
    exact free c o (fun z => (hch c z).2.2.1 x c e rfl) ho (I.freeC x c e)
  · obtain ⟨e, n, ne, nf, d⟩ := I.pin p hp
    have nch : p.1 ∉ ch := fun z => (hch p.1 z).2.2.2 p hp rfl
    exact ⟨keep p.1 p.2 ne nf nch e n, free p.1 p.2 nch e n, ne, nf, d⟩
theorem Inv.un {t' : Nat} (I : Inv X pins σ H s) (u : Un X.fs [] H H' s.heap h') (hok : HOk X.prog X.w H' h') : Inv X pins σ H' { s with heap := h', toks := t' } := by
  obtain ⟨m, ⟨o, es, ep, ho, r⟩, _⟩ := id I.loc
  obtain ⟨sl, hL⟩ := u.any ho I.free (by simp)
  exact I.step (g' := s.gens) (d' := s.drawn) (ch := []) (fun _ z => nomatch z) (fun b o _ hb _ e n => u.keep b o e n hb (by simp)) (fun b o _ hb _ e n => u.slot b o e n hb (by simp)) (fun b o _ e n => u.free b o e n (by simp)) (fun b o _ e => u.there b o e (by simp)) u.tups u.frzs u.tbls (fun m' hm => by
    obtain ⟨o', es', ep', ho', r'⟩ := hm
    rw [ho] at ho'; cases ho'
    exact ⟨_, es', ep', hL, r'⟩) hok I.bare
theorem Inv.call {g' : Array GenState} {t' : Nat} {d' : Drawn} {ch : List Addr} (I : Inv X pins σ H s) (u : Un (frs X.stack) ch H H' s.heap h') (hok : HOk X.prog X.w H' h') (hg : AllBare g')
    (hch : ∀ b ∈ ch, (b ∈ X.ex ∨ X.s₀.heap.objs.size ≤ b) ∧ b ≠ X.env.locals ∧ (∀ x c, X.env.cells.lookup x = some c → c ≠ b) ∧ ∀ p ∈ X.pn ++ pins, p.1 ≠ b) :
    Inv X pins σ H' { s with heap := h', gens := g', drawn := d', toks := t' } := by
  obtain ⟨m, ⟨o, es, ep, ho, r⟩, _⟩ := id I.loc
  obtain ⟨sl, hL⟩ := u.any ho I.free fun z => (hch _ z).2.1 rfl
  exact I.step (ch := ch) hch (fun b o hL hb hc e n => u.keep b o e n (fun z => (List.mem_cons.mp (I.stkSub b z)).elim hL hb) hc) (fun b o _ _ hc e n => u.any e n hc) (fun b o hc e n => u.free b o e n hc) (fun b o hc e => u.there b o e hc) u.tups u.frzs u.tbls (fun m' hm => by
    obtain ⟨o', es', ep', ho', r'⟩ := hm
    rw [ho] at ho'; cases ho'
    exact ⟨_, es', ep', hL, r'⟩) hok hg
theorem Inv.turned {t' : Nat} {it : Addr} (I : Inv X pins σ H s) (k : ∀ b o, b ≠ it → s.heap.get? b = some o → h'.get? b = some o) (hn : H it = none) (hL : it ≠ X.env.locals)
    (h1 : it ∈ X.ex ∨ X.s₀.heap.objs.size ≤ it) (h2 : ∀ x c, X.env.cells.lookup x = some c → c ≠ it) (h3 : ∀ p ∈ X.pn ++ pins, p.1 ≠ it) : Inv X pins σ H { s with heap := h', toks := t' } := by
  have nit : ∀ b u, H b = some u → b ≠ it := fun b u e z => by rw [z, hn] at e; cases e
  refine I.step (g' := s.gens) (d' := s.drawn) (ch := [it]) (fun b hb => ?_) (fun b o _ _ hc e _ => k b o (fun z => hc (by simp [z])) e) (fun b o _ _ hc e _ => ⟨o.slots, k b o (fun z => hc (by simp [z])) e⟩) (fun _ _ _ _ n => n)
    (fun b o hc e => ⟨o, k b o (fun z => hc (by simp [z])) e⟩) (fun _ _ e => e) (fun _ _ _ e => e) (fun b ps e => ⟨#[], by rw [e]; simp⟩) (fun m hm => ?_) (fun b u e => ?_) I.bare
  · have e : b = it := by simpa using hb
    subst e
    exact ⟨h1, hL, h2, h3⟩
  · obtain ⟨o, es, ep, ho, r⟩ := hm
    exact ⟨o, es, ep, k _ o (Ne.symm hL) ho, r⟩
  · refine (I.hok b u e).stay (fun c v hc q => k c v ?_ q) (fun _ q => q) fun _ _ q => q
    rcases hc with z | z
    · rw [z]; exact nit b u e
    · exact nit c _ z
theorem Inv.tok (I : Inv X pins σ H s) (t : Nat) : Inv X pins σ H { s with toks := t } := I.un (h' := s.heap) (t' := t) Un.refl I.hok
theorem Inv.kept {t' : Nat} (I : Inv X pins σ H s) (k : ∀ b u, s.heap.get? b = some u → h'.get? b = some u) : Inv X pins σ H { s with heap := h', toks := t' } := I.un (Un.kept k) (I.hok.kept k)
theorem Inv.laid {a : Addr} {o : HO} {t' : Nat} (I : Inv X pins σ H s) (k : ∀ b u, s.heap.get? b = some u → h'.get? b = some u) (hp : s.heap.objs.size ≤ a) (new : ObjOk X.prog X.w (upd H a o) h' a o) :
    Inv X pins σ (upd H a o) { s with heap := h', toks := t' } := I.un (Un.laid k hp (I.hok.fresh hp)) (I.hok.laid k hp new)
theorem Inv.write {x e : Addr} {o : HO} {t' : Nat} (I : Inv X pins σ H s) (mu : Mut (H x)) (he : e = x ∨ H e = some (.own x)) (k : ∀ b u, b ≠ e → s.heap.get? b = some u → h'.get? b = some u) (heo : ∃ u, h'.get? e = some u)
    (new : ObjOk X.prog X.w (upd H x o) h' x o) : Inv X pins σ (upd H x o) { s with heap := h', toks := t' } := I.un (Un.write mu he k heo) (I.hok.write mu he k heo new)
theorem Inv.pins_of {pins' : List (Addr × Obj)} (I : Inv X pins σ H s) (h : ∀ p ∈ pins', s.heap.get? p.1 = some p.2 ∧ H p.1 = none ∧ p.1 ≠ X.env.locals ∧ p.1 ∉ X.fs ∧ ∀ v, p.2.data ≠ .cell v) : Inv X pins' σ H s :=
  ⟨I.ok, I.os, I.bare, I.base, I.loc, I.cell, I.free, I.freeC, fun p hp => (List.mem_append.mp hp).elim (fun z => I.pin p (List.mem_append_left _ z)) (h p), I.hok, I.len⟩
theorem nodup_ix {N : List Str} (hN : N.Nodup) {i j : Nat} {x : Str} (a : N[i]? = some x) (b : N[j]? = some x) : i = j := by
  obtain ⟨h1, e1⟩ := List.getElem?_eq_some_iff.mp a
  obtain ⟨h2, e2⟩ := List.getElem?_eq_some_iff.mp b
  exact (List.getElem_inj hN).mp (e1.trans e2.symm)
theorem store_ok2 {M : Model} {A : Around} {E : Value → Shared → Prop} {i : Nat} {x : Str} {v : V} {u : Value} {Q : Unit → Shared → Prop} (I : Inv X pins σ H s) (hN : X.N.Nodup) (hi : X.N[i]? = some x) (hx : Loc X.env.scope x) (r : RelV v u)
    (h : ∀ s', Inv X pins (σ.set i (some v)) H s' → (∃ a, Heap.SameBut a s.heap s'.heap ∧ (a = X.env.locals ∨ X.env.cells.lookup x = some a)) → Q () s') (hf : X.fn x = true ∨ X.env.scope.names.lookup x = some .local := by first | exact .inl rfl | exact .inr rfl | assumption) : wpAny M A (storeName X.env x u) Q E s := by
  obtain ⟨m, hn, hl⟩ := id I.loc
  have hcls : (X.env.scope.kind == .class || (X.env.scope.kind == .module && X.env.locals != X.env.globals)) = false := by rw [I.ok.kind]; rfl
  have hiσ : i < σ.length := by rw [I.len]; exact (List.getElem?_eq_some_iff.mp hi).1
  have cne := I.cne
  have tracked : ∀ {a : Addr} {h' : Heap}, (∃ o, s.heap.get? a = some o ∧ H a = none) → Heap.SameBut a s.heap h' → HOk X.prog X.w H h' := fun {a h'} ha hs b ob e => by
    obtain ⟨_, _, hfree⟩ := ha
    refine (I.hok b ob e).stay (fun c w' hc q => (hs.2 c ?_).trans q) (fun _ q => q) fun _ _ q => q
    rintro rfl
    rcases hc with rfl | hc
    · rw [hfree] at e; cases e
    · rw [hfree] at hc; cases hc
  rcases hx with hk | hk
  · refine wpAny_storeName_local hk hn (fun h' hn' hs => ?_) hcls
    obtain ⟨oL, _, _, hoL, _⟩ := id hn
    refine h _ ⟨I.ok, I.os, I.bare, ⟨fun b o e n hb hx => ?_, fun b o e n hb hx => ?_, I.base.free, fun b o e hx => ?_, I.base.tups, I.base.frzs, I.base.tbls⟩, ⟨_, hn', fun j y v' e1 e2 e3 => ?_⟩, fun y c e => ?_, I.free, I.freeC, fun p hp => ?_, tracked ⟨oL, hoL, I.free⟩ hs, by simpa using I.len⟩ ⟨_, hs, .inl rfl⟩
    · exact (hs.2 b (Nat.ne_of_lt (Nat.lt_of_lt_of_le (Heap.lt_size e) I.ok.above))).trans (I.base.keep b o e n hb hx)
    · obtain ⟨sl, e1⟩ := I.base.slot b o e n hb hx
      exact ⟨sl, (hs.2 b (Nat.ne_of_lt (Nat.lt_of_lt_of_le (Heap.lt_size e) I.ok.above))).trans e1⟩
    · obtain ⟨o', e1⟩ := I.base.there b o e hx
      exact ⟨o', (hs.2 b (Nat.ne_of_lt (Nat.lt_of_lt_of_le (Heap.lt_size e) I.ok.above))).trans e1⟩
    · by_cases hj : j = i
      · subst hj
        rw [hi] at e1; cases e1
        rw [List.getElem?_set_self hiσ] at e2
        cases e2
        exact ⟨u, r, .inl ⟨hk, by simp⟩⟩
      · rw [List.getElem?_set_ne (Ne.symm hj)] at e2
        obtain ⟨u', r', q⟩ := hl j y v' e1 e2 e3
        refine ⟨u', r', ?_⟩
        rcases q with ⟨k, e⟩ | ⟨k, c, e, z⟩
        · refine .inl ⟨k, ?_⟩
          have : y ≠ x := fun e => hj (nodup_ix hN e1 (e ▸ hi))
          simp [this, e]
        · exact .inr ⟨k, c, e, z.sameBut hs (cne y c e)⟩
    · obtain ⟨w', z⟩ := I.cell y c e
      exact ⟨w', z.sameBut hs (cne y c e)⟩
    · obtain ⟨e, n, ne, nf, d⟩ := I.pin p hp
      exact ⟨(hs.2 p.1 ne).trans e, n, ne, nf, d⟩
  · have hfn : X.fn x = true := by
      rcases hf with z | z
      · exact z
      · rw [z] at hk; cases hk
    obtain ⟨c, hc⟩ := I.ok.has x (.inl hk)
    obtain ⟨w', z⟩ := I.cell x c hc
    refine wpAny_storeName_cell I.ok.kind hk hc z (fun h' hc' hs => ?_)
    obtain ⟨oc, hoc, hocd⟩ := id z
    refine h { s with heap := h' } ⟨I.ok, I.os, I.bare, ⟨fun b o e n hb hx => ?_, fun b o e n hb hx => ?_, I.base.free, fun b o e hx => ?_, I.base.tups, I.base.frzs, I.base.tbls⟩, ⟨m, hn.sameBut hs (Ne.symm (cne x c hc)), fun j y v' e1 e2 e3 => ?_⟩, fun y c' e => ?_, I.free, I.freeC, fun p hp => ?_, tracked ⟨oc, hoc, I.freeC x c hc⟩ hs, by simpa using I.len⟩ ⟨c, hs, .inr hc⟩
    · exact (hs.2 b (Nat.ne_of_lt (Nat.lt_of_lt_of_le (Heap.lt_size e) (I.ok.cab x c hfn hc)))).trans (I.base.keep b o e n hb hx)
    · obtain ⟨sl, e1⟩ := I.base.slot b o e n hb hx
      exact ⟨sl, (hs.2 b (Nat.ne_of_lt (Nat.lt_of_lt_of_le (Heap.lt_size e) (I.ok.cab x c hfn hc)))).trans e1⟩
    · obtain ⟨o', e1⟩ := I.base.there b o e hx
      exact ⟨o', (hs.2 b (Nat.ne_of_lt (Nat.lt_of_lt_of_le (Heap.lt_size e) (I.ok.cab x c hfn hc)))).trans e1⟩
    · by_cases hj : j = i
      · subst hj
        rw [hi] at e1; cases e1
        rw [List.getElem?_set_self hiσ] at e2
        cases e2
        exact ⟨u, r, .inr ⟨.inl hk, c, hc, hc'⟩⟩
      · rw [List.getElem?_set_ne (Ne.symm hj)] at e2
        obtain ⟨u', r', q⟩ := hl j y v' e1 e2 e3
        refine ⟨u', r', ?_⟩
        rcases q with q | ⟨k, c', e, z'⟩
        · exact .inl q
        · refine .inr ⟨k, c', e, z'.sameBut hs ?_⟩
          rintro rfl
          exact hj (nodup_ix hN e1 (I.ok.inj _ _ _ e hc ▸ hi))
    · by_cases hcc : c' = c
      · subst hcc; exact ⟨_, hc'⟩
      · obtain ⟨w2, z2⟩ := I.cell y c' e
        exact ⟨w2, z2.sameBut hs hcc⟩
    · obtain ⟨e, n, ne, nf, d⟩ := I.pin p hp
      refine ⟨(hs.2 p.1 ?_).trans e, n, ne, nf, d⟩
      intro q
      rw [q, hoc] at e
      have q' : oc = p.2 := Option.some.inj e
      exact d w' (by rw [← q']; exact hocd)
theorem store_ok {M : Model} {A : Around} {E : Value → Shared → Prop} {i : Nat} {x : Str} {v : V} {u : Value} {Q : Unit → Shared → Prop} (I : Inv X pins σ H s) (hN : X.N.Nodup) (hi : X.N[i]? = some x) (hx : Loc X.env.scope x) (r : RelV v u)
    (h : ∀ s', Inv X pins (σ.set i (some v)) H s' → Q () s') (hf : X.fn x = true ∨ X.env.scope.names.lookup x = some .local := by first | exact .inl rfl | exact .inr rfl | assumption) : wpAny M A (storeName X.env x u) Q E s :=
  store_ok2 I hN hi hx r (fun s' I' _ => h s' I') hf
theorem Inv.call' {s' : Shared} {ch : List Addr} (I : Inv X pins σ H s) (ho : s'.os = s.os) (u : Un (frs X.stack) ch H H' s.heap s'.heap) (hok : HOk X.prog X.w H' s'.heap) (hg : AllBare s'.gens)
    (hch : ∀ b ∈ ch, (b ∈ X.ex ∨ X.s₀.heap.objs.size ≤ b) ∧ b ≠ X.env.locals ∧ (∀ x c, X.env.cells.lookup x = some c → c ≠ b) ∧ ∀ p ∈ X.pn ++ pins, p.1 ≠ b) : Inv X pins σ H' s' := by
  obtain ⟨h', g', d', t', o'⟩ := s'
  have e : o' = s.os := ho
  subst e
  exact I.call (g' := g') (t' := t') (d' := d') u hok hg hch
end
noncomputable abbrev XK := Value → Option Addr → Hp → Prop
noncomputable abbrev St := List (Option V)
noncomputable abbrev VK := V → Hp → Prop
noncomputable abbrev TE := St → Hp → VK → Prop
noncomputable abbrev TT := St → Hp → (Bool → Hp → Prop) → Prop
noncomputable abbrev TA := St → Hp → (List V → Hp → Prop) → Prop
structure Ends where
  nx : St → Hp → Prop
  rt : VK
  bk : St → Hp → Prop := fun _ _ => False
  ct : St → Hp → Prop := fun _ _ => False
noncomputable abbrev TS := Ends → St → Hp → Prop
noncomputable def EP (X : Cx) (pins : List (Addr × Obj)) (σ : St) (Q : VK) (u : Value) (s' : Shared) : Prop := ∃ v H', Inv X pins σ H' s' ∧ RelV v u ∧ Q v H'
noncomputable def TP (X : Cx) (pins : List (Addr × Obj)) (σ : St) (Q : Bool → Hp → Prop) (b : Bool) (s' : Shared) : Prop := ∃ H', Inv X pins σ H' s' ∧ Q b H'
noncomputable def AP (X : Cx) (pins : List (Addr × Obj)) (σ : St) (Q : List V → Hp → Prop) (us : List Value) (s' : Shared) : Prop := ∃ vs H', Inv X pins σ H' s' ∧ Vals vs us ∧ Q vs H'
noncomputable def SP (X : Cx) (pins : List (Addr × Obj)) (D : Ends) (f : Flow) (s' : Shared) : Prop :=
  match f with
  | .next => ∃ σ' H', Inv X pins σ' H' s' ∧ D.nx σ' H'
  | .brk => ∃ σ' H', Inv X pins σ' H' s' ∧ D.bk σ' H'
  | .cont => ∃ σ' H', Inv X pins σ' H' s' ∧ D.ct σ' H'
  | .ret u => ∃ v σ' H', Inv X pins σ' H' s' ∧ RelV v u ∧ D.rt v H'
noncomputable def PE (X : Cx) (e : Expr) (t : TE) : Prop :=
  ∀ (pins : List (Addr × Obj)) (s : Shared) (σ : St) (H : Hp) (Q : VK), Inv X pins σ H s → t σ H Q → wpAny (model X.prog X.w) X.A (eval e X.env) (EP X pins σ Q) X.xe s
noncomputable def PT (X : Cx) (e : Expr) (t : TT) : Prop :=
  ∀ (pins : List (Addr × Obj)) (s : Shared) (σ : St) (H : Hp) (Q : Bool → Hp → Prop), Inv X pins σ H s → t σ H Q → wpAny (model X.prog X.w) X.A (isTrue e X.env (eval e X.env)) (TP X pins σ Q) X.xe s
noncomputable def PW (X : Cx) (e : Expr) (t : TT) : Prop :=
  ∀ (whole : Sem Value) (pins : List (Addr × Obj)) (s : Shared) (σ : St) (H : Hp) (Q : Bool → Hp → Prop), Inv X pins σ H s → t σ H Q → wpAny (model X.prog X.w) X.A (isTrue e X.env whole) (TP X pins σ Q) X.xe s
theorem PW.pt {X : Cx} {e : Expr} {t : TT} (h : PW X e t) : PT X e t := h _
noncomputable def PA (X : Cx) (es : List Expr) (t : TA) : Prop :=
  ∀ (pos : Pos) (pins : List (Addr × Obj)) (s : Shared) (σ : St) (H : Hp) (Q : List V → Hp → Prop), Inv X pins σ H s → t σ H Q → wpAny (model X.prog X.w) X.A (spliced (backTo pos (starEach es X.env))) (AP X pins σ Q) X.xe s
noncomputable def PS (X : Cx) (st : Stmt) (t : TS) : Prop :=
  ∀ (pins : List (Addr × Obj)) (s : Shared) (σ : St) (H : Hp) (D : Ends), Inv X pins σ H s → t D σ H → wpAny (model X.prog X.w) X.A (exec st X.env) (SP X pins D) X.xe s
noncomputable def PSs (X : Cx) (st : List Stmt) (t : TS) : Prop :=
  ∀ (pins : List (Addr × Obj)) (s : Shared) (σ : St) (H : Hp) (D : Ends), Inv X pins σ H s → t D σ H → wpAny (model X.prog X.w) X.A (execs st X.env) (SP X pins D) X.xe s
theorem thn {α : Type} {t : Sem α} {Q Q' : α → Shared → Prop} {M : Model} {A : Around} {E : Value → Shared → Prop} {s : Shared} (h : wpAny M A t Q E s) (hQ : ∀ a s, Q a s → Q' a s) : wpAny M A t Q' E s := wpAny_mono h hQ fun _ _ x => x
end L2
namespace L2
open PySem PySem.Spec PyProof.Rows
section
variable {X : Cx}
noncomputable def tVar (i : Nat) : TE := fun σ H Q => ∃ v, σ[i]? = some (some v) ∧ Q v H
noncomputable def tC (v : V) : TE := fun _ H Q => Q v H
theorem pe_var {i : Nat} {x : Str} {pos : Pos} (hN : X.N[i]? = some x) (hv : Vis X.env.scope x) (hd : (x == ("__debug__" : Str)) = false := by decide) (hcd : (x == ("__classdict__" : Str)) = false := by decide) : PE X (.Name x pos) (tVar i) := by
  intro pins s σ H Q I h
  obtain ⟨v, e, h⟩ := h
  obtain ⟨m, hn, hl⟩ := I.loc
  obtain ⟨u, r, l⟩ := hl i x v hN e hv
  have fin : EP X pins σ Q u s := ⟨v, H, I, r, h⟩
  rcases l with ⟨hk, hm⟩ | ⟨hk, c, hc, hcell⟩
  · exact wpAny_Name (wpAny_loadName_local I.ok.kind hk hn hm fin) hd
  · rcases hk with hk | hk
    · exact wpAny_Name (wpAny_loadName_cell I.ok.kind hk hc hcell fin) hd
    · exact wpAny_Name (wpAny_loadName_free I.ok.kind hk hc hcell fin hcd) hd
theorem pe_int {i j pos} : PE X (.Constant (.int i) j pos) (tC (.int i)) := fun _ _ _ H _ I h => wpAny_Constant_int ⟨.int i, H, I.tok _, ⟨_, rfl⟩, h⟩
theorem pe_bl {b j pos} : PE X (.Constant (.bool b) j pos) (tC (.bl b)) := fun _ _ _ H _ I h => Constant_bool ⟨.bl b, H, I, rfl, h⟩
theorem pe_non {j pos} : PE X (.Constant .none j pos) (tC .non) := fun _ _ _ H _ I h => Constant_none ⟨.non, H, I, rfl, h⟩
theorem pe_str {x j pos} : PE X (.Constant (.str x) j pos) (tC (.str x)) := fun _ _ _ H _ I h => Calls.Constant_str ⟨.str x, H, I.tok _, ⟨_, rfl⟩, h⟩
noncomputable def Gl (X : Cx) (x : Str) : Prop := X.env.kindOf x = some .globalImplicit
theorem ld_glob {E : Value → Shared → Prop} {pins : List (Addr × Obj)} {s : Shared} {σ : St} {H : Hp} {x : Str} {u : Value} {pos : Pos} {Q : Value → Shared → Prop} (I : Inv X pins σ H s) (hg : Gl X x) (hm : X.mg x = some u) (h : Q u s)
    (hd : (x == ("__debug__" : Str)) = false := by decide) : wpAny (model X.prog X.w) X.A (eval (.Name x pos) X.env) Q E s :=
  Calls.Name_function_global I.ok.kind hg (Calls.loadGlobal_global (by rw [I.ok.glob]; exact I.mod.glob.keeps I.bk) hm h) hd
theorem ld_blt {E : Value → Shared → Prop} {pins : List (Addr × Obj)} {s : Shared} {σ : St} {H : Hp} {x : Str} {u : Value} {pos : Pos} {Q : Value → Shared → Prop} (I : Inv X pins σ H s) (hg : Gl X x) (hm : X.mg x = none) (hv : bootBuiltins x = some u) (h : Q u s)
    (hn : x ≠ "__name__" := by decide) (hd : (x == ("__debug__" : Str)) = false := by decide) : wpAny (model X.prog X.w) X.A (eval (.Name x pos) X.env) Q E s := by
  obtain ⟨mb, h1, h2⟩ := I.mod.blt
  exact Calls.Name_function_global I.ok.kind hg (Calls.loadGlobal_builtin (by rw [I.ok.glob]; exact I.mod.glob.keeps I.bk) hm (by rw [I.ok.blt]; exact h1.keeps I.bk) ((h2 x hn).trans hv) h) hd
theorem pe_glob {x : Str} {v : V} {u : Value} {pos : Pos} (hg : Gl X x) (hm : X.mg x = some u) (r : RelV v u) (hd : (x == ("__debug__" : Str)) = false := by decide) : PE X (.Name x pos) (tC v) :=
  fun _ _ _ H _ I h => ld_glob I hg hm ⟨v, H, I, r, h⟩ hd
theorem pe_bltn {x : Str} {v : V} {u : Value} {pos : Pos} (hg : Gl X x) (hm : X.mg x = none) (hv : bootBuiltins x = some u) (r : RelV v u) (hn : x ≠ "__name__" := by decide) (hd : (x == ("__debug__" : Str)) = false := by decide) : PE X (.Name x pos) (tC v) :=
  fun _ _ _ H _ I h => ld_blt I hg hm hv ⟨v, H, I, r, h⟩ hn hd
variable {a b : Expr} {ta tb : TE} {pos : Pos}
noncomputable def PC (X : Cx) (op : CmpOp) (a b : Expr) (t : TE) : Prop :=
  ∀ (pins : List (Addr × Obj)) (s : Shared) (σ : St) (H : Hp) (Q : VK), Inv X pins σ H s → t σ H Q →
    wpAny (model X.prog X.w) X.A (eval a X.env) (fun v s₁ => wpAny (model X.prog X.w) X.A (eval b X.env) (fun u s₂ => wpAny (model X.prog X.w) X.A (compareOp op v u) (EP X pins σ Q) X.xe s₂) X.xe s₁) X.xe s
theorem nobehind (b : Expr) {op : CmpOp} (h : op ≠ .In) (h2 : op ≠ .NotIn) : behindInMarks op b = false := by
  have e1 : (op == CmpOp.In) = false := by cases op <;> first | rfl | exact absurd rfl h
  have e2 : (op == CmpOp.NotIn) = false := by cases op <;> first | rfl | exact absurd rfl h2
  cases b <;> simp [behindInMarks, e1, e2]
noncomputable def tIsN (ta : TE) : TE := fun σ H Q => ta σ H fun x H1 => Q (.bl (decide (x = .non))) H1
noncomputable def tNotN (ta : TE) : TE := fun σ H Q => ta σ H fun x H1 => Q (.bl (!decide (x = .non))) H1
theorem RelV.none_iff {x : V} {v : Value} (r : RelV x v) : (v == Value.none) = decide (x = .non) := by
  cases x with
  | non => cases r; rfl
  | bl _ => cases r; rfl
  | int _ => obtain ⟨t, rfl⟩ := r; rfl
  | str _ => obtain ⟨t, rfl⟩ := r; rfl
  | byt _ => obtain ⟨t, rfl⟩ := r; rfl
  | flt _ => obtain ⟨t, rfl⟩ := r; rfl
  | ref _ => cases r; rfl
  | ty _ => cases r; rfl
theorem pc_isN {j pos'} (ha : PE X a ta) : PC X .Is a (.Constant .none j pos') (tIsN ta) := by
  intro pins s σ H Q I h
  refine thn (ha pins s σ H _ I h) fun v s1 ⟨x, H1, I1, r1, q1⟩ => ?_
  exact Constant_none (is_none_gen ⟨.bl _, H1, I1, by rw [r1.none_iff]; rfl, q1⟩)
theorem pc_notN {j pos'} (ha : PE X a ta) : PC X .IsNot a (.Constant .none j pos') (tNotN ta) := by
  intro pins s σ H Q I h
  refine thn (ha pins s σ H _ I h) fun v s1 ⟨x, H1, I1, r1, q1⟩ => ?_
  exact Constant_none (isnot_none_gen ⟨.bl _, H1, I1, by rw [r1.none_iff]; rfl, q1⟩)
noncomputable def tB (t : TE) : TT := fun σ H Q => t σ H fun x H1 => ∃ c, x = .bl c ∧ Q c H1
theorem pe_cmp {op : CmpOp} {t : TE} (h : PC X op a b t) (h1 : behindInMarks op b = false := by first | exact nobehind _ (by decide) (by decide) | rfl) : PE X (.Compare a [op] [b] pos) t := fun pins s σ H Q I hw => wpAny_Compare1 (h pins s σ H Q I hw) h1
theorem pt_cmp {op : CmpOp} {t : TE} (h : PC X op a b t) (h1 : behindInMarks op b = false := by first | exact nobehind _ (by decide) (by decide) | rfl) : PT X (.Compare a [op] [b] pos) (tB t) := by
  intro pins s σ H Q I hw
  refine wpAny_isTrue_Compare1 (thn (h pins s σ H _ I hw) fun v s1 h1 => thn h1 fun u s2 h2 => thn h2 fun c s3 ⟨x, H1, I1, r1, q1⟩ => ?_) h1
  obtain ⟨d, rfl, q⟩ := q1
  cases r1
  exact wpAny_truthy_bool ⟨H1, I1, q⟩
theorem pt_val {e : Expr} {t : TE} (h : PE X e t) (he : ∀ whole, isTrue e X.env whole = (do let v ← whole; standAt e.pos; holding [v] (truthy v)) := by intro _; rfl) : PT X e (tB t) := by
  intro pins s σ H Q I hw
  refine isTrue_plain (thn (h pins s σ H _ I hw) fun v s1 ⟨x, H1, I1, r1, q1⟩ => ?_) (he _)
  obtain ⟨d, rfl, q⟩ := q1
  cases r1
  exact wpAny_truthy_bool ⟨H1, I1, q⟩
variable {tA tB' : TT} {rest : List Expr}
noncomputable def tAnd (t u : TT) : TT := fun σ H Q => t σ H fun c H1 => if c = true then u σ H1 Q else Q false H1
noncomputable def tOr (t u : TT) : TT := fun σ H Q => t σ H fun c H1 => if c = true then Q true H1 else u σ H1 Q
noncomputable def tNot (t : TT) : TT := fun σ H Q => t σ H fun c H1 => Q (!c) H1
theorem pw_and1 (ha : PT X a tA) : PW X (.BoolOp .And [a] pos) tA := by
  intro wh pins s σ H Q I h
  refine isTrue_and (thn (ha pins s σ H Q I h) fun c s1 e => ?_)
  cases c with
  | true => exact isTrue_and_nil e
  | false => exact e
theorem pw_or1 (ha : PT X a tA) : PW X (.BoolOp .Or [a] pos) tA := by
  intro wh pins s σ H Q I h
  refine isTrue_or (thn (ha pins s σ H Q I h) fun c s1 e => ?_)
  cases c with
  | false => exact isTrue_or_nil e
  | true => exact e
theorem pw_and (ha : PT X a tA) (hb : PW X (.BoolOp .And (b :: rest) pos) tB') : PW X (.BoolOp .And (a :: b :: rest) pos) (tAnd tA tB') := by
  intro wh pins s σ H Q I h
  refine isTrue_and (thn (ha pins s σ H _ I h) fun c s1 ⟨H1, I1, q1⟩ => ?_)
  cases c with
  | true => exact hb wh pins s1 σ H1 Q I1 q1
  | false => exact ⟨H1, I1, q1⟩
theorem pw_or (ha : PT X a tA) (hb : PW X (.BoolOp .Or (b :: rest) pos) tB') : PW X (.BoolOp .Or (a :: b :: rest) pos) (tOr tA tB') := by
  intro wh pins s σ H Q I h
  refine isTrue_or (thn (ha pins s σ H _ I h) fun c s1 ⟨H1, I1, q1⟩ => ?_)
  cases c with
  | true => exact ⟨H1, I1, q1⟩
  | false => exact hb wh pins s1 σ H1 Q I1 q1
theorem pt_not (ha : PT X a tA) : PT X (.UnaryOp .Not a pos) (tNot tA) := by
  intro pins s σ H Q I h
  exact isTrue_not (ha pins s σ H (fun c H1 => Q (!c) H1) I h)
noncomputable def tAndV (ta tb : TE) : TE := fun σ H Q => ta σ H fun x H1 => ∃ c, x = .bl c ∧ if c = true then tb σ H1 Q else Q (.bl false) H1
noncomputable def tNotV (ta : TE) : TE := fun σ H Q => ta σ H fun x H1 => ∃ c, x = .bl c ∧ Q (.bl (!c)) H1
theorem pe_one {op} {t : TE} (h : PE X a t) : PE X (.BoolOp op [a] pos) t := fun pins s σ H Q I hw => BoolOp_one (h pins s σ H Q I hw)
theorem pe_and (ha : PE X a ta) (hb : PE X (.BoolOp .And (b :: rest) pos) tb) : PE X (.BoolOp .And (a :: b :: rest) pos) (tAndV ta tb) := by
  intro pins s σ H Q I h
  refine BoolOp_and (thn (ha pins s σ H _ I h) fun v s1 ⟨x, H1, I1, r1, q1⟩ => ?_)
  obtain ⟨c, rfl, q1⟩ := q1
  cases r1
  refine wpAny_truthy_bool ?_
  cases c with
  | true => exact hb pins s1 σ H1 Q I1 q1
  | false => exact ⟨.bl false, H1, I1, rfl, q1⟩
theorem pe_not (ha : PE X a ta) : PE X (.UnaryOp .Not a pos) (tNotV ta) := by
  intro pins s σ H Q I h
  refine UnaryOp_ (thn (ha pins s σ H _ I h) fun v s1 ⟨x, H1, I1, r1, q1⟩ => ?_)
  obtain ⟨c, rfl, q1⟩ := q1
  cases r1
  exact not_of (wpAny_truthy_bool ⟨.bl (!c), H1, I1, rfl, q1⟩)
noncomputable def tIf (t : TT) (ta tb : TE) : TE := fun σ H Q => t σ H fun c H1 => if c = true then ta σ H1 Q else tb σ H1 Q
theorem pe_ifExp {c : Expr} (hc : PT X c tA) (ha : PE X a ta) (hb : PE X b tb) : PE X (.IfExp c a b pos) (tIf tA ta tb) := by
  intro pins s σ H Q I h
  refine wpAny_IfExp (thn (hc pins s σ H _ I h) fun d s1 ⟨H1, I1, q1⟩ => ?_)
  cases d with
  | true => exact ha pins s1 σ H1 Q I1 q1
  | false => exact hb pins s1 σ H1 Q I1 q1
end
end L2
namespace L2
open PySem PySem.Spec PyProof.Rows
noncomputable def SqL (K : PySem.W.Frag) (H : Hp) (a : Addr) (xs : List V) : Prop :=
  Rd H a (.lst xs) ∨
    ∃ (o : Obj) (its : Array Value) (n : Nat), K.lookup a = some o ∧ o.cls = .type "list" ∧ o.dict = none ∧ o.data = .seq its n ∧ its.size ≤ sizeLine ∧ Vals xs its.toList
noncomputable def SqT (K : PySem.W.Frag) (H : Hp) (a : Addr) (xs : List V) : Prop :=
  Rd H a (.tup xs) ∨
    ∃ (o : Obj) (its : Array Value) (n : Nat), K.lookup a = some o ∧ o.cls = .type "tuple" ∧ o.data = .seq its n ∧ its.size ≤ sizeLine ∧ Vals xs its.toList
noncomputable def absV : Value → Option V
  | .none => some .non
  | .bool b => some (.bl b)
  | .int i _ => some (.int i)
  | .str x _ => some (.str x)
  | .bytes b _ => some (.byt b)
  | .float b _ => some (.flt b)
  | .ref a => some (.ref a)
  | .type n => some (.ty n)
  | _ => none
theorem RelV.abs {x : V} {u : Value} (r : RelV x u) : absV u = some x := by
  cases x with
  | non => cases r; rfl
  | bl _ => cases r; rfl
  | int _ => obtain ⟨t, rfl⟩ := r; rfl
  | str _ => obtain ⟨t, rfl⟩ := r; rfl
  | byt _ => obtain ⟨t, rfl⟩ := r; rfl
  | flt _ => obtain ⟨t, rfl⟩ := r; rfl
  | ref _ => cases r; rfl
  | ty _ => cases r; rfl
theorem RelV.inj {x y : V} {u : Value} (r : RelV x u) (q : RelV y u) : x = y := Option.some.inj (r.abs.symm.trans q.abs)
theorem Vals.inj : ∀ {xs ys : List V} {us : List Value}, Vals xs us → Vals ys us → xs = ys
  | _, _, _, .nil, .nil => rfl
  | _, _, _, .cons r t, .cons r' t' => by rw [r.inj r', Vals.inj t t']
section
variable {X : Cx} {pins : List (Addr × Obj)} {σ : St} {H : Hp} {s : Shared} {a : Addr} {xs ys : List V}
theorem SqL.of {K : PySem.W.Frag} (h : H a = some (.lst xs)) : SqL K H a xs := .inl (.inl h)
theorem SqT.of {K : PySem.W.Frag} (h : H a = some (.tup xs)) : SqT K H a xs := .inl (.inl h)
theorem Inv.list (I : Inv X pins σ H s) (h : SqL X.K H a xs) : ∃ its : List Value, Vals xs its ∧ PlainL s.heap a its.toArray ∧ xs.length ≤ sizeLine := by
  rcases h with h | ⟨o, its, n, hk, hc, hd, hs, hz, r⟩
  · obtain ⟨z, its, n, r, e⟩ := h.ok I.hok
    exact ⟨its, r, ⟨_, n, e, rfl, rfl, rfl⟩, z⟩
  · refine ⟨its.toList, r, ⟨o, n, I.kIn a o hk, hc, hd, by simpa using hs⟩, ?_⟩
    have e := r.length
    simp only [Array.length_toList] at e
    omega
theorem Inv.tuple (I : Inv X pins σ H s) (h : SqT X.K H a xs) : ∃ its : List Value, Vals xs its ∧ IsTup s.heap a its.toArray ∧ xs.length ≤ sizeLine := by
  rcases h with h | ⟨o, its, n, hk, hc, hs, hz, r⟩
  · obtain ⟨z, its, r, p⟩ := h.ok I.hok
    exact ⟨its, r, p, z⟩
  · refine ⟨its.toList, r, ⟨o, I.kIn a o hk, hc, n, by simpa using hs⟩, ?_⟩
    have e := r.length
    simp only [Array.length_toList] at e
    omega
theorem Inv.list_inj (I : Inv X pins σ H s) (h : SqL X.K H a xs) (h' : SqL X.K H a ys) : xs = ys := by
  obtain ⟨its, r, ⟨o, n, e, _, _, d⟩, _⟩ := I.list h
  obtain ⟨its', r', ⟨o', n', e', _, _, d'⟩, _⟩ := I.list h'
  rw [e] at e'; cases e'
  rw [d] at d'
  injection d' with d1 _
  have : its = its' := by simpa using congrArg Array.toList d1
  subst this
  exact r.inj r'
theorem Inv.tuple_inj (I : Inv X pins σ H s) (h : SqT X.K H a xs) (h' : SqT X.K H a ys) : xs = ys := by
  obtain ⟨its, r, ⟨o, e, _, n, d⟩, _⟩ := I.tuple h
  obtain ⟨its', r', ⟨o', e', _, n', d'⟩, _⟩ := I.tuple h'
  rw [e] at e'; cases e'
  rw [d] at d'
  injection d' with d1 _
  have : its = its' := by simpa using congrArg Array.toList d1
  subst this
  exact r.inj r'
end
noncomputable abbrev Cx.wish (X : Cx) (E : Value → Shared → Prop) : Cx := { X with xe := E }
noncomputable abbrev Cx.nox (X : Cx) : Cx := X.wish fun _ _ => False
theorem Cx.Ok.wish {X : Cx} (ok : X.Ok) (E : Value → Shared → Prop) : (X.wish E).Ok :=
  ⟨ok.mod, ok.kind, ok.glob, ok.blt, ok.above, ok.inj, ok.has, ok.cab, ok.hd, ok.frames, ok.stk, ok.exf, ok.bs, ok.bsz, ok.noex, ok.exfs, ok.funs, ok.frf⟩
theorem Cx.Ok.unwish {X : Cx} {E : Value → Shared → Prop} (ok : (X.wish E).Ok) : X.Ok :=
  ⟨ok.mod, ok.kind, ok.glob, ok.blt, ok.above, ok.inj, ok.has, ok.cab, ok.hd, ok.frames, ok.stk, ok.exf, ok.bs, ok.bsz, ok.noex, ok.exfs, ok.funs, ok.frf⟩
section
variable {X : Cx} {pins : List (Addr × Obj)} {σ : St} {H : Hp} {s : Shared} {E : Value → Shared → Prop}
theorem Inv.wish (I : Inv X pins σ H s) (E : Value → Shared → Prop) : Inv (X.wish E) pins σ H s := ⟨I.ok.wish E, I.os, I.bare, I.base, I.loc, I.cell, I.free, I.freeC, I.pin, I.hok, I.len⟩
theorem Inv.unwish (I : Inv (X.wish E) pins σ H s) : Inv X pins σ H s := ⟨I.ok.unwish, I.os, I.bare, I.base, I.loc, I.cell, I.free, I.freeC, I.pin, I.hok, I.len⟩
theorem SP.unwish {D : Ends} {f : Flow} {s' : Shared} (h : SP (X.wish E) pins D f s') : SP X pins D f s' := by
  cases f with
  | next => obtain ⟨σ', H', I, q⟩ := h; exact ⟨σ', H', I.unwish, q⟩
  | brk => obtain ⟨σ', H', I, q⟩ := h; exact ⟨σ', H', I.unwish, q⟩
  | cont => obtain ⟨σ', H', I, q⟩ := h; exact ⟨σ', H', I.unwish, q⟩
  | ret u => obtain ⟨v, σ', H', I, r, q⟩ := h; exact ⟨v, σ', H', I.unwish, r, q⟩
theorem PSs.nox {st : List Stmt} {t : TS} (h : PSs X.nox st t) : PSs X st t := fun pins s σ H D I hw =>
  wpAny_mono (h pins s σ H D (I.wish _) hw) (fun _ _ q => q.unwish) fun _ _ z => False.elim z
end
section
variable {X : Cx} {st : Stmt} {rest : List Stmt} {t u : TS} {e : Expr} {te : TE} {pos : Pos}
noncomputable def tNext : TS := fun D σ H => D.nx σ H
noncomputable def tSeq (t u : TS) : TS := fun D σ H => t { D with nx := u D } σ H
theorem pss_nil : PSs X [] tNext := fun _ _ σ H _ I h => wpAny_execs_nil ⟨σ, H, I, h⟩
theorem pss_cons (h1 : PS X st t) (h2 : PSs X rest u) : PSs X (st :: rest) (tSeq t u) := by
  intro pins s σ H D I h
  refine wpAny_execs_cons (thn (h1 pins s σ H { D with nx := u D } I h) fun f s1 q => ?_)
  cases f with
  | next =>
    obtain ⟨σ', H', I', q⟩ := q
    exact h2 pins s1 σ' H' D I' q
  | ret v => exact q
  | brk => exact q
  | cont => exact q
theorem pss_one (h1 : PS X st t) : PSs X [st] t := by
  intro pins s σ H D I h
  refine wpAny_execs_cons (thn (h1 pins s σ H D I h) fun f s1 q => ?_)
  cases f with
  | next => exact wpAny_execs_nil q
  | ret v => exact q
  | brk => exact q
  | cont => exact q
theorem Inv.quiet {pins : List (Addr × Obj)} {σ : St} {H : Hp} {s : Shared} (I : Inv X pins σ H s) : interactive X.env = false := by simp [interactive, I.ok.kind]
noncomputable def tDrop (te : TE) : TS := fun D σ H => te σ H fun _ H1 => D.nx σ H1
theorem ps_expr (he : PE X e te) (hs : swapsWith e none pos.line X.env = pure false := by rfl) : PS X (.Expr e pos) (tDrop te) := by
  intro pins s σ H D I h
  exact wpAny_Expr_any (thn (he pins s σ H _ I h) fun v s1 ⟨x, H1, I1, r1, q1⟩ => ⟨σ, H1, I1, q1⟩) I.quiet hs
noncomputable def tRet (te : TE) : TS := fun D σ H => te σ H D.rt
theorem ps_ret (he : PE X e te) : PS X (.Return (some e) pos) (tRet te) := by
  intro pins s σ H D I h
  exact wpAny_Return_some (thn (he pins s σ H _ I h) fun v s1 ⟨x, H1, I1, r1, q1⟩ => ⟨x, σ, H1, I1, r1, q1⟩)
noncomputable def tIfS (c : TT) (t u : TS) : TS := fun D σ H => c σ H fun b H1 => if b = true then t D σ H1 else u D σ H1
theorem ps_if {c : Expr} {a b : List Stmt} {tc : TT} (hc : PT X c tc) (ha : PSs X a t) (hb : PSs X b u) : PS X (.If c a b pos) (tIfS tc t u) := by
  intro pins s σ H D I h
  refine wpAny_If (thn (hc pins s σ H _ I h) fun d s1 ⟨H1, I1, q1⟩ => ?_)
  cases d with
  | true => exact ha pins s1 σ H1 D I1 q1
  | false => exact hb pins s1 σ H1 D I1 q1
end
noncomputable abbrev TG := V → St → Hp → (St → Hp → Prop) → Prop
noncomputable abbrev TGs := List V → St → Hp → (St → Hp → Prop) → Prop
noncomputable def PG (X : Cx) (target : Expr) (t : TG) : Prop :=
  ∀ (pins : List (Addr × Obj)) (s : Shared) (σ : St) (H : Hp) (v : V) (u : Value) (Q : St → Hp → Prop), Inv X pins σ H s → RelV v u → t v σ H Q →
    wpAny (model X.prog X.w) X.A (assign target X.env u) (fun _ s' => ∃ σ' H', Inv X pins σ' H' s' ∧ Q σ' H') X.xe s
noncomputable def PGs (X : Cx) (ts : List Expr) (t : TGs) : Prop :=
  ∀ (pins : List (Addr × Obj)) (s : Shared) (σ : St) (H : Hp) (vs : List V) (us : List Value) (Q : St → Hp → Prop), Inv X pins σ H s → Vals vs us → t vs σ H Q →
    wpAny (model X.prog X.w) X.A (assignInOrder ((assignEach ts X.env).map (·.2)) us) (fun _ s' => ∃ σ' H', Inv X pins σ' H' s' ∧ Q σ' H') X.xe s
noncomputable abbrev TSet := V → V → V → Hp → (Hp → Prop) → Prop
noncomputable def PSet (X : Cx) (t : TSet) : Prop :=
  ∀ (pins : List (Addr × Obj)) (s : Shared) (σ : St) (H : Hp) (o i v : V) (ov iv u : Value) (Q : Hp → Prop), Inv X pins σ H s → RelV o ov → RelV i iv → RelV v u → t o i v H Q →
    wpAny (model X.prog X.w) X.A (setItem ov iv u) (fun _ s' => ∃ H', Inv X pins σ H' s' ∧ Q H') X.xe s
section
variable {X : Cx} {pos : Pos}
noncomputable def gName (i : Nat) : TG := fun v σ H Q => Q (σ.set i (some v)) H
theorem pg_name {i : Nat} {x : Str} (hN : X.N.Nodup) (hi : X.N[i]? = some x) (hx : Loc X.env.scope x) (hf : X.fn x = true ∨ X.env.scope.names.lookup x = some .local := by first | exact .inl rfl | exact .inr rfl | assumption) : PG X (.Name x pos) (gName i) := by
  intro pins s σ H v u Q I r h
  exact wpAny_assign_Name (store_ok I hN hi hx r (fun s' I' => ⟨_, H, I', h⟩) hf)
noncomputable def gNil : TGs := fun vs σ H Q => vs = [] ∧ Q σ H
noncomputable def gCons (t : TG) (u : TGs) : TGs := fun vs σ H Q => ∃ v r, vs = v :: r ∧ t v σ H fun σ' H' => u r σ' H' Q
theorem pgs_nil : PGs X [] gNil := by
  intro pins s σ H vs us Q I r h
  obtain ⟨e, h⟩ := h
  subst e
  cases r
  exact assignInOrder_nil ⟨σ, H, I, h⟩
theorem pgs_cons {e : Expr} {es : List Expr} {t : TG} {u : TGs} (h1 : PG X e t) (h2 : PGs X es u)
    (hs : (assignEach (e :: es) X.env).map (·.2) = assign e X.env :: (assignEach es X.env).map (·.2) := by rfl) : PGs X (e :: es) (gCons t u) := by
  intro pins s σ H vs us Q I r h
  obtain ⟨v, vr, e1, h⟩ := h
  subst e1
  cases r with
  | cons r rr =>
    rw [hs]
    refine assignInOrder_cons (thn (h1 pins s σ H _ _ _ I r h) fun _ s1 ⟨σ1, H1, I1, q1⟩ => ?_)
    exact h2 pins s1 σ1 H1 _ _ Q I1 rr q1
noncomputable def gTup (K : PySem.W.Frag) (n : Nat) (t : TGs) : TG := fun v σ H Q => ∃ a xs, v = .ref a ∧ SqT K H a xs ∧ xs.length = n ∧ t xs σ H Q
theorem pg_tup {es : List Expr} {k : Nat} {t : TGs} {n : Nat} (hc : X.calm = true) (h : PGs X es t)
    (hn : (assignEach es X.env).length = n := by rfl) (hst : (assignEach es X.env).findIdx? (·.1) = none := by rfl) : PG X (.Tuple es k pos) (gTup X.K n t) := by
  intro pins s σ H v u Q I r hw
  obtain ⟨a, xs, e1, hq, hl, hw⟩ := hw
  subst e1
  cases r
  obtain ⟨its, rv, ht, hz⟩ := I.tuple hq
  refine assign_Tuple_tuple (I.ok.hd hc) ht (by simp [hn, ← hl, rv.length]) hst fun h' hx => ?_
  have I1 : Inv X pins σ H { s with heap := h' } := I.kept (t' := s.toks) fun b o e => hx b o (Nat.ne_of_lt (Heap.lt_size e)) e
  exact h pins _ σ H xs _ Q I1 (by simpa using rv) hw
noncomputable def gSub (to ti : TE) (t : TSet) : TG := fun v σ H Q => to σ H fun o H1 => ti σ H1 fun i H2 => t o i v H2 fun H3 => Q σ H3
theorem pg_sub {o i : Expr} {to ti : TE} {t : TSet} (ho : PE X o to) (hi : PE X i ti) (hs : PSet X t)
    (ha : ∀ v, assign (.Subscript o i pos) X.env v = (do
      let ov ← holding [v] (eval o X.env)
      let iv ← holding [v, ov] (eval i X.env)
      standAt pos
      holding [v, ov, iv] (setItem ov iv v)
      release [v, ov, iv] []) := by intro _; rfl) : PG X (.Subscript o i pos) (gSub to ti t) := by
  intro pins s σ H v u Q I r h
  rw [ha]
  refine wpAny_bind (wpAny_holding (thn (ho pins s σ H _ I h) fun ov s1 ⟨x, H1, I1, r1, q1⟩ => ?_))
  refine wpAny_bind (wpAny_holding (thn (hi pins s1 σ H1 _ I1 q1) fun iv s2 ⟨y, H2, I2, r2, q2⟩ => ?_))
  refine wpAny_bind (wpAny_standAt (wpAny_bind (wpAny_holding (thn (hs pins s2 σ H2 x y v ov iv u _ I2 r1 r2 r q2) fun _ s3 ⟨H3, I3, q3⟩ => ?_))))
  exact wpAny_release ⟨σ, H3, I3, q3⟩
noncomputable def tAsg (te : TE) (g : TG) : TS := fun D σ H => te σ H fun x H1 => g x σ H1 D.nx
theorem ps_asg {tg e : Expr} {te : TE} {g : TG} (he : PE X e te) (hg : PG X tg g) (hs : swapsWithSole [tg] e pos.line X.env = pure false := by rfl) (hw : swappedStores [tg] e X.env = pure none := by rfl)
    (h1 : (assignEach [tg] X.env).map (·.2) = [assign tg X.env] := by rfl) : PS X (.Assign [tg] e pos) (tAsg te g) := by
  intro pins s σ H D I h
  refine wpAny_Assign_stores (thn (he pins s σ H _ I h) fun v s1 ⟨x, H1, I1, r1, q1⟩ => ?_) hs hw
  rw [h1]
  exact thn (hg pins s1 σ H1 x v _ I1 r1 q1) fun _ s2 q => q
theorem ps_set {i : Nat} {x : Str} {e : Expr} {te : TE} {pos' : Pos} (hN : X.N.Nodup) (hi : X.N[i]? = some x) (hx : Loc X.env.scope x) (he : PE X e te) (hs : swapsWith e (some (.Name x pos')) pos.line X.env = pure false := by rfl) (hf : X.fn x = true ∨ X.env.scope.names.lookup x = some .local := by first | exact .inl rfl | exact .inr rfl | assumption) :
    PS X (.Assign [.Name x pos'] e pos) (tAsg te (gName i)) := by
  intro pins s σ H D I h
  refine wpAny_Assign_Name (thn (he pins s σ H _ I h) fun v s1 ⟨y, H1, I1, r1, q1⟩ => ?_) hs
  exact store_ok I1 hN hi hx r1 (fun s2 I2 => ⟨_, H1, I2, q1⟩) hf
end
section
variable {X : Cx} {pos : Pos}
noncomputable def tWhile (c : TT) (tb : TS) : TS := fun D σ H => ∃ W : Nat → St → Hp → Prop, (∃ m, W m σ H) ∧ ∀ m σ H, W m σ H →
  c σ H fun b H1 => if b = true then ∃ N : St → Hp → Prop, (∀ σ' H', N σ' H' → ∃ m', m' < m ∧ W m' σ' H') ∧ tb { D with nx := N, ct := N, bk := D.nx } σ H1 else D.nx σ H1
theorem ps_while {c : Expr} {body : List Stmt} {tc : TT} {tb : TS} (hp : PassesOwn (model X.prog X.w) X.A X.env X.xe) (hc : PT X c tc) (hb : PSs X body tb) : PS X (.While c body [] pos) (tWhile tc tb) := by
  intro pins s σ H D I h
  obtain ⟨W, ⟨m0, w0⟩, turn⟩ := h
  refine wpAny_While (codeAny_whileLoop (fun n s' => ∃ σ' H', Inv X pins σ' H' s' ∧ W n σ' H') ?_ m0 ⟨σ, H, I, w0⟩)
  rintro n s1 ⟨σ1, H1, I1, w1⟩
  refine wpAny_passesOwn hp (thn (hc pins s1 σ1 H1 _ I1 (turn n σ1 H1 w1)) fun b s2 ⟨H2, I2, q2⟩ => ?_)
  cases b with
  | true =>
    obtain ⟨N, hN, q2⟩ := q2
    rw [if_pos rfl]
    refine wpAny_passesOwn hp (thn (hb pins s2 σ1 H2 _ I2 q2) fun f s3 q3 => ?_)
    cases f with
    | next =>
      obtain ⟨σ3, H3, I3, n3⟩ := q3
      obtain ⟨m', hm, w3⟩ := hN σ3 H3 n3
      exact ⟨m', hm, σ3, H3, I3, w3⟩
    | cont =>
      obtain ⟨σ3, H3, I3, n3⟩ := q3
      obtain ⟨m', hm, w3⟩ := hN σ3 H3 n3
      exact ⟨m', hm, σ3, H3, I3, w3⟩
    | brk => exact q3
    | ret v => exact q3
  | false =>
    rw [if_neg Bool.false_ne_true]
    exact wpAny_execs_nil ⟨σ1, H2, I2, q2⟩
end
structure It where
  go : Nat → Hp → Prop
  yld : Nat → Hp → V → Hp → Prop
  stop : Nat → Hp → Prop
noncomputable def FpOk (X : Cx) (pins : List (Addr × Obj)) (H : Hp) (b : Addr) : Prop :=
  H b = none ∧ b ≠ X.env.locals ∧ b ∉ X.fs ∧ (b ∈ X.ex ∨ X.s₀.heap.objs.size ≤ b) ∧ (∀ x c, X.env.cells.lookup x = some c → c ≠ b) ∧ ∀ p ∈ X.pn ++ pins, p.1 ≠ b
theorem Inv.fpOk {X : Cx} {pins : List (Addr × Obj)} {σ : St} {H H' : Hp} {s : Shared} {b : Addr} (I : Inv X pins σ H s) (hb : s.heap.objs.size ≤ b) (hn : H' b = none) : FpOk X pins H' b := by
  refine ⟨hn, Nat.ne_of_gt (Nat.lt_of_lt_of_le I.lt hb), I.nofs hb, .inr (Nat.le_trans I.sz hb), fun x c e z => ?_, fun p hp z => ?_⟩
  · obtain ⟨v, q⟩ := I.cell x c e
    exact absurd (Nat.lt_of_lt_of_le q.lt (by rw [z]; exact hb)) (Nat.lt_irrefl _)
  · exact absurd (Nat.lt_of_lt_of_le (Heap.lt_size (I.pin p hp).1) (by rw [z]; exact hb)) (Nat.lt_irrefl _)
structure Turn (P : Program) (w : World) (K : PySem.W.Frag) (tg : Expr) (J : It) (fp : List Addr) (it : Addr) (tn : Nat → Heap → Prop) : Prop where
  mem : it ∈ fp
  obj : ∀ i h, tn i h → ∀ b ∈ fp, ∃ o, h.get? b = some o ∧ ∀ v, o.data ≠ .cell v
  keep : ∀ i h h', tn i h → (∀ b ∈ fp, ∀ o, h.get? b = some o → h'.get? b = some o) → tn i h'
  item : ∀ (X : Cx), X.prog = P → X.w = w → X.K = K → X.calm = true → ∀ (i : Nat) (pins : List (Addr × Obj)) (s : Shared) (σ : St) (H : Hp) (E : Value → Shared → Prop), Inv X pins σ H s → (∀ b ∈ fp, FpOk X pins H b) → tn i s.heap → J.go i H →
    wpAny (model P w) X.A (pyNext (.ref it)) (fun r s1 => ∃ u, r = some u ∧
      wpAny (model P w) X.A (letOwnedTupleGo tg (.ref it) u) (fun _ s2 => ∃ x H', Inv X pins σ H' s2 ∧ RelV x u ∧ J.yld i H x H' ∧ tn (i + 1) s2.heap ∧ ∀ b ∈ fp, H' b = none) E s1) E s
  done : ∀ (X : Cx), X.prog = P → X.w = w → X.K = K → X.calm = true → ∀ (i : Nat) (pins : List (Addr × Obj)) (s : Shared) (σ : St) (H : Hp) (E : Value → Shared → Prop), Inv X pins σ H s → (∀ b ∈ fp, FpOk X pins H b) → tn i s.heap → J.stop i H →
    wpAny (model P w) X.A (pyNext (.ref it)) (fun r s1 => r = none ∧ Inv X pins σ H s1) E s
  self : ∀ (A : Around) (i : Nat) (s : Shared) (Q : Value → Shared → Prop) (E : Value → Shared → Prop), tn i s.heap → Q (.ref it) s → wpAny (model P w) A (pyIter (.ref it)) Q E s
noncomputable abbrev TI := St → Hp → (It → Hp → Prop) → Prop
noncomputable def PIE (X : Cx) (pins : List (Addr × Obj)) (σ : St) (tg : Expr) (R : It → Hp → Prop) (itv : Value) (s2 : Shared) : Prop :=
  ∃ (it : Addr) (fp : List Addr) (tn : Nat → Heap → Prop) (J : It) (H' : Hp), itv = .ref it ∧ Inv X pins σ H' s2 ∧ Turn X.prog X.w X.K tg J fp it tn ∧ tn 0 s2.heap ∧ (∀ b ∈ fp, FpOk X pins H' b) ∧ R J H'
noncomputable def PI (X : Cx) (tg iter : Expr) (wi : TI) : Prop :=
  ∀ (pins : List (Addr × Obj)) (s : Shared) (σ : St) (H : Hp) (R : It → Hp → Prop), Inv X pins σ H s → wi σ H R →
    wpAny (model X.prog X.w) X.A (eval iter X.env) (fun v s1 => wpAny (model X.prog X.w) X.A (pyIter v) (PIE X pins σ tg R) X.xe s1) X.xe s
theorem go_of {M : Model} {A : Around} {E : Value → Shared → Prop} {s : Shared} {tg : Expr} {it : Addr} {u : Value} {o : Obj} {n : String} {vs : Array Value} {Q : Unit → Shared → Prop} (ho : s.heap.get? it = some o) (hc : o.cls = .type n) (hd : o.data = .fields vs)
    (hn : ["enumerate", "zip", "dict_itemiterator", "dict_reverseitemiterator", "odict_iterator", "itertools.zip_longest", "itertools.pairwise"].contains n = false) (hQ : Q () s) : wpAny M A (letOwnedTupleGo tg (.ref it) u) Q E s := by
  unfold letOwnedTupleGo
  cases tg <;> first
    | exact wpAny_pure hQ
    | (cases u <;> first
        | exact wpAny_pure hQ
        | (refine wpAny_bind (wpAny_load ho ?_)
           rw [hc, hd]
           show wpAny M A (if (["enumerate", "zip", "dict_itemiterator", "dict_reverseitemiterator", "odict_iterator", "itertools.zip_longest", "itertools.pairwise"].contains n && vs[0]? == some (rawInt _)) = true then _ else _) Q E s
           rw [if_neg (by intro h; rw [hn, Bool.false_and] at h; cases h)]
           exact wpAny_pure hQ))
noncomputable def Itl (K : PySem.W.Frag) (a : Addr) : It :=
  ⟨fun i H => ∃ xs x, SqL K H a xs ∧ xs[i]? = some x, fun i H x H' => H' = H ∧ ∀ xs, SqL K H a xs → xs[i]? = some x, fun i H => ∃ xs, SqL K H a xs ∧ xs.length ≤ i⟩
noncomputable def Itt (K : PySem.W.Frag) (a : Addr) : It :=
  ⟨fun i H => ∃ xs x, SqT K H a xs ∧ xs[i]? = some x, fun i H x H' => H' = H ∧ ∀ xs, SqT K H a xs → xs[i]? = some x, fun i H => ∃ xs, SqT K H a xs ∧ xs.length ≤ i⟩
noncomputable def Itr (lo : Int) (n : Nat) : It := ⟨fun i _ => i < n, fun i H x H' => H' = H ∧ x = .int (lo + i), fun i _ => n ≤ i⟩
theorem turn_list {P : Program} {w : World} {K : PySem.W.Frag} {tg : Expr} (a it : Addr) : Turn P w K tg (Itl K a) [it] it (fun i h => h.IsListIter it a i) where
  mem := by simp
  obj := fun i h st b hb => by
    have e : b = it := by simpa using hb
    subst e
    obtain ⟨o, e, c, d⟩ := st
    exact ⟨o, e, fun v z => by rw [d] at z; cases z⟩
  keep := fun i h h' st k => st.at fun o e => k it (by simp) o e
  item := by
    intro X hP hw hK hc i pins s σ H E I hf st hg
    subst hP hw hK
    obtain ⟨xs, x, hq, hx⟩ := hg
    obtain ⟨its, rv, p, hz⟩ := I.list hq
    obtain ⟨u, hu, ru⟩ := rv.get hx
    obtain ⟨f0, f1, f2, f3, f4, f5⟩ := hf it (by simp)
    refine wpAny_pyNext_list_item st p.isList (x := u) (by simpa using hu) fun h' st' sb => ?_
    have I1 : Inv X pins σ H { s with heap := h' } := I.turned (t' := s.toks) (fun b o hb e => (sb.2 b hb).trans e) f0 f1 f3 f4 f5
    obtain ⟨o, e, c, d⟩ := id st'
    exact ⟨u, rfl, go_of (s := { s with heap := h' }) e c d (by decide) ⟨x, H, I1, ru, ⟨rfl, fun ys hy => by rw [I.list_inj hy hq]; exact hx⟩, st', fun b hb => (hf b hb).1⟩⟩
  done := by
    intro X hP hw hK hc i pins s σ H E I hf st hg
    subst hP hw hK
    obtain ⟨xs, hq, hx⟩ := hg
    obtain ⟨its, rv, p, hz⟩ := I.list hq
    obtain ⟨f0, f1, f2, f3, f4, f5⟩ := hf it (by simp)
    have hl := rv.length
    exact wpAny_pyNext_list_end (I.ok.hd hc) st p.isList (by simp; omega) fun h' eb => ⟨rfl, I.turned (t' := s.toks) (fun b o hb e => eb b o hb e) f0 f1 f3 f4 f5⟩
  self := fun _ _ _ _ _ st h => wpAny_pyIter_listiter st h
theorem turn_tuple {P : Program} {w : World} {K : PySem.W.Frag} {tg : Expr} (a it : Addr) : Turn P w K tg (Itt K a) [it] it (fun i h => h.IsTupleIter it a i) where
  mem := by simp
  obj := fun i h st b hb => by
    have e : b = it := by simpa using hb
    subst e
    obtain ⟨o, e, c, d⟩ := st
    exact ⟨o, e, fun v z => by rw [d] at z; cases z⟩
  keep := fun i h h' st k => st.at fun o e => k it (by simp) o e
  item := by
    intro X hP hw hK hc i pins s σ H E I hf st hg
    subst hP hw hK
    obtain ⟨xs, x, hq, hx⟩ := hg
    obtain ⟨its, rv, p, hz⟩ := I.tuple hq
    obtain ⟨u, hu, ru⟩ := rv.get hx
    obtain ⟨f0, f1, f2, f3, f4, f5⟩ := hf it (by simp)
    refine wpAny_pyNext_tuple_item st (show s.heap.IsTuple a its.toArray from p) (x := u) (by simpa using hu) fun h' st' sb => ?_
    have I1 : Inv X pins σ H { s with heap := h' } := I.turned (t' := s.toks) (fun b o hb e => (sb.2 b hb).trans e) f0 f1 f3 f4 f5
    obtain ⟨o, e, c, d⟩ := id st'
    exact ⟨u, rfl, go_of (s := { s with heap := h' }) e c d (by decide) ⟨x, H, I1, ru, ⟨rfl, fun ys hy => by rw [I.tuple_inj hy hq]; exact hx⟩, st', fun b hb => (hf b hb).1⟩⟩
  done := by
    intro X hP hw hK hc i pins s σ H E I hf st hg
    subst hP hw hK
    obtain ⟨xs, hq, hx⟩ := hg
    obtain ⟨its, rv, p, hz⟩ := I.tuple hq
    obtain ⟨f0, f1, f2, f3, f4, f5⟩ := hf it (by simp)
    have hl := rv.length
    exact wpAny_pyNext_tuple_end (I.ok.hd hc) st (show s.heap.IsTuple a its.toArray from p) (by simp; omega) fun h' eb => ⟨rfl, I.turned (t' := s.toks) (fun b o hb e => eb b o hb e) f0 f1 f3 f4 f5⟩
  self := fun _ _ _ _ _ st h => wpAny_pyIter_tupleiter st h
theorem turn_range {P : Program} {w : World} {K : PySem.W.Frag} {tg : Expr} (it : Addr) (lo : Int) (n : Nat) : Turn P w K tg (Itr lo n) [it] it (fun i h => IsRangeIter h it (lo + (i : Nat) * 1) ((n : Int) - (i : Nat)) 1) where
  mem := by simp
  obj := fun i h st b hb => by
    have e : b = it := by simpa using hb
    subst e
    exact ⟨_, st, fun v z => by
      have z' : Data.fields _ = Data.cell v := z
      cases z'⟩
  keep := fun i h h' st k => k it (by simp) _ st
  item := by
    intro X hP hw hK hc i pins s σ H E I hf st hg
    subst hP hw hK
    obtain ⟨f0, f1, f2, f3, f4, f5⟩ := hf it (by simp)
    have W := Walks.range (prog := X.prog) (w := X.w) (I.ok.hd hc) it lo 1 n
    refine W.item i s _ _ hg st fun v h' tk hv st' kk => ?_
    obtain ⟨t, rfl⟩ := hv
    have I1 : Inv X pins σ H { s with heap := h', toks := tk } := I.turned (fun b o hb e => kk b o (by simpa using hb) e) f0 f1 f3 f4 f5
    refine ⟨_, rfl, go_of (s := { s with heap := h', toks := tk }) (n := "range_iterator") st' rfl rfl (by decide) ⟨.int (lo + i), H, I1, ⟨t, ?_⟩, ⟨rfl, rfl⟩, st', fun b hb => (hf b hb).1⟩⟩
    rw [Int.mul_one]
  done := by
    intro X hP hw hK hc i pins s σ H E I hf st hg
    subst hP hw hK
    obtain ⟨f0, f1, f2, f3, f4, f5⟩ := hf it (by simp)
    exact wpAny_pyNext_range_end (I.ok.hd hc) st (by have : n ≤ i := hg; omega) fun h' eb => ⟨rfl, I.turned (t' := s.toks) (fun b o hb e => eb b o hb e) f0 f1 f3 f4 f5⟩
  self := fun _ _ _ _ _ st h => wpAny_pyIter_rangeiter st h
end L2
namespace L2
open PySem PySem.Spec PyProof.Rows
section
variable {X : Cx} {tg : Expr}
noncomputable def iList (K : PySem.W.Frag) (tl : TE) : TI := fun σ H R => tl σ H fun x H1 => ∃ a, x = .ref a ∧ (∃ xs, SqL K H1 a xs) ∧ R (Itl K a) H1
noncomputable def iTup (K : PySem.W.Frag) (tl : TE) : TI := fun σ H R => tl σ H fun x H1 => ∃ a, x = .ref a ∧ (∃ xs, SqT K H1 a xs) ∧ R (Itt K a) H1
theorem pi_list {l : Expr} {tl : TE} (hl : PE X l tl) : PI X tg l (iList X.K tl) := by
  intro pins s σ H R I h
  refine thn (hl pins s σ H _ I h) fun v s1 ⟨x, H1, I1, r1, q1⟩ => ?_
  obtain ⟨a, e, ⟨xs, hq⟩, q⟩ := q1
  subst e
  cases r1
  obtain ⟨its, rv, p, hz⟩ := I1.list hq
  refine wpAny_pyIter_list p.isList ?_
  refine ⟨s1.heap.objs.size, [s1.heap.objs.size], _, _, H1, rfl, I1.kept (t' := s1.toks) fun b o e => Heap.get?_push_of_some _ e, turn_list a _, ⟨_, Heap.get?_push_size _ rfl, rfl, rfl⟩, fun b hb => ?_, q⟩
  have e : b = s1.heap.objs.size := by simpa using hb
  subst e
  exact I1.fpOk (Nat.le_refl _) (I1.hok.fresh (Nat.le_refl _))
theorem pi_tup {l : Expr} {tl : TE} (hl : PE X l tl) : PI X tg l (iTup X.K tl) := by
  intro pins s σ H R I h
  refine thn (hl pins s σ H _ I h) fun v s1 ⟨x, H1, I1, r1, q1⟩ => ?_
  obtain ⟨a, e, ⟨xs, hq⟩, q⟩ := q1
  subst e
  cases r1
  obtain ⟨its, rv, p, hz⟩ := I1.tuple hq
  refine wpAny_pyIter_tuple (show s1.heap.IsTuple a its.toArray from p) ?_
  refine ⟨s1.heap.objs.size, [s1.heap.objs.size], _, _, H1, rfl, I1.kept (t' := s1.toks) fun b o e => Heap.get?_push_of_some _ e, turn_tuple a _, ⟨_, Heap.get?_push_size _ rfl, rfl, rfl⟩, fun b hb => ?_, q⟩
  have e : b = s1.heap.objs.size := by simpa using hb
  subst e
  exact I1.fpOk (Nat.le_refl _) (I1.hok.fresh (Nat.le_refl _))
theorem range_it {pins : List (Addr × Obj)} {σ : St} {H : Hp} {s : Shared} {R : It → Hp → Prop} {E : Value → Shared → Prop} {lo hi : Int} {t u v : Tok} {tk : Nat} (I : Inv X pins σ H s) (h1 : -(2 ^ 62) ≤ lo) (h2 : lo < 2 ^ 62) (h3 : -(2 ^ 62) ≤ hi) (h4 : hi < 2 ^ 62)
    (q : R (Itr lo (hi - lo).toNat) H) : wpAny (model X.prog X.w) X.A (pyIter (.ref s.heap.objs.size)) (PIE X pins σ tg R) E { s with heap := s.heap.push { cls := .type "range", data := .fields #[.int lo t, .int hi u, .int 1 v] }, toks := tk } := by
  refine wpAny_pyIter_range (IsRange.new ..) (small_one h1 h2 h3 h4) ?_
  have I1 : Inv X pins σ H { s with heap := s.heap.push { cls := .type "range", data := .fields #[.int lo t, .int hi u, .int 1 v] }, toks := tk } := I.kept fun b o e => Heap.get?_push_of_some _ e
  refine ⟨(s.heap.push { cls := .type "range", data := .fields #[.int lo t, .int hi u, .int 1 v] }).objs.size, [(s.heap.push { cls := .type "range", data := .fields #[.int lo t, .int hi u, .int 1 v] }).objs.size], _, _, H, rfl,
    I1.kept (t' := tk) fun b o e => Heap.get?_push_of_some _ e, turn_range _ lo (hi - lo).toNat, ?_, fun b hb => ?_, q⟩
  · have e1 : lo + ((0 : Nat) : Int) * 1 = lo := by simp
    have e2 : (((hi - lo).toNat : Nat) : Int) - ((0 : Nat) : Int) = Builtin.Range.rangeSize lo hi 1 := by rw [rangeSize_one]; split <;> omega
    show IsRangeIter _ _ (lo + ((0 : Nat) : Int) * 1) ((((hi - lo).toNat : Nat) : Int) - ((0 : Nat) : Int)) 1
    rw [e1, e2]
    exact Heap.get?_push_size _ rfl
  · have e : b = (s.heap.push { cls := .type "range", data := .fields #[.int lo t, .int hi u, .int 1 v] }).objs.size := by simpa using hb
    subst e
    exact I1.fpOk (Nat.le_refl _) (I1.hok.fresh (Nat.le_refl _))
noncomputable def iRng2 (ta : TA) : TI := fun σ H R => ta σ H fun vs H1 => ∃ i j : Int, vs = [.int i, .int j] ∧ (-(2 ^ 62) ≤ i ∧ i < 2 ^ 62 ∧ -(2 ^ 62) ≤ j ∧ j < 2 ^ 62) ∧ R (Itr i (j - i).toNat) H1
theorem pi_range2 {a b : Expr} {ta : TA} {p pos : Pos} (hg : Gl X "range") (hm : X.mg "range" = none) (ha : PA X [a, b] ta) (hs : starEach [a, b] X.env = [(false, eval a X.env), (false, eval b X.env)] := by rfl) (hs2 : starEach [b] X.env = [(false, eval b X.env)] := by rfl) :
    PI X tg (.Call (.Name "range" p) [a, b] [] pos) (iRng2 ta) := by
  intro pins s σ H R I h
  refine Call_ (ld_blt I hg hm boot_range (PyProof.Rows.callWith_type1 (thn (ha pos pins s σ H _ I h) fun us s1 ⟨vs, H1, I1, r1, q1⟩ => ?_) (by rw [hs, hs2]) (by rw [hs2]; rfl)))
  obtain ⟨i, j, e, ⟨q1, q2, q3, q4⟩, q⟩ := q1
  subst e
  cases r1 with
  | cons r rr =>
    cases rr with
    | cons r' rr =>
      cases rr
      obtain ⟨t, rfl⟩ := r
      obtain ⟨t', rfl⟩ := r'
      exact call_range_2 (range_it I1 q1 q2 q3 q4 q)
noncomputable def tFor (wi : TI) (g : TG) (tb : TS) : TS := fun D σ H => wi σ H fun J H1 => ∃ W : Nat → Nat → St → Hp → Prop, (∃ m, W 0 m σ H1) ∧ ∀ i m σ H, W i m σ H →
  (J.stop i H ∧ D.nx σ H) ∨ (J.go i H ∧ ∃ N : St → Hp → Prop, (∀ σ' H', N σ' H' → ∃ m', m' < m ∧ W (i + 1) m' σ' H') ∧ ∀ x H', J.yld i H x H' → g x σ H' fun σ2 H2 => tb { D with nx := N, ct := N, bk := D.nx } σ2 H2)
noncomputable def pinsAt (fp : List Addr) (h : Heap) : List (Addr × Obj) := fp.filterMap fun b => (h.get? b).map fun o => (b, o)
theorem mem_pinsAt {fp : List Addr} {h : Heap} {b : Addr} {o : Obj} (hb : b ∈ fp) (e : h.get? b = some o) : (b, o) ∈ pinsAt fp h := List.mem_filterMap.mpr ⟨b, hb, by rw [e]; rfl⟩
theorem of_pinsAt {fp : List Addr} {h : Heap} {p : Addr × Obj} (hp : p ∈ pinsAt fp h) : p.1 ∈ fp ∧ h.get? p.1 = some p.2 := by
  obtain ⟨b, hb, e⟩ := List.mem_filterMap.mp hp
  cases q : h.get? b with
  | none => rw [q] at e; cases e
  | some o =>
    rw [q] at e
    have e' : (b, o) = p := Option.some.inj e
    subst e'
    exact ⟨hb, q⟩
theorem Inv.pinned {pins : List (Addr × Obj)} {σ : St} {H : Hp} {s : Shared} {fp : List Addr} (I : Inv X pins σ H s) (hf : ∀ b ∈ fp, FpOk X pins H b) (ho : ∀ b ∈ fp, ∃ o, s.heap.get? b = some o ∧ ∀ v, o.data ≠ .cell v) : Inv X (pins ++ pinsAt fp s.heap) σ H s :=
  I.pins_of fun p hp => (List.mem_append.mp hp).elim (fun z => I.pin p (List.mem_append_right _ z)) fun z => by
    obtain ⟨hb, e⟩ := of_pinsAt z
    obtain ⟨f0, f1, f2, _⟩ := hf p.1 hb
    obtain ⟨o, e', d⟩ := ho p.1 hb
    rw [e] at e'; cases e'
    exact ⟨e, f0, f1, f2, d⟩
theorem Inv.unpinned {pins pl : List (Addr × Obj)} {σ : St} {H : Hp} {s : Shared} (I : Inv X (pins ++ pl) σ H s) : Inv X pins σ H s := I.pins_of fun p hp => I.pin p (List.mem_append_right _ (List.mem_append_left _ hp))
theorem ps_for {iter : Expr} {body : List Stmt} {wi : TI} {g : TG} {tb : TS} {pos : Pos} (hp : PassesOwn (model X.prog X.w) X.A X.env X.xe) (hc : X.calm = true) (hi : PI X tg iter wi) (hg : PG X tg g) (hb : PSs X body tb)
    (hs : ∀ x, foldedSetIterable iter X.env x = pure x := by intro _; rfl) : PS X (.For tg iter body [] pos) (tFor wi g tb) := by
  intro pins s σ H D I h
  refine wpAny_For (thn (hi pins s σ H _ I h) fun v s1 h1 => thn h1 fun itv s2 h2 => ?_) hs
  obtain ⟨it, fp, tn, J, H2, e, I2, T, st2, f2, W, ⟨m0, w0⟩, turn⟩ := h2
  subst e
  have stat : ∀ {H' : Hp}, (∀ b ∈ fp, H' b = none) → ∀ b ∈ fp, FpOk X pins H' b := fun hn b hb => ⟨hn b hb, (f2 b hb).2⟩
  refine codeAny_forLoop_any (fun n s' => ∃ i σ' H', Inv X pins σ' H' s' ∧ tn i s'.heap ∧ (∀ b ∈ fp, H' b = none) ∧ W i n σ' H') ?_ m0 ⟨0, σ, H2, I2, st2, fun b hb => (f2 b hb).1, w0⟩
  rintro n s3 ⟨i, σ3, H3, I3, st3, fr3, w3⟩
  rcases turn i n σ3 H3 w3 with ⟨stop, qn⟩ | ⟨go, N, hN, step⟩
  · refine wpAny_passesOwn hp (thn (T.done X rfl rfl rfl hc i pins s3 σ3 H3 X.xe I3 (stat fr3) st3 stop) fun r s4 ⟨hr, I4⟩ => ?_)
    subst hr
    exact wpAny_execs_nil ⟨σ3, H3, I4, qn⟩
  · refine wpAny_passesOwn hp (thn (T.item X rfl rfl rfl hc i pins s3 σ3 H3 X.xe I3 (stat fr3) st3 go) fun r s4 ⟨u, hr, h4⟩ => ?_)
    subst hr
    refine wpAny_passesOwn hp (thn h4 fun _ s5 ⟨x, H5, I5, r5, y5, st5, fr5⟩ => ?_)
    have I5' := I5.pinned (stat fr5) (T.obj _ _ st5)
    refine wpAny_passesOwn hp (thn (hg _ s5 σ3 H5 x u _ I5' r5 (step x H5 y5)) fun _ s6 ⟨σ6, H6, I6, q6⟩ => ?_)
    refine wpAny_passesOwn hp (thn (hb _ s6 σ6 H6 _ I6 q6) fun f s7 q7 => ?_)
    have again : ∀ {σ7 : St} {H7 : Hp}, Inv X (pins ++ pinsAt fp s5.heap) σ7 H7 s7 → N σ7 H7 → ∃ m, m < n ∧ ∃ i σ' H', Inv X pins σ' H' s7 ∧ tn i s7.heap ∧ (∀ b ∈ fp, H' b = none) ∧ W i m σ' H' := fun {σ7 H7} I7 n7 => by
      obtain ⟨m', hm, w7⟩ := hN σ7 H7 n7
      refine ⟨m', hm, i + 1, σ7, H7, I7.unpinned, T.keep _ _ _ st5 fun b hb o e => (I7.pin (b, o) (List.mem_append_right _ (List.mem_append_right _ (mem_pinsAt hb e)))).1, fun b hb => ?_, w7⟩
      obtain ⟨o, e, d⟩ := T.obj _ _ st5 b hb
      exact (I7.pin (b, o) (List.mem_append_right _ (List.mem_append_right _ (mem_pinsAt hb e)))).2.1
    cases f with
    | next => obtain ⟨σ7, H7, I7, n7⟩ := q7; exact again I7 n7
    | cont => obtain ⟨σ7, H7, I7, n7⟩ := q7; exact again I7 n7
    | brk => obtain ⟨σ7, H7, I7, q7⟩ := q7; exact ⟨σ7, H7, I7.unpinned, q7⟩
    | ret v => obtain ⟨x7, σ7, H7, I7, r7, q7⟩ := q7; exact ⟨x7, σ7, H7, I7.unpinned, r7, q7⟩
end
theorem for_list {K : PySem.W.Frag} {a : Addr} {xs : List V} {g : TG} {tb : TS} {D : Ends} {σ : St} {H : Hp} (Pv : Nat → St → Hp → Prop) (h0 : Pv 0 σ H) (hl : ∀ i σ H, i ≤ xs.length → Pv i σ H → SqL K H a xs)
    (hs : ∀ i x σ H, xs[i]? = some x → Pv i σ H → g x σ H fun σ2 H2 => tb { D with nx := Pv (i + 1), ct := Pv (i + 1), bk := D.nx } σ2 H2) (hd : ∀ σ H, Pv xs.length σ H → D.nx σ H) :
    ∃ W : Nat → Nat → St → Hp → Prop, (∃ m, W 0 m σ H) ∧ ∀ i m σ H, W i m σ H →
      ((Itl K a).stop i H ∧ D.nx σ H) ∨ ((Itl K a).go i H ∧ ∃ N : St → Hp → Prop, (∀ σ' H', N σ' H' → ∃ m', m' < m ∧ W (i + 1) m' σ' H') ∧ ∀ x H', (Itl K a).yld i H x H' → g x σ H' fun σ2 H2 => tb { D with nx := N, ct := N, bk := D.nx } σ2 H2) := by
  refine ⟨fun i m σ H => m = xs.length - i ∧ i ≤ xs.length ∧ Pv i σ H, ⟨xs.length, by simp, Nat.zero_le _, h0⟩, ?_⟩
  rintro i m σ H ⟨rfl, hi, p⟩
  have q := hl i σ H hi p
  by_cases hlt : i < xs.length
  · refine .inr ⟨⟨xs, xs[i], q, by simp [hlt]⟩, Pv (i + 1), fun σ' H' p' => ⟨xs.length - (i + 1), by omega, rfl, hlt, p'⟩, fun x H' y => ?_⟩
    obtain ⟨e, y⟩ := y
    subst e
    exact hs i x σ _ (y xs q) p
  · have e : i = xs.length := by omega
    subst e
    exact .inl ⟨⟨xs, q, Nat.le_refl _⟩, hd σ H p⟩
theorem while_by {c : TT} {tb : TS} {D : Ends} {σ : St} {H : Hp} (Pv : St → Hp → Prop) (μ : St → Hp → Nat) (h0 : Pv σ H)
    (hs : ∀ σ H, Pv σ H → c σ H fun b H1 => if b = true then tb { D with nx := fun σ' H' => Pv σ' H' ∧ μ σ' H' < μ σ H, ct := fun σ' H' => Pv σ' H' ∧ μ σ' H' < μ σ H, bk := D.nx } σ H1 else D.nx σ H1)
    (mono : ∀ σ H Q Q', (∀ b H1, Q b H1 → Q' b H1) → c σ H Q → c σ H Q') : tWhile c tb D σ H := by
  refine ⟨fun m σ H => m = μ σ H ∧ Pv σ H, ⟨_, rfl, h0⟩, ?_⟩
  rintro m σ H ⟨rfl, p⟩
  refine mono σ H _ _ (fun b H1 q => ?_) (hs σ H p)
  cases b with
  | true => exact ⟨_, fun σ' H' ⟨p', l⟩ => ⟨_, l, rfl, p'⟩, q⟩
  | false => exact q
end L2
namespace L2
open PySem PySem.Spec PyProof.Rows
noncomputable abbrev R2 := V → V → Hp → VK → Prop
noncomputable def OpR (X : Cx) (f : Value → Value → Sem Value) (r : R2) : Prop :=
  ∀ (pins : List (Addr × Obj)) (s : Shared) (σ : St) (H : Hp) (x y : V) (v u : Value) (Q : VK), Inv X pins σ H s → RelV x v → RelV y u → r x y H Q →
    wpAny (model X.prog X.w) X.A (f v u) (EP X pins σ Q) X.xe s
noncomputable def UnR (X : Cx) (f : Value → Sem Value) (r : V → Hp → VK → Prop) : Prop :=
  ∀ (pins : List (Addr × Obj)) (s : Shared) (σ : St) (H : Hp) (x : V) (v : Value) (Q : VK), Inv X pins σ H s → RelV x v → r x H Q →
    wpAny (model X.prog X.w) X.A (f v) (EP X pins σ Q) X.xe s
noncomputable def CallR (X : Cx) (f : Value) (r : List V → Hp → VK → Prop) : Prop :=
  ∀ (pins : List (Addr × Obj)) (s : Shared) (σ : St) (H : Hp) (xs : List V) (us : List Value) (Q : VK), Inv X pins σ H s → Vals xs us → r xs H Q →
    wpAny (model X.prog X.w) X.A (call f us) (EP X pins σ Q) X.xe s
noncomputable def tOp (r : R2) (ta tb : TE) : TE := fun σ H Q => ta σ H fun x H1 => tb σ H1 fun y H2 => r x y H2 Q
noncomputable def tUn (r : V → Hp → VK → Prop) (ta : TE) : TE := fun σ H Q => ta σ H fun x H1 => r x H1 Q
noncomputable def rI (C : Int → Int → Prop) (g : Int → Int → V) : R2 := fun x y H Q => ∃ i j, x = .int i ∧ y = .int j ∧ C i j ∧ Q (g i j) H
noncomputable def rI0 (g : Int → Int → V) : R2 := fun x y H Q => ∃ i j, x = .int i ∧ y = .int j ∧ Q (g i j) H
noncomputable def rU (g : Int → V) : V → Hp → VK → Prop := fun x H Q => ∃ i, x = .int i ∧ Q (g i) H
section
variable {X : Cx} {a b c : Expr} {ta tb tc : TE} {pos : Pos}
theorem binT (ha : PE X a ta) (hb : PE X b tb) {pins : List (Addr × Obj)} {s : Shared} {σ : St} {H : Hp} {R : V → V → Hp → Prop} (I : Inv X pins σ H s)
    (h : ta σ H fun x H1 => tb σ H1 fun y H2 => R x y H2) {Q : Value → Shared → Prop} {f : Value → Value → Sem Value}
    (hf : ∀ v u s2 x y H2, Inv X pins σ H2 s2 → RelV x v → RelV y u → R x y H2 → wpAny (model X.prog X.w) X.A (f v u) Q X.xe s2) :
    wpAny (model X.prog X.w) X.A (eval a X.env) (fun v s₁ => wpAny (model X.prog X.w) X.A (eval b X.env) (fun u s₂ => wpAny (model X.prog X.w) X.A (f v u) Q X.xe s₂) X.xe s₁) X.xe s := by
  refine thn (ha pins s σ H _ I h) fun v s1 ⟨x, H1, I1, r1, q1⟩ => ?_
  refine thn (hb pins s1 σ H1 _ I1 q1) fun u s2 ⟨y, H2, I2, r2, q2⟩ => ?_
  exact hf v u s2 x y H2 I2 r1 r2 q2
theorem pe_op {op : Operator} {r : R2} (ho : OpR X (binaryOp op) r) (ha : PE X a ta) (hb : PE X b tb) : PE X (.BinOp a op b pos) (tOp r ta tb) := by
  intro pins s σ H Q I h
  exact wpAny_BinOp (binT ha hb I h fun v u s2 x y H2 I2 rx ry q => ho pins s2 σ H2 x y v u Q I2 rx ry q)
theorem pe_un {op : UnaryOp} {r : V → Hp → VK → Prop} (ho : UnR X (unaryOp op) r) (ha : PE X a ta) : PE X (.UnaryOp op a pos) (tUn r ta) := by
  intro pins s σ H Q I h
  exact UnaryOp_ (thn (ha pins s σ H _ I h) fun v s1 ⟨x, H1, I1, r1, q1⟩ => ho pins s1 σ H1 x v Q I1 r1 q1)
theorem opI {f : Value → Value → Sem Value} {C : Int → Int → Prop} {g : Int → Int → Int}
    (rule : ∀ (i j : Int) (t u : Tok) (s : Shared) (Q : Value → Shared → Prop) (E : Value → Shared → Prop), C i j → Q (.int (g i j) s.toks) { s with toks := s.toks + 1 } → wpAny (model X.prog X.w) X.A (f (.int i t) (.int j u)) Q E s) :
    OpR X f (rI C fun i j => .int (g i j)) := by
  intro pins s σ H x y v u Q I rx ry h
  obtain ⟨i, j, rfl, rfl, hc, q⟩ := h
  obtain ⟨t, rfl⟩ := rx
  obtain ⟨t', rfl⟩ := ry
  exact rule i j t t' s _ _ hc ⟨.int (g i j), H, I.tok _, ⟨_, rfl⟩, q⟩
theorem opI0 {f : Value → Value → Sem Value} {g : Int → Int → Int}
    (rule : ∀ (i j : Int) (t u : Tok) (s : Shared) (Q : Value → Shared → Prop) (E : Value → Shared → Prop), Q (.int (g i j) s.toks) { s with toks := s.toks + 1 } → wpAny (model X.prog X.w) X.A (f (.int i t) (.int j u)) Q E s) :
    OpR X f (rI0 fun i j => .int (g i j)) := by
  intro pins s σ H x y v u Q I rx ry h
  obtain ⟨i, j, rfl, rfl, q⟩ := h
  obtain ⟨t, rfl⟩ := rx
  obtain ⟨t', rfl⟩ := ry
  exact rule i j t t' s _ _ ⟨.int (g i j), H, I.tok _, ⟨_, rfl⟩, q⟩
theorem opB0 {f : Value → Value → Sem Value} {g : Int → Int → Bool}
    (rule : ∀ (i j : Int) (t u : Tok) (s : Shared) (Q : Value → Shared → Prop) (E : Value → Shared → Prop), Q (.bool (g i j)) s → wpAny (model X.prog X.w) X.A (f (.int i t) (.int j u)) Q E s) :
    OpR X f (rI0 fun i j => .bl (g i j)) := by
  intro pins s σ H x y v u Q I rx ry h
  obtain ⟨i, j, rfl, rfl, q⟩ := h
  obtain ⟨t, rfl⟩ := rx
  obtain ⟨t', rfl⟩ := ry
  exact rule i j t t' s _ _ ⟨.bl (g i j), H, I, rfl, q⟩
noncomputable def CDiv (i j : Int) : Prop := 0 < j ∧ j < 1073741824
noncomputable def CPow (i j : Int) : Prop := 0 ≤ j ∧ j ≤ 1000000 ∧ i.natAbs < 2 ^ 64
noncomputable def CMul (i j : Int) : Prop := (-(2 ^ 64) < i ∧ i < 2 ^ 64) ∨ (-(2 ^ 64) < j ∧ j < 2 ^ 64)
theorem CMul.ok {i j : Int} (h : CMul i j) : IntMulOk i j := by
  rcases h with ⟨h1, h2⟩ | ⟨h1, h2⟩
  · exact .of_left (intBits_le_64 h1 h2)
  · exact .of_right (intBits_le_64 h1 h2)
theorem op_add : OpR X (binaryOp .Add) (rI0 fun i j => .int (i + j)) := opI0 fun _ _ _ _ _ _ _ q => add_int q
theorem op_sub : OpR X (binaryOp .Sub) (rI0 fun i j => .int (i - j)) := opI0 fun _ _ _ _ _ _ _ q => sub_int q
theorem op_mul : OpR X (binaryOp .Mult) (rI CMul fun i j => .int (i * j)) := opI fun _ _ _ _ _ _ _ hc q => mul_int q hc.ok
theorem op_fdiv : OpR X (binaryOp .FloorDiv) (rI CDiv fun i j => .int (i / j)) := opI fun i j _ _ _ _ _ hc q => by
  have h1 : (0 : Int) < j := hc.1
  have h2 : j < 1073741824 := hc.2
  exact floordiv_int (by omega) (by rw [Int.fdiv_eq_ediv_of_nonneg i (by omega)]; exact q) (.inl (PyProof.noPylong_small (by omega)))
theorem op_mod : OpR X (binaryOp .Mod) (rI (fun _ j => 0 < j) fun i j => .int (i % j)) := opI fun i j _ _ _ _ _ hc q => by
  have h1 : (0 : Int) < j := hc
  exact mod_int' (by omega) (by rw [Int.fmod_eq_emod_of_nonneg i (by omega)]; exact q)
theorem op_pow : OpR X (binaryOp .Pow) (rI CPow fun i j => .int (i ^ j.toNat)) := opI fun _ _ _ _ _ _ _ hc q => pow_int_small hc.1 hc.2.1 hc.2.2 q
theorem unI {f : Value → Sem Value} {g : Int → Int}
    (rule : ∀ (i : Int) (t : Tok) (s : Shared) (Q : Value → Shared → Prop) (E : Value → Shared → Prop), Q (.int (g i) s.toks) { s with toks := s.toks + 1 } → wpAny (model X.prog X.w) X.A (f (.int i t)) Q E s) :
    UnR X f (rU fun i => .int (g i)) := by
  intro pins s σ H x v Q I rx h
  obtain ⟨i, rfl, q⟩ := h
  obtain ⟨t, rfl⟩ := rx
  exact rule i t s _ _ ⟨.int (g i), H, I.tok _, ⟨_, rfl⟩, q⟩
theorem un_neg : UnR X (unaryOp .USub) (rU fun i => .int (-i)) := unI fun _ _ _ _ _ q => neg_int q
end
noncomputable def scal : V → V → Bool
  | .non, .non => true | .non, .int _ => true | .int _, .non => true | .non, .bl _ => true | .bl _, .non => true | .non, .str _ => true | .str _, .non => true
  | .int _, .int _ => true | .bl _, .bl _ => true | .str _, .str _ => true | .byt _, .byt _ => true
  | .int _, .str _ => true | .str _, .int _ => true | .bl _, .str _ => true | .str _, .bl _ => true
  | _, _ => false
noncomputable def rEq : R2 := fun x y H Q => scal x y = true ∧ Q (.bl (decide (x = y))) H
noncomputable def rNe : R2 := fun x y H Q => scal x y = true ∧ Q (.bl (!decide (x = y))) H
theorem dec_int {i j : Int} : decide (V.int i = V.int j) = (i == j) := by
  rw [Bool.eq_iff_iff]
  simp
theorem dec_bl {i j : Bool} : decide (V.bl i = V.bl j) = (i == j) := by
  rw [Bool.eq_iff_iff]
  simp
theorem dec_str {i j : Str} : decide (V.str i = V.str j) = (i == j) := by
  rw [Bool.eq_iff_iff]
  simp
theorem dec_byt {i j : Array UInt8} : decide (V.byt i = V.byt j) = (i.toList == j.toList) := by
  rw [Bool.eq_iff_iff]
  cases i
  cases j
  simp
section
variable {X : Cx} {a b c : Expr} {ta tb tc : TE} {pos : Pos}
theorem fin_bl {pins : List (Addr × Obj)} {σ : St} {H : Hp} {s : Shared} {Q : VK} {k k' : Bool} (I : Inv X pins σ H s) (q : Q (.bl k) H) (e : k = k') : EP X pins σ Q (.bool k') s := by
  subst e
  exact ⟨.bl k, H, I, rfl, q⟩
theorem op_eq : OpR X (compareOp .Eq) rEq := by
  intro pins s σ H x y v u Q I rx ry h
  obtain ⟨hs, q⟩ := h
  cases x with
  | non =>
    cases rx
    cases y with
    | non => cases ry; exact PySem.EqNone.eq_none_none (fin_bl I q (by simp))
    | bl j => cases ry; exact PySem.EqNone.eq_none_bool (fin_bl I q (by simp))
    | int j => obtain ⟨t', rfl⟩ := ry; exact PySem.EqNone.eq_none_int (fin_bl I q (by simp))
    | str j => obtain ⟨t', rfl⟩ := ry; exact PySem.EqNone.eq_none_str (fin_bl I q (by simp))
    | _ => exact absurd (show false = true from hs) Bool.false_ne_true
  | bl i =>
    cases rx
    cases y with
    | non => cases ry; exact PySem.EqNone.eq_bool_none (fin_bl I q (by simp))
    | bl j => cases ry; exact eq_bool (fin_bl I q dec_bl)
    | str j => obtain ⟨t', rfl⟩ := ry; exact PySem.EqMixed.eq_bool_str (fin_bl I q (by simp))
    | _ => exact absurd (show false = true from hs) Bool.false_ne_true
  | int i =>
    obtain ⟨t, rfl⟩ := rx
    cases y with
    | non => cases ry; exact PySem.EqNone.eq_int_none (fin_bl I q (by simp))
    | int j => obtain ⟨t', rfl⟩ := ry; exact eq_int (fin_bl I q dec_int)
    | str j => obtain ⟨t', rfl⟩ := ry; exact PySem.EqMixed.eq_int_str (fin_bl I q (by simp))
    | _ => exact absurd (show false = true from hs) Bool.false_ne_true
  | str i =>
    obtain ⟨t, rfl⟩ := rx
    cases y with
    | non => cases ry; exact PySem.EqNone.eq_str_none (fin_bl I q (by simp))
    | bl j => cases ry; exact PySem.EqMixed.eq_str_bool (fin_bl I q (by simp))
    | int j => obtain ⟨t', rfl⟩ := ry; exact PySem.EqMixed.eq_str_int (fin_bl I q (by simp))
    | str j => obtain ⟨t', rfl⟩ := ry; exact eq_str (fin_bl I q dec_str)
    | _ => exact absurd (show false = true from hs) Bool.false_ne_true
  | byt i =>
    obtain ⟨t, rfl⟩ := rx
    cases y with
    | byt j => obtain ⟨t', rfl⟩ := ry; exact PySem.W.eq_bytes (fin_bl I q dec_byt)
    | _ => exact absurd (show false = true from hs) Bool.false_ne_true
  | _ => cases y <;> exact absurd (show false = true from hs) Bool.false_ne_true
theorem op_ne : OpR X (compareOp .NotEq) rNe := by
  intro pins s σ H x y v u Q I rx ry h
  obtain ⟨hs, q⟩ := h
  cases x with
  | non =>
    cases rx
    cases y with
    | non => cases ry; exact PySem.EqNone.ne_none_none (fin_bl I q (by simp))
    | bl j => cases ry; exact PySem.EqNone.ne_none_bool (fin_bl I q (by simp))
    | int j => obtain ⟨t', rfl⟩ := ry; exact PySem.EqNone.ne_none_int (fin_bl I q (by simp))
    | str j => obtain ⟨t', rfl⟩ := ry; exact PySem.EqNone.ne_none_str (fin_bl I q (by simp))
    | _ => exact absurd (show false = true from hs) Bool.false_ne_true
  | bl i =>
    cases rx
    cases y with
    | non => cases ry; exact PySem.EqNone.ne_bool_none (fin_bl I q (by simp))
    | bl j => cases ry; exact ne_bool (fin_bl I q (congrArg not dec_bl))
    | str j => obtain ⟨t', rfl⟩ := ry; exact PySem.EqMixed.ne_bool_str (fin_bl I q (by simp))
    | _ => exact absurd (show false = true from hs) Bool.false_ne_true
  | int i =>
    obtain ⟨t, rfl⟩ := rx
    cases y with
    | non => cases ry; exact PySem.EqNone.ne_int_none (fin_bl I q (by simp))
    | int j => obtain ⟨t', rfl⟩ := ry; exact ne_int (fin_bl I q (congrArg not dec_int))
    | str j => obtain ⟨t', rfl⟩ := ry; exact PySem.EqMixed.ne_int_str (fin_bl I q (by simp))
    | _ => exact absurd (show false = true from hs) Bool.false_ne_true
  | str i =>
    obtain ⟨t, rfl⟩ := rx
    cases y with
    | non => cases ry; exact PySem.EqNone.ne_str_none (fin_bl I q (by simp))
    | bl j => cases ry; exact PySem.EqMixed.ne_str_bool (fin_bl I q (by simp))
    | int j => obtain ⟨t', rfl⟩ := ry; exact PySem.EqMixed.ne_str_int (fin_bl I q (by simp))
    | str j => obtain ⟨t', rfl⟩ := ry; exact ne_str (fin_bl I q (congrArg not dec_str))
    | _ => exact absurd (show false = true from hs) Bool.false_ne_true
  | byt i =>
    obtain ⟨t, rfl⟩ := rx
    cases y with
    | byt j => obtain ⟨t', rfl⟩ := ry; exact PySem.W.ne_bytes (fin_bl I q (congrArg not dec_byt))
    | _ => exact absurd (show false = true from hs) Bool.false_ne_true
  | _ => cases y <;> exact absurd (show false = true from hs) Bool.false_ne_true
theorem op_lt : OpR X (compareOp .Lt) (rI0 fun i j => .bl (decide (i < j))) := opB0 fun _ _ _ _ _ _ _ q => lt_int q
theorem op_le : OpR X (compareOp .LtE) (rI0 fun i j => .bl (decide (i ≤ j))) := opB0 fun _ _ _ _ _ _ _ q => le_int q
theorem op_gt : OpR X (compareOp .Gt) (rI0 fun i j => .bl (decide (j < i))) := opB0 fun _ _ _ _ _ _ _ q => gt_int q
theorem op_in_str : OpR X (compareOp .In) (fun x y H Q => ∃ i j, x = .str i ∧ y = .str j ∧ Q (.bl (!(Builtin.Str.occurrences j i 0 j.length 1).isEmpty)) H) := by
  intro pins s σ H x y v u Q I rx ry h
  obtain ⟨i, j, rfl, rfl, q⟩ := h
  obtain ⟨t, rfl⟩ := rx
  obtain ⟨t', rfl⟩ := ry
  exact in_str (fin_bl I q rfl)
theorem nomark (b : Expr) {op : CmpOp} (h : op ≠ .In := by decide) (h2 : op ≠ .NotIn := by decide) : behindInMarks op b = false := by
  have e1 : (op == CmpOp.In) = false := by cases op <;> first | rfl | exact absurd rfl h
  have e2 : (op == CmpOp.NotIn) = false := by cases op <;> first | rfl | exact absurd rfl h2
  cases b <;> simp [behindInMarks, e1, e2]
theorem pe_cmpR {op : CmpOp} {r : R2} (ho : OpR X (compareOp op) r) (ha : PE X a ta) (hb : PE X b tb) (hm : behindInMarks op b = false) : PE X (.Compare a [op] [b] pos) (tOp r ta tb) := by
  intro pins s σ H Q I h
  exact wpAny_Compare1 (binT ha hb I h fun v u s2 x y H2 I2 rx ry q => ho pins s2 σ H2 x y v u Q I2 rx ry q) hm
noncomputable def tTest (t : TE) : TT := fun σ H Q => t σ H fun x H' => ∃ k, x = .bl k ∧ Q k H'
theorem pt_cmpR {op : CmpOp} {r : R2} (ho : OpR X (compareOp op) r) (ha : PE X a ta) (hb : PE X b tb) (hm : behindInMarks op b = false) : PT X (.Compare a [op] [b] pos) (tTest (tOp r ta tb)) := by
  intro pins s σ H Q I h
  refine wpAny_isTrue_Compare1 (thn (ha pins s σ H _ I h) fun v s1 ⟨x, H1, I1, r1, q1⟩ => thn (hb pins s1 σ H1 _ I1 q1) fun u s2 ⟨y, H2, I2, r2, q2⟩ =>
    thn (ho pins s2 σ H2 x y v u _ I2 r1 r2 q2) fun c s3 ⟨z, H3, I3, r3, k, e, q3⟩ => ?_) hm
  subst e
  cases r3
  exact wpAny_truthy_bool ⟨H3, I3, q3⟩
theorem line63 : (sizeLine : Nat) < 2 ^ 63 := by rw [sizeLine_eq]; decide
theorem op_add_str : OpR X (binaryOp .Add) (fun x y H Q => ∃ i j, x = .str i ∧ y = .str j ∧ i.length + j.length ≤ sizeLine ∧ Q (.str (i ++ j)) H) := by
  intro pins s σ H x y v u Q I rx ry h
  obtain ⟨i, j, rfl, rfl, hz, q⟩ := h
  obtain ⟨t, rfl⟩ := rx
  obtain ⟨t', rfl⟩ := ry
  exact add_str (fun t' tk => ⟨.str (i ++ j), H, I.tok _, ⟨_, rfl⟩, q⟩) hz
theorem vals1 {x : V} {us : List Value} (r : Vals [x] us) : ∃ u, us = [u] ∧ RelV x u := by
  cases r with
  | cons r1 r2 => cases r2; exact ⟨_, rfl, r1⟩
theorem vals2 {x y : V} {us : List Value} (r : Vals [x, y] us) : ∃ u w', us = [u, w'] ∧ RelV x u ∧ RelV y w' := by
  cases r with
  | cons r1 r2 =>
    cases r2 with
    | cons r3 r4 => cases r4; exact ⟨_, _, rfl, r1, r3⟩
theorem call_max2 (hc : X.calm = true) : CallR X (.builtin "max") (fun xs H Q => ∃ i j, xs = [.int i, .int j] ∧ Q (.int (if j > i then j else i)) H) := by
  intro pins s σ H xs us Q I r h
  obtain ⟨i, j, rfl, q⟩ := h
  obtain ⟨u, w', rfl, ⟨t, rfl⟩, ⟨t', rfl⟩⟩ := vals2 r
  refine max_two_ints (I.ok.hd hc) fun h' tk k => ⟨_, H, I.kept k, ?_, q⟩
  by_cases hj : j > i
  · rw [if_pos hj, if_pos hj]; exact ⟨_, rfl⟩
  · rw [if_neg hj, if_neg hj]; exact ⟨_, rfl⟩
theorem call_min2 (hc : X.calm = true) : CallR X (.builtin "min") (fun xs H Q => ∃ i j, xs = [.int i, .int j] ∧ Q (.int (if j < i then j else i)) H) := by
  intro pins s σ H xs us Q I r h
  obtain ⟨i, j, rfl, q⟩ := h
  obtain ⟨u, w', rfl, ⟨t, rfl⟩, ⟨t', rfl⟩⟩ := vals2 r
  refine min_two_ints (I.ok.hd hc) fun h' tk k => ⟨_, H, I.kept k, ?_, q⟩
  by_cases hj : j < i
  · rw [if_pos hj, if_pos hj]; exact ⟨_, rfl⟩
  · rw [if_neg hj, if_neg hj]; exact ⟨_, rfl⟩
theorem call_int1 : CallR X (.type "int") (fun xs H Q => (∃ i, xs = [.int i] ∧ Q (.int i) H) ∨ ∃ k, xs = [.bl k] ∧ Q (.int (if k then 1 else 0)) H) := by
  intro pins s σ H xs us Q I r h
  rcases h with ⟨i, rfl, q⟩ | ⟨k, rfl, q⟩
  · obtain ⟨u, rfl, t, rfl⟩ := vals1 r
    exact call_int_int ⟨.int i, H, I, ⟨_, rfl⟩, q⟩
  · obtain ⟨u, rfl, r1⟩ := vals1 r
    cases r1
    exact call_int_bool ⟨.int (if k then 1 else 0), H, I.tok _, ⟨_, rfl⟩, q⟩
theorem call_str_int : CallR X (.type "str") (fun xs H Q => ∃ i, xs = [.int i] ∧ i.natAbs.log2 < 1920 ∧ Q (.str (toString i)) H) := by
  intro pins s σ H xs us Q I r h
  obtain ⟨i, rfl, hz, q⟩ := h
  obtain ⟨u, rfl, t, rfl⟩ := vals1 r
  exact PySem.P.str_of_int hz ⟨.str _, H, I.tok _, ⟨_, rfl⟩, q⟩
end
end L2
namespace L2
open PySem PySem.Spec PyProof.Rows
structure ObjM (h : Heap) (x dx C : Addr) (mA : Str → Option Value) : Prop where
  obj : h.get? x = some (PySem.W.instObj C dx)
  ns : h.Ns1 dx mA
  ne : dx ≠ x
theorem lookIn_ns {h : Heap} {dx : Addr} {mA : Str → Option Value} (n : h.Ns1 dx mA) : ∃ od, h.get? dx = some od ∧ ∀ name, PySem.W.lookIn name od = some (mA name) := by
  obtain ⟨o, es, ep, ho, hd, hk, _, hm⟩ := n
  refine ⟨o, ho, fun name => ?_⟩
  have e := hm name
  unfold nsFind findBy at e
  rw [← Array.find?_toList] at e
  unfold PySem.W.lookIn
  rw [hd]
  dsimp only
  split
  · rename_i y q
    rw [q] at e
    exact congrArg some e
  · rename_i q
    rw [q] at e
    have a : es.toList.any (·.refKey) = false := by
      rw [List.any_eq_false]
      intro y hy
      obtain ⟨z, t, hkey⟩ := hk y (Array.mem_toList_iff.mp hy)
      simp [DictEntry.refKey, hkey]
    have a' : ¬ es.toList.any (·.refKey) = true := by rw [a]; exact Bool.false_ne_true
    rw [if_neg a']
    exact congrArg some e
theorem ObjM.look {h : Heap} {x dx C : Addr} {mA : Str → Option Value} (I : ObjM h x dx C mA) : ∃ od, PySem.W.InstAt h x (PySem.W.instObj C dx) C (some od) ∧ ∀ name, PySem.W.lookIn name od = some (mA name) :=
  let ⟨od, ho, hl⟩ := lookIn_ns I.ns
  ⟨od, ⟨I.obj, rfl, rfl, ho⟩, hl⟩
section
variable {prog : Program} {w : World} {A : Around} {E : Value → Shared → Prop} {s : Shared} {K : PySem.W.Frag} {x dx C f : Addr} {mA : Str → Option Value} {name : Str} {v : Value}
end
noncomputable def putF (f : Str) (v : V) : List (Str × V) → List (Str × V)
  | [] => [(f, v)]
  | (g, x) :: r => if g = f then (g, v) :: r else (g, x) :: putF f v r
section
variable {P : Program} {w : World} {H H' : Hp} {h h' : Heap} {a C dx : Addr} {fs fs' : List (Str × V)}
theorem ins_get (hok : HOk P w H h) (e : H a = some (.ins C dx fs)) : ∃ mA, ObjM h a dx C mA ∧ (∀ f, RelO (fs.lookup f) (mA f)) ∧ PySem.Within mA (fs.map (·.1)) ∧ fs.length ≤ 1000 ∧ H dx = some (.own a) := by
  obtain ⟨d, z, ne, ob, mA, n, r, q⟩ := (show ObjOk P w H h a (.ins C dx fs) from hok a _ e)
  exact ⟨mA, ⟨ob, n, ne⟩, r, q, z, d⟩
end
structure Cls (K : PySem.W.Frag) (C : Addr) : Prop where
  pg : PySem.W.plainGet K C Str.empty = true
  hd : PySem.W.hasDictIn K C = true
  po : PySem.W.plainOver K C = true
  sa : PySem.W.findIn K (.ref C) "__setattr__" = some (some (.builtin "object.__setattr__"))
theorem Cls.get {K : PySem.W.Frag} {C : Addr} (c : Cls K C) (f : Str) : PySem.W.plainGet K C f = true := c.pg
section
variable {X : Cx} {pins : List (Addr × Obj)} {σ : St} {H : Hp} {s : Shared} {a C dx : Addr} {fs : List (Str × V)} {f : Str} {v : V} {A : Around} {E : Value → Shared → Prop}
end
section
variable {X : Cx} {o e value : Expr} {f : Str} {pos pos' tpos : Pos} {ta tv : TE}
end
section
variable {X : Cx} {pins : List (Addr × Obj)} {σ : St} {H : Hp} {s : Shared} {A : Around} {E : Value → Shared → Prop} {Q : Value → Shared → Prop} {c : Value} {b : Bool}
inductive TyOf (K : PySem.W.Frag) (H : Hp) : V → Value → Prop where
  | non : TyOf K H .non (.type "NoneType")
  | bl (x : Bool) : TyOf K H (.bl x) (.type "bool")
  | int (i : Int) : TyOf K H (.int i) (.type "int")
  | str (x : Str) : TyOf K H (.str x) (.type "str")
  | flt (x : UInt64) : TyOf K H (.flt x) (.type "float")
  | lst {a : Addr} {xs : List V} (e : H a = some (.lst xs)) : TyOf K H (.ref a) (.type "list")
  | frz {a : Addr} {o : Obj} {xs : List V} (e : H a = some (.frz o (.lst xs))) : TyOf K H (.ref a) (.type "list")
  | tup {a : Addr} {xs : List V} (e : H a = some (.tup xs)) : TyOf K H (.ref a) (.type "tuple")
  | dK {a : Addr} {kvs : List (Key × V)} (e : H a = some (.dK kvs)) : TyOf K H (.ref a) (.type "dict")
  | dT {a : Addr} {kvs : List (List Key × V)} (e : H a = some (.dT kvs)) : TyOf K H (.ref a) (.type "dict")
  | ins {a C dx : Addr} {fs : List (Str × V)} (e : H a = some (.ins C dx fs)) (cl : Cls K C) (ha : PySem.W.findIn K (.ref C) "__class__" = some (some (.builtin "object.__class__")))
      (hn : PySem.W.specialIn K (.builtin "object.__class__") "__get__" = some (some (.builtin "getset_descriptor.__get__"))) (htk : PySem.W.takesIn K (.builtin "object.__class__") = some true)
      (hm : PySem.W.mroIn K C (.type "object") = some true) : TyOf K H (.ref a) (.ref C)
theorem isinst_ok {x : V} {u t : Value} (I : Inv X pins σ H s) (rx : RelV x u) (ty : TyOf X.K H x t) (e : PySem.W.kitOne X.K t c = some b) (h : ∀ tk, Q (.bool b) { s with toks := tk }) :
    wpAny (model X.prog X.w) A (call (.builtin "isinstance") [u, c]) Q E s := by
  cases ty with
  | non => cases (show u = Value.none from rx); exact PySem.W.kia_one PySem.W.kitx_none I.kIn True.intro e (fun z => nomatch z) h
  | bl y => cases (show u = Value.bool y from rx); exact PySem.W.kia_one PySem.W.kitx_bool I.kIn True.intro e (fun z => nomatch z) h
  | int i => obtain ⟨t, q⟩ := (show ∃ t, u = Value.int i t from rx); cases q; exact PySem.W.kia_one PySem.W.kitx_int I.kIn True.intro e (fun z => nomatch z) h
  | str y => obtain ⟨t, q⟩ := (show ∃ t, u = Value.str y t from rx); cases q; exact PySem.W.kia_one PySem.W.kitx_str I.kIn True.intro e (fun z => nomatch z) h
  | flt y => obtain ⟨t, q⟩ := (show ∃ t, u = Value.float y t from rx); cases q; exact PySem.W.kia_one PySem.W.kitx_float I.kIn True.intro e (fun z => nomatch z) h
  | @lst a xs ea =>
    cases (show u = Value.ref a from rx)
    obtain ⟨_, _, n, _, h1⟩ := (show ObjOk X.prog X.w H s.heap a (.lst xs) from I.hok a _ ea)
    exact PySem.W.kia_one PySem.W.kitx_list I.kIn ⟨_, h1, rfl⟩ e (fun z => nomatch z) h
  | @frz a ob xs ea =>
    cases (show u = Value.ref a from rx)
    obtain ⟨_, _, _, n, _, h1⟩ := (show ObjOk X.prog X.w H s.heap a (.frz ob (.lst xs)) from I.hok a _ ea)
    exact PySem.W.kia_one PySem.W.kitx_list I.kIn ⟨_, h1, rfl⟩ e (fun z => nomatch z) h
  | @tup a xs ea =>
    cases (show u = Value.ref a from rx)
    obtain ⟨_, _, _, p⟩ := (show ObjOk X.prog X.w H s.heap a (.tup xs) from I.hok a _ ea)
    obtain ⟨o, h1, h2, _⟩ := p
    exact PySem.W.kia_one PySem.W.kitx_tuple I.kIn ⟨o, h1, h2⟩ e (fun z => nomatch z) h
  | @dK a kvs ea =>
    cases (show u = Value.ref a from rx)
    obtain ⟨_, _, vs, _, p⟩ := (show ObjOk X.prog X.w H s.heap a (.dK kvs) from I.hok a _ ea)
    obtain ⟨o, es, ep, h1, h2, _⟩ := p
    exact PySem.W.kia_one PySem.W.kitx_dict I.kIn ⟨o, h1, h2.1⟩ e (fun z => nomatch z) h
  | @dT a kvs ea =>
    cases (show u = Value.ref a from rx)
    obtain ⟨_, _, xs, _, o, es, ep, h1, h2, _⟩ := (show ObjOk X.prog X.w H s.heap a (.dT kvs) from I.hok a _ ea)
    exact PySem.W.kia_one PySem.W.kitx_dict I.kIn ⟨o, h1, h2.1⟩ e (fun z => nomatch z) h
  | @ins a C dx fs ea cl ha hn htk hm =>
    cases (show u = Value.ref a from rx)
    obtain ⟨mA, O, _⟩ := ins_get I.hok ea
    obtain ⟨od, J, _⟩ := O.look
    exact PySem.W.kia_one (PySem.W.kitx_own (cl.get _) cl.hd ha hn htk hm) I.kIn J e (fun z => nomatch z) h
end
end L2
namespace L2
open PySem PySem.Spec PyProof.Rows
structure Room (k : Nat) (A : Around) : Prop where
  hd : A.handled = none
  dp : A.depth + 3 * k + 5 < recursionLimit
  un : A.units + 16 * k + 200 < cLine
  gd : A.guards = some []
theorem Room.mono {j k : Nat} {A : Around} (r : Room k A) (h : j ≤ k) : Room j A := ⟨r.hd, by have := r.dp; omega, by have := r.un; omega, r.gd⟩
theorem Room.deeper {k : Nat} {A : Around} (r : Room (k + 1) A) (env : Env) : Room k (A.deeper env) :=
  ⟨r.hd, by have := r.dp; show A.depth + 1 + 3 * k + 5 < _; omega, by have := r.un; show A.units + 3 + 16 * k + 200 < _; omega, r.gd⟩
theorem Room.depth {k : Nat} {A : Around} (r : Room k A) : A.depth < recursionLimit := by have := r.dp; omega
theorem Room.units {k : Nat} {A : Around} (r : Room k A) : A.units + 64 < cLine := by have := r.un; omega
noncomputable def tNil : TA := fun _ H Q => Q [] H
noncomputable def tCons (ta : TE) (tr : TA) : TA := fun σ H Q => ta σ H fun x H1 => tr σ H1 fun xs H2 => Q (x :: xs) H2
section
variable {X : Cx} {e : Expr} {es : List Expr} {te : TE} {t : TA} {pos : Pos}
theorem pa_nil : PA X [] tNil := fun _ _ _ _ H Q I h => Calls.spliced_nil ⟨[], H, I, .nil, h⟩
theorem pa_cons (ha : PE X e te) (hr : PA X es t) (hs : starEach (e :: es) X.env = (false, eval e X.env) :: starEach es X.env := by rfl) : PA X (e :: es) (tCons te t) := by
  intro pos pins s σ H Q I h
  rw [hs]
  show wpAny _ _ (spliced ((false, eval e X.env) :: backTo pos (starEach es X.env))) _ _ s
  refine Calls.spliced_cons (thn (ha pins s σ H _ I h) fun u s1 ⟨x, H1, I1, r1, q1⟩ => ?_)
  exact thn (hr pos pins s1 σ H1 _ I1 q1) fun us s2 ⟨xs, H2, I2, r2, q2⟩ => ⟨x :: xs, H2, I2, .cons r1 r2, q2⟩
noncomputable def tTup (t : TA) : TE := fun σ H Q => t σ H fun xs H1 => xs.length ≤ sizeLine ∧ ∀ p, H1 p = none → Q (.ref p) (upd H1 p (.tup xs))
noncomputable def tLst (t : TA) : TE := fun σ H Q => t σ H fun xs H1 => xs.length ≤ sizeLine ∧ ∀ p, H1 p = none → Q (.ref p) (upd H1 p (.lst xs))
theorem pe_tup {x1} (h : PA X es t) : PE X (.Tuple es x1 pos) (tTup t) := by
  intro pins s σ H Q I hq
  refine wpAny_Tuple_spliced (thn (h pos pins s σ H _ I hq) fun us s1 ⟨xs, H1, I1, r, z, q⟩ => ⟨by rw [← r.length]; exact z, ?_⟩)
  have hf : H1 s1.heap.objs.size = none := I1.hok.fresh (Nat.le_refl _)
  refine ⟨.ref s1.heap.objs.size, upd H1 s1.heap.objs.size (.tup xs), I1.laid (t' := s1.toks) (fun b u e => Heap.get?_push_of_some _ e) (Nat.le_refl _) ?_, rfl, q _ hf⟩
  exact ⟨z, us, r, ⟨_, Heap.get?_push_size _ rfl, rfl, _, rfl⟩⟩
theorem pe_lst (h : PA X es t) : PE X (.List es pos) (tLst t) := by
  intro pins s σ H Q I hq
  refine wpAny_List_spliced (thn (h pos pins s σ H _ I hq) fun us s1 ⟨xs, H1, I1, r, z, q⟩ => ⟨by rw [← r.length]; exact z, ?_⟩)
  have hf : H1 s1.heap.objs.size = none := I1.hok.fresh (Nat.le_refl _)
  refine ⟨.ref s1.heap.objs.size, upd H1 s1.heap.objs.size (.lst xs), I1.laid (t' := s1.toks) (fun b u e => Heap.get?_push_of_some _ e) (Nat.le_refl _) ?_, rfl, q _ hf⟩
  exact ⟨z, us, 0, r, Heap.get?_push_size _ rfl⟩
end
noncomputable abbrev Sp := List V → Hp → VK → XK → Prop
noncomputable abbrev CXT := List Env → Hp → Shared → XK → Value → Shared → Prop
structure Env0 (P : Program) (w : World) (K : PySem.W.Frag) (mg : Str → Option Value) (base : Heap) (A : Around) (outer : List Env) (s : Shared) (H : Hp) : Prop where
  frames : A.frames = some outer
  mod : Mod K mg base
  bs : ∀ b o, base.get? b = some o → s.heap.get? b = some o ∧ H b = none
  bsz : base.objs.size ≤ s.heap.objs.size
  funs : s.heap.FunFrames base outer
  frf : ∀ b ∈ frs outer, H b = none
  hok : HOk P w H s.heap
  bare : AllBare s.gens
noncomputable def CE (outer : List Env) (P : Program) (w : World) (H : Hp) (s : Shared) (Q : VK) (u : Value) (s' : Shared) : Prop :=
  ∃ v H', s'.os = s.os ∧ AllBare s'.gens ∧ Un (frs outer) [] H H' s.heap s'.heap ∧ HOk P w H' s'.heap ∧ RelV v u ∧ Q v H'
noncomputable def CR (CX : CXT) (outer : List Env) (P : Program) (w : World) (H : Hp) (s : Shared) (Q : VK) (E : XK) (r : Result) (s' : Shared) : Prop :=
  match r with
  | .ok (.ret u) => CE outer P w H s Q u s'
  | .ok _ => False
  | .error e => CX outer H s E e s'
structure FnOk (P : Program) (w : World) (K : PySem.W.Frag) (mg : Str → Option Value) (base : Heap) (CX : CXT) (k : Nat) (f : Addr) (fd : FuncData) (ps : List Str) (sp : Sp) : Prop where
  len : ∀ vs H Q E, sp vs H Q E → vs.length = ps.length
  run : ∀ (A : Around) (outer : List Env) (s : Shared) (H : Hp) (args : Args) (us : List Value) (vs : List V) (Q : VK) (E : XK), Room k A → Env0 P w K mg base A outer s H → BindsTo s fd args (ps.zip us) → Vals vs us → sp vs H Q E →
    codeAny (model P w) A (.call (.ref f) args) (CR CX outer P w H s Q E) s
section
variable {X : Cx} {pins : List (Addr × Obj)} {σ : St} {H : Hp} {s s' : Shared}
theorem Inv.env0 (I : Inv X pins σ H s) : Env0 X.prog X.w X.K X.mg X.base X.A X.stack s H :=
  ⟨I.ok.frames, I.ok.mod, I.bs, Nat.le_trans I.ok.bsz I.sz, I.stack, I.stkFree, I.hok, I.bare⟩
theorem Inv.after {Q : VK} {u : Value} (I : Inv X pins σ H s) (h : CE X.stack X.prog X.w H s Q u s') : EP X pins σ Q u s' := by
  obtain ⟨v, H', os, bare, un, hok, r, q⟩ := h
  obtain ⟨hh, g, d, t, os'⟩ := s'
  obtain rfl : os' = s.os := os
  exact ⟨v, H', I.call (h' := hh) (g' := g) (d' := d) (t' := t) (ch := []) un hok bare (fun b z => absurd z (by simp)), r, q⟩
end
noncomputable def tCall (sp : Sp) (dvs : List V) (E : XK) (t : TA) : TE := fun σ H Q => t σ H fun vs H1 => sp (vs ++ dvs) H1 Q E
noncomputable def Binds (K : PySem.W.Frag) (fd : FuncData) (ps : List Str) (ds : List Value) : Prop :=
  ∀ (s : Shared) (us : List Value), K.In s.heap → (us ++ ds).length = ps.length → BindsTo s fd ⟨us, []⟩ (ps.zip (us ++ ds))
theorem Binds.all {K : PySem.W.Frag} {fd : FuncData} {ps : List Str} (h : ∀ us : List Value, us.length = ps.length → bindArgs fd ⟨us, []⟩ = pure (ps.zip us)) : Binds K fd ps [] := fun s us _ hl => by
  rw [List.append_nil] at hl ⊢
  exact .of_eq (h us hl)
noncomputable def Passes (CX : CXT) (X : Cx) (E : XK) : Prop := ∀ (pins : List (Addr × Obj)) (σ : St) (H : Hp) (s : Shared) (e : Value) (s' : Shared), Inv X pins σ H s → CX X.stack H s E e s' → X.xe e s'
section
variable {X : Cx} {CX : CXT} {k : Nat} {f C : Addr} {fd : FuncData} {ps : List Str} {sp : Sp} {dvs : List V} {ds : List Value} {E : XK} {x m : Str} {p pos apos : Pos} {e o : Expr} {es : List Expr} {ta : TE} {t : TA}
theorem run_fn {pins : List (Addr × Obj)} {σ : St} {H : Hp} {s : Shared} {Q : VK} {us : List Value} {vs : List V} (F : FnOk X.prog X.w X.K X.mg X.base CX k f fd ps sp) (hr : Room k X.A) (hb : Binds X.K fd ps ds) (hd : Vals dvs ds) (hx : Passes CX X E)
    (I : Inv X pins σ H s) (r : Vals vs us) (h : sp (vs ++ dvs) H Q E) : wpAny (model X.prog X.w) X.A (call (.ref f) us) (EP X pins σ Q) X.xe s := by
  have r2 : Vals (vs ++ dvs) (us ++ ds) := r.append hd
  have hl : (us ++ ds).length = ps.length := by rw [← r2.length]; exact F.len _ _ _ _ h
  refine wpAny_call (codeAny_mono (F.run X.A X.stack s H ⟨us, []⟩ (us ++ ds) (vs ++ dvs) Q E hr I.env0 (hb s us I.kIn hl) r2 h) fun r s' hq => ?_)
  cases r with
  | error e => exact hx pins σ H s e s' I hq
  | ok fl =>
    cases fl with
    | ret u => exact I.after hq
    | next => exact False.elim hq
    | brk => exact False.elim hq
    | cont => exact False.elim hq
theorem pe_call (F : FnOk X.prog X.w X.K X.mg X.base CX k f fd ps sp) (hr : Room k X.A) (hg : Gl X x) (hm : X.mg x = some (.ref f)) (hk : PySem.W.keepIn X.K (.ref f) = true) (hb : Binds X.K fd ps ds) (hd : Vals dvs ds) (hx : Passes CX X E)
    (ha : PA X (e :: es) t) (hdb : (x == ("__debug__" : Str)) = false := by decide) (he : starEach (e :: es) X.env = (false, eval e X.env) :: starEach es X.env := by rfl) (hpl : (backTo pos (starEach es X.env)).any (·.1) = false := by rfl) :
    PE X (.Call (.Name x p) (e :: es) [] pos) (tCall sp dvs E t) := by
  intro pins s σ H Q I h
  refine wpAny_Call_Name_kw (ld_glob I hg hm ?_ hdb)
  refine PySem.W.callWith_K (h₀ := X.base) I.ok.mod.kin hk (thn (ha pos pins s σ H _ I h) fun us s1 ⟨vs, H1, I1, r, q⟩ => ⟨I1.kIn, ?_⟩) he hpl
  exact run_fn F hr hb hd hx I1 r q
end
section
variable {X : Cx} {CX : CXT} {k : Nat} {f C : Addr} {fd : FuncData} {ps ks : List Str} {sp : Sp} {E : XK} {x m : Str} {p pos apos kpos : Pos} {e o : Expr} {es : List Expr} {kws : List Keyword} {te ta : TE} {t tk : TA} {nm : Option Str}
variable {g : List Value → List Value → List Value} {gV : List V → List V → List V}
end
structure FnScope (N P : List Str) (sc : Scope) : Prop where
  kind : sc.kind = .function
  co : sc.isCoroutine = false
  gen : sc.isGenerator = false
  nd : N.Nodup
  pre : N.take P.length = P
  par : ∀ x ∈ P, sc.names.lookup x = some .local ∨ sc.names.lookup x = some .cell
  nofree : ∀ y ∈ sc.names, y.2 ≠ .free
theorem bindL_out {kindOf : Str → Option NameKind} {x : Str} : ∀ {binds : List (Str × Value)} {m : Str → Option Value}, (∀ v, (x, v) ∉ binds) → bindL kindOf binds m x = m x
  | [], _, _ => rfl
  | (n, v) :: r, m, h => by
    unfold bindL
    rw [bindL_out fun w hw => h w (List.mem_cons_of_mem _ hw)]
    split
    · have : x ≠ n := by rintro rfl; exact h v List.mem_cons_self
      simp [this]
    · rfl
theorem bindC_out {kindOf : Str → Option NameKind} {x : Str} : ∀ {binds : List (Str × Value)} {m : Str → Option Value}, (∀ v, (x, v) ∉ binds) → bindC kindOf binds m x = m x
  | [], _, _ => rfl
  | (n, v) :: r, m, h => by
    unfold bindC
    rw [bindC_out fun w hw => h w (List.mem_cons_of_mem _ hw)]
    split
    · rfl
    · have : x ≠ n := by rintro rfl; exact h v List.mem_cons_self
      simp [this]
theorem bindL_get {kindOf : Str → Option NameKind} {x : Str} {v : Value} : ∀ {P : List Str} {vs : List Value} {i : Nat} {m : Str → Option Value}, P.Nodup → P[i]? = some x → vs[i]? = some v → kindOf x = some .local →
    bindL kindOf (P.zip vs) m x = some v
  | [], _, _, _, _, h, _, _ => by simp at h
  | _ :: _, [], _, _, _, _, h, _ => by simp at h
  | p :: P, w :: vs, 0, m, nd, h1, h2, hk => by
    simp at h1 h2; subst h1; subst h2
    show bindL kindOf ((p, w) :: P.zip vs) m p = _
    unfold bindL
    rw [bindL_out fun v hv => (List.nodup_cons.mp nd).1 (List.of_mem_zip hv).1, if_pos hk]
    simp
  | p :: P, w :: vs, i + 1, m, nd, h1, h2, hk => by
    show bindL kindOf ((p, w) :: P.zip vs) m x = _
    unfold bindL
    exact bindL_get (i := i) (List.nodup_cons.mp nd).2 (by simpa using h1) (by simpa using h2) hk
theorem bindC_get {kindOf : Str → Option NameKind} {x : Str} {v : Value} : ∀ {P : List Str} {vs : List Value} {i : Nat} {m : Str → Option Value}, P.Nodup → P[i]? = some x → vs[i]? = some v → kindOf x ≠ some .local →
    bindC kindOf (P.zip vs) m x = some v
  | [], _, _, _, _, h, _, _ => by simp at h
  | _ :: _, [], _, _, _, _, h, _ => by simp at h
  | p :: P, w :: vs, 0, m, nd, h1, h2, hk => by
    simp at h1 h2; subst h1; subst h2
    show bindC kindOf ((p, w) :: P.zip vs) m p = _
    unfold bindC
    rw [bindC_out fun v hv => (List.nodup_cons.mp nd).1 (List.of_mem_zip hv).1, if_neg hk]
    simp
  | p :: P, w :: vs, i + 1, m, nd, h1, h2, hk => by
    show bindC kindOf ((p, w) :: P.zip vs) m x = _
    unfold bindC
    exact bindC_get (i := i) (List.nodup_cons.mp nd).2 (by simpa using h1) (by simpa using h2) hk
noncomputable def start (N : List Str) (vs : List V) : St := vs.map some ++ List.replicate (N.length - vs.length) none
noncomputable def cxOf (CX : CXT) (P : Program) (w : World) (K : PySem.W.Frag) (mg : Str → Option Value) (base : Heap) (N : List Str) (qual : Str) (scope : Scope) (f : Addr) (cd : Value) (A : Around) (outer : List Env) (s : Shared) (H : Hp) (E : XK) : Cx where
  prog := P
  w := w
  K := K
  mg := mg
  base := base
  A := A.deeper (envOfC qual scope s.heap.objs.size f cd)
  N := N
  s₀ := s
  H₀ := H
  env := envOfC qual scope s.heap.objs.size f cd
  outer := outer
  stack := envOfC qual scope s.heap.objs.size f cd :: outer
  ex := []
  calm := true
  fn := fun _ => true
  pn := []
  xe := fun e s' => wpAny (model P w) (A.deeper (envOfC qual scope s.heap.objs.size f cd)) (leaving (envOfC qual scope s.heap.objs.size f cd) e) (fun _ s'' => CX outer H s E e s'') (fun e' s'' => CX outer H s E e' s'') s'
theorem cell_has {sc : Scope} {n : Nat} {x : Str} (h : sc.names.lookup x = some .cell) : ∃ c, (cellsFrom n sc.names []).lookup x = some c := by
  have q := PySem.W.cellsFrom_some sc.names n [] (.inl h)
  exact Option.isSome_iff_exists.mp q
theorem inv_start {CX : CXT} {P : Program} {w : World} {K : PySem.W.Frag} {mg : Str → Option Value} {base : Heap} {N ps : List Str} {qual : Str} {scope : Scope} {f : Addr} {cd : Value} {A : Around} {outer : List Env} {s s1 : Shared} {H : Hp} {E : XK} {us : List Value} {vs : List V}
    (S : FnScope N ps scope) (hd : A.handled = none) (e0 : Env0 P w K mg base A outer s H) (hl : vs.length = ps.length) (r : Vals vs us)
    (x : InCallC s s.heap.objs.size (bindL (envOfC qual scope s.heap.objs.size f cd).kindOf (ps.zip us) fun _ => none) (cellsFrom (s.heap.objs.size + 1) scope.names []) (bindC (envOfC qual scope s.heap.objs.size f cd).kindOf (ps.zip us) fun _ => none) s1) :
    Inv (cxOf CX P w K mg base N qual scope f cd A outer s H E) [] (start N vs) H s1 := by
  have hpl : ps.length ≤ N.length := by have := congrArg List.length S.pre; rw [List.length_take] at this; omega
  obtain ⟨h1, tk, rfl, hk⟩ := x.done
  have noA : ∀ b : Addr, b ∉ (cxOf CX P w K mg base N qual scope f cd A outer s H E).ex := fun b z => absurd (show b ∈ ([] : List Addr) from z) (by simp)
  refine ⟨⟨e0.mod, S.kind, rfl, rfl, Nat.le_refl _, fun y z c h1 h2 => ?_, fun y hy => ?_, fun y c _ h => ?_, fun _ => hd, Around.frames_deeper e0.frames, .inr ⟨rfl, rfl⟩, fun b z => absurd z (noA b), e0.bs, e0.bsz, fun b _ _ => noA b, fun b z => absurd z (noA b), e0.funs, e0.frf⟩,
    rfl, e0.bare, Un.kept hk, ⟨_, x.toInCall.ns, fun i y v h1 h2 h3 => ?_⟩, fun y c h => ⟨_, x.cell y c h⟩, e0.hok.fresh (Nat.le_refl _), fun y c h => ?_, fun p hp => absurd (show p ∈ ([] : List (Addr × Obj)) from hp) (by simp), e0.hok.kept hk, ?_⟩
  · exact name_of_addr x.apart (PySem.mem_of_lookup h1) (PySem.mem_of_lookup h2)
  · have hy : scope.names.lookup y = some .cell ∨ scope.names.lookup y = some .free := hy
    rcases hy with hy | hy
    · exact cell_has hy
    · exact absurd rfl (S.nofree _ (PySem.mem_of_lookup hy))
  · exact Nat.le_of_lt (x.above y c (PySem.mem_of_lookup h))
  · have hi : i < vs.length := by
      unfold start at h2
      by_cases hi : i < vs.length
      · exact hi
      · rw [List.getElem?_append_right (by simpa using hi)] at h2
        rw [List.getElem?_replicate] at h2
        split at h2 <;> cases h2
    have ha : vs[i]? = some v := by
      unfold start at h2
      rw [List.getElem?_append_left (by simpa using hi), List.getElem?_map] at h2
      cases e : vs[i]? with
      | none => rw [e] at h2; cases h2
      | some a => rw [e] at h2; cases h2; rfl
    obtain ⟨u, hu, rv⟩ := r.get ha
    have hp : ps[i]? = some y := by
      rw [← S.pre, List.getElem?_take_of_lt (by omega)]; exact h1
    have ndP : ps.Nodup := by rw [← S.pre]; exact S.nd.sublist (List.take_sublist _ _)
    refine ⟨u, rv, ?_⟩
    rcases S.par y (List.mem_of_getElem? hp) with k | k
    · exact .inl ⟨k, bindL_get ndP hp hu k⟩
    · obtain ⟨c, e⟩ := cell_has (n := s.heap.objs.size + 1) k
      refine .inr ⟨.inl k, c, e, ?_⟩
      have q := x.cell y c e
      rw [bindC_get ndP hp hu (by show scope.names.lookup y ≠ _; rw [k]; decide)] at q
      exact q
  · exact e0.hok.fresh (Nat.le_of_lt (x.above y c (PySem.mem_of_lookup h)))
  · unfold start
    show _ = N.length
    rw [List.length_append, List.length_map, List.length_replicate]
    omega
theorem fn_of {CX : CXT} {P : Program} {w : World} {K : PySem.W.Frag} {mg : Str → Option Value} {base : Heap} {k : Nat} {f : Addr} {name qual : Str} {params : Arguments} {body : List Stmt} {scope : Scope} {dV kV doc pm cdv ct oc : Value} {an od : Option Addr}
    {osl : Array (Option Value)} {N ps : List Str} {sp : Sp} (lk : K.lookup f = some ⟨oc, od, .func (PySem.W.fnOf name qual params body scope dV kV doc pm an cdv ct), osl⟩) (hcd : PySem.W.codeIn K cdv qual = true) (S : FnScope N ps scope)
    (len : ∀ vs H Q E, sp vs H Q E → vs.length = ps.length)
    (hbody : ∀ (A : Around) (outer : List Env) (s : Shared) (H : Hp) (vs : List V) (Q : VK) (E : XK), Room k (A.deeper (envOfC qual scope s.heap.objs.size f cdv)) → sp vs H Q E →
      ∃ t, PSs (cxOf CX P w K mg base N qual scope f cdv A outer s H E) body t ∧ t { nx := fun _ H' => Q .non H', rt := Q } (start N vs) H) :
    FnOk P w K mg base CX (k + 1) f (PySem.W.fnOf name qual params body scope dV kV doc pm an cdv ct) ps sp := by
  refine ⟨len, fun A outer s H args us vs Q E hr e0 hb r hsp => ?_⟩
  have hl := len _ _ _ _ hsp
  have KX : K.In s.heap := e0.mod.kin.keeps fun b o e => (e0.bs b o e).1
  have lim : s.heap.NoLimit := e0.mod.nolimit.keeps fun b o e => (e0.bs b o e).1
  have hkind : ∀ y ∈ ps.zip us, scope.names.lookup y.1 = some .local ∨ (scope.names.lookup y.1 = some .cell ∧ ((cellsFrom (s.heap.objs.size + 1) scope.names []).lookup y.1).isSome = true) := fun ⟨n, v⟩ hy => by
    rcases S.par n (List.of_mem_zip hy).1 with q | q
    · exact .inl q
    · exact .inr ⟨q, PySem.W.cellsFrom_some _ _ _ (.inl q)⟩
  refine codeAny_call_function hr.depth (KX _ _ lk) rfl S.co S.gen rfl (PySem.W.codeRec_of KX hcd) (hb _ _ _ _ ?_)
  refine wpAny_newFunctionEnv_cells S.kind hkind fun env he s1 x => ?_
  subst he
  refine ⟨lim.keeps x.toInCall.keep, codeAny_func ?_⟩
  obtain ⟨t, ht, hq⟩ := hbody A outer s H vs Q E (hr.deeper _) hsp
  have I : Inv (cxOf CX P w K mg base N qual scope f cdv A outer s H E) [] (start N vs) H s1 := inv_start S hr.hd e0 hl r x
  refine wpAny_mono (ht [] s1 (start N vs) H _ I hq) (fun fl s' hs => ?_) fun e s' hs => hs
  have fin : ∀ {σ' : St} {H' : Hp} {v : V} {u : Value}, Inv (cxOf CX P w K mg base N qual scope f cdv A outer s H E) [] σ' H' s' → RelV v u → Q v H' → CE outer P w H s Q u s' :=
    fun {σ' H' v u} J rv q => ⟨v, H', J.os, J.bare, J.base, J.hok, rv, q⟩
  cases fl with
  | ret u =>
    obtain ⟨v, σ', H', J, rv, q⟩ := hs
    exact fin J rv q
  | next =>
    obtain ⟨σ', H', J, q⟩ := hs
    exact fin (v := V.non) (u := Value.none) J rfl q
  | brk =>
    obtain ⟨_, _, _, q⟩ := hs
    exact False.elim q
  | cont =>
    obtain ⟨_, _, _, q⟩ := hs
    exact False.elim q
end L2
namespace L2
open PySem PySem.Spec PyProof.Rows
section
variable {X : Cx} {x : Str} {p pos : Pos} {e : Expr} {es : List Expr} {t : TA} {id T : String} {r : List V → Hp → VK → Prop}
noncomputable def tCB (r : List V → Hp → VK → Prop) (t : TA) : TE := fun σ H Q => t σ H fun vs H1 => r vs H1 Q
theorem pe_callB (hc : CallR X (.builtin id) r) (hg : Gl X x) (hm : X.mg x = none) (hv : bootBuiltins x = some (.builtin id)) (ha : PA X (e :: es) t) (hn : x ≠ "__name__" := by decide) (hdb : (x == ("__debug__" : Str)) = false := by decide)
    (he : starEach (e :: es) X.env = (false, eval e X.env) :: starEach es X.env := by rfl) (hpl : (backTo pos (starEach es X.env)).any (·.1) = false := by rfl) : PE X (.Call (.Name x p) (e :: es) [] pos) (tCB r t) := by
  intro pins s σ H Q I h
  refine wpAny_Call_Name_kw (ld_blt I hg hm hv ?_ hn hdb)
  exact PyProof.Rows.callWith_builtin1 (thn (ha pos pins s σ H _ I h) fun us s1 ⟨vs, H1, I1, r1, q1⟩ => hc pins s1 σ H1 vs us Q I1 r1 q1) he hpl
theorem pe_callTy (hc : CallR X (.type T) r) (hg : Gl X x) (hm : X.mg x = none) (hv : bootBuiltins x = some (.type T)) (ha : PA X (e :: es) t) (hn : x ≠ "__name__" := by decide) (hdb : (x == ("__debug__" : Str)) = false := by decide)
    (he : starEach (e :: es) X.env = (false, eval e X.env) :: starEach es X.env := by rfl) (hpl : (backTo pos (starEach es X.env)).any (·.1) = false := by rfl) : PE X (.Call (.Name x p) (e :: es) [] pos) (tCB r t) := by
  intro pins s σ H Q I h
  refine wpAny_Call_Name_kw (ld_blt I hg hm hv ?_ hn hdb)
  exact PyProof.Rows.callWith_type1 (thn (ha pos pins s σ H _ I h) fun us s1 ⟨vs, H1, I1, r1, q1⟩ => hc pins s1 σ H1 vs us Q I1 r1 q1) he hpl
end
end L2
namespace HT
open PySem PyProof.Rows
section
open PySem.SeqAt
open PySem.AutoSeq1 (wpAny_loadPart')
open PySem.MeetsSeq PySem.MeetsSeq2 PySem.MeetsSeq3
end
section
variable {prog : Program} {w : World} {A : Around} {E : Value → Shared → Prop} {s : Shared}
noncomputable def sIx (n d : Nat) : Option Int → Nat
  | none => d
  | some v => if v < 0 then (v + (n : Int)).toNat else min v.toNat n
theorem sIx_none (n d : Nat) : sIx n d none = d := rfl
theorem sIx_nat (n d k : Nat) : sIx n d (some (k : Int)) = min k n := by
  show (if (k : Int) < 0 then ((k : Int) + (n : Int)).toNat else min (k : Int).toNat n) = min k n
  rw [if_neg (by omega), Int.toNat_natCast]
end
end HT
namespace L2
open PySem PySem.Spec PyProof.Rows
noncomputable abbrev TO := St → Hp → (Option Int → Hp → Prop) → Prop
noncomputable def PO (X : Cx) (e : Option Expr) (t : TO) : Prop :=
  ∀ (pins : List (Addr × Obj)) (s : Shared) (σ : St) (H : Hp) (Q : Option Int → Hp → Prop), Inv X pins σ H s → t σ H Q →
    wpAny (model X.prog X.w) X.A (evalPart e X.env) (fun u s' => ∃ o H', Inv X pins σ H' s' ∧ IsPart u o ∧ Q o H') X.xe s
noncomputable def tNoPart : TO := fun _ H Q => Q none H
noncomputable def tPart (t : TE) : TO := fun σ H Q => t σ H fun x H1 => ∃ i, x = .int i ∧ Q (some i) H1
theorem intsAre_of {ns : List Int} : ∀ {us : List Value}, Vals (ns.map V.int) us → IntsAre us ns := by
  induction ns with
  | nil => intro us r; rw [List.map_nil] at r; cases r; exact .nil
  | cons n ns ih =>
    intro us r
    rw [List.map_cons] at r
    cases r with
    | cons r1 r2 =>
      obtain ⟨t, e⟩ := r1
      subst e
      exact .cons n t (ih r2)
section
variable {X : Cx} {e : Expr} {te : TE} {lo hi : Option Expr} {tl th : TO} {pos p2 : Pos}
theorem po_none : PO X none tNoPart := by
  intro pins s σ H Q I h
  rw [evalPart_none]
  exact wpAny_pure ⟨none, H, I, .none, h⟩
theorem po_some (h : PE X e te) : PO X (some e) (tPart te) := by
  intro pins s σ H Q I hw
  rw [evalPart_some]
  refine thn (h pins s σ H _ I hw) fun u s1 ⟨x, H1, I1, r1, q1⟩ => ?_
  obtain ⟨i, rfl, q⟩ := q1
  obtain ⟨t, rfl⟩ := r1
  exact ⟨some i, H1, I1, .int i t, q⟩
noncomputable def SlR (X : Cx) (r : V → Option Int → Option Int → Hp → VK → Prop) : Prop :=
  ∀ (pins : List (Addr × Obj)) (s : Shared) (σ : St) (H : Hp) (x : V) (v vl vu : Value) (lo hi : Option Int) (sl : Addr) (Q : VK), Inv X pins σ H s → RelV x v → s.heap.IsSliceOf sl vl vu .none → IsPart vl lo → IsPart vu hi → r x lo hi H Q →
    ∃ T id, typeLookup (.type T) "__getitem__" = pure (some (.builtin id)) ∧ s.TypeIs v T ∧ wpAny (model X.prog X.w) X.A (getItem v (.ref sl)) (EP X pins σ Q) X.xe s
noncomputable def tSl (r : V → Option Int → Option Int → Hp → VK → Prop) (te : TE) (tl th : TO) : TE := fun σ H Q => te σ H fun x H1 => tl σ H1 fun l H2 => th σ H2 fun u H3 => r x l u H3 Q
theorem pe_slice {r : V → Option Int → Option Int → Hp → VK → Prop} (hr : SlR X r) (he : PE X e te) (hl : PO X lo tl) (hu : PO X hi th) : PE X (.Subscript e (.Slice lo hi none p2) pos) (tSl r te tl th) := by
  intro pins s σ H Q I h
  refine Subscript_ (thn (he pins s σ H _ I h) fun v s1 ⟨x, H1, I1, r1, q1⟩ => ?_)
  refine wpAny_Slice (thn (hl pins s1 σ H1 _ I1 q1) fun vl s2 ⟨l, H2, I2, pl, q2⟩ => thn (hu pins s2 σ H2 _ I2 q2) fun vu s3 ⟨u, H3, I3, pu, q3⟩ => ?_)
  rw [evalPart_none]
  refine wpAny_pure ?_
  have I4 : Inv X pins σ H3 { s3 with heap := s3.heap.push { cls := .type "slice", data := .fields #[vl, vu, .none] } } := I3.kept (t' := s3.toks) fun b ob q => Heap.get?_push_of_some _ q
  obtain ⟨T, id, hT, ht, hg⟩ := hr pins { s3 with heap := s3.heap.push { cls := .type "slice", data := .fields #[vl, vu, .none] } } σ H3 x v vl vu l u s3.heap.objs.size Q I4 r1 (Heap.IsSliceOf.new ..) pl pu q3
  show wpAny (model X.prog X.w) X.A (subscriptTail e (.Slice lo hi none p2) v (.ref s3.heap.objs.size)) (EP X pins σ Q) X.xe { s3 with heap := s3.heap.push { cls := .type "slice", data := .fields #[vl, vu, .none] } }
  exact tail_any (ops := [.ref s3.heap.objs.size, v]) ht hT hg (by with_unfolding_all rfl)
noncomputable def cutV (xs : List V) (lo hi : Option Int) : List V := (xs.drop (HT.sIx xs.length 0 lo)).take (HT.sIx xs.length xs.length hi - HT.sIx xs.length 0 lo)
theorem cutV_length (xs : List V) (lo hi : Option Int) : (cutV xs lo hi).length ≤ xs.length := by
  unfold cutV
  rw [List.length_take, List.length_drop]
  omega
end
end L2
namespace L2
open PySem PySem.Spec PyProof.Rows
noncomputable def ixN (n : Nat) (i : Int) : Option Nat := if 0 ≤ i then (if i < n then some i.toNat else none) else if -(n : Int) ≤ i then some (i + n).toNat else none
noncomputable def atI {α : Type} (xs : List α) (i : Int) : Option α := (ixN xs.length i).bind fun j => xs[j]?
theorem ixN_seq {n : Nat} {i : Int} {j : Nat} (h : ixN n i = some j) : seqIndex? i n = some j ∧ j < n ∧ -(n : Int) ≤ i ∧ i < n := by
  unfold ixN at h
  by_cases h0 : 0 ≤ i
  · rw [if_pos h0] at h
    by_cases h1 : i < n
    · rw [if_pos h1] at h
      have e : i.toNat = j := Option.some.inj h
      exact ⟨by rw [seqIndex_of h0 h1, e], by omega, by omega, h1⟩
    · rw [if_neg h1] at h; cases h
  · rw [if_neg h0] at h
    by_cases h1 : -(n : Int) ≤ i
    · rw [if_pos h1] at h
      have e : (i + n).toNat = j := Option.some.inj h
      exact ⟨by rw [seqIndex_neg (by omega) h1, e], by omega, h1, by omega⟩
    · rw [if_neg h1] at h; cases h
theorem atI_get {α : Type} {xs : List α} {i : Int} {v : α} (h : atI xs i = some v) : ∃ j, seqIndex? i xs.length = some j ∧ xs[j]? = some v ∧ j < xs.length ∧ -(xs.length : Int) ≤ i ∧ i < xs.length := by
  unfold atI at h
  cases e : ixN xs.length i with
  | none => rw [e] at h; cases h
  | some j =>
    rw [e] at h
    obtain ⟨h1, h2, h3, h4⟩ := ixN_seq e
    exact ⟨j, h1, h, h2, h3, h4⟩
theorem atI_nat {α : Type} {xs : List α} {j : Nat} {v : α} (h : xs[j]? = some v) : atI xs (j : Int) = some v := by
  have hj : j < xs.length := (List.getElem?_eq_some_iff.mp h).1
  have e : ixN xs.length (j : Int) = some j := by
    unfold ixN
    rw [if_pos (by omega), if_pos (by omega)]; simp
  unfold atI; rw [e]; exact h
noncomputable def PlainIx (b : Expr) : Prop := ∀ o i, subscripted b false o i = operate [o, i] (getItem o i)
noncomputable def IxR (X : Cx) (r : R2) : Prop :=
  ∀ (value slice : Expr) (pins : List (Addr × Obj)) (s : Shared) (σ : St) (H : Hp) (x y : V) (v u : Value) (Q : VK), Inv X pins σ H s → RelV x v → RelV y u → r x y H Q →
    subscripted slice false v u = operate [v, u] (getItem v u) → wpAny (model X.prog X.w) X.A (subscriptTail value slice v u) (EP X pins σ Q) X.xe s
noncomputable def MtR (X : Cx) (id : String) (r : V → List V → Hp → VK → Prop) : Prop :=
  ∀ (pins : List (Addr × Obj)) (s : Shared) (σ : St) (H : Hp) (x : V) (xs : List V) (v : Value) (us : List Value) (Q : VK), Inv X pins σ H s → RelV x v → Vals xs us → r x xs H Q →
    wpAny (model X.prog X.w) X.A (call (.builtin id) (v :: us)) (EP X pins σ Q) X.xe s
section
variable {X : Cx} {a b : Expr} {ta tb : TE} {pos : Pos}
theorem pe_ix {r : R2} (hr : IxR X r) (ha : PE X a ta) (hb : PE X b tb) (hs : PlainIx b) : PE X (.Subscript a b pos) (tOp r ta tb) := by
  intro pins s σ H Q I h
  exact Subscript_ (binT ha hb I h fun v u s2 x y H2 I2 rx ry q => hr a b pins s2 σ H2 x y v u Q I2 rx ry q (hs _ _))
noncomputable def rIxL (K : PySem.W.Frag) : R2 := fun x y H Q => ∃ p xs i v, x = .ref p ∧ y = .int i ∧ SqL K H p xs ∧ atI xs i = some v ∧ Q v H
noncomputable def rIxT (K : PySem.W.Frag) : R2 := fun x y H Q => ∃ p xs i v, x = .ref p ∧ y = .int i ∧ SqT K H p xs ∧ atI xs i = some v ∧ Q v H
noncomputable def rIxS : R2 := fun x y H Q => ∃ z i c, x = .str z ∧ y = .int i ∧ z.length ≤ sizeLine ∧ atI z.cps.toList i = some c ∧ Q (.str ⟨#[c]⟩) H
theorem ix_list : IxR X (rIxL X.K) := by
  intro value slice pins s σ H x y v u Q I rx ry h hs
  obtain ⟨p, xs, i, z, rfl, rfl, hq, he, q⟩ := h
  cases rx
  obtain ⟨t, rfl⟩ := ry
  obtain ⟨its, r, pl, hz⟩ := I.list hq
  obtain ⟨j, h1, h2, h3, h4, h5⟩ := atI_get he
  obtain ⟨w, ew, rw'⟩ := r.get h2
  have hl := r.length
  have hn := line63
  have fin : EP X pins σ Q w s := ⟨z, H, I, rw', q⟩
  by_cases h0 : 0 ≤ i
  · have hj : i.toNat = j := by
      rw [seqIndex_of h0 h5] at h1
      exact Option.some.inj h1
    exact item_listR pl.isList h0 (by omega) (by rw [hj]; simpa using ew) fin hs
  · have hj : (i + (its.toArray.size : Int)).toNat = j := by
      rw [seqIndex_neg (by omega) h4] at h1
      rw [List.size_toArray, ← hl]
      exact Option.some.inj h1
    exact subscriptTail_builtinR (x := w) pl.isList.typeIs slot_list_getitem.lookup
      (wpAny_getItem_list_neg (Q := fun r s' => r = w ∧ EP X pins σ Q r s') pl.isList (by omega) (by rw [List.size_toArray] <;> omega) (by omega) (by rw [hj]; simpa using ew) ⟨rfl, fin⟩) hs
theorem ix_tup : IxR X (rIxT X.K) := by
  intro value slice pins s σ H x y v u Q I rx ry h hs
  obtain ⟨p, xs, i, z, rfl, rfl, hq, he, q⟩ := h
  cases rx
  obtain ⟨t, rfl⟩ := ry
  obtain ⟨its, r, pl, hz⟩ := I.tuple hq
  obtain ⟨j, h1, h2, h3, h4, h5⟩ := atI_get he
  obtain ⟨w, ew, rw'⟩ := r.get h2
  have hl := r.length
  have hn := line63
  have fin : EP X pins σ Q w s := ⟨z, H, I, rw', q⟩
  exact subscriptTail_builtinR (x := w) pl.typeIs slot_tuple_getitem.lookup
    (getItem_tuple (j := j) (Q := fun r s' => r = w ∧ EP X pins σ Q r s') pl (by omega) (by omega) (by rw [List.size_toArray, ← hl]; exact h1) (by simpa using ew) ⟨rfl, fin⟩) hs
theorem ix_str : IxR X rIxS := by
  intro value slice pins s σ H x y v u Q I rx ry h hs
  obtain ⟨z, i, c, rfl, rfl, hz, he, q⟩ := h
  obtain ⟨t, rfl⟩ := rx
  obtain ⟨t', rfl⟩ := ry
  obtain ⟨j, h1, h2, h3, h4, h5⟩ := atI_get he
  have hl : z.cps.toList.length = z.length := by simp [Str.length]
  rw [hl] at h1 h4 h5
  have hn := line63
  exact tail_any (typeIs_str s z t) slot_str_getitem.lookup (getItem_str (c := c) (by
    have e1 : decide (i < -(2 ^ 63 : Int)) = false := decide_eq_false (by omega)
    have e2 : decide (i ≥ 2 ^ 63) = false := decide_eq_false (by omega)
    rw [e1, e2, Bool.or_false]) (by rw [h1]; simpa using h2) ⟨.str ⟨#[c]⟩, H, I.tok _, ⟨_, rfl⟩, q⟩) hs
theorem mapSeq_set (its : List Value) (n j : Nat) (u : Value) : Obj.mapSeq (·.setIfInBounds j u) { cls := .type "list", data := .seq its.toArray n } = { cls := .type "list", data := .seq (its.set j u).toArray n } := by
  simp [Obj.mapSeq]
theorem Inv.lst {pins : List (Addr × Obj)} {σ : St} {H : Hp} {s : Shared} {p : Addr} {xs : List V} (I : Inv X pins σ H s) (h : H p = some (.lst xs)) :
    ∃ (its : List Value) (n : Nat), Vals xs its ∧ s.heap.get? p = some { cls := .type "list", data := .seq its.toArray n } ∧ xs.length ≤ sizeLine := by
  obtain ⟨z, its, n, r, e⟩ := I.hok p _ h
  exact ⟨its, n, r, e, z⟩
theorem Inv.lstUpd {pins : List (Addr × Obj)} {σ : St} {H : Hp} {s : Shared} {p : Addr} {xs ys : List V} {its its' : List Value} {n n' : Nat} {f : Obj → Obj} (I : Inv X pins σ H s) (h : H p = some (.lst xs))
    (ho : s.heap.get? p = some { cls := .type "list", data := .seq its.toArray n }) (hf : f { cls := .type "list", data := .seq its.toArray n } = { cls := .type "list", data := .seq its'.toArray n' }) (r : Vals ys its') (hz : ys.length ≤ sizeLine) (t : Nat) :
    Inv X pins σ (upd H p (.lst ys)) { s with heap := s.heap.update p f, toks := t } := by
  have e : (s.heap.update p f).get? p = some { cls := .type "list", data := .seq its'.toArray n' } := by
    rw [Heap.get?_update_self f ho (by rw [hf] <;> rfl), hf]
  refine I.write (x := p) (e := p) (by rw [h]; trivial) (.inl rfl) (fun b u hb q => (Heap.get?_update_other _ _ (Ne.symm hb)).trans q) ⟨_, e⟩ ?_
  exact ⟨hz, its', n', r, e⟩
noncomputable def rSetL : V → V → V → Hp → (Hp → Prop) → Prop := fun o i v H Q => ∃ p xs k j, o = .ref p ∧ i = .int k ∧ H p = some (.lst xs) ∧ ixN xs.length k = some j ∧ Q (upd H p (.lst (xs.set j v)))
theorem set_list : PSet X rSetL := by
  intro pins s σ H o i v ov iv u Q I ro ri rv h
  obtain ⟨p, xs, k, j, rfl, rfl, hp, hj, q⟩ := h
  cases ro
  obtain ⟨t, rfl⟩ := ri
  obtain ⟨its, n, r, ho, hz⟩ := I.lst hp
  obtain ⟨h1, h2, h3, h4⟩ := ixN_seq hj
  have hl := r.length
  have hn := line63
  have I' : Inv X pins σ (upd H p (.lst (xs.set j v))) { s with heap := s.heap.update p (Obj.mapSeq (·.setIfInBounds j u)) } :=
    I.lstUpd hp ho (mapSeq_set its n j u) (r.set rv j) (by rw [List.length_set]; exact hz) s.toks
  by_cases h0 : 0 ≤ k
  · have hk : k.toNat = j := by
      rw [seqIndex_of h0 h4] at h1
      exact Option.some.inj h1
    exact PySem.W.ki_setAt ho h0 (by omega) (by rw [List.size_toArray, ← hl]; exact h4) (by rw [hk]; exact ⟨_, I', q⟩)
  · have hk : (k + (its.toArray.size : Int)).toNat = j := by
      rw [seqIndex_neg (by omega) h3] at h1
      rw [List.size_toArray, ← hl]
      exact Option.some.inj h1
    exact PySem.W.ki_setBack ho (by omega) (by rw [List.size_toArray, ← hl]; exact h3) (by omega) (by rw [hk]; exact ⟨_, I', q⟩)
theorem slice_bounds (lo hi : Option Int) (n : Nat) : (sliceBounds lo hi none n).1 = ((HT.sIx n 0 lo : Nat) : Int) ∧ (sliceBounds lo hi none n).2.1 = ((HT.sIx n n hi : Nat) : Int) ∧ (sliceBounds lo hi none n).2.2 = 1 := by
  refine ⟨?_, ?_, rfl⟩
  · cases lo with
    | none => simp [sliceBounds, HT.sIx]
    | some i =>
      simp only [sliceBounds, HT.sIx, Option.getD_none, show (1 : Int) > 0 by decide, if_true]
      by_cases h : i < 0
      · simp only [h, if_true] <;> omega
      · simp only [h, if_false] <;> omega
  · cases hi with
    | none => simp [sliceBounds, HT.sIx]
    | some i =>
      simp only [sliceBounds, HT.sIx, Option.getD_none, show (1 : Int) > 0 by decide, if_true]
      by_cases h : i < 0
      · simp only [h, if_true] <;> omega
      · simp only [h, if_false] <;> omega
theorem slicePick_cut (its : List Value) (lo hi : Option Int) : slicePick its.toArray lo hi none = ((its.drop (HT.sIx its.length 0 lo)).take (HT.sIx its.length its.length hi - HT.sIx its.length 0 lo)).toArray := by
  obtain ⟨h1, h2, h3⟩ := slice_bounds lo hi its.toArray.size
  unfold slicePick
  rw [h1, h2, h3]
  simp only [sliceRange_one, pick_run, List.size_toArray] <;> rfl
noncomputable def rSlL (K : PySem.W.Frag) : V → Option Int → Option Int → Hp → VK → Prop := fun x lo hi H Q => ∃ a xs, x = .ref a ∧ SqL K H a xs ∧ ∀ p, H p = none → Q (.ref p) (upd H p (.lst (cutV xs lo hi)))
theorem sl_list : SlR X (rSlL X.K) := by
  intro pins s σ H x v vl vu lo hi sl Q I rx hs pl pu h
  obtain ⟨a, xs, rfl, hx, q⟩ := h
  cases rx
  obtain ⟨its, r, ht, hz⟩ := I.list hx
  have hlen := r.length
  refine ⟨"list", _, slot_list_getitem.lookup, ht.isList.typeIs, ?_⟩
  refine wpAny_getItem_list_slice ht.isList hs pl pu .none (by simp) ?_ (by rw [List.size_toArray] <;> omega)
  rw [slicePick_cut, ← hlen]
  refine ⟨.ref s.heap.objs.size, _, I.laid (t' := s.toks) (o := .lst (cutV xs lo hi)) (fun b ob q => Heap.get?_push_of_some _ q) (Nat.le_refl _) ?_, rfl, q _ (I.hok.fresh (Nat.le_refl _))⟩
  exact ⟨Nat.le_trans (cutV_length xs lo hi) hz, _, 0, (r.drop (HT.sIx xs.length 0 lo)).take (HT.sIx xs.length xs.length hi - HT.sIx xs.length 0 lo), Heap.get?_push_size _ rfl⟩
noncomputable def flatV : V → Bool
  | .non => true
  | .bl _ => true
  | .int _ => true
  | .str _ => true
  | _ => false
noncomputable def eqV : V → V → Bool
  | .non, .non => true
  | .bl a, .bl b => a == b
  | .bl a, .int b => (if a then 1 else 0) == b
  | .int a, .bl b => a == (if b then 1 else 0)
  | .int a, .int b => a == b
  | .str a, .str b => a == b
  | _, _ => false
theorem eqAt_V {A : Around} {s : Shared} {y x : V} {u v : Value} (ry : RelV y u) (rx : RelV x v) (fy : flatV y = true) (fx : flatV x = true) : SeqAt.EqAt A s u v (eqV y x) := by
  cases y with
  | non =>
    cases ry
    cases x with
    | non => cases rx; exact SeqAt.EqAt.same _
    | bl b => cases rx; exact SeqAt.EqAt.none_bool b
    | int b => obtain ⟨t, rfl⟩ := rx; exact SeqAt.EqAt.none_int b t
    | str b => obtain ⟨t, rfl⟩ := rx; exact SeqAt.EqAt.none_str b t
    | _ => exact absurd (show false = true from fx) Bool.false_ne_true
  | bl a =>
    cases ry
    cases x with
    | non => cases rx; exact SeqAt.EqAt.bool_none a
    | bl b => cases rx; exact SeqAt.EqAt.bool_bool a b
    | int b => obtain ⟨t, rfl⟩ := rx; exact SeqAt.EqAt.bool_int a b t
    | str b => obtain ⟨t, rfl⟩ := rx; exact SeqAt.EqAt.bool_str a b t
    | _ => exact absurd (show false = true from fx) Bool.false_ne_true
  | int a =>
    obtain ⟨t', rfl⟩ := ry
    cases x with
    | non => cases rx; exact SeqAt.EqAt.int_none a t'
    | bl b => cases rx; exact SeqAt.EqAt.int_bool a t' b
    | int b => obtain ⟨t, rfl⟩ := rx; exact SeqAt.EqAt.int_int a t' b t
    | str b => obtain ⟨t, rfl⟩ := rx; exact SeqAt.EqAt.int_str a t' b t
    | _ => exact absurd (show false = true from fx) Bool.false_ne_true
  | str a =>
    obtain ⟨t', rfl⟩ := ry
    cases x with
    | non => cases rx; exact SeqAt.EqAt.str_none a t'
    | bl b => cases rx; exact SeqAt.EqAt.str_bool a t' b
    | int b => obtain ⟨t, rfl⟩ := rx; exact SeqAt.EqAt.str_int a t' b t
    | str b => obtain ⟨t, rfl⟩ := rx; exact SeqAt.EqAt.str_str a t' b t
    | _ => exact absurd (show false = true from fx) Bool.false_ne_true
  | _ => exact absurd (show false = true from fy) Bool.false_ne_true
theorem op_notIn_str : OpR X (compareOp .NotIn) (fun x y H Q => ∃ i j, x = .str i ∧ y = .str j ∧ Q (.bl (!(!(Builtin.Str.occurrences j i 0 j.length 1).isEmpty))) H) := by
  intro pins s σ H x y v u Q I rx ry h
  obtain ⟨i, j, rfl, rfl, q⟩ := h
  obtain ⟨t, rfl⟩ := rx
  obtain ⟨t', rfl⟩ := ry
  exact notIn_str ⟨.bl _, H, I, rfl, q⟩
theorem call_len_seq : CallR X (.builtin "len") (fun xs H Q => ∃ p ys, xs = [.ref p] ∧ (SqL X.K H p ys ∨ SqT X.K H p ys) ∧ Q (.int ys.length) H) := by
  intro pins s σ H xs us Q I r h
  obtain ⟨p, ys, rfl, hq, q⟩ := h
  obtain ⟨u, rfl, rx⟩ := vals1 r
  cases rx
  have hn := line63
  rcases hq with hq | hq
  · obtain ⟨its, r', pl, hz⟩ := I.list hq
    have hlen := r'.length
    exact Calls.call_len_list pl.isList (by simp only [List.size_toArray] <;> omega) ⟨.int ys.length, H, I.tok _, ⟨s.toks + 1, by rw [List.size_toArray, hlen]⟩, q⟩
  · obtain ⟨its, r', pl, hz⟩ := I.tuple hq
    have hlen := r'.length
    exact len_tuple pl (by simp only [List.size_toArray] <;> omega) ⟨.int ys.length, H, I.tok _, ⟨s.toks + 1, by rw [List.size_toArray, hlen]⟩, q⟩
theorem call_len_str : CallR X (.builtin "len") (fun xs H Q => ∃ z, xs = [.str z] ∧ z.length ≤ sizeLine ∧ Q (.int z.length) H) := by
  intro pins s σ H xs us Q I r h
  obtain ⟨z, rfl, hz, q⟩ := h
  obtain ⟨u, rfl, t, rfl⟩ := vals1 r
  have hn := line63
  exact len_str (by omega) ⟨.int z.length, H, I.tok _, ⟨_, rfl⟩, q⟩
theorem call_list_of : CallR X (.type "list") (fun xs H Q => ∃ p ys, xs = [.ref p] ∧ (SqL X.K H p ys ∨ SqT X.K H p ys) ∧ ∀ l, H l = none → Q (.ref l) (upd H l (.lst ys))) := by
  intro pins s σ H xs us Q I r h
  obtain ⟨p, ys, rfl, hq, q⟩ := h
  obtain ⟨u, rfl, rx⟩ := vals1 r
  cases rx
  have fin : ∀ (its : List Value), Vals ys its → ys.length ≤ sizeLine → ∀ (h' : Heap) (c' : Nat), (∀ b o', s.heap.get? b = some o' → h'.get? b = some o') →
      h'.get? s.heap.objs.size = some { cls := .type "list", dict := none, data := .seq its.toArray c', slots := #[] } → EP X pins σ Q (.ref s.heap.objs.size) { s with heap := h' } := fun its r' hz h' c' kp e =>
    ⟨.ref s.heap.objs.size, _, I.laid (t' := s.toks) kp (Nat.le_refl _) (show ObjOk X.prog X.w _ h' _ (.lst ys) from ⟨hz, its, c', r', e⟩), rfl, q _ (I.hok.fresh (Nat.le_refl _))⟩
  rcases hq with hq | hq
  · obtain ⟨its, r', pl, hz⟩ := I.list hq
    have hlen := r'.length
    obtain ⟨o, ho, hc, n, hd⟩ := pl.isList
    exact call_list_seq p (.inl rfl) ho hc hd (fun h' c' kp e => fin its r' hz h' c' kp e) (by simp only [List.size_toArray] <;> omega)
  · obtain ⟨its, r', pl, hz⟩ := I.tuple hq
    have hlen := r'.length
    obtain ⟨o, ho, hc, n, hd⟩ := pl
    exact call_list_seq p (.inr rfl) ho hc hd (fun h' c' kp e => fin its r' hz h' c' kp e) (by simp only [List.size_toArray] <;> omega)
theorem call_tuple_of : CallR X (.type "tuple") (fun xs H Q => ∃ p ys, xs = [.ref p] ∧ ((SqL X.K H p ys ∧ ∀ l, H l = none → Q (.ref l) (upd H l (.tup ys))) ∨ (SqT X.K H p ys ∧ Q (.ref p) H))) := by
  intro pins s σ H xs us Q I r h
  obtain ⟨p, ys, rfl, h⟩ := h
  obtain ⟨u, rfl, rx⟩ := vals1 r
  cases rx
  rcases h with ⟨hq, q⟩ | ⟨hq, q⟩
  · obtain ⟨its, r', pl, hz⟩ := I.list hq
    have hlen := r'.length
    refine call_tuple_list pl.isList (fun h' kp => ?_) (by simp only [List.size_toArray] <;> omega)
    have I1 : Inv X pins σ H { s with heap := h' } := I.kept (t' := s.toks) kp
    have I2 : Inv X pins σ (upd H h'.objs.size (.tup ys)) { s with heap := h'.push { cls := .type "tuple", data := .seq its.toArray } } :=
      I1.laid (t' := s.toks) (fun b o e => Heap.get?_push_of_some _ e) (Nat.le_refl _) (show ObjOk X.prog X.w _ _ _ (.tup ys) from ⟨hz, its, r', IsTup.new _ _⟩)
    exact ⟨.ref h'.objs.size, _, I2, rfl, q _ (I1.hok.fresh (Nat.le_refl _))⟩
  · obtain ⟨its, r', pl, hz⟩ := I.tuple hq
    exact call_tuple_same pl ⟨.ref p, H, I, rfl, q⟩
noncomputable def tyV (K : PySem.W.Frag) (T : String) (x : V) (H : Hp) : Prop := match x with
  | .str _ => T = "str"
  | .int _ => T = "int"
  | .ref p => (T = "list" ∧ ∃ xs, SqL K H p xs) ∨ (T = "tuple" ∧ ∃ o, K.lookup p = some o ∧ o.cls = .type "tuple" ∧ o.dict = none) ∨
      (T = "dict" ∧ ((∃ kvs, H p = some (.dK kvs)) ∨ ∃ kvs, H p = some (.dT kvs))) ∨ (T = "set" ∧ ∃ S n, H p = some (.set S n))
  | _ => False
theorem tyV_is {pins : List (Addr × Obj)} {σ : St} {H : Hp} {s : Shared} {T : String} {x : V} {v : Value} (I : Inv X pins σ H s) (r : RelV x v) (ty : tyV X.K T x H) :
    s.TypeIs v T ∧ ∀ a, v = .ref a → ∃ ob, s.heap.get? a = some ob ∧ ob.dict = none := by
  cases x with
  | str z =>
    obtain ⟨t, rfl⟩ := r
    cases (show T = "str" from ty)
    exact ⟨typeIs_str s z t, fun _ e => nomatch e⟩
  | int i =>
    obtain ⟨t, rfl⟩ := r
    cases (show T = "int" from ty)
    exact ⟨typeIs_int s i t, fun _ e => nomatch e⟩
  | ref p =>
    cases r
    rcases ty with ⟨rfl, xs, hq⟩ | ⟨rfl, o, hk, hc, hd⟩ | ⟨rfl, hk⟩ | ⟨rfl, S, n, hk⟩
    · obtain ⟨its, _, pl, _⟩ := I.list hq
      refine ⟨pl.isList.typeIs, fun a e => ?_⟩
      cases e
      obtain ⟨o, n, e, c, hd, _⟩ := pl
      exact ⟨o, e, hd⟩
    · refine ⟨⟨o, I.kIn p o hk, hc⟩, fun a e => ?_⟩
      cases e
      exact ⟨o, I.kIn _ o hk, hd⟩
    · have z : ∃ o, s.heap.get? p = some o ∧ o.ExactDict := by
        rcases hk with ⟨kvs, hk⟩ | ⟨kvs, hk⟩
        · obtain ⟨_, _, _, _, o, _, _, e, ex, _⟩ := I.hok p _ hk
          exact ⟨o, e, ex⟩
        · obtain ⟨_, _, _, _, o, _, _, e, ex, _⟩ := I.hok p _ hk
          exact ⟨o, e, ex⟩
      obtain ⟨o, e, ex⟩ := z
      refine ⟨⟨o, e, ex.1⟩, fun a e2 => ?_⟩
      cases e2
      exact ⟨o, e, ex.2.1⟩
    · obtain ⟨o, _, _, _, e, ex, _⟩ := I.hok p _ hk
      refine ⟨⟨o, e, ex.1⟩, fun a e2 => ?_⟩
      cases e2
      exact ⟨o, e, ex.2.1⟩
  | _ => exact False.elim ty
noncomputable def tBM0 (K : PySem.W.Frag) (T : String) (r : V → List V → Hp → VK → Prop) (to : TE) : TE := fun σ H Q => to σ H fun x H1 => tyV K T x H1 ∧ r x [] H1 Q
noncomputable def tBM (K : PySem.W.Frag) (T : String) (r : V → List V → Hp → VK → Prop) (to : TE) (t : TA) : TE := fun σ H Q => to σ H fun x H1 => tyV K T x H1 ∧ t σ H1 fun xs H2 => r x xs H2 Q
variable {o e : Expr} {es : List Expr} {to : TE} {t : TA} {name : Str} {apos cpos : Pos} {T id : String} {r : V → List V → Hp → VK → Prop}
theorem pe_bm0 (pa : PlainAttrs T) (slot : Slot T name id) (hty : typeOf (.builtin id) = pure (.type "method_descriptor")) (hm : MtR X id r) (ho : PE X o to)
    (hbase : attributeBase o name X.env (eval o X.env) = eval o X.env := by rfl) (hline : (apos.endLine == cpos.line) = true := by rfl) : PE X (.Call (.Attribute o name apos) [] [] cpos) (tBM0 X.K T r to) := by
  intro pins s σ H Q I h
  refine wpAny_Call_method0_late hbase hline (thn (ho pins s σ H _ I h) fun v s1 ⟨x, H1, I1, r1, ty, q1⟩ => ?_)
  obtain ⟨h1, h2⟩ := tyV_is I1 r1 ty
  exact ⟨T, id, pa, slot, hty, h1, h2, Calls.callWith_builtin rfl (PySem.evalArgs_none (hm pins s1 σ H1 x [] v [] Q I1 r1 .nil q1))⟩
theorem pe_bm (pa : PlainAttrs T) (slot : Slot T name id) (hty : typeOf (.builtin id) = pure (.type "method_descriptor")) (hm : MtR X id r) (ho : PE X o to) (ha : PA X (e :: es) t)
    (hbase : attributeBase o name X.env (eval o X.env) = eval o X.env := by rfl)
    (hfew : ((backTo cpos (starEach (e :: es) X.env)).all (fun x => !x.1) && (backToKw cpos (keywordEach [] X.env)).all (fun x => x.1.isSome)
      && decide ((e :: es).length + ([] : List Keyword).length + (if ([] : List Keyword).isEmpty then 0 else 1) < 30)) = true := by rfl)
    (hline : (apos.endLine == cpos.line) = true := by rfl) (hs : starEach (e :: es) X.env = (false, eval e X.env) :: starEach es X.env := by rfl) (hplain : (backTo cpos (starEach es X.env)).any (·.1) = false := by rfl) :
    PE X (.Call (.Attribute o name apos) (e :: es) [] cpos) (tBM X.K T r to t) := by
  intro pins s σ H Q I h
  refine wpAny_Call_method_late hbase hfew hline rfl (thn (ho pins s σ H _ I h) fun v s1 ⟨x, H1, I1, r1, ty, q1⟩ => ?_)
  obtain ⟨h1, h2⟩ := tyV_is I1 r1 ty
  refine ⟨T, id, pa, slot, hty, h1, h2, ?_⟩
  have hA := ha cpos pins s1 σ H1 _ I1 q1
  rw [hs] at hA ⊢
  refine Calls.callWith_builtin (by show (false || (backTo cpos (starEach es X.env)).any (·.1)) = false; rw [hplain] <;> rfl) (Calls.evalArgs_plain ?_)
  exact thn hA fun us s2 ⟨vs, H2, I2, r2, q2⟩ => hm pins s2 σ H2 x vs v us Q I2 r1 r2 q2
end
end L2
namespace L2
open PySem PySem.Spec PyProof.Rows
noncomputable def MtM (X : Cx) (id : String) (r : V → List V → Hp → VK → Prop) : Prop :=
  ∀ (pins : List (Addr × Obj)) (s : Shared) (σ : St) (H : Hp) (x : V) (xs : List V) (v : Value) (us : List Value) (Q : VK), Inv X pins σ H s → RelV x v → Vals xs us → r x xs H Q →
    wpAny (model X.prog X.w) X.A (call (.builtin id) (v :: us)) (EP X pins σ Q) X.xe s
theorem Vals.one : ∀ {x : V} {us : List Value}, Vals [x] us → ∃ u, us = [u] ∧ RelV x u
  | _, _, .cons r .nil => ⟨_, rfl, r⟩
theorem Vals.zero : ∀ {us : List Value}, Vals [] us → us = []
  | _, .nil => rfl
theorem Vals.reverse {xs : List V} {us : List Value} (h : Vals xs us) : Vals xs.reverse us.reverse := by
  induction h with
  | nil => exact .nil
  | cons r t ih => rw [List.reverse_cons, List.reverse_cons]; exact Vals.append ih (.cons r .nil)
theorem Vals.rep {xs : List V} {us : List Value} (h : Vals xs us) : ∀ k : Nat, Vals (List.replicate k xs).flatten (List.replicate k us).flatten
  | 0 => .nil
  | k + 1 => by
    rw [List.replicate_succ, List.replicate_succ, List.flatten_cons, List.flatten_cons]
    exact Vals.append h (Vals.rep h k)
theorem foldl_rep (its : List Value) : ∀ (k : Nat) (acc : List Value),
    List.foldl (fun x1 x2 => x1 ++ x2) acc.toArray (List.replicate k its.toArray) = (acc ++ (List.replicate k its).flatten).toArray
  | 0, acc => by simp
  | k + 1, acc => by
    have e : acc.toArray ++ its.toArray = (acc ++ its).toArray := by simp
    have e2 : (acc ++ its) ++ (List.replicate k its).flatten = acc ++ (List.replicate (k + 1) its).flatten := by
      rw [List.replicate_succ, List.flatten_cons, List.append_assoc]
    rw [← e2, ← foldl_rep its k (acc ++ its), ← e, List.replicate_succ, List.foldl_cons]
section
variable {X : Cx} {pins : List (Addr × Obj)} {σ : St} {H : Hp} {s : Shared} {l b : Addr} {xs ys zs : List V}
theorem Inv.lset {its its' : List Value} {n : Nat} {f : Array Value → Array Value} {t' : Nat} (I : Inv X pins σ H s) (hH : H l = some (.lst xs))
    (e : s.heap.get? l = some { cls := .type "list", data := .seq its.toArray n }) (hf : f its.toArray = its'.toArray) (hv : Vals ys its') (hz : ys.length ≤ sizeLine) :
    Inv X pins σ (upd H l (.lst ys)) { s with heap := s.heap.update l (Obj.mapSeq f), toks := t' } := by
  have q := PySem.IsL.update e f
  rw [hf] at q
  refine I.write (x := l) (e := l) (by rw [hH]; exact trivial) (.inl rfl) (fun b' u hb hu => (Heap.get?_update_other s.heap (Obj.mapSeq f) (Ne.symm hb)).trans hu) ⟨_, q⟩ ?_
  exact ⟨hz, its', _, hv, q⟩
theorem Inv.lnew {its : List Value} {t' : Nat} (I : Inv X pins σ H s) (hv : Vals ys its) (hz : ys.length ≤ sizeLine) :
    Inv X pins σ (upd H s.heap.objs.size (.lst ys)) { s with heap := s.heap.push { cls := .type "list", data := .seq its.toArray }, toks := t' } :=
  I.laid (fun _ _ q => Heap.get?_push_of_some _ q) (Nat.le_refl _) ⟨hz, its, 0, hv, Heap.get?_push_size _ rfl⟩
theorem Inv.fresh (I : Inv X pins σ H s) : H s.heap.objs.size = none := I.hok.fresh (Nat.le_refl _)
theorem Inv.lstM (I : Inv X pins σ H s) (hH : H l = some (.lst xs)) : xs.length ≤ sizeLine ∧ ∃ (its : List Value) (n : Nat), Vals xs its ∧ xs.length = its.length ∧ s.heap.get? l = some { cls := .type "list", data := .seq its.toArray n } := by
  obtain ⟨z, its, n, r, e⟩ := I.hok l _ hH
  exact ⟨z, its, n, r, r.length, e⟩
theorem notLongL {n : Nat} (h : n ≤ sizeLine) : Builtin.List.listTooLong n = false := by
  unfold Builtin.List.listTooLong
  exact decide_eq_false (by omega)
end
section
variable {X : Cx}
noncomputable def rAppend : V → List V → Hp → VK → Prop := fun x vs H Q => ∃ l xs y, x = .ref l ∧ vs = [y] ∧ H l = some (.lst xs) ∧ xs.length < sizeLine ∧ Q .non (upd H l (.lst (xs ++ [y])))
theorem mt_append : MtM X "list.append" rAppend := by
  intro pins s σ H x vs v us Q I rx rv h
  obtain ⟨l, xs, y, rfl, rfl, hH, hz, q⟩ := h
  cases rx
  obtain ⟨u, rfl, ru⟩ := rv.one
  obtain ⟨z, its, n, r, hl, e⟩ := I.lstM hH
  refine call_meets F.slot_list_append ⟨_, e, rfl⟩ F.entry_list_append (F.args_list_append_2 _ _) (PySem.list_append l its.toArray n u (by rw [List.size_toArray]; omega)) ⟨e, ?_⟩
  refine ⟨.non, _, I.lset (its' := its ++ [u]) hH e (by simp) (r.append (.cons ru .nil)) ?_, rfl, q⟩
  rw [List.length_append, List.length_singleton]
  omega
noncomputable def rExtend : V → List V → Hp → VK → Prop := fun x vs H Q => ∃ l b xs zs, x = .ref l ∧ vs = [.ref b] ∧ H l = some (.lst xs) ∧ H b = some (.lst zs) ∧ xs.length + zs.length ≤ sizeLine ∧ Q .non (upd H l (.lst (xs ++ zs)))
theorem mt_extend : MtM X "list.extend" rExtend := by
  intro pins s σ H x vs v us Q I rx rv h
  obtain ⟨l, b, xs, zs, rfl, rfl, hH, hB, hz, q⟩ := h
  cases rx
  obtain ⟨u, rfl, ru⟩ := rv.one
  cases ru
  obtain ⟨z, its, n, r, hl, e⟩ := I.lstM hH
  obtain ⟨z2, its2, n2, r2, hl2, e2⟩ := I.lstM hB
  have hsz : its.toArray.size + its2.toArray.size ≤ sizeLine := by rw [List.size_toArray, List.size_toArray]; omega
  have hlong : ¬ (!its.toArray.isEmpty && Builtin.List.listTooLong (its.toArray.size + its2.toArray.size)) = true := by
    rw [notLongL hsz, Bool.and_false]
    exact Bool.false_ne_true
  refine call_meets F.slot_list_extend ⟨_, e, rfl⟩ F.entry_list_extend (F.args_list_extend_2 _ _)
    (AutoSeq1.list_extend_list_list_0 l its.toArray n b its2.toArray n2 hlong (by rw [List.size_toArray]; omega) (by omega)) ⟨e, e2, ?_⟩
  refine ⟨.non, _, I.lset (its' := its ++ its2) hH e (by simp) (r.append r2) ?_, rfl, q⟩
  rw [List.length_append]
  omega
noncomputable def rReverse : V → List V → Hp → VK → Prop := fun x vs H Q => ∃ l xs, x = .ref l ∧ vs = [] ∧ H l = some (.lst xs) ∧ Q .non (upd H l (.lst xs.reverse))
theorem mt_reverse : MtM X "list.reverse" rReverse := by
  intro pins s σ H x vs v us Q I rx rv h
  obtain ⟨l, xs, rfl, rfl, hH, q⟩ := h
  cases rx
  have hus := rv.zero
  subst hus
  obtain ⟨z, its, n, r, hl, e⟩ := I.lstM hH
  refine call_meets F.slot_list_reverse ⟨_, e, rfl⟩ F.entry_list_reverse (F.args_list_reverse_1 _) (AutoSeq1.list_reverse_list_0 l its.toArray n (by rw [List.size_toArray]; omega)) ⟨e, ?_⟩
  refine ⟨.non, _, I.lset (its' := its.reverse) hH e (by simp) r.reverse ?_, rfl, q⟩
  rw [List.length_reverse]
  omega
noncomputable def rCat : R2 := fun x y H Q => ∃ l b xs zs, x = .ref l ∧ y = .ref b ∧ H l = some (.lst xs) ∧ H b = some (.lst zs) ∧ xs.length + zs.length ≤ sizeLine ∧ ∀ p, H p = none → Q (.ref p) (upd H p (.lst (xs ++ zs)))
theorem op_cat : OpR X (binaryOp .Add) rCat := by
  intro pins s σ H x y v u Q I rx ry h
  obtain ⟨l, b, xs, zs, rfl, rfl, hH, hB, hz, q⟩ := h
  cases rx
  cases ry
  obtain ⟨z, its, n, r, hl, e⟩ := I.lstM hH
  obtain ⟨z2, its2, n2, r2, hl2, e2⟩ := I.lstM hB
  refine PySem.P.add_list e e2 ?_ (by rw [List.size_toArray, List.size_toArray]; omega)
  have ea : its.toArray ++ its2.toArray = (its ++ its2).toArray := by simp
  rw [ea]
  exact ⟨.ref _, _, I.lnew (t' := s.toks) (r.append r2) (by rw [List.length_append]; omega), rfl, q _ I.fresh⟩
noncomputable def rRep : R2 := fun x y H Q => ∃ l k xs, x = .ref l ∧ y = .int k ∧ H l = some (.lst xs) ∧ -(2 ^ 63) ≤ k ∧ k < 2 ^ 63 ∧ xs.length * k.toNat ≤ sizeLine ∧
  ∀ p, H p = none → Q (.ref p) (upd H p (.lst (List.replicate k.toNat xs).flatten))
theorem len_rep {α : Type} (xs : List α) (k : Nat) : (List.replicate k xs).flatten.length = k * xs.length := by
  induction k with
  | zero => simp
  | succ k ih => rw [List.replicate_succ, List.flatten_cons, List.length_append, ih, Nat.succ_mul, Nat.add_comm]
theorem op_rep : OpR X (binaryOp .Mult) rRep := by
  intro pins s σ H x y v u Q I rx ry h
  obtain ⟨l, k, xs, rfl, rfl, hH, h1, h2, hz, q⟩ := h
  cases rx
  obtain ⟨t, rfl⟩ := ry
  obtain ⟨z, its, n, r, hl, e⟩ := I.lstM hH
  have hlen : its.toArray.size * k.toNat ≤ sizeLine := by rw [List.size_toArray, ← hl]; exact hz
  have hcap : ¬ its.toArray.size * k.toNat > (2 ^ 63 - 1) / 8 := by
    have : (sizeLine : Nat) ≤ (2 ^ 63 - 1) / 8 := by decide
    omega
  have hfit : ¬ (!Builtin.List.listFitsIndex k) = true := by
    rw [fitsIndex_both h1 h2]
    exact Bool.false_ne_true
  have hlong : ¬ Builtin.List.listTooLong (its.toArray.size * k.toNat) = true := by
    rw [notLongL hlen]
    exact Bool.false_ne_true
  have hnew : List.foldl (fun x1 x2 => x1 ++ x2) #[] (List.replicate (if its.toArray.isEmpty = true then 0 else k.toNat) its.toArray) = (List.replicate k.toNat its).flatten.toArray := by
    have f0 : ∀ m : Nat, List.foldl (fun x1 x2 => x1 ++ x2) #[] (List.replicate m its.toArray) = (List.replicate m its).flatten.toArray := fun m => by
      have := foldl_rep its m []
      rw [List.nil_append] at this
      exact this
    rw [f0]
    cases its with
    | nil => simp
    | cons a r' => rw [if_neg (by simp)]
  refine wpAny_binaryOp_repeat_ref (T := "list") (U := "int") (by decide) ⟨_, e, rfl⟩ (fun s' => typeIs_int s' k t) noFill_list_mul F.fills_int_mul F.slot_int_rmul repeat_list F.slot_int_index.lookup
    (call_meets F.slot_int_rmul (typeIs_int s k t) F.entry_int_rmul (F.args_int_rmul_2 _ _) (int___rmul___int_list k t l its.toArray n)
      ⟨e, rfl, ⟨_, e, rfl⟩, call_meets F.slot_list_mul ⟨_, e, rfl⟩ F.entry_list_mul (F.args_list_mul_2 _ _) (AutoListH.list___mul___list_int_3 l its.toArray n k t hfit hcap hlong) ⟨e, ?_⟩⟩)
  rw [hnew]
  exact ⟨.ref _, _, I.lnew (t' := s.toks) (r.rep k.toNat) (by rw [len_rep, Nat.mul_comm]; exact hz), rfl, q _ I.fresh⟩
end
section
variable {prog : Program} {w : World} {A : Around} {E : Value → Shared → Prop} {s : Shared}
end
section
variable {X : Cx}
end
end L2
namespace Att
open PySem PySem.W PySem.Calls PyProof.Rows
theorem ints_of_wellAll {P : Params} {h : Heap} : ∀ (ns : List Int) (vs : List Value), WellAll P h vs (ns.map WData.int) → IntsAre vs ns := by
  intro ns
  induction ns with
  | nil =>
    intro vs w
    rw [List.map_nil] at w
    cases w
    exact .nil
  | cons n ns ih =>
    intro vs w
    rw [List.map_cons] at w
    cases w with
    | cons a b =>
      cases a
      exact .cons _ _ (ih _ b)
theorem script_of {l : OpenLaw} {n : Nat} (hn : l.most = some n) {P : Params} {h : Heap} {args : List WData} {vals : List Value}
    (hpre : l.row.toRowW.claim.pre args = true) (hwl : WellAll P h vals args) :
    ∃ a vs ns, vals = [Value.ref a] ∧ args = [WData.list (ns.map WData.int)] ∧ h.get? a = some { cls := .type "list", data := .seq vs.toArray } ∧ IntsAre vs ns ∧ ns.length ≤ n := by
  have hsh : WShape.hasAll [] args [.list .int] = true := (pre_splitW hpre).1
  have hc : l.pre.holds [] { args := args } = true := (pre_splitW hpre).2
  obtain ⟨d, r, rfl, h1, h2⟩ := hasAllW_cons hsh
  obtain rfl := hasAllW_nil h2
  obtain ⟨xs, rfl, h3⟩ := hasW_list h1
  obtain ⟨ns, rfl⟩ := items_int h3
  have hlen : ns.length ≤ n := by
    unfold OpenLaw.pre at hc
    have h4 : (WTm.not (.lt (.lit (.int (n : Int))) (.len (.arg 0)))).holds [] { args := [.list (ns.map .int)] } = true := by
      have h4 := (holds_andW hc).1
      rw [hn] at h4
      exact h4
    have h5 := condW_of h4 (w_not (w_lt w_lit (w_len_list (w_arg rfl))))
    rw [List.length_map] at h5
    refine Nat.le_of_not_lt fun q => ?_
    have q' : (n : Int) < ((ns.length : Nat) : Int) := by omega
    first
      | (rw [decide_eq_true q'] at h5; exact absurd h5 (by decide))
      | (simp at h5; omega)
  cases hwl with
  | cons w1 w2 =>
    cases w2
    cases w1 with
    | list ho hall => exact ⟨_, _, ns, rfl, rfl, ho, ints_of_wellAll ns _ hall, hlen⟩
theorem post_true (l : OpenLaw) (args : List WData) : l.row.toRowW.claim.post args (.bool true) args = true :=
  postW_of (r := l.row.toRowW) (X := (true == true))
    (show WShape.has [] (.bool true) .bool = true by first | rfl | decide | simp [WShape.has, WShape.arms, WShape.armsAll])
    (show (WTm.eq .res (.lit (.bool true))).value [] { args := args, res := some (.bool true), after := args } = some (.bool (true == true)) from w_eq_bool (w_res rfl) w_lit) rfl
section
variable {prog : Program} {w : World} {A : Around} {E : Value → Shared → Prop} {s : Shared} {K : Frag}
end
end Att
namespace L2
open PySem PySem.Spec PyProof.Rows
theorem vals_ints : ∀ {vs : List Value} {ns : List Int}, IntsAre vs ns → Vals (ns.map V.int) vs
  | _, _, .nil => .nil
  | _, _, .cons n t h => .cons ⟨t, rfl⟩ (vals_ints h)
noncomputable def Only (H : Hp) : Prop := ∀ b, H b = none ∨ ∃ o xs, H b = some (.frz o (.lst xs))
theorem law_call {P : Program} {w : World} {K : PySem.W.Frag} {mg mb : Str → Option Value} {CX : CXT} {k : Nat} {fa a : Addr} {fd : FuncData} {x : Str} {sp : Sp} {s₁ : Shared} {vs : List Value} {ns : List Int}
    (KX : K.In s₁.heap) (hns : s₁.heap.Ns mainGlobals mg) (hb : s₁.heap.Ns builtinsNs mb) (hbb : ∀ x : Str, x ≠ "__name__" → mb x = bootBuiltins x) (hlim : s₁.heap.NoLimit) (hg : s₁.gens = #[])
    (ha : s₁.heap.get? a = some { cls := .type "list", data := .seq vs.toArray }) (hi : IntsAre vs ns) (hl : ns.length ≤ sizeLine) (hr : Room k callerA)
    (F : ∀ base : Heap, K.In base → base.Ns mainGlobals mg → FnOk P w K mg base CX k fa fd [x] sp) (hbind : ∀ (s : Shared) (u : Value), BindsTo s fd ⟨[u], []⟩ [(x, u)])
    (hsp : ∀ H : Hp, Only H → SqL K H a (ns.map V.int) → sp [.ref a] H (fun v _ => v = .bl true) fun _ _ _ => False)
    (hCX : ∀ H e s', CX [] H s₁ (fun _ _ _ => False) e s' → False) :
    codeAny (model P w) callerA (.call (.ref fa) ⟨[.ref a], []⟩) (fun r s' => r = .ok (.ret (.bool true)) ∧ OldK s₁.heap s'.heap ∧ s'.os = s₁.os ∧ AllBare s'.gens) s₁ := by
  have rv := vals_ints hi
  have lenV := hi.length
  have core : ∀ H : Hp, Only H → SqL K H a (ns.map V.int) → HOk P w H s₁.heap → (∀ b, H b ≠ none → b = a) → (H a ≠ none → K.lookup a = none) →
      codeAny (model P w) callerA (.call (.ref fa) ⟨[.ref a], []⟩) (fun r s' => r = .ok (.ret (.bool true)) ∧ OldK s₁.heap s'.heap ∧ s'.os = s₁.os ∧ AllBare s'.gens) s₁ := by
    intro H hO hS hok hA hK
    have base_of : ∀ {b : Addr} {o : Obj}, s₁.heap.get? b = some o → H b = none → (hidT s₁.heap H).get? b = some o := fun e n => hidT_get e n
    have noA : ∀ {b : Addr} {o : Obj} {es : Array DictEntry} {ep : Nat}, s₁.heap.get? b = some o → o.data = .dict es ep → H b = none := fun {b o es ep} e d => by
      cases q : H b with
      | none => rfl
      | some u =>
        have e' : b = a := hA b (by rw [q]; simp)
        subst e'
        rw [ha] at e; cases e
        have d' : Data.seq vs.toArray _ = Data.dict es ep := d
        cases d'
    have nsK : ∀ {b : Addr} {m : Str → Option Value}, s₁.heap.Ns b m → (hidT s₁.heap H).Ns b m := fun {b m} ⟨o, es, ep, e, d, r⟩ => ⟨o, es, ep, base_of e (noA e d), d, r⟩
    have hKb : K.In (hidT s₁.heap H) := fun b o e => base_of (KX b o e) (by
      cases q : H b with
      | none => rfl
      | some u =>
        have e' : b = a := hA b (by rw [q]; simp)
        subst e'
        rw [hK (by rw [q]; simp)] at e; cases e)
    have hM : Mod K mg (hidT s₁.heap H) := ⟨hKb, nsK hns, ⟨mb, nsK hb, hbb⟩, let ⟨mc, h1, h2⟩ := hlim; ⟨mc, nsK h1, h2⟩⟩
    have e0 : Env0 P w K mg (hidT s₁.heap H) callerA [] s₁ H := ⟨rfl, hM, fun b o e => of_hidT e, Nat.le_of_eq (hidT_size _ _), trivial, fun b hb => absurd (show b ∈ ([] : List Addr) from hb) (by simp), hok, .of_eq hg⟩
    refine codeAny_mono ((F _ hKb (nsK hns)).run callerA [] s₁ H ⟨[.ref a], []⟩ [.ref a] [.ref a] _ _ hr e0 (hbind s₁ (.ref a)) (.cons rfl .nil) (hsp H hO hS)) fun r s' h => ?_
    cases r with
    | error e => exact (hCX H e s' h).elim
    | ok fl =>
      cases fl with
      | next => exact False.elim h
      | brk => exact False.elim h
      | cont => exact False.elim h
      | ret u =>
        obtain ⟨v, H', os, bare, un, hok', r', q⟩ := h
        have q' : v = .bl true := q
        subst q'
        obtain rfl : u = Value.bool true := r'
        refine ⟨rfl, OldK.of_keep fun b o e => ?_, os, bare⟩
        cases q : H b with
        | none => exact un.keep b o e q (by intro z; exact absurd (show b ∈ ([] : List Addr) from z) (by simp)) (by simp)
        | some u =>
          rcases hO b with z | ⟨ob, xs, z⟩
          · rw [q] at z; cases z
          · have z2 := un.frzs b ob _ z
            obtain ⟨e1, _⟩ := hok b _ z
            obtain ⟨e2, _⟩ := hok' b _ z2
            rw [e] at e1; cases e1
            exact e2
  cases hk : K.lookup a with
  | some o =>
    have e := KX a o hk
    rw [ha] at e
    cases e
    refine core (fun _ => none) (fun _ => .inl rfl) (.inr ⟨_, vs.toArray, _, hk, rfl, rfl, rfl, by rw [List.size_toArray, lenV]; exact hl, by simpa using rv⟩) (fun b u z => by have z' : (none : Option HO) = some u := z; cases z') (fun b z => absurd rfl z) fun z => absurd rfl z
  | none =>
    refine core (fun b => if b = a then some (.frz { cls := .type "list", data := .seq vs.toArray } (.lst (ns.map V.int))) else none) (fun b => ?_) (.inl (.inr ⟨{ cls := .type "list", data := .seq vs.toArray }, if_pos rfl⟩)) (fun b u z => ?_) (fun b z => ?_) fun _ => hk
    · by_cases hb : b = a
      · exact .inr ⟨_, _, if_pos hb⟩
      · exact .inl (if_neg hb)
    · by_cases hb : b = a
      · have z' := (if_pos hb).symm.trans z
        cases z'
        subst hb
        exact ⟨ha, by rw [List.length_map]; exact hl, vs, _, rv, ha⟩
      · have z' := (if_neg hb).symm.trans z
        cases z'
    · by_cases hb : b = a
      · exact hb
      · exact absurd (if_neg hb) z
end L2
namespace L2
open PySem PySem.Spec PyProof.Rows
end L2
namespace L2
open PySem PySem.Spec PyProof.Rows
noncomputable def defArgs (s : Stmt) : Arguments := match s with
  | .FunctionDef _ a _ _ _ _ _ _ _ _ => a
  | _ => { posonlyargs := [], args := [], vararg := none, kwonlyargs := [], kw_defaults := [], kwarg := none, defaults := [] }
noncomputable def defBody (s : Stmt) : List Stmt := match s with
  | .FunctionDef _ _ b _ _ _ _ _ _ _ => b
  | _ => []
noncomputable def defScope (s : Stmt) : Scope := match s with
  | .FunctionDef _ _ _ _ _ _ sc _ _ _ => sc
  | _ => { kind := .function, names := [], isGenerator := false, isCoroutine := false }
noncomputable abbrev CX0 : CXT := fun _ _ _ _ _ _ => False
noncomputable abbrev E0 : XK := fun _ _ _ => False
theorem pass0 {X : Cx} : Passes CX0 X E0 := fun _ _ _ _ _ _ _ h => h.elim
section
variable {P : Program} {w : World} {K : PySem.W.Frag} {mg : Str → Option Value} {base : Heap}
end
section
variable {X : Cx}
theorem pv (i : Nat) {x : Str} {pos : Pos} (hN : X.N[i]? = some x := by rfl) (hv : Vis X.env.scope x := by first | exact Or.inl rfl | exact Or.inr (Or.inl rfl) | exact Or.inr (Or.inr rfl)) (hd : (x == ("__debug__" : Str)) = false := by decide)
    (hcd : (x == ("__classdict__" : Str)) = false := by decide) : PE X (.Name x pos) (tVar i) := pe_var hN hv hd hcd
end
theorem iteF {A B : Prop} (h : B) : if false = true then A else B := by
  rw [if_neg Bool.false_ne_true]
  exact h
theorem iteT {A B : Prop} (h : A) : if true = true then A else B := by
  rw [if_pos rfl]
  exact h
noncomputable def Same (H H' : Hp) : Prop := ∀ b o, H b = some o → H' b = some o
theorem Same.refl (H : Hp) : Same H H := fun _ _ h => h
theorem Same.trans {H H1 H2 : Hp} (a : Same H H1) (b : Same H1 H2) : Same H H2 := fun c o h => b c o (a c o h)
theorem Same.free {H H' : Hp} (e : Same H H') {l : Addr} (h : H' l = Option.none) : H l = Option.none := by
  cases q : H l with
  | none => rfl
  | some o =>
    rw [e l o q] at h
    cases h
theorem Same.seq {K : PySem.W.Frag} {H H' : Hp} {a : Addr} {xs : List V} (e : Same H H') (h : SqL K H a xs) : SqL K H' a xs := by
  rcases h with (h | ⟨o, h⟩) | h
  · exact .inl (.inl (e _ _ h))
  · exact .inl (.inr ⟨o, e _ _ h⟩)
  · exact .inr h
end L2
namespace C5
open PySem
section
variable {M : Model} {A : Around} {E : Value → Shared → Prop} {s : Shared}
noncomputable def clGo (env : Env) : List (Str × NameKind) → List (Str × Addr) → List (Str × Addr)
  | [], cs => cs
  | (n, k) :: r, cs => clGo env r (if k == .free then (n, (env.cells.lookup n).getD 0) :: cs else cs)
theorem clGo_cons (env : Env) (n : Str) (k : NameKind) (r : List (Str × NameKind)) (cs : List (Str × Addr)) : clGo env ((n, k) :: r) cs = clGo env r (if k == .free then (n, (env.cells.lookup n).getD 0) :: cs else cs) := rfl
noncomputable def clOf (sc : Scope) (env : Env) : List (Str × Addr) := clGo env sc.names []
theorem clGo_run {env : Env} (f : Str × NameKind → List (Str × Addr) → Sem (ForInStep (List (Str × Addr))))
    (hf : ∀ n k cs, f (n, k) cs = if k == .free then (do let a ← cellOf env n; pure (.yield ((n, a) :: cs))) else pure (.yield cs)) :
    ∀ (l : List (Str × NameKind)) (cs : List (Str × Addr)), (∀ y ∈ l, y.2 = .free → ∃ c, env.cells.lookup y.1 = some c) → forIn l cs f = pure (clGo env l cs)
  | [], cs, _ => by rw [List.forIn_nil]; rfl
  | (n, k) :: r, cs, h => by
    rw [List.forIn_cons, hf]
    have hr := fun cs' => clGo_run f hf r cs' fun y hy => h y (List.mem_cons_of_mem _ hy)
    cases hk : k == NameKind.free with
    | false =>
      simp only [Bool.false_eq_true, if_false, pure_bind]
      rw [hr, clGo_cons, hk]; rfl
    | true =>
      obtain ⟨c, hc⟩ := h (n, k) List.mem_cons_self (by simpa using hk)
      have hc' : cellOf env n = pure c := by
        unfold cellOf
        rw [show env.cells.lookup n = some c from hc]
      simp only [if_true, hc', pure_bind]
      rw [hr, clGo_cons, hk, show env.cells.lookup n = some c from hc]; rfl
theorem clos_of {sc : Scope} {env : Env} (h : ∀ y ∈ sc.names, y.2 = .free → ∃ c, env.cells.lookup y.1 = some c) : closureFor sc env = pure (clOf sc env) := by
  unfold closureFor clOf
  dsimp only
  rw [clGo_run (env := env) _ (fun n k cs => by cases hk : k == NameKind.free <;> simp [hk]) sc.names [] h]
  exact pure_bind _ _
theorem clGo_mem {env : Env} : ∀ (l : List (Str × NameKind)) (cs : List (Str × Addr)) (x : Str) (c : Addr), (x, c) ∈ clGo env l cs → (x, c) ∈ cs ∨ ((x, NameKind.free) ∈ l ∧ c = (env.cells.lookup x).getD 0)
  | [], cs, x, c, h => .inl h
  | (n, k) :: r, cs, x, c, h => by
    unfold clGo at h
    rcases clGo_mem r _ x c h with h | ⟨h, e⟩
    · cases hk : k == NameKind.free with
      | false => rw [hk, if_neg Bool.false_ne_true] at h; exact .inl h
      | true =>
        rw [hk, if_pos rfl] at h
        have hk' : k = .free := by simpa using hk
        rcases List.mem_cons.mp h with e | h
        · cases e; subst hk'; exact .inr ⟨List.mem_cons_self, rfl⟩
        · exact .inl h
    · exact .inr ⟨List.mem_cons_of_mem _ h, e⟩
theorem clGo_keep {env : Env} : ∀ (l : List (Str × NameKind)) (cs : List (Str × Addr)) (p : Str × Addr), p ∈ cs → p ∈ clGo env l cs
  | [], _, _, h => h
  | (n, k) :: r, cs, p, h => by
    unfold clGo
    refine clGo_keep r _ p ?_
    split
    · exact List.mem_cons_of_mem _ h
    · exact h
theorem clGo_has {env : Env} : ∀ (l : List (Str × NameKind)) (cs : List (Str × Addr)) (x : Str), (x, NameKind.free) ∈ l → (x, (env.cells.lookup x).getD 0) ∈ clGo env l cs
  | (n, k) :: r, cs, x, h => by
    unfold clGo
    rcases List.mem_cons.mp h with e | h
    · cases e
      refine clGo_keep r _ _ ?_
      simp
    · exact clGo_has r _ x h
theorem lookup_of_mem {α : Type} : ∀ {l : List (Str × α)} {x : Str} {c : α}, (x, c) ∈ l → (∀ c', (x, c') ∈ l → c' = c) → l.lookup x = some c
  | (k, v) :: r, x, c, h, u => by
    rw [List.lookup_cons]
    cases hb : x == k with
    | true =>
      have e := beq_iff_eq.mp hb
      subst e
      rw [u v List.mem_cons_self]
    | false =>
      rcases List.mem_cons.mp h with e | h
      · cases e; simp at hb
      · exact lookup_of_mem h fun c' h' => u c' (List.mem_cons_of_mem _ h')
theorem clOf_sub {sc : Scope} {env : Env} (h : ∀ y ∈ sc.names, y.2 = .free → ∃ c, env.cells.lookup y.1 = some c) {x : Str} {c : Addr} (e : (clOf sc env).lookup x = some c) :
    env.cells.lookup x = some c ∧ (x, NameKind.free) ∈ sc.names := by
  rcases clGo_mem sc.names [] x c (mem_of_lookup e) with z | ⟨z, q⟩
  · exact absurd z (by simp)
  · obtain ⟨c', hc⟩ := h _ z rfl
    have hc : env.cells.lookup x = some c' := hc
    rw [hc] at q
    exact ⟨by rw [hc, q]; rfl, z⟩
theorem clOf_has {sc : Scope} {env : Env} {x : Str} (e : (x, NameKind.free) ∈ sc.names) : (clOf sc env).lookup x = some ((env.cells.lookup x).getD 0) :=
  lookup_of_mem (clGo_has sc.names [] x e) fun c' h' => by
    rcases clGo_mem sc.names [] x c' h' with z | ⟨_, q⟩
    · exact absurd z (by simp)
    · exact q
theorem cellsFrom_app : ∀ (names : List (Str × NameKind)) (n : Nat) (acc : List (Str × Addr)), cellsFrom n names acc = cellsFrom n names [] ++ acc
  | [], _, _ => rfl
  | (x, k) :: r, n, acc => by
    unfold cellsFrom
    split
    · rw [cellsFrom_app r (n + 1) ((x, n) :: acc), cellsFrom_app r (n + 1) [(x, n)]]; simp
    · exact cellsFrom_app r n acc
theorem cellsFrom_key : ∀ (names : List (Str × NameKind)) (n : Nat) (x : Str) (c : Addr), (x, c) ∈ cellsFrom n names [] → (x, NameKind.cell) ∈ names
  | [], _, _, _, h => by simp [cellsFrom] at h
  | (y, k) :: r, n, x, c, h => by
    unfold cellsFrom at h
    split at h
    · rename_i hk
      have hk' : k = .cell := by simpa using hk
      rw [cellsFrom_app] at h
      rcases List.mem_append.mp h with h | h
      · exact List.mem_cons_of_mem _ (cellsFrom_key r _ x c h)
      · have e : (x, c) = (y, n) := by simpa using h
        cases e; subst hk'; exact List.mem_cons_self
    · exact List.mem_cons_of_mem _ (cellsFrom_key r _ x c h)
noncomputable def bkEnv (sc : Scope) (cl : List (Str × Addr)) (C : Addr) (env : Env) : Env :=
  { scope := relabel sc env, locals := C, globals := env.globals, cells := cellsFrom (C + 1) sc.names cl, qual := env.qual, func := none, code := env.code, frame := env.frame, builtins := env.builtins }
theorem newBlock {sc : Scope} {cl : List (Str × Addr)} {env : Env} {Q : Env → Shared → Prop}
    (h : Q (newEnv sc s.heap.objs.size env.globals (cellsFrom (s.heap.objs.size + 1) sc.names cl) env.qual none .none (some env) builtinsNs) { s with heap := pushCells (s.heap.push { cls := .type "dict", data := .dict #[] }) sc.names }) :
    wpAny M A (newFunctionEnv sc env.globals cl [] env.qual none .none (some env)) Q E s := by
  simp only [newFunctionEnv, Option.isSome_some, if_true]
  refine wpAny_bind (wpAny_alloc ?_)
  refine wpAny_bind (wpAny_layCells _ (fun name kind cells => by cases hkc : kind == NameKind.cell <;> simp [hkc]) _ _ _ _ ?_)
  rw [show ({ s with heap := s.heap.push { cls := .type "dict", data := .dict #[] } } : Shared).heap.objs.size = s.heap.objs.size + 1 from Heap.size_push ..]
  rw [List.forIn_nil]
  exact wpAny_bind (wpAny_pure (wpAny_pure h))
theorem relabel_cell {sc : Scope} {env : Env} : ∀ {l : List (Str × NameKind)} {x : Str},
    (l.map fun (n, k) => if (k == NameKind.free && env.scope.kind == .function && env.kindOf n == some .cell) then (n, NameKind.cell) else (n, k)).lookup x = some .cell → l.lookup x = some .cell ∨ l.lookup x = some .free
  | [], x, h => by simp at h
  | (n, k) :: r, x, h => by
    rw [List.map_cons] at h
    rw [List.lookup_cons]
    cases hx : x == n with
    | true =>
      dsimp only at h
      split at h
      · rename_i hc
        rw [Bool.and_eq_true, Bool.and_eq_true] at hc
        have : k = .free := by simpa using hc.1.1
        rw [this]; exact .inr rfl
      · simp only [List.lookup_cons, hx] at h
        exact .inl h
    | false =>
      refine relabel_cell (sc := sc) (env := env) (l := r) ?_
      dsimp only at h
      split at h <;> simpa only [List.lookup_cons, hx] using h
theorem relabel_free {env : Env} : ∀ {l : List (Str × NameKind)} {x : Str},
    (l.map fun (n, k) => if (k == NameKind.free && env.scope.kind == .function && env.kindOf n == some .cell) then (n, NameKind.cell) else (n, k)).lookup x = some .free → l.lookup x = some .free
  | [], x, h => by simp at h
  | (n, k) :: r, x, h => by
    rw [List.map_cons] at h
    rw [List.lookup_cons]
    cases hx : x == n with
    | true =>
      dsimp only at h
      split at h
      · simp only [List.lookup_cons, hx] at h
        cases h
      · simp only [List.lookup_cons, hx] at h
        exact h
    | false =>
      refine relabel_free (env := env) (l := r) ?_
      dsimp only at h
      split at h <;> simpa only [List.lookup_cons, hx] using h
theorem relabel_of_free {env : Env} : ∀ {l : List (Str × NameKind)} {x : Str}, l.lookup x = some .free →
    (l.map fun (n, k) => if (k == NameKind.free && env.scope.kind == .function && env.kindOf n == some .cell) then (n, NameKind.cell) else (n, k)).lookup x = some .cell ∨
    (l.map fun (n, k) => if (k == NameKind.free && env.scope.kind == .function && env.kindOf n == some .cell) then (n, NameKind.cell) else (n, k)).lookup x = some .free
  | [], x, h => by simp at h
  | (n, k) :: r, x, h => by
    rw [List.map_cons]
    rw [List.lookup_cons] at h
    cases hx : x == n with
    | true =>
      rw [hx] at h
      cases h
      dsimp only
      split
      · exact .inl (by simp only [List.lookup_cons, hx])
      · exact .inr (by simp only [List.lookup_cons, hx])
    | false =>
      rw [hx] at h
      have := relabel_of_free (env := env) (l := r) h
      dsimp only
      split <;> simpa only [List.lookup_cons, hx] using this
end
section
variable {prog : Program} {w : World} {A : Around} {R : Result → Shared → Prop} {s : Shared}
theorem compLoop_go {elt target iter : Expr} {ifs : List Expr} {scope : Scope} {pos : Pos} {it acc : Value} {env : Env} (I : Nat → Shared → Prop)
    (turn : ∀ n s, I n s → wpAny (model prog w) A (pyNext it) (fun r s₁ => match r with
      | none => R (.ok .next) s₁
      | some v => wpAny (model prog w) A (letOwnedTupleGo target it v) (fun _ s₁' => wpAny (model prog w) A (assign target env v) (fun _ s₂ =>
          wpAny (model prog w) A (forIn ifs true fun c r => if r = true then do let ok ← isTrue c env (eval c env); pure (ForInStep.yield ok) else pure (ForInStep.yield r)) (fun ok s₃ =>
            if ok = true then wpAny (model prog w) A (eval elt env) (fun x s₄ =>
              wpAny (model prog w) A (call (.builtin "list.append") [acc, x]) (fun _ s₅ => ∃ m, m < n ∧ I m s₅) (fun _ _ => False) s₄) (fun _ _ => False) s₃
            else ∃ m, m < n ∧ I m s₃) (fun _ _ => False) s₂) (fun _ _ => False) s₁') (fun _ _ => False) s₁) (fun _ _ => False) s)
    (n : Nat) (h : I n s) :
    codeAny (model prog w) A (.compLoop (.ListComp elt [⟨target, iter, ifs, 0⟩] scope pos) 0 it acc env) R s := by
  refine codeAny_loop rfl I (fun n s hI => ?_) n h
  show wpAny _ A ((compTurn (.ListComp elt [⟨target, iter, ifs, 0⟩] scope pos) 0 it acc env).onRaise (fun x => do noteFrame x env; theTreesLotGoes x)) _ _ s
  refine wpAny_noted ?_
  rw [compTurn_list]
  refine wpAny_bind (wpAny_standAt (wpAny_bind (wpAny_mono (turn n s hI) (fun r s₁ h₁ => ?_) fun _ _ h' => h'.elim)))
  cases r with
  | none => exact wpAny_pure h₁
  | some v =>
    refine wpAny_bind (wpAny_mono h₁ (fun _ s₁' h₁' => ?_) fun _ _ h' => h'.elim)
    refine wpAny_bind (wpAny_mono h₁' (fun _ s₂ h₂ => wpAny_bind (wpAny_mono h₂ (fun ok s₃ h₃ => ?_) fun _ _ h' => h'.elim)) fun _ _ h' => h'.elim)
    cases ok with
    | false => exact wpAny_pure ⟨rfl, h₃⟩
    | true =>
      exact wpAny_bind (wpAny_bind (wpAny_mono h₃ (fun x s₄ h₄ => wpAny_bind (wpAny_mono h₄ (fun _ s₅ h₅ => wpAny_pure (wpAny_pure ⟨rfl, h₅⟩)) fun _ _ h' => h'.elim)) fun _ _ h' => h'.elim))
end
end C5
set_option Elab.async false
set_option linter.all false
set_option maxRecDepth 100000
namespace L2
open PySem PySem.Spec PyProof.Rows C5
noncomputable def entry (src : List (Option Nat)) (σ : St) : St := src.map fun o => o.bind fun i => (σ[i]?).join
structure BkScope (so sc : Scope) (No N : List Str) (src : List (Option Nat)) : Prop where
  kind : sc.kind = .function
  free : sc.names.all (fun y => !(y.2 == .free) || (so.names.lookup y.1 == some .cell || so.names.lookup y.1 == some .free)) = true
  uniq : sc.names.all (fun y => sc.names.lookup y.1 == some y.2) = true
  len : src.length = N.length
  src : (src.zip N).all (fun p => match p.1 with | none => true | some i => No[i]? == some p.2 && sc.names.lookup p.2 == some .free) = true
  nd : N.Nodup
noncomputable def cxB (X : Cx) (sc : Scope) (N : List Str) (fp : List Addr) (C : Addr) (s : Shared) (H : Hp) : Cx :=
  { X with N := N, s₀ := s, H₀ := H, env := bkEnv sc (clOf sc X.env) C X.env, outer := X.stack, stack := X.stack, ex := fp, fn := fun x => sc.names.lookup x == some .cell, pn := [], xe := fun _ _ => False }
section
variable {X : Cx} {pins : List (Addr × Obj)} {σ : St} {H : Hp} {s : Shared} {sc : Scope} {N : List Str} {src : List (Option Nat)}
theorem BkScope.has {so : Scope} {No : List Str} (B : BkScope so sc No N src) (hso : X.env.scope = so) (ok : X.Ok) : ∀ y ∈ sc.names, y.2 = .free → ∃ c, X.env.cells.lookup y.1 = some c := by
  intro y hy hk
  have h := List.all_eq_true.mp B.free y hy
  rw [hk] at h
  simp only [beq_self_eq_true, Bool.not_true, Bool.false_or, Bool.or_eq_true, beq_iff_eq] at h
  rw [← hso] at h
  rcases h with h | h
  · exact ok.has y.1 (.inl h)
  · exact ok.has y.1 (.inr h)
theorem BkScope.look {so : Scope} {No : List Str} (B : BkScope so sc No N src) {x : Str} {k : NameKind} (h : (x, k) ∈ sc.names) : sc.names.lookup x = some k := by
  have := List.all_eq_true.mp B.uniq (x, k) h
  simpa using this
theorem lookup_app {α : Type} : ∀ {l r : List (Str × α)} {x : Str} {c : α}, (l ++ r).lookup x = some c → l.lookup x = some c ∨ r.lookup x = some c
  | [], _, _, _, h => .inr h
  | (k, v) :: l, r, x, c, h => by
    rw [List.cons_append, List.lookup_cons] at h
    rw [List.lookup_cons]
    cases hb : x == k with
    | true => rw [hb] at h; exact .inl h
    | false => rw [hb] at h; exact lookup_app h
theorem lookup_app_r {α : Type} : ∀ {l r : List (Str × α)} {x : Str}, (∀ c, (x, c) ∉ l) → (l ++ r).lookup x = r.lookup x
  | [], _, _, _ => rfl
  | (k, v) :: l, r, x, h => by
    rw [List.cons_append, List.lookup_cons]
    have hb : (x == k) = false := beq_eq_false_iff_ne.mpr fun e => h v (by rw [e]; exact List.mem_cons_self)
    rw [hb]
    exact lookup_app_r fun c hc => h c (List.mem_cons_of_mem _ hc)
theorem Inv.block {fp : List Addr} {h1 : Heap} {C : Nat} {t : Nat} (I : Inv X pins σ H s) (B : BkScope X.env.scope sc X.N N src) (hf : ∀ b ∈ fp, FpOk X pins H b) (hlt : ∀ b ∈ fp, b < s.heap.objs.size)
    (hC : C = s.heap.objs.size + 1) (e1 : h1 = pushCells ((s.heap.push { cls := .type "list", data := .seq #[] }).push { cls := .type "dict", data := .dict #[] }) sc.names) :
    Inv (cxB X sc N fp C s H) [] (entry src σ) (upd H s.heap.objs.size (.lst [])) { s with heap := h1, toks := t } := by
  have has := B.has rfl I.ok
  have szL : (s.heap.push { cls := .type "list", data := .seq #[] } : Heap).objs.size = C := by rw [Heap.size_push, hC]
  have szD : ((s.heap.push { cls := .type "list", data := .seq #[] }).push { cls := .type "dict", data := .dict #[] } : Heap).objs.size = C + 1 := by rw [Heap.size_push, szL]
  have own := cellsFrom_ok sc.names ((s.heap.push { cls := .type "list", data := .seq #[] }).push { cls := .type "dict", data := .dict #[] }) (C + 1) [] ⟨fun _ _ hm => (nomatch hm), List.Pairwise.nil⟩ (by rw [szD]; exact Nat.le_refl _)
  rw [szD, ← e1] at own
  have keep0 : ∀ b o, ((s.heap.push { cls := .type "list", data := .seq #[] }).push { cls := .type "dict", data := .dict #[] } : Heap).get? b = some o → h1.get? b = some o := fun b o e => by rw [e1]; exact pushCells_keeps _ _ b o e
  have keep : ∀ b o, s.heap.get? b = some o → h1.get? b = some o := fun b o e => keep0 b o (Heap.get?_push_of_some _ (Heap.get?_push_of_some _ e))
  have atD : h1.get? s.heap.objs.size = some { cls := .type "list", data := .seq #[] } := keep0 _ _ (Heap.get?_push_of_some _ (Heap.get?_push_size _ rfl))
  have nsC : h1.Ns C (fun _ => none) := by
    have q := Heap.Ns.new (s.heap.push { cls := .type "list", data := .seq #[] }) (.type "dict")
    rw [szL] at q
    exact q.keeps keep0
  have fresh : ∀ b, s.heap.objs.size ≤ b → H b = none := fun b hb => I.hok.fresh hb
  have cells : ∀ x c, (cellsFrom (C + 1) sc.names (clOf sc X.env)).lookup x = some c →
      ((x, c) ∈ cellsFrom (C + 1) sc.names [] ∧ h1.IsCell c none ∧ C + 1 ≤ c) ∨ (X.env.cells.lookup x = some c ∧ (x, NameKind.free) ∈ sc.names) := fun x c e => by
    rw [cellsFrom_app] at e
    rcases lookup_app e with e | e
    · have hm := mem_of_lookup e
      obtain ⟨q1, q2⟩ := own.empty x c hm
      exact .inl ⟨hm, q1, q2⟩
    · exact .inr (clOf_sub has e)
  have cellLt : ∀ x c, X.env.cells.lookup x = some c → @LT.lt Nat instLTNat c s.heap.objs.size := fun x c e => by
    obtain ⟨v, z⟩ := I.cell x c e
    exact z.lt
  have freeIn : ∀ x, (x, NameKind.free) ∈ sc.names → (cellsFrom (C + 1) sc.names (clOf sc X.env)).lookup x = X.env.cells.lookup x := fun x hx => by
    rw [cellsFrom_app, lookup_app_r (fun c hc => ?_), clOf_has hx]
    · obtain ⟨c, hc⟩ := has _ hx rfl
      have hc : X.env.cells.lookup x = some c := hc
      rw [hc]; rfl
    · have k1 := B.look (cellsFrom_key sc.names _ x c hc)
      have k2 := B.look hx
      rw [k1] at k2; cases k2
  have ex : (cxB X sc N fp C s H).ex = fp := rfl
  refine ⟨⟨I.ok.mod, B.kind, I.ok.glob, I.ok.blt, ?_, ?_, ?_, ?_, I.ok.hd, I.ok.frames, .inl rfl, ?_, I.bs, Nat.le_trans I.ok.bsz I.sz, ?_, ?_, I.stack, I.stkFree⟩, rfl, I.bare, Un.laid keep (Nat.le_refl _) (fresh _ (Nat.le_refl _)), ?_, ?_, ?_, ?_, ?_, ?_, ?_⟩
  · -- above
    show s.heap.objs.size ≤ C
    omega
  · -- inj
    intro x y c h1' h2'
    rcases cells x c h1' with ⟨m1, _, g1⟩ | ⟨e1', _⟩
    · rcases cells y c h2' with ⟨m2, _, _⟩ | ⟨e2', _⟩
      · exact name_of_addr own.apart m1 m2
      · have := cellLt y c e2'; omega
    · rcases cells y c h2' with ⟨_, _, g2⟩ | ⟨e2', _⟩
      · have := cellLt x c e1'; omega
      · exact I.ok.inj x y c e1' e2'
  · -- has
    intro x hx
    show ∃ c, (cellsFrom (C + 1) sc.names (clOf sc X.env)).lookup x = some c
    have hx' : sc.names.lookup x = some .cell ∨ sc.names.lookup x = some .free := by
      rcases hx with hx | hx
      · exact relabel_cell (sc := sc) (env := X.env) hx
      · exact .inr (relabel_free (env := X.env) hx)
    rcases hx' with hx' | hx'
    · exact Option.isSome_iff_exists.mp (PySem.W.cellsFrom_some sc.names (C + 1) (clOf sc X.env) (.inl hx'))
    · rw [freeIn x (PySem.mem_of_lookup hx')]
      exact has _ (PySem.mem_of_lookup hx') rfl
  · -- cab
    intro x c hfn hc
    have hfn' : sc.names.lookup x = some .cell := by simpa [cxB] using hfn
    show s.heap.objs.size ≤ c
    rcases cells x c hc with ⟨_, _, g⟩ | ⟨_, hfr⟩
    · omega
    · have := B.look hfr
      rw [hfn'] at this; cases this
  · -- exf
    intro b hb
    rw [ex] at hb
    have hb' : @LT.lt Nat instLTNat b s.heap.objs.size := hlt b hb
    obtain ⟨f0, f1, f2, f3, f4, f5⟩ := hf b hb
    refine ⟨Nat.ne_of_lt (show @LT.lt Nat instLTNat b C by omega), fun x c hc => ?_⟩
    rcases cells x c hc with ⟨_, _, g⟩ | ⟨e, _⟩
    · exact Nat.ne_of_gt (show @LT.lt Nat instLTNat b c by omega)
    · exact f4 x c e
  · -- noex
    intro b o e hb
    rw [ex] at hb
    obtain ⟨f0, f1, f2, f3, f4, f5⟩ := hf b hb
    rcases f3 with f3 | f3
    · exact I.ok.noex b o e f3
    · exact absurd (Nat.lt_of_lt_of_le (Heap.lt_size e) (Nat.le_trans I.ok.bsz f3)) (Nat.lt_irrefl _)
  · -- exfs
    intro b hb hb2
    rw [ex] at hb
    obtain ⟨f0, f1, f2, f3, f4, f5⟩ := hf b hb
    rcases List.mem_cons.mp (I.stkSub b hb2) with z | z
    · exact f1 z
    · exact f2 z
  · -- loc
    refine ⟨fun _ => none, nsC, fun j x v hj hv _ => ?_⟩
    have hj : N[j]? = some x := hj
    unfold entry at hv
    rw [List.getElem?_map] at hv
    cases hs : src[j]? with
    | none => rw [hs] at hv; cases hv
    | some o =>
      rw [hs] at hv
      cases o with
      | none => cases hv
      | some i =>
        have hv : ((σ[i]?).join) = some v := by simpa using hv
        have hm : (some i, x) ∈ src.zip N := by
          rw [List.mem_iff_getElem?]
          exact ⟨j, by rw [List.getElem?_zip_eq_some]; exact ⟨hs, hj⟩⟩
        have q := List.all_eq_true.mp B.src _ hm
        simp only [Bool.and_eq_true, beq_iff_eq] at q
        obtain ⟨q1, q2⟩ := q
        have hfr := PySem.mem_of_lookup q2
        have hσ : σ[i]? = some (some v) := by
          cases e : σ[i]? with
          | none => rw [e] at hv; cases hv
          | some u => rw [e] at hv; cases u with
            | none => cases hv
            | some w' => cases hv; rfl
        obtain ⟨m, hn, hl⟩ := I.loc
        have hso := List.all_eq_true.mp B.free _ hfr
        simp only [beq_self_eq_true, Bool.not_true, Bool.false_or, Bool.or_eq_true, beq_iff_eq] at hso
        have hvis : Vis X.env.scope x := by
          rcases hso with z | z
          · exact .inr (.inl z)
          · exact .inr (.inr z)
        obtain ⟨u, ru, lk⟩ := hl i x v q1 hσ hvis
        refine ⟨u, ru, .inr ⟨?_, ?_⟩⟩
        · exact relabel_of_free (env := X.env) q2
        · rcases lk with ⟨kk, _⟩ | ⟨_, c, hc, hcell⟩
          · have kk : X.env.scope.names.lookup x = some .local := kk
            rcases hso with z | z
            · rw [kk] at z; cases z
            · rw [kk] at z; cases z
          · refine ⟨c, ?_, hcell.keeps keep⟩
            show (cellsFrom (C + 1) sc.names (clOf sc X.env)).lookup x = some c
            rw [freeIn x hfr]; exact hc
  · -- cell
    intro x c hc
    rcases cells x c hc with ⟨_, g, _⟩ | ⟨e, _⟩
    · exact ⟨none, g⟩
    · obtain ⟨v, z⟩ := I.cell x c e
      exact ⟨v, z.keeps keep⟩
  · -- free
    show upd H s.heap.objs.size (.lst []) C = none
    rw [upd_ne (Nat.ne_of_gt (show @LT.lt Nat instLTNat s.heap.objs.size C by omega))]
    exact fresh _ (show @LE.le Nat instLENat s.heap.objs.size C by omega)
  · -- freeC
    intro x c hc
    rcases cells x c hc with ⟨_, _, g⟩ | ⟨e, _⟩
    · rw [upd_ne (Nat.ne_of_gt (show @LT.lt Nat instLTNat s.heap.objs.size c by omega))]; exact fresh _ (show @LE.le Nat instLENat s.heap.objs.size c by omega)
    · rw [upd_ne (Nat.ne_of_lt (cellLt x c e))]; exact I.freeC x c e
  · -- pin
    intro p hp
    exact absurd (show p ∈ ([] : List (Addr × Obj)) from hp) (by simp)
  · -- hok
    refine I.hok.laid keep (Nat.le_refl _) ?_
    exact ⟨Nat.zero_le _, [], 0, .nil, atD⟩
  · -- len
    unfold entry
    rw [List.length_map]
    exact B.len
noncomputable def PTs (X : Cx) (ifs : List Expr) (t : TT) : Prop :=
  ∀ (pins : List (Addr × Obj)) (s : Shared) (σ : St) (H : Hp) (Q : Bool → Hp → Prop), Inv X pins σ H s → t σ H Q →
    wpAny (model X.prog X.w) X.A (forIn ifs true fun c r => if r = true then do let ok ← isTrue c X.env (eval c X.env); pure (ForInStep.yield ok) else pure (ForInStep.yield r)) (TP X pins σ Q) X.xe s
noncomputable def tTrue : TT := fun _ H Q => Q true H
theorem pts_nil : PTs X [] tTrue := fun _ _ _ H _ I h => wpAny_tests_nil ⟨H, I, h⟩
theorem pts_one {c : Expr} {t : TT} (h : PT X c t) : PTs X [c] t := fun pins s σ H Q I hw => wpAny_tests_one (h pins s σ H Q I hw)
noncomputable def tComp (src : List (Option Nat)) (wi : TI) (g : TG) (tt : TT) (te : TE) : TE := fun σ H Q => wi σ H fun J H1 => ∀ D, H1 D = none →
  ∃ W : Nat → Nat → St → Hp → Prop, (∃ m, W 0 m (entry src σ) (upd H1 D (.lst []))) ∧ ∀ i m σ' H', W i m σ' H' →
    (J.stop i H' ∧ Q (.ref D) H') ∨ (J.go i H' ∧ ∃ N : St → Hp → Prop, (∀ σ2 H2, N σ2 H2 → ∃ m', m' < m ∧ W (i + 1) m' σ2 H2) ∧ ∀ x H2, J.yld i H' x H2 → g x σ' H2 fun σ3 H3 => tt σ3 H3 fun b H4 =>
      if b = true then te σ3 H4 fun v H5 => ∃ xs, H5 D = some (.lst xs) ∧ xs.length < sizeLine ∧ N σ3 (upd H5 D (.lst (xs ++ [v]))) else N σ3 H4)
theorem pe_comp {elt tgt iter : Expr} {ifs : List Expr} {wi : TI} {g : TG} {tt : TT} {te : TE} {pos : Pos} (hc : X.calm = true) (B : BkScope X.env.scope sc X.N N src) (hi : PI X tgt iter wi)
    (hg : ∀ (s : Shared) (H : Hp) (C : Addr) (fp : List Addr), PG (cxB X sc N fp C s H) tgt g) (ht : ∀ (s : Shared) (H : Hp) (C : Addr) (fp : List Addr), PTs (cxB X sc N fp C s H) ifs tt)
    (he : ∀ (s : Shared) (H : Hp) (C : Addr) (fp : List Addr), PE (cxB X sc N fp C s H) elt te) (hs : ∀ x, foldedSetIterable iter X.env x = pure x := by intro _; rfl) :
    PE X (.ListComp elt [⟨tgt, iter, ifs, 0⟩] sc pos) (tComp src wi g tt te) := by
  intro pins s σ H Q I h
  rw [eval_ListComp]
  have has := B.has rfl I.ok
  refine wpAny_comprehension_free (use := none) rfl hs (clos_of has) B.kind (fun y hy hk => by have := B.look (x := y.1) (k := y.2) hy; rw [hk] at this; exact this)
    (thn (hi pins s σ H _ I h) fun v s1 h1 => thn h1 fun itv s2 h2 => ?_)
  obtain ⟨it, fp, tn, J, H2, e, I2, T, st2, f2, q⟩ := h2
  subst e
  refine wpAny_newObj_type (newBlock ?_)
  obtain ⟨W, ⟨m0, w0⟩, turn⟩ := q s2.heap.objs.size (I2.hok.fresh (Nat.le_refl _))
  have hlt : ∀ b ∈ fp, b < s2.heap.objs.size := fun b hb => by
    obtain ⟨o, ho, _⟩ := T.obj 0 _ st2 b hb
    exact Heap.lt_size ho
  have szL : (s2.heap.push { cls := .type "list", dict := none, data := .seq ([] : List Value).toArray } : Heap).objs.size = s2.heap.objs.size + 1 := Heap.size_push ..
  generalize hh1 : pushCells ((s2.heap.push { cls := .type "list", dict := none, data := .seq ([] : List Value).toArray } : Heap).push { cls := .type "dict", data := .dict #[] }) sc.names = hB
  have IB := I2.block (C := (s2.heap.push { cls := .type "list", dict := none, data := .seq ([] : List Value).toArray } : Heap).objs.size) (t := s2.toks) B f2 hlt szL hh1.symm
  generalize (s2.heap.push { cls := .type "list", dict := none, data := .seq ([] : List Value).toArray } : Heap).objs.size = C at IB szL ⊢
  have keepB : ∀ b o, s2.heap.get? b = some o → hB.get? b = some o := fun b o e => by
    rw [← hh1]
    exact pushCells_keeps _ _ b o (Heap.get?_push_of_some _ (Heap.get?_push_of_some _ e))
  have stB : tn 0 hB := T.keep 0 _ _ st2 fun b _ o e => keepB b o e
  have frB : ∀ b ∈ fp, upd H2 s2.heap.objs.size (.lst []) b = none := fun b hb => by
    rw [upd_ne (Nat.ne_of_lt (hlt b hb))]
    exact (f2 b hb).1
  have stat : ∀ {H' : Hp}, (∀ b ∈ fp, H' b = none) → ∀ b ∈ fp, FpOk (cxB X sc N fp C s2 H2) [] H' b := fun {H'} hn b hb => by
    obtain ⟨z1, z2⟩ := IB.ok.exf b hb
    exact ⟨hn b hb, z1, IB.ok.exfs b hb, .inl hb, z2, fun p hp => absurd (show p ∈ ([] : List (Addr × Obj)) from hp) (by simp)⟩
  show codeAny (model X.prog X.w) X.A (.compStart (.ListComp elt [⟨tgt, iter, ifs, 0⟩] sc pos) 0 (.ref it) (.ref s2.heap.objs.size) (bkEnv sc (clOf sc X.env) C X.env)) (compPost (model X.prog X.w) X.A X.xe none (EP X pins σ Q) (.ref s2.heap.objs.size) C) { s2 with heap := hB }
  have loop : codeAny (model X.prog X.w) X.A (.compLoop (.ListComp elt [⟨tgt, iter, ifs, 0⟩] sc pos) 0 (.ref it) (.ref s2.heap.objs.size) (bkEnv sc (clOf sc X.env) C X.env))
      (compPost (model X.prog X.w) X.A X.xe none (EP X pins σ Q) (.ref s2.heap.objs.size) C) { s2 with heap := hB } := by
    refine compLoop_go (fun n s' => ∃ i σ' H', Inv (cxB X sc N fp C s2 H2) [] σ' H' s' ∧ tn i s'.heap ∧ (∀ b ∈ fp, H' b = none) ∧ W i n σ' H') ?_ m0 ⟨0, _, _, IB, stB, frB, w0⟩
    rintro n s3 ⟨i, σ3, H3, I3, st3, fr3, w3⟩
    rcases turn i n σ3 H3 w3 with ⟨stop, qn⟩ | ⟨go, N', hN, step⟩
    · refine thn (T.done (cxB X sc N fp C s2 H2) rfl rfl rfl hc i [] s3 σ3 H3 _ I3 (stat fr3) st3 stop) fun r s4 ⟨hr, I4⟩ => ?_
      subst hr
      obtain ⟨m, hn, _⟩ := I4.loc
      refine ⟨m, hn, fun h' hs' => ?_⟩
      refine ⟨.ref s2.heap.objs.size, H3, ?_, rfl, qn⟩
      have ltC : ∀ b o, s2.heap.get? b = some o → b ≠ C := fun b o e => Nat.ne_of_lt (show @LT.lt Nat instLTNat b C by have : @LT.lt Nat instLTNat b s2.heap.objs.size := Heap.lt_size e; omega)
      have base := I4.base
      have freeC : H3 C = none := I4.free
      refine I2.call' (s' := { s4 with heap := h' }) (ch := fp) I4.os ⟨fun b o e n hb hx => ?_, fun b o e n hb hx => ?_, base.free, fun b o e hx => ?_, base.tups, base.frzs, base.tbls⟩ (fun b ob e => ?_) I4.bare (fun b hb => ?_)
      · exact (hs'.2 b (ltC b o e)).trans (base.keep b o e n hb hx)
      · obtain ⟨sl, e1⟩ := base.slot b o e n hb hx
        exact ⟨sl, (hs'.2 b (ltC b o e)).trans e1⟩
      · obtain ⟨o', e1⟩ := base.there b o e hx
        exact ⟨o', (hs'.2 b (ltC b o e)).trans e1⟩
      · refine (I4.hok b ob e).stay (fun c w' hc' q' => (hs'.2 c ?_).trans q') (fun _ q' => q') fun _ _ q' => q'
        intro z
        rcases hc' with z' | z'
        · rw [← z', z, freeC] at e; cases e
        · rw [z, freeC] at z'; cases z'
      · obtain ⟨f0, f1, f2', f3, f4, f5⟩ := f2 b hb
        exact ⟨f3, f1, f4, f5⟩
    · refine thn (T.item (cxB X sc N fp C s2 H2) rfl rfl rfl hc i [] s3 σ3 H3 _ I3 (stat fr3) st3 go) fun r s4 ⟨u, hr, h4⟩ => ?_
      subst hr
      refine thn h4 fun _ s5 ⟨x, H5, I5, r5, y5, st5, fr5⟩ => ?_
      have I5' := I5.pinned (stat fr5) (T.obj _ _ st5)
      have again : ∀ {s7 : Shared} {σ7 : St} {H7 : Hp}, Inv (cxB X sc N fp C s2 H2) ([] ++ pinsAt fp s5.heap) σ7 H7 s7 → N' σ7 H7 → ∃ m, m < n ∧ ∃ i σ' H', Inv (cxB X sc N fp C s2 H2) [] σ' H' s7 ∧ tn i s7.heap ∧ (∀ b ∈ fp, H' b = none) ∧ W i m σ' H' := fun {s7 σ7 H7} I7 n7 => by
        obtain ⟨m', hm, w7⟩ := hN σ7 H7 n7
        refine ⟨m', hm, i + 1, σ7, H7, I7.unpinned, T.keep _ _ _ st5 fun b hb o e => (I7.pin (b, o) (List.mem_append_right _ (List.mem_append_right _ (mem_pinsAt hb e)))).1, fun b hb => ?_, w7⟩
        obtain ⟨o, e, d⟩ := T.obj _ _ st5 b hb
        exact (I7.pin (b, o) (List.mem_append_right _ (List.mem_append_right _ (mem_pinsAt hb e)))).2.1
      refine thn (hg s2 H2 C fp _ s5 σ3 H5 x u _ I5' r5 (step x H5 y5)) fun _ s6 ⟨σ6, H6, I6, q6⟩ => ?_
      refine thn (ht s2 H2 C fp _ s6 σ6 H6 _ I6 q6) fun b s7 ⟨H7, I7, q7⟩ => ?_
      cases b with
      | false =>
        rw [if_neg Bool.false_ne_true] at q7 ⊢
        exact again I7 q7
      | true =>
        rw [if_pos rfl] at q7 ⊢
        refine thn (he s2 H2 C fp _ s7 σ6 H7 _ I7 q7) fun u8 s8 ⟨v8, H8, I8, r8, xs, hD, hz, n8⟩ => ?_
        exact thn (mt_append (X := cxB X sc N fp C s2 H2) _ s8 σ6 H8 (.ref s2.heap.objs.size) [v8] (.ref s2.heap.objs.size) [u8] (fun _ H => N' σ6 H) I8 rfl (.cons r8 .nil) ⟨_, xs, v8, rfl, rfl, hD, hz, n8⟩) fun _ s9 ⟨_, H9, I9, _, n9⟩ => again I9 n9
  exact codeAny_compStart_list loop (T.self _ 0 _ _ _ stB loop)
end
section
variable {X : Cx}
noncomputable def rSum (K : PySem.W.Frag) : List V → Hp → VK → Prop := fun xs H Q => ∃ (p : Addr) (ns : List Int), xs = [.ref p] ∧ SqL K H p (ns.map V.int) ∧ Q (.int ns.sum) H
theorem call_sum (hc : X.calm = true) : CallR X (.builtin "sum") (rSum X.K) := by
  intro pins s σ H xs us Q I rs h
  obtain ⟨p, ns, rfl, hq, q⟩ := h
  obtain ⟨u, rfl, r1⟩ := vals1 rs
  cases r1
  obtain ⟨its, r, pl, hz⟩ := I.list hq
  have hi : IntsAre its ns := intsAre_of r
  obtain ⟨xs, ex⟩ := hi.allInts.items
  refine sum_intListG (xs := xs) (I.ok.hd hc) (by rw [← ex]; exact pl.isList) fun h' tk t' hk => ?_
  have e : preSum (numAt xs) xs.size = ns.sum := by
    have e1 : numsOf its.toArray.toList = ns := by rw [show its.toArray.toList = its from rfl]; exact hi.numsOf
    rw [preSum_eq, List.take_of_length_le (by simp), ← e1, ex, nums_intItems]
  rw [e]
  exact ⟨.int ns.sum, H, I.kept hk, ⟨_, rfl⟩, q⟩
noncomputable def rAll (K : PySem.W.Frag) : List V → Hp → VK → Prop := fun xs H Q => ∃ (p : Addr) (bs : List Bool), xs = [.ref p] ∧ SqL K H p (bs.map V.bl) ∧ Q (.bl (bs.all id)) H
theorem all_range (bs : List Bool) : ((List.range bs.length).all fun i => bs.getD i false) = bs.all id := by
  induction bs with
  | nil => rfl
  | cons b r ih =>
    rw [List.length_cons, List.range_succ_eq_map, List.all_cons, List.all_map, List.all_cons, ← ih]
    rfl
theorem call_all (hc : X.calm = true) : CallR X (.builtin "all") (rAll X.K) := by
  intro pins s σ H xs us Q I rs h
  obtain ⟨p, bs, rfl, hq, q⟩ := h
  obtain ⟨u, rfl, r1⟩ := vals1 rs
  cases r1
  obtain ⟨its, r, pl, hz⟩ := I.list hq
  have hlen : its.length = bs.length := by have := r.length; rw [List.length_map] at this; exact this.symm
  refine call_function_tree F.kind_all F.plain_all F.entry_all (F.args_all1 _) ?_
  show wpAny _ X.A.in1 (pyIter (.ref p) >>= _) _ _ s
  refine wpAny_bind (wpAny_pyIter_list pl.isList ?_)
  have hne : p ≠ s.heap.objs.size := by
    obtain ⟨o, ho, _⟩ := pl.isList
    exact Nat.ne_of_lt (Heap.lt_size ho)
  refine wpAny_pure ⟨plainId_quiet F.plain_all_loop _, ?_⟩
  refine codeAny_all_loop (Walks.list (A := X.A.in1) (I.ok.hd hc) s.heap.objs.size p hne its.toArray) (fun i => bs.getD i false) (fun i v s' Q' E' hP hQ' => ?_) its.toArray.size 0 _ rfl (Nat.zero_le _)
    ⟨⟨_, Heap.get?_push_size _ rfl, rfl, rfl⟩, (show s.heap.IsList p its.toArray from pl.isList).at fun o e => Heap.get?_push_of_some _ e⟩ fun h' tk hk => ?_
  · have hP' : its[i]? = some v := by simpa using hP
    have hi : i < bs.length := by rw [← hlen]; exact (List.getElem?_eq_some_iff.mp hP').1
    obtain ⟨u, hu, ru⟩ := r.get (i := i) (x := V.bl (bs[i])) (by simp [hi])
    rw [hP'] at hu; cases hu
    obtain rfl : v = Value.bool bs[i] := ru
    have e : bs.getD i false = bs[i] := by simp [List.getD, hi]
    dsimp only at hQ'
    rw [e] at hQ'
    exact wpAny_truthy_bool hQ'
  · refine ⟨.bl (bs.all id), H, I.kept (t' := tk) fun b o e => hk b o (fun z => ?_) (Heap.get?_push_of_some _ e), ?_, q⟩
    · have z' : b = s.heap.objs.size := by simpa using z
      exact absurd (Heap.lt_size e) (by rw [z']; exact Nat.lt_irrefl _)
    · show Value.bool _ = Value.bool _
      rw [List.drop_zero, List.size_toArray, hlen, all_range]
end
end L2
set_option Elab.async false
set_option linter.all false
set_option maxRecDepth 100000
namespace L2
open PySem PySem.Spec PyProof.Rows
structure FunD (K : PySem.W.Frag) (x qual : Str) (st : Stmt) (dV : Value) (f : Addr) (fd : FuncData) : Prop where
  ex : ∃ (oc : Value) (od : Option Addr) (kV doc pm : Value) (an : Option Addr) (cdv ct : Value) (osl : Array (Option Value)),
    fd = PySem.W.fnOf x qual (defArgs st) (defBody st) (defScope st) dV kV doc pm an cdv ct ∧ K.lookup f = some ⟨oc, od, .func fd, osl⟩ ∧ PySem.W.codeIn K cdv qual = true
  kp : PySem.W.keepIn K (.ref f) = true
theorem funD_mk {K : PySem.W.Frag} {x qual : Str} {st : Stmt} {dV : Value} {f : Addr} {oc : Value} {od an : Option Addr} {osl : Array (Option Value)} {kV doc pm cdv ct : Value}
    (l : K.lookup f = some ⟨oc, od, .func (PySem.W.fnOf x qual (defArgs st) (defBody st) (defScope st) dV kV doc pm an cdv ct), osl⟩)
    (c : PySem.W.codeIn K cdv qual = true) (k : PySem.W.keepIn K (.ref f) = true) : FunD K x qual st dV f (PySem.W.fnOf x qual (defArgs st) (defBody st) (defScope st) dV kV doc pm an cdv ct) := ⟨⟨oc, od, kV, doc, pm, an, cdv, ct, osl, rfl, l, c⟩, k⟩
structure Def (P : Program) (w : World) (K : PySem.W.Frag) (mg : Str → Option Value) (base : Heap) (k : Nat) (x : Str) (ps : List Str) (ds : List V) (sp : Sp) : Prop where
  ex : ∃ (f : Addr) (fd : FuncData) (dvs : List Value), FnOk P w K mg base CX0 k f fd ps sp ∧ mg x = some (.ref f) ∧ PySem.W.keepIn K (.ref f) = true ∧ Binds K fd ps dvs ∧ Vals ds dvs
section
variable {P : Program} {w : World} {K : PySem.W.Frag} {mg : Str → Option Value} {base : Heap}
theorem FunD.ok {x qual : Str} {st : Stmt} {dV : Value} {f : Addr} {fd : FuncData} {N ps : List Str} {k : Nat} {sp : Sp} (F : FunD K x qual st dV f fd) (S : FnScope N ps (defScope st)) (len : ∀ vs H Q E, sp vs H Q E → vs.length = ps.length)
    (hbody : ∀ (cdv : Value) (A : Around) (outer : List Env) (s : Shared) (H : Hp) (vs : List V) (Q : VK) (E : XK), Room k (A.deeper (envOfC qual (defScope st) s.heap.objs.size f cdv)) → sp vs H Q E →
      ∃ t, PSs (cxOf CX0 P w K mg base N qual (defScope st) f cdv A outer s H E).nox (defBody st) t ∧ t { nx := fun _ H' => Q .non H', rt := Q } (start N vs) H) : FnOk P w K mg base CX0 (k + 1) f fd ps sp := by
  obtain ⟨oc, od, kV, doc, pm, an, cdv, ct, osl, rfl, lk, hcd⟩ := F.ex
  refine fn_of lk hcd S len fun A outer s H vs Q E hr hsp => ?_
  obtain ⟨t, h, q⟩ := hbody cdv A outer s H vs Q E hr hsp
  exact ⟨t, h.nox, q⟩
theorem FunD.def {x qual : Str} {st : Stmt} {f : Addr} {fd : FuncData} {ps : List Str} {k : Nat} {sp : Sp} (F : FunD K x qual st .none f fd) (G : FnOk P w K mg base CX0 k f fd ps sp) (hm : mg x = some (.ref f))
    (h : ∀ (kV doc pm : Value) (an : Option Addr) (cdv ct : Value) (us : List Value), us.length = ps.length → bindArgs (PySem.W.fnOf x qual (defArgs st) (defBody st) (defScope st) .none kV doc pm an cdv ct) ⟨us, []⟩ = pure (ps.zip us)) : Def P w K mg base k x ps [] sp := by
  obtain ⟨oc, od, kV, doc, pm, an, cdv, ct, osl, rfl, lk, hcd⟩ := F.ex
  exact ⟨f, _, [], G, hm, F.kp, .all (h kV doc pm an cdv ct), .nil⟩
end
section
variable {X : Cx}
theorem pe_callD {k : Nat} {x : Str} {ps : List Str} {ds : List V} {sp : Sp} {e : Expr} {es : List Expr} {t : TA} {p pos : Pos} (D : Def X.prog X.w X.K X.mg X.base k x ps ds sp) (hr : Room k X.A) (hg : Gl X x)
    (ha : PA X (e :: es) t) (hdb : (x == ("__debug__" : Str)) = false := by decide) (he : starEach (e :: es) X.env = (false, eval e X.env) :: starEach es X.env := by rfl) (hpl : (backTo pos (starEach es X.env)).any (·.1) = false := by rfl) :
    PE X (.Call (.Name x p) (e :: es) [] pos) (tCall sp ds E0 t) := by
  obtain ⟨f, fd, dvs, F, hm, hk, hb, hd⟩ := D.ex
  exact pe_call F hr hg hm hk hb hd pass0 ha hdb he hpl
end
end L2
namespace Att
open PySem PySem.W PySem.Calls PyProof.Rows
theorem weight_mem : ∀ {ns : List Int} {x : Int}, x ∈ ns → Builtin.Int.intBits x ≤ WData.weightAll (ns.map WData.int)
  | n :: r, x, h => by
    rw [List.map_cons]
    unfold WData.weightAll
    rcases List.mem_cons.mp h with e | h
    · subst e
      have : WData.weight (.int x) = Builtin.Int.intBits x := by unfold WData.weight Builtin.Int.intBits; rfl
      omega
    · have := weight_mem h
      omega
theorem bits_of_lay {ns : List Int} (h : WData.layableAll [WData.list (ns.map WData.int)] = true) : ∀ x ∈ ns, Builtin.Int.intBits x ≤ 2 ^ 20 := fun x hx => by
  have h1 : WData.layable (WData.list (ns.map WData.int)) = true := by simpa [WData.layableAll] using h
  unfold WData.layable at h1
  rw [Bool.and_eq_true] at h1
  have h2 : WData.weight (WData.list (ns.map WData.int)) ≤ 2 ^ 20 := of_decide_eq_true h1.2
  have h3 : WData.weight (WData.list (ns.map WData.int)) = WData.weightAll (ns.map WData.int) := by unfold WData.weight; rfl
  have h4 := weight_mem hx
  omega
theorem attach_callB {l : OpenLaw} {n : Nat} {q : Program} {loose : List Str} {XP : (Str → Option Value) → Heap → Prop} {YP : World → Heap → Prop} {d : DefRec}
    (hn : l.most = some n) (hdf : d.params.defaults = [])
    (call : ∀ (w : World) (s₀ s₁ : Shared) (mg mb : Str → Option Value) (fa : Addr) (o : Obj) (pm cd doc : Value) (a : Addr) (vs : List Value) (ns : List Int),
      Ground q loose [] XP w s₀ mg mb s₁.heap → YP w s₁.heap →
      s₁.heap.get? fa = some o → o.data = .func (docDef d.name d.params d.body d.scope pm cd doc) → s₁.heap.CodeRec cd d.name → mg d.name = some (.ref fa) →
      s₁.heap.get? a = some { cls := .type "list", data := .seq vs.toArray } → IntsAre vs ns → ns.length ≤ n → (∀ x ∈ ns, Builtin.Int.intBits x ≤ 2 ^ 20) → s₁.gens = #[] →
      codeAny (model l.prog w) callerA (.call (.ref fa) ⟨[.ref a], []⟩) (fun r s' => r = .ok (.ret (.bool true)) ∧ OldK s₁.heap s'.heap ∧ s'.os = s₁.os ∧ AllBare s'.gens) s₁) :
    WalkO q loose XP YP l.row.toRowW d [] (fun f vs => PySem.call f vs) := by
  intro w s₀ s₁ mg mb G Y fa o pm cd doc dV kV ho hd hcd hD hmg hg args vals as hpre hlay hrd hwl hlo
  obtain rfl : dV = .none := Dflts.none hD hdf
  obtain rfl : kV = .none := Dflts.noKw hD
  obtain ⟨a, vs, ns, rfl, rfl, hobj, hints, hlen⟩ := script_of hn hpre hwl
  refine enter_call (codeAny_mono (call w s₀ s₁ mg mb fa o pm cd doc a vs ns G Y ho (fd_plain hd) hcd hmg hobj hints hlen (bits_of_lay hlay) hg) fun r s' hq => ?_)
  obtain ⟨rfl, h2, h3, h4⟩ := hq
  exact ⟨.inl ⟨.bool true, .bool true, [], rfl, fun _ => rfl, .bool true, post_true l _, fun _ => ⟨List.Pairwise.nil, fun _ hm => (nomatch hm)⟩⟩, h2, h3, h4⟩
end Att
namespace L2
open PySem PySem.Spec PyProof.Rows
theorem walk_ofB {l : PySem.W.OpenLaw} {n k : Nat} {q : Program} {loose : List Str} {XP : (Str → Option Value) → Heap → Prop} {YP : World → Heap → Prop} {d : DefRec} {K : Params → PySem.W.Frag} {CX : CXT} {sp : PySem.W.Frag → Sp} {x : Str}
    (hn : l.most = some n) (hn2 : n ≤ sizeLine) (hdf : d.params.defaults = []) (hr : Room k callerA)
    (hY : ∀ (w : World) (h : Heap), YP w h → (K w.params).In h)
    (F : ∀ (w : World) (mg : Str → Option Value) (fa : Addr) (h : Heap), (K w.params).In h → h.Ns mainGlobals mg → mg d.name = some (.ref fa) →
      ∃ fd : FuncData, (∀ (s : Shared) (u : Value), BindsTo s fd ⟨[u], []⟩ [(x, u)]) ∧
        ∀ base : Heap, (K w.params).In base → base.Ns mainGlobals mg → FnOk l.prog w (K w.params) mg base CX k fa fd [x] (sp (K w.params)))
    (hsp : ∀ (K : PySem.W.Frag) (H : Hp) (a : Addr) (ns : List Int), ns.length ≤ n → (∀ x ∈ ns, Builtin.Int.intBits x ≤ 2 ^ 20) → Only H → SqL K H a (ns.map V.int) → sp K [.ref a] H (fun v _ => v = .bl true) fun _ _ _ => False)
    (hCX : ∀ (H : Hp) (s : Shared) (e : Value) (s' : Shared), CX [] H s (fun _ _ _ => False) e s' → False) :
    PySem.W.WalkO q loose XP YP l.row.toRowW d [] (fun f vs => PySem.call f vs) := by
  refine Att.attach_callB hn hdf fun w s₀ s₁ mg mb fa o pm cd doc a vs ns G Y ho hd hcd hmg hobj hints hlen hbits hg => ?_
  have KX := hY w _ Y
  obtain ⟨fd, hb, hF⟩ := F w mg fa _ KX G.T.g hmg
  exact law_call KX G.T.g G.T.b G.T.builtins G.T.nolimit hg hobj hints (Nat.le_trans hlen hn2) hr hF hb (fun H hO hS => hsp (K w.params) H a ns hlen hbits hO hS) fun H e s' => hCX H s₁ e s'
end L2
set_option Elab.async false
set_option linter.all false
namespace L2
open PySem
theorem len0 {us : List Value} (h : us.length = 0) : us = [] := List.eq_nil_of_length_eq_zero h
theorem lenS {us : List Value} {n : Nat} (h : us.length = n + 1) : ∃ a r, us = a :: r ∧ r.length = n := by
  cases us with
  | nil => exact absurd h (Nat.succ_ne_zero n).symm
  | cons a r => exact ⟨a, r, rfl, Nat.succ.inj h⟩
theorem len1 {us : List Value} (h : us.length = 1) : ∃ a, us = [a] := by
  obtain ⟨a, r, rfl, h2⟩ := lenS h; cases len0 h2; exact ⟨a, rfl⟩
theorem len2 {us : List Value} (h : us.length = 2) : ∃ a b, us = [a, b] := by
  obtain ⟨a, r, rfl, h2⟩ := lenS h; obtain ⟨b, rfl⟩ := len1 h2; exact ⟨a, b, rfl⟩
theorem len3 {us : List Value} (h : us.length = 3) : ∃ a b c, us = [a, b, c] := by
  obtain ⟨a, r, rfl, h2⟩ := lenS h; obtain ⟨b, c, rfl⟩ := len2 h2; exact ⟨a, b, c, rfl⟩
end L2
set_option Elab.async false
set_option linter.all false
set_option maxRecDepth 100000
namespace L2
open PySem PySem.Spec PyProof.Rows
open Sem (wp)
noncomputable def NoCtx (h : Heap) (ea : Addr) : Prop := ∃ o vs, h.get? ea = some o ∧ o.data = .fields vs ∧ vs[2]? = some Value.none
theorem NoCtx.keeps {h h' : Heap} {ea : Addr} (c : NoCtx h ea) (k : ∀ o, h.get? ea = some o → h'.get? ea = some o) : NoCtx h' ea := by
  obtain ⟨o, vs, e, d, n⟩ := c
  exact ⟨o, vs, k o e, d, n⟩
noncomputable def Keeps {α : Type} (P : Heap → Prop) : Sem α → Prop
  | .pure _ => True
  | .raise _ => True
  | .unsupported _ => True
  | .finish _ => True
  | .rule _ k => Keeps P (k ())
  | .at _ k => Keeps P (k ())
  | .load _ _ k => ∀ o, Keeps P (k o)
  | .update a _ f k => (∀ h, P h → P (h.update a f)) ∧ Keeps P (k ())
  | .alloc o k => (∀ h, P h → P (h.push o)) ∧ ∀ a, Keeps P (k a)
  | .loadIfAlive _ k => ∀ o, Keeps P (k o)
  | .point _ k => Keeps P (k ())
  | .register _ _ => True
  | .fresh k => ∀ n, Keeps P (k n)
  | .ask k => ∀ x, Keeps P (k x)
  | .choose _ _ k => ∀ n, Keeps P (k n)
  | .os _ _ k => ∀ x, Keeps P (k x)
  | .call .. => False
  | .handled _ k => ∀ x, Keeps P (k x)
  | .newGen _ k => ∀ n, Keeps P (k n)
  | .genState _ k => ∀ x, Keeps P (k x)
  | .resume .. => False
  | .yield .. => True
  | .stack k => ∀ l, Keeps P (k l)
  | .fork .. => True
  | .thread k => ∀ n, Keeps P (k n)
  | .await .. => True
section
variable {α β : Type} {P : Heap → Prop} {M : Model} {Γ : PySem.Ctx} {A : Around}
theorem Keeps.wp {t : Sem α} {Q : α → Pos → Shared → Prop} {E : Value → Pos → Shared → Prop} {p : Pos} {s : Shared} (hk : Keeps P t) (h : wp M Γ t Q E p s) (hp : P s.heap) :
    Sem.wp M Γ t (fun a p' s' => Q a p' s' ∧ P s'.heap) (fun e p' s' => E e p' s' ∧ P s'.heap) p s := by
  induction t generalizing p s with
  | pure a => exact ⟨h, hp⟩
  | raise e => exact ⟨h, hp⟩
  | unsupported w => exact h
  | finish e => exact h
  | rule tag k ih => exact ih () hk h hp
  | «at» q k ih => exact ih () hk h hp
  | load a part k ih => obtain ⟨o, ho, h⟩ := h; exact ⟨o, ho, ih o (hk o) h hp⟩
  | update a part f k ih => exact ⟨h.1, ih () hk.2 h.2 (hk.1 _ hp)⟩
  | alloc o k ih => exact ih _ (hk.2 _) h (hk.1 _ hp)
  | loadIfAlive a k ih => exact ih _ (hk _) h hp
  | point l k ih => exact ih () hk h hp
  | register a k ih => exact h
  | fresh k ih => exact ih _ (hk _) h hp
  | ask k ih => exact ih _ (hk _) h hp
  | choose src n k ih => exact ⟨h.1, ih _ (hk _) h.2 hp⟩
  | os q l k ih => exact ih _ (hk _) h hp
  | call c hd g l k ih => exact hk.elim
  | handled own k ih => exact ih _ (hk _) h hp
  | newGen c k ih => exact ih _ (hk _) h hp
  | genState g k ih => obtain ⟨st, e, h⟩ := h; exact ⟨st, e, ih _ (hk _) h hp⟩
  | resume g r l k ih => exact hk.elim
  | yield v g l k ih => exact h
  | stack k ih => exact ih _ (hk _) h hp
  | fork c k ih => exact h
  | thread k ih => exact ih _ (hk _) h hp
  | await a t b l k ih => exact h
theorem Keeps.any {t : Sem α} {Q : α → Shared → Prop} {E : Value → Shared → Prop} {s : Shared} (hk : Keeps P t) (hp : P s.heap) (h : wpAny M A t Q E s) : wpAny M A t (fun a s' => Q a s' ∧ P s'.heap) (fun e s' => E e s' ∧ P s'.heap) s :=
  fun Γ p hΓ => hk.wp (h Γ p hΓ) hp
theorem Keeps.bind {m : Sem α} {f : α → Sem β} (hm : Keeps P m) (hf : ∀ a, Keeps P (f a)) : Keeps P (m >>= f) := by
  show Keeps P (Sem.bind m f)
  induction m with
  | pure a => exact hf a
  | raise e => trivial
  | unsupported w => trivial
  | finish e => trivial
  | rule tag k ih => exact ih () hm
  | «at» q k ih => exact ih () hm
  | load a part k ih => exact fun o => ih o (hm o)
  | update a part g k ih => exact ⟨hm.1, ih () hm.2⟩
  | alloc o k ih => exact ⟨hm.1, fun a => ih a (hm.2 a)⟩
  | loadIfAlive a k ih => exact fun o => ih o (hm o)
  | point l k ih => exact ih () hm
  | register a k ih => trivial
  | fresh k ih => exact fun o => ih o (hm o)
  | ask k ih => exact fun o => ih o (hm o)
  | choose src n k ih => exact fun o => ih o (hm o)
  | os q l k ih => exact fun o => ih o (hm o)
  | call c hd g l k ih => exact hm.elim
  | handled own k ih => exact fun o => ih o (hm o)
  | newGen c k ih => exact fun o => ih o (hm o)
  | genState g k ih => exact fun o => ih o (hm o)
  | resume g r l k ih => exact hm.elim
  | yield v g l k ih => trivial
  | stack k ih => exact fun o => ih o (hm o)
  | fork c k ih => trivial
  | thread k ih => exact fun o => ih o (hm o)
  | await a t b l k ih => trivial
end
section
variable {ea : Addr}
theorem noctx_update {h : Heap} {a : Addr} {f : Obj → Obj} (c : NoCtx h ea) (hf : ∀ o vs, o.data = .fields vs → ∃ ws, (f o).data = .fields ws ∧ ws[2]? = vs[2]?) : NoCtx (h.update a f) ea := by
  obtain ⟨o, vs, e, d, n⟩ := c
  by_cases q : a = ea
  · subst q
    obtain ⟨ws, d2, n2⟩ := hf o vs d
    exact ⟨f o, ws, Heap.get?_update_self _ e (Obj.isFreed_of_fields d2), d2, n2.trans n⟩
  · exact ⟨o, vs, (Heap.get?_update_other _ _ q).trans e, d, n⟩
theorem noctx_push {h : Heap} {o : Obj} (c : NoCtx h ea) : NoCtx (h.push o) ea := c.keeps fun _ e => Heap.get?_push_of_some _ e
theorem noctx_field {h : Heap} {a : Addr} {i : Nat} {v : Value} (hi : i ≠ 2) (c : NoCtx h ea) : NoCtx (h.update a (Obj.mapFields (·.setIfInBounds i v))) ea :=
  noctx_update c fun o vs d => ⟨_, Obj.data_mapFields d _, by rw [Array.getElem?_setIfInBounds_ne hi]⟩
theorem keep_load {P : Heap → Prop} {a : Addr} : Keeps P (load a) := fun _ => trivial
theorem keep_stack {P : Heap → Prop} : Keeps P (stack : Sem (List (Code × Pos))) := fun _ => trivial
theorem keep_ite {P : Heap → Prop} {α : Type} {c : Prop} [Decidable c] {x y : Sem α} (h1 : Keeps P x) (h2 : Keeps P y) : Keeps P (if c then x else y) := by
  by_cases h : c
  · rw [if_pos h]; exact h1
  · rw [if_neg h]; exact h2
theorem keep_field {v : Value} {i : Nat} : Keeps (NoCtx · ea) (field v i) := by
  unfold field fieldsOf
  repeat' first
    | exact trivial
    | exact keep_load
    | (refine Keeps.bind ?_ fun _ => ?_)
    | split
theorem keep_setField {v x : Value} {i : Nat} (hi : i ≠ 2) : Keeps (NoCtx · ea) (setField v i x) := by
  unfold setField updateField
  cases v with
  | ref a =>
    refine keep_load.bind fun o => ?_
    cases o.data with
    | fields vs => exact keep_ite ⟨fun h c => noctx_field hi c, trivial⟩ trivial
    | _ => trivial
  | _ => trivial
theorem keep_setFlight {e : Value} {f : Option Addr} : Keeps (NoCtx · ea) (setFlight e f) := by
  unfold setFlight
  exact keep_field.bind fun tb => keep_ite (keep_setField (by decide)) trivial
theorem keep_entry {a b c d e : Value} {l : List Value} : Keeps (NoCtx · ea) (EntryCells.newEntry a b c d e l) := by
  unfold EntryCells.newEntry newFields newObj
  dsimp only
  repeat' first
    | exact trivial
    | exact ⟨fun h c => noctx_push c, fun _ => trivial⟩
    | (refine Keeps.bind ?_ fun _ => ?_)
    | (refine keep_ite ?_ ?_)
    | split
theorem keep_place {f : Addr} {b : Bool} : Keeps (NoCtx · ea) (entryPlaceOf f b) := by
  unfold entryPlaceOf
  refine keep_stack.bind fun l => ?_
  split <;> trivial
theorem keep_ready : ∀ (l : List Env), Keeps (NoCtx · ea) (readyFrames l)
  | [] => trivial
  | env :: outer => by
    unfold readyFrames
    cases env.frame with
    | none => trivial
    | some f =>
      refine keep_load.bind fun o => keep_ite trivial ?_
      refine Keeps.bind ?_ fun im => Keeps.bind ?_ fun bk => Keeps.bind ⟨fun h c => noctx_update c fun o vs d => ⟨vs, d, rfl⟩, trivial⟩ fun _ => keep_ready outer
      · unfold behindIsImport
        repeat' first
          | exact trivial
          | exact keep_field
          | (refine Keeps.bind ?_ fun _ => ?_)
          | (refine keep_ite ?_ ?_)
      · unfold keptBack underTheClaimsCaller
        repeat' first
          | exact trivial
          | exact keep_stack
          | (refine Keeps.bind ?_ fun _ => ?_)
          | (refine keep_ite ?_ ?_)
          | split
theorem keep_frameOf {env : Env} : Keeps (NoCtx · ea) (PySem.frameOf env) := by
  unfold PySem.frameOf frameEnvs frameObject
  repeat' first
    | exact trivial
    | exact keep_stack
    | exact keep_ready _
    | (refine Keeps.bind ?_ fun _ => ?_)
    | split
theorem keep_note {e : Value} {env : Env} : Keeps (NoCtx · ea) (noteFrame e env) := by
  unfold noteFrame
  cases env.frame with
  | none => trivial
  | some f =>
    refine keep_field.bind fun hd => ?_
    have fin : Keeps (NoCtx · ea) (do setField e 1 (← EntryCells.newEntry hd (← PySem.frameOf env) .none (rawInt f) .none (← entryPlaceOf f (hd != .none)))) :=
      keep_frameOf.bind fun fr => keep_place.bind fun pl => keep_entry.bind fun en => keep_setField (by decide)
    exact keep_ite (keep_field.bind fun x => keep_ite trivial ((keep_setField (by decide)).bind fun _ => fin)) fin
theorem keep_leaving {e : Value} {env : Env} : Keeps (NoCtx · ea) (leaving env e) := keep_note.bind fun _ => keep_setFlight
end
section
variable {M : Model} {A : Around} {E : Value → Shared → Prop} {s : Shared} {base : Heap} {env : Env} {outer l : List Env} {L e : Addr} {cls a0 : Value} {Q : Unit → Shared → Prop}
theorem leaves_onC (hfr : A.frames = some (env :: outer)) (hf : env.frame = some L) (hfl : Heap.FlyingW base (env :: outer) e cls a0 s.heap) (nc : NoCtx s.heap e)
    (hQ : ∀ h', Heap.FlyingW base outer e cls a0 h' → NoCtx h' e → s.heap.UpToSlots h' → Q () { s with heap := h' }) : wpAny M A (leaving env (.ref e)) Q E s :=
  wpAny_mono (keep_leaving.any nc (wpAny_leaves_onW (Q := fun _ s' => ∃ h', s' = { s with heap := h' } ∧ Heap.FlyingW base outer e cls a0 h' ∧ s.heap.UpToSlots h') (E := fun _ _ => False) hfr hf hfl fun h' a b => ⟨h', rfl, a, b⟩))
    (fun _ s' ⟨⟨h', e', a, b⟩, n⟩ => by subst e'; exact hQ h' a n b) fun _ _ z => z.1.elim
theorem leaves_madeC {h : Heap} {args : List Value} (hfr : A.frames = some (env :: outer)) (hf : env.frame = some L) (hkb : base.StaysIn h) (hl : h.FunFrames base (env :: outer)) (hx : Heap.MadeExcOf h s.heap e cls args)
    (hQ : ∀ h' t, Heap.FlyingW base outer e cls (.ref t) h' → NoCtx h' e → h'.TupAt t args → base.get? t = none → s.heap.UpToSlots h' → Q () { s with heap := h' }) : wpAny M A (leaving env (.ref e)) Q E s := by
  have nc : NoCtx s.heap e := by
    obtain ⟨t, he, _⟩ := hx.there
    exact ⟨_, _, he, rfl, rfl⟩
  exact wpAny_mono (keep_leaving.any nc (wpAny_leaves_madeW (Q := fun _ s' => ∃ h' t, s' = { s with heap := h' } ∧ Heap.FlyingW base outer e cls (.ref t) h' ∧ h'.TupAt t args ∧ base.get? t = none ∧ s.heap.UpToSlots h') (E := fun _ _ => False) hfr hf hkb hl hx fun h' t a b c d => ⟨h', t, rfl, a, b, c, d⟩))
    (fun _ s' ⟨⟨h', t, e', a, b, c, d⟩, n⟩ => by subst e'; exact hQ h' t a n b c d) fun _ _ z => z.1.elim
theorem looks_onC (hfr : A.frames = some (env :: outer)) (hf : env.frame = some L) (hfl : Heap.FlyingW base (env :: outer) e cls a0 s.heap) (nc : NoCtx s.heap e)
    (hQ : ∀ h', Heap.HeldW base (env :: outer) e cls a0 L h' → NoCtx h' e → s.heap.UpToSlots h' → Q () { s with heap := h' }) : wpAny M A (noteFrame (.ref e) env) Q E s :=
  wpAny_mono (keep_note.any nc (wpAny_looks_onW (Q := fun _ s' => ∃ h', s' = { s with heap := h' } ∧ Heap.HeldW base (env :: outer) e cls a0 L h' ∧ s.heap.UpToSlots h') (E := fun _ _ => False) hfr hf hfl fun h' a b => ⟨h', rfl, a, b⟩))
    (fun _ s' ⟨⟨h', e', a, b⟩, n⟩ => by subst e'; exact hQ h' a n b) fun _ _ z => z.1.elim
theorem landsC (hh : Heap.HeldW base l e cls a0 L s.heap) (nc : NoCtx s.heap e)
    (hQ : ∀ h', Heap.FlyingW base l e cls a0 h' → NoCtx h' e → s.heap.UpToSlots h' → Q () { s with heap := h' }) : wpAny M A (setFlight (.ref e) none) Q E s :=
  wpAny_mono (keep_setFlight.any nc (wpAny_landsW (Q := fun _ s' => ∃ h', s' = { s with heap := h' } ∧ Heap.FlyingW base l e cls a0 h' ∧ s.heap.UpToSlots h') (E := fun _ _ => False) hh fun h' a b => ⟨h', rfl, a, b⟩))
    (fun _ s' ⟨⟨h', e', a, b⟩, n⟩ => by subst e'; exact hQ h' a n b) fun _ _ z => z.1.elim
theorem lands_againC (hh : Heap.FlyingW base l e cls a0 s.heap) (nc : NoCtx s.heap e)
    (hQ : ∀ h', Heap.FlyingW base l e cls a0 h' → NoCtx h' e → s.heap.UpToSlots h' → Q () { s with heap := h' }) : wpAny M A (setFlight (.ref e) none) Q E s :=
  wpAny_mono (keep_setFlight.any nc (lands_againW (Q := fun _ s' => ∃ h', s' = { s with heap := h' } ∧ Heap.FlyingW base l e cls a0 h' ∧ s.heap.UpToSlots h') (E := fun _ _ => False) hh fun h' a b => ⟨h', rfl, a, b⟩))
    (fun _ s' ⟨⟨h', e', a, b⟩, n⟩ => by subst e'; exact hQ h' a n b) fun _ _ z => z.1.elim
end
end L2
set_option Elab.async false
set_option linter.all false
set_option maxRecDepth 100000
namespace L2
open PySem PySem.Spec PyProof.Rows
structure Flew (P : Program) (w : World) (outer : List Env) (H H' : Hp) (h B h' : Heap) (ea : Addr) : Prop where
  hok : HOk P w H' B
  keep : ∀ b o, h.get? b = some o → H b = none → b ∉ frs outer → B.get? b = some o
  slot : ∀ b o, h.get? b = some o → b ∈ frs outer → ∃ sl, h'.get? b = some { o with slots := sl }
  free : ∀ b o, h.get? b = some o → H b = none → H' b = none
  there : ∀ b o, h.get? b = some o → b ∉ frs outer → ∃ o', B.get? b = some o'
  tups : ∀ b xs, H b = some (.tup xs) → H' b = some (.tup xs)
  frzs : ∀ b o u, H b = some (.frz o u) → H' b = some (.frz o u)
  tbls : ∀ b ps, H b = some (.tbl ps) → ∃ more, H' b = some (.tbl (ps ++ more))
  exc : H' ea = none
noncomputable def CX1 (P : Program) (w : World) : CXT := fun outer H s E e s' =>
  ∃ (ea : Addr) (cls a0 : Value) (H' : Hp) (B : Heap), e = .ref ea ∧ Heap.FlyingW B outer ea cls a0 s'.heap ∧ NoCtx s'.heap ea ∧ s'.os = s.os ∧ AllBare s'.gens ∧ Flew P w outer H H' s.heap B s'.heap ea ∧ E cls none H'
section
variable {P : Program} {w : World} {outer : List Env} {H H' : Hp} {h B h' h'' : Heap} {ea : Addr}
theorem Flew.up {cls a0 : Value} (f : Flew P w outer H H' h B h' ea) (fl : Heap.FlyingW B outer ea cls a0 h') (up : h'.UpToSlots h'') : Flew P w outer H H' h B h'' ea :=
  ⟨f.hok, f.keep, fun b o e hb => by
    obtain ⟨sl, e1⟩ := f.slot b o e hb
    obtain ⟨_, o1, e2, nf⟩ := fl.2.2.1.mem hb
    rw [e1] at e2
    cases e2
    obtain ⟨sl', e3⟩ := up b _ e1 nf
    exact ⟨sl', e3⟩, f.free, f.there, f.tups, f.frzs, f.tbls, f.exc⟩
theorem Flew.un (f : Flew P w outer H H' h B h' ea) (st : B.StaysIn h') : Un (frs outer) [] H H' h h' where
  keep := fun b o e n hb _ => st b o (f.keep b o e n hb)
  slot := fun b o e _ hb _ => f.slot b o e hb
  free := fun b o e n _ => f.free b o e n
  there := fun b o e _ => by
    by_cases hb : b ∈ frs outer
    · obtain ⟨sl, e1⟩ := f.slot b o e hb
      exact ⟨_, e1⟩
    · obtain ⟨o', e1⟩ := f.there b o e hb
      exact ⟨o', st b o' e1⟩
  tups := f.tups
  frzs := f.frzs
  tbls := f.tbls
theorem Flew.ok (f : Flew P w outer H H' h B h' ea) (st : B.StaysIn h') : HOk P w H' h' := f.hok.kept st
end
section
variable {P : Program} {w : World} {K : PySem.W.Frag} {mg : Str → Option Value} {base : Heap} {N : List Str} {qual : Str} {scope : Scope} {f : Addr} {cd : Value} {A : Around} {outer : List Env} {s₀ : Shared} {H₀ : Hp} {E : XK}
theorem passes1 : Passes (CX1 P w) (cxOf (CX1 P w) P w K mg base N qual scope f cd A outer s₀ H₀ E) E := by
  intro pins σ H s e s' I hc
  obtain ⟨ea, cls, a0, H', B, rfl, fl, nc, os, bare, fw, q⟩ := hc
  have fr : frs (envOfC qual scope s₀.heap.objs.size f cd :: outer) = s₀.heap.objs.size :: frs outer := rfl
  have neL : ∀ b o, s₀.heap.get? b = some o → b ∉ frs outer → b ∉ frs (envOfC qual scope s₀.heap.objs.size f cd :: outer) := fun b o e hb z => by
    rw [fr] at z
    rcases List.mem_cons.mp z with z | z
    · have := Heap.lt_size e
      rw [z] at this
      exact absurd this (Nat.lt_irrefl _)
    · exact hb z
  show wpAny (model P w) (A.deeper (envOfC qual scope s₀.heap.objs.size f cd)) (leaving (envOfC qual scope s₀.heap.objs.size f cd) (.ref ea)) (fun _ s'' => CX1 P w outer H₀ s₀ E (.ref ea) s'') (fun e' s'' => CX1 P w outer H₀ s₀ E e' s'') s'
  refine leaves_onC I.ok.frames rfl fl nc fun h'' fl'' nc'' up => ?_
  have fu := fw.up fl up
  have ub : Un (frs outer) [] H₀ H s₀.heap s.heap := I.base
  refine ⟨ea, cls, a0, H', B, rfl, fl'', nc'', os.trans I.os, bare, ⟨fw.hok, fun b o e n hb => ?_, fun b o e hb => ?_, fun b o e n => ?_, fun b o e hb => ?_, fun b xs e => fw.tups b xs (ub.tups b xs e), fun b o u e => fw.frzs b o u (ub.frzs b o u e), fun b ps e => ?_, fw.exc⟩, q⟩
  · exact fw.keep b o (ub.keep b o e n hb (by simp)) (ub.free b o e n (by simp)) (neL b o e hb)
  · obtain ⟨sl, e1⟩ := ub.slot b o e (I.ok.frf b hb) hb (by simp)
    obtain ⟨sl', e2⟩ := fu.slot b _ e1 (show b ∈ frs (envOfC qual scope s₀.heap.objs.size f cd :: outer) by rw [fr]; exact List.mem_cons_of_mem _ hb)
    exact ⟨sl', e2⟩
  · obtain ⟨o', e1⟩ := ub.there b o e (by simp)
    exact fw.free b o' e1 (ub.free b o e n (by simp))
  · obtain ⟨o', e1⟩ := ub.there b o e (by simp)
    exact fw.there b o' e1 (neL b o e hb)
  · obtain ⟨m1, e1⟩ := ub.tbls b ps e
    obtain ⟨m2, e2⟩ := fw.tbls b _ e1
    exact ⟨m1 ++ m2, by rw [e2, Array.append_assoc]⟩
noncomputable def Raises (X : Cx) (E : XK) (cls : Value) : Prop := ∀ (pins : List (Addr × Obj)) (σ : St) (H : Hp) (s : Shared) (ea : Addr) (h' : Heap) (vs : List Value), Inv X pins σ H s → Heap.MadeExcOf s.heap h' ea cls vs → E cls none H → X.xe (.ref ea) { s with heap := h' }
theorem raises1 {cls : Value} : Raises (cxOf (CX1 P w) P w K mg base N qual scope f cd A outer s₀ H₀ E) E cls := by
  intro pins σ H s ea h' vs I hx q
  have fr : frs (envOfC qual scope s₀.heap.objs.size f cd :: outer) = s₀.heap.objs.size :: frs outer := rfl
  have neL : ∀ b o, s₀.heap.get? b = some o → b ∉ frs outer → b ∉ frs (envOfC qual scope s₀.heap.objs.size f cd :: outer) := fun b o e hb z => by
    rw [fr] at z
    rcases List.mem_cons.mp z with z | z
    · have := Heap.lt_size e
      rw [z] at this
      exact absurd this (Nat.lt_irrefl _)
    · exact hb z
  have stk : s.heap.FunFrames base (envOfC qual scope s₀.heap.objs.size f cd :: outer) := I.stack
  have hin : ∀ env ∈ (envOfC qual scope s₀.heap.objs.size f cd :: outer), ∀ b, env.frame = some b → b ∈ frs (envOfC qual scope s₀.heap.objs.size f cd :: outer) := fun env he b hb => List.mem_filterMap.mpr ⟨env, he, hb⟩
  have sf : ∀ b u, H b = some u → b ∉ frs (envOfC qual scope s₀.heap.objs.size f cd :: outer) := fun b u e z => by
    have n := I.stkFree b z
    rw [e] at n; cases n
  show wpAny (model P w) (A.deeper (envOfC qual scope s₀.heap.objs.size f cd)) (leaving (envOfC qual scope s₀.heap.objs.size f cd) (.ref ea)) (fun _ s'' => CX1 P w outer H₀ s₀ E (.ref ea) s'') (fun e' s'' => CX1 P w outer H₀ s₀ E e' s'') { s with heap := h' }
  refine leaves_madeC (base := PySem.W.hideAll s.heap (frs (envOfC qual scope s₀.heap.objs.size f cd :: outer))) (h := s.heap) I.ok.frames rfl (fun b o e => PySem.W.of_hideAll _ e) (PySem.W.funFrames_hide stk hin) hx fun h'' t fl nc tup hbt up => ?_
  have ub : Un (frs outer) [] H₀ H s₀.heap s.heap := I.base
  have toB : ∀ b o, s.heap.get? b = some o → b ∉ frs (envOfC qual scope s₀.heap.objs.size f cd :: outer) → (PySem.W.hideAll s.heap (frs (envOfC qual scope s₀.heap.objs.size f cd :: outer))).get? b = some o := fun b o e hb => PySem.W.hideAll_get _ e hb
  refine ⟨ea, cls, .ref t, H, _, rfl, fl, nc, I.os, I.bare, ⟨fun a o e => ?_, fun b o e n hb => ?_, fun b o e hb => ?_, fun b o e n => ?_, fun b o e hb => ?_, ub.tups, ub.frzs, ub.tbls, ?_⟩, q⟩
  · refine (I.hok a o e).stay (fun b u hb g => toB b u g ?_) (fun _ g => g) fun _ _ g => g
    rcases hb with hb | hb
    · rw [hb]; exact sf a o e
    · exact sf b _ hb
  · exact toB b o (ub.keep b o e n hb (by simp)) (neL b o e hb)
  · obtain ⟨sl, e1⟩ := ub.slot b o e (I.ok.frf b hb) hb (by simp)
    obtain ⟨_, o1, e2, nf⟩ := I.funs.mem hb
    rw [e1] at e2
    cases e2
    obtain ⟨sl', e3⟩ := up b _ (hx.keeps b _ e1) nf
    exact ⟨sl', e3⟩
  · exact ub.free b o e n (by simp)
  · obtain ⟨o', e1⟩ := ub.there b o e (by simp)
    exact ⟨o', toB b o' e1 (neL b o e hb)⟩
  · cases g : H ea with
    | none => rfl
    | some u =>
      have z : ∃ o, s.heap.get? ea = some o := by
        have := (I.hok ea u g)
        cases u with
        | lst xs => obtain ⟨_, _, _, _, e⟩ := this; exact ⟨_, e⟩
        | tup xs => obtain ⟨_, _, _, o, e, _⟩ := this; exact ⟨o, e⟩
        | dK kvs => obtain ⟨_, _, _, _, o, _, _, e, _⟩ := this; exact ⟨o, e⟩
        | dT kvs => obtain ⟨_, _, _, _, o, _, _, e, _⟩ := this; exact ⟨o, e⟩
        | set S n => obtain ⟨o, _, _, _, e, _⟩ := this; exact ⟨o, e⟩
        | ins C dx fs => obtain ⟨_, _, _, e, _⟩ := this; exact ⟨_, e⟩
        | own y => exact this
        | xd fs => obtain ⟨_, ⟨o, _, _, e, _⟩, _⟩ := this; exact ⟨o, e⟩
        | rng lo hi => obtain ⟨_, _, _, e⟩ := this; exact ⟨_, e⟩
        | frz ob u => obtain ⟨e, _⟩ := this; exact ⟨_, e⟩
        | tbl ps => exact ⟨_, this⟩
        | met f y => exact ⟨_, this⟩
        | ext φ => obtain ⟨_, e, _⟩ := this; exact e
      obtain ⟨o, e⟩ := z
      rw [hx.new] at e; cases e
end
end L2
set_option Elab.async false
set_option linter.all false
set_option maxRecDepth 100000
namespace L2
open PySem PySem.Spec PyProof.Rows
theorem exc_obj {K : PySem.W.Frag} {h : Heap} {C : Addr} {bmB : List Value} {newId : String} (KX : K.In h) (q : PySem.W.excIn K C bmB newId = true) :
    ∃ bm nsA nm qn bs hd sn sub ab col dd k0 k1 k2 k3 k5 mN, h.get? C = some (excClassObj nm qn C nsA bs bm hd sn sub ab col dd k0 k1 k2 k3 k5 newId) ∧ h.Ns nsA mN ∧ mN "__init__" = none ∧ OwnTail h bmB bm := by
  unfold PySem.W.excIn at q
  split at q
  · rename_i dd cd sl look
    split at q
    · rename_i C2 bm k0 k1 k2 k3 n k5 hmro hsl
      simp only [Bool.and_eq_true, beq_iff_eq, Bool.not_eq_true'] at q
      obtain ⟨⟨⟨⟨⟨qC, qn'⟩, qdel⟩, qtail⟩, qok⟩, qinit⟩ := q
      cases qC
      cases qn'
      obtain ⟨nm, bs, mro, nsA, qn, hd, sn, sub, ab, col, del⟩ := cd
      have hmro' : mro = _ :: bm := hmro
      have qdel' : del = false := qdel
      cases hmro'
      cases qdel'
      have esl : sl = #[k0, k1, k2, k3, some (.builtin newId), k5] := by
        cases sl with
        | mk l => exact congrArg Array.mk hsl
      cases esl
      exact ⟨bm, nsA, nm, qn, bs, hd, sn, sub, ab, col, dd, k0, k1, k2, k3, k5, _, KX _ _ look, .of_isNs (PySem.W.isNs_of_in KX qok), PySem.W.nsMap_none_of_in KX qok qinit, PySem.W.tail_of_in KX qtail⟩
    · exact absurd q Bool.false_ne_true
  · exact absurd q Bool.false_ne_true
abbrev mroVE : List Value := [.type "ValueError", .type "Exception", .type "BaseException", .type "object"]
section
variable {X : Cx} {E : XK} {C : Addr} {x : Str}
noncomputable def tRaise (E : XK) (cls : Value) (t : TA) : TS := fun _ σ H => t σ H fun vs H1 => vs.length ≤ sizeLine ∧ E cls none H1
theorem ps_raise {e : Expr} {es : List Expr} {t : TA} {np cpos pos : Pos} (hc : X.calm = true) (hR : Raises X E (.ref C)) (hg : Gl X x) (hm : X.mg x = some (.ref C)) (hE : PySem.W.excIn X.K C mroVE "ValueError.__new__" = true)
    (ha : PA X (e :: es) t) (hdb : (x == ("__debug__" : Str)) = false := by decide) (he : starEach (e :: es) X.env = (false, eval e X.env) :: starEach es X.env := by rfl) (hpl : (backTo cpos (starEach es X.env)).any (·.1) = false := by rfl) :
    PS X (.Raise (some (.Call (.Name x np) (e :: es) [] cpos)) none pos) (tRaise E (.ref C) t) := by
  intro pins s σ H D I hq
  obtain ⟨bm, nsA, nm, qn, bs, hd, sn, sub, ab, col, dd, k0, k1, k2, k3, k5, mN, hC, hN, hni, T⟩ := exc_obj (h := X.base) I.ok.mod.kin hE
  refine wpAny_Raise_call_subU (C := C) (nm := nm) (q := qn) (N := nsA) (bs := bs) (bm := bm) (hdct := hd) (sn := sn) (sub := sub) (ab := ab) (col := col) (dd := dd) (k0 := k0) (k1 := k1) (k2 := k2) (k3 := k3) (k5 := k5)
    PySem.F.excBase_ValueError (by decide) PySem.F.excBase_ValueError (mN := mN) (T.hasType (by decide)) (I.ok.hd hc) (by rw [he]; show (false || (backTo cpos (starEach es X.env)).any (·.1)) = false; rw [hpl]; rfl) hni (ld_glob I hg hm ⟨rfl, ?_⟩ hdb)
  have h1 := ha cpos pins s σ H _ I hq
  rw [he] at h1 ⊢
  refine Calls.evalArgs_plain (thn h1 fun us s2 ⟨vs, H2, I2, r, hz, q⟩ => ⟨rfl, ?_, ?_⟩)
  · show us.length ≤ sizeLine
    rw [← r.length]; exact hz
  · exact ⟨I2.bk _ _ hC, hN.keeps I2.bk, T.keeps I2.bk, fun h' ea hx => hR pins σ H2 s2 ea h' us I2 hx q⟩
end
end L2
set_option Elab.async false
set_option linter.all false
set_option maxRecDepth 100000
namespace L2
open PySem PySem.Spec PyProof.Rows
noncomputable def ExcO (ea C : Addr) : HO := .ext fun h => ∃ o vs, h.get? ea = some o ∧ o.cls = .ref C ∧ o.data = .fields vs ∧ vs[2]? = some Value.none
noncomputable def Cx.marked (X : Cx) (ea : Addr) : Cx := { X with A := X.A.mark (some (.ref ea)), calm := false, xe := fun _ _ => False }
section
variable {X : Cx} {pins : List (Addr × Obj)} {σ : St} {H : Hp} {s : Shared} {ea : Addr}
theorem Cx.Ok.marked (ok : X.Ok) (ea : Addr) : (X.marked ea).Ok :=
  ⟨ok.mod, ok.kind, ok.glob, ok.blt, ok.above, ok.inj, ok.has, ok.cab, (fun z => absurd (show false = true from z) (by decide)), ok.frames, ok.stk, ok.exf, ok.bs, ok.bsz, ok.noex, ok.exfs, ok.funs, ok.frf⟩
theorem Inv.marked (I : Inv X pins σ H s) (ea : Addr) : Inv (X.marked ea) pins σ H s := ⟨I.ok.marked ea, I.os, I.bare, I.base, I.loc, I.cell, I.free, I.freeC, I.pin, I.hok, I.len⟩
theorem Inv.unmarked (ok : X.Ok) (I : Inv (X.marked ea) pins σ H s) : Inv X pins σ H s := ⟨ok, I.os, I.bare, I.base, I.loc, I.cell, I.free, I.freeC, I.pin, I.hok, I.len⟩
theorem Inv.gone {i : Nat} {n : Str} {h' : Heap} {v : Option Value} {m : Str → Option Value} {t : Nat} (I : Inv X pins σ H s) (hN : X.N.Nodup) (hi : X.N[i]? = some n) (hk : X.env.scope.names.lookup n = some .local)
    (hl : ∀ (j : Nat) (x : Str) (v : V), X.N[j]? = some x → σ[j]? = some (some v) → Vis X.env.scope x → ∃ u, RelV v u ∧ Look X.env s.heap m x u)
    (hn' : h'.Ns X.env.locals (fun x => if x = n then v else m x)) (hs : Heap.SameBut X.env.locals s.heap h') : Inv X pins (σ.set i none) H { s with heap := h', toks := t } := by
  have ltL : ∀ b o, X.s₀.heap.get? b = some o → b ≠ X.env.locals := fun b o e => Nat.ne_of_lt (Nat.lt_of_lt_of_le (Heap.lt_size e) I.ok.above)
  refine ⟨I.ok, I.os, I.bare, ⟨fun b o e q hb hx => ?_, fun b o e q hb hx => ?_, I.base.free, fun b o e hx => ?_, I.base.tups, I.base.frzs, I.base.tbls⟩, ⟨_, hn', fun j y v' e1 e2 e3 => ?_⟩, fun y c e => ?_, I.free, I.freeC, fun p hp => ?_, fun b u e => ?_, by rw [List.length_set]; exact I.len⟩
  · exact (hs.2 b (ltL b o e)).trans (I.base.keep b o e q hb hx)
  · obtain ⟨sl, e1⟩ := I.base.slot b o e q hb hx
    exact ⟨sl, (hs.2 b (ltL b o e)).trans e1⟩
  · obtain ⟨o', e1⟩ := I.base.there b o e hx
    exact ⟨o', (hs.2 b (ltL b o e)).trans e1⟩
  · by_cases hj : j = i
    · subst hj
      rw [List.getElem?_set] at e2
      simp at e2
    · rw [List.getElem?_set_ne (Ne.symm hj)] at e2
      obtain ⟨u, r, q⟩ := hl j y v' e1 e2 e3
      refine ⟨u, r, ?_⟩
      rcases q with ⟨k, e⟩ | ⟨k, c, e, z⟩
      · refine .inl ⟨k, ?_⟩
        have ne : y ≠ n := fun z => hj (nodup_ix hN e1 (z ▸ hi))
        simp [ne, e]
      · exact .inr ⟨k, c, e, z.sameBut hs (I.cne y c e)⟩
  · obtain ⟨w', z⟩ := I.cell y c e
    exact ⟨w', z.sameBut hs (I.cne y c e)⟩
  · obtain ⟨e, q, ne, nf, d⟩ := I.pin p hp
    exact ⟨(hs.2 p.1 ne).trans e, q, ne, nf, d⟩
  · refine (I.hok b u e).stay (fun c w' hc q => (hs.2 c ?_).trans q) (fun _ q => q) fun _ _ q => q
    intro z
    rcases hc with hc | hc
    · rw [← hc, z, I.free] at e; cases e
    · rw [z, I.free] at hc; cases hc
noncomputable def endsX (i : Nat) (D : Ends) : Ends := { nx := fun σ H => D.nx (σ.set i none) H, rt := D.rt, bk := fun σ H => D.bk (σ.set i none) H, ct := fun σ H => D.ct (σ.set i none) H }
end
end L2
set_option Elab.async false
set_option linter.all false
set_option maxRecDepth 100000
namespace L2
open PySem PySem.Spec PyProof.Rows
noncomputable def EqL (K : PySem.W.Frag) (H : Hp) (rec : V → V → Bool → Prop) (p q : Addr) (b : Bool) : Prop :=
  ∃ xs ys, (SqL K H p xs ∧ SqL K H q ys ∧ xs.length ≠ ys.length ∧ b = false) ∨
    (((SqL K H p xs ∧ SqL K H q ys) ∨ (SqT K H p xs ∧ SqT K H q ys)) ∧ xs.length = ys.length ∧ ∃ e : Nat → Bool, (∀ i x y, xs[i]? = some x → ys[i]? = some y → rec x y (e i)) ∧ b = (List.range xs.length).all e)
noncomputable def EqD (K : PySem.W.Frag) (H : Hp) : Nat → V → V → Bool → Prop
  | 0, x, y, b => (∃ a, x = .ref a ∧ y = .ref a ∧ b = true) ∨ (flatV x = true ∧ flatV y = true ∧ b = eqV x y)
  | n + 1, x, y, b => EqD K H n x y b ∨ ∃ p q, x = .ref p ∧ y = .ref q ∧ p ≠ q ∧ EqL K H (EqD K H n) p q b
section
variable {X : Cx} {pins : List (Addr × Obj)} {σ : St} {H : Hp} {s : Shared}
theorem eqL_at {A : Around} {rec : V → V → Bool → Prop} {p q : Addr} {b : Bool} (I : Inv X pins σ H s) (hu : A.units < cLine) (hr : ∀ x y b u v, rec x y b → RelV x u → RelV y v → SeqAt.EqAt A.in1 s u v b) (h : EqL X.K H rec p q b) :
    SeqAt.RcAt A s (.ref p) (.ref q) b ∧ SeqAt.RcNeAt A s (.ref p) (.ref q) (!b) := by
  obtain ⟨xs, ys, ⟨h1, h2, hl, rfl⟩ | ⟨hk, hl, e, he, rfl⟩⟩ := h
  · obtain ⟨its, r, pl, _⟩ := I.list h1
    obtain ⟨its2, r2, pl2, _⟩ := I.list h2
    have e1 := r.length
    have e2 := r2.length
    have hne : (its.toArray.size != its2.toArray.size) = true := by
      rw [bne_iff_ne]; simp only [List.size_toArray]; omega
    exact ⟨SeqAt.RcAt.lists_lengths pl.isList pl2.isList hne hu, SeqAt.RcNeAt.lists_lengths pl.isList pl2.isList hne hu⟩
  · have items : ∀ (its its2 : List Value), Vals xs its → Vals ys its2 → ∀ j (h1 : j < its.toArray.size) (h2 : j < its2.toArray.size), SeqAt.EqAt A.in1 s its.toArray[j] its2.toArray[j] (e j) := by
      intro its its2 r r2 j h1 h2
      have l1 := r.length
      have l2 := r2.length
      simp only [List.size_toArray] at h1 h2
      have g1 : j < xs.length := by omega
      have g2 : j < ys.length := by omega
      obtain ⟨u, hu1, ru⟩ := r.get (i := j) (x := xs[j]) (by simp [g1])
      obtain ⟨v, hv1, rv⟩ := r2.get (i := j) (x := ys[j]) (by simp [g2])
      have eu : its.toArray[j] = u := by
        have : its[j]? = some its[j] := by simp [h1]
        rw [this] at hu1
        simpa using hu1
      have ev : its2.toArray[j] = v := by
        have : its2[j]? = some its2[j] := by simp [h2]
        rw [this] at hv1
        simpa using hv1
      rw [eu, ev]
      exact hr _ _ _ _ _ (he j _ _ (by simp [g1]) (by simp [g2])) ru rv
    rcases hk with ⟨h1, h2⟩ | ⟨h1, h2⟩
    · obtain ⟨its, r, pl, _⟩ := I.list h1
      obtain ⟨its2, r2, pl2, _⟩ := I.list h2
      have l1 := r.length
      have l2 := r2.length
      have hsz : its.toArray.size = its2.toArray.size := by simp only [List.size_toArray]; omega
      have a1 := SeqAt.RcAt.lists pl.isList pl2.isList hsz hu (items its its2 r r2)
      have a2 := SeqAt.RcNeAt.lists pl.isList pl2.isList hsz hu (items its its2 r r2)
      have es : its.toArray.size = xs.length := by simp only [List.size_toArray]; omega
      rw [es] at a1 a2
      exact ⟨a1, a2⟩
    · obtain ⟨its, r, pl, _⟩ := I.tuple h1
      obtain ⟨its2, r2, pl2, _⟩ := I.tuple h2
      have l1 := r.length
      have l2 := r2.length
      have t1 : s.heap.IsTuple p its.toArray := pl
      have t2 : s.heap.IsTuple q its2.toArray := pl2
      have a1 := SeqAt.RcAt.tuples t1 t2 hu (items its its2 r r2)
      have a2 := SeqAt.RcNeAt.tuples t1 t2 hu (items its its2 r r2)
      have es : min its.toArray.size its2.toArray.size = xs.length := by simp only [List.size_toArray]; omega
      have ez : (its.toArray.size == its2.toArray.size) = true := by rw [beq_iff_eq]; simp only [List.size_toArray]; omega
      rw [es, ez, Bool.and_true] at a1 a2
      exact ⟨a1, a2⟩
theorem eqD_at (I : Inv X pins σ H s) : ∀ (n : Nat) (A : Around), A.units + n < cLine → ∀ x y b u v, EqD X.K H n x y b → RelV x u → RelV y v → SeqAt.EqAt A s u v b
  | 0, A, hu, x, y, b, u, v, h, rx, ry => by
    rcases h with ⟨a, rfl, rfl, rfl⟩ | ⟨f1, f2, rfl⟩
    · cases rx; cases ry; exact SeqAt.EqAt.same _
    · exact eqAt_V rx ry f1 f2
  | n + 1, A, hu, x, y, b, u, v, h, rx, ry => by
    rcases h with h | ⟨p, q, rfl, rfl, ne, h⟩
    · exact eqD_at I n A (by omega) x y b u v h rx ry
    · cases rx; cases ry
      refine SeqAt.EqAt.of_refs ne (eqL_at (A := A) I (by omega) (fun x y b u v h rx ry => eqD_at I n A.in1 ?_ x y b u v h rx ry) h).1
      show A.units + 1 + n < cLine
      omega
noncomputable def rEqD (K : PySem.W.Frag) (neg : Bool) : R2 := fun x y H Q => ∃ n p q b, n ≤ 8 ∧ x = .ref p ∧ y = .ref q ∧ EqL K H (EqD K H n) p q b ∧ Q (.bl (if neg then !b else b)) H
theorem op_eqD (hu : X.A.units + 64 < cLine) : OpR X (compareOp .Eq) (rEqD X.K false) := by
  intro pins s σ H x y v u Q I rx ry h
  obtain ⟨n, p, q, b, hn, rfl, rfl, he, k⟩ := h
  cases rx; cases ry
  refine (eqL_at (A := X.A) I (by omega) (fun x y b u v h rx ry => eqD_at I n X.A.in1 ?_ x y b u v h rx ry) he).1 _ _ _ _ ⟨.bl b, H, I, rfl, k⟩
  show X.A.units + 1 + n < cLine
  omega
theorem op_neD (hu : X.A.units + 64 < cLine) : OpR X (compareOp .NotEq) (rEqD X.K true) := by
  intro pins s σ H x y v u Q I rx ry h
  obtain ⟨n, p, q, b, hn, rfl, rfl, he, k⟩ := h
  cases rx; cases ry
  refine (eqL_at (A := X.A) I (by omega) (fun x y b u v h rx ry => eqD_at I n X.A.in1 ?_ x y b u v h rx ry) he).2 _ _ _ _ ⟨.bl (!b), H, I, rfl, k⟩
  show X.A.units + 1 + n < cLine
  omega
end
theorem range_all {n : Nat} {e : Nat → Bool} (h : ∀ i, i < n → e i = true) : (List.range n).all e = true := by
  rw [List.all_eq_true]
  intro i hi
  exact h i (List.mem_range.mp hi)
theorem eqV_self {x : V} (f : flatV x = true) : eqV x x = true := by
  cases x <;> first | rfl | (simp [eqV]; done) | exact absurd (show false = true from f) Bool.false_ne_true
theorem EqL.same {K : PySem.W.Frag} {H : Hp} {p q : Addr} {xs : List V} (h : (SqL K H p xs ∧ SqL K H q xs) ∨ (SqT K H p xs ∧ SqT K H q xs)) (hf : ∀ x ∈ xs, flatV x = true ∨ ∃ a, x = .ref a) : EqL K H (EqD K H 0) p q true := by
  refine ⟨xs, xs, .inr ⟨h, rfl, fun _ => true, fun i x y h1 h2 => ?_, (range_all fun _ _ => rfl).symm⟩⟩
  rw [h1] at h2; cases h2
  rcases hf x (List.mem_of_getElem? h1) with f | ⟨a, rfl⟩
  · exact .inr ⟨f, f, (eqV_self f).symm⟩
  · exact .inl ⟨a, rfl, rfl, rfl⟩
theorem EqL.ints {K : PySem.W.Frag} {H : Hp} {p q : Addr} {ns ms : List Int} (h1 : SqL K H p (ns.map V.int)) (h2 : SqL K H q (ms.map V.int)) : EqL K H (EqD K H 0) p q (decide (ns = ms)) := by
  by_cases hl : ns.length = ms.length
  · refine ⟨_, _, .inr ⟨.inl ⟨h1, h2⟩, by simp [hl], fun i => ns[i]? == ms[i]?, fun i x y e1 e2 => ?_, ?_⟩⟩
    · rw [List.getElem?_map] at e1 e2
      cases g1 : ns[i]? with
      | none => rw [g1] at e1; cases e1
      | some n =>
        cases g2 : ms[i]? with
        | none => rw [g2] at e2; cases e2
        | some m =>
          rw [g1] at e1; rw [g2] at e2
          cases e1; cases e2
          refine .inr ⟨rfl, rfl, ?_⟩
          show (ns[i]? == ms[i]?) = (n == m)
          rw [g1, g2, Bool.eq_iff_iff]; simp
    · rw [List.length_map, Bool.eq_iff_iff, decide_eq_true_iff, List.all_eq_true]
      constructor
      · rintro rfl i _; simp
      · intro h
        refine List.ext_getElem? fun i => ?_
        by_cases hi : i < ns.length
        · have := h i (List.mem_range.mpr hi)
          exact beq_iff_eq.mp this
        · rw [List.getElem?_eq_none (by omega), List.getElem?_eq_none (by omega)]
  · refine ⟨_, _, .inl ⟨h1, h2, by simpa using hl, ?_⟩⟩
    exact decide_eq_false fun e => hl (by rw [e])
section
variable {X : Cx}
end
end L2
set_option Elab.async false
set_option linter.all false
set_option maxRecDepth 100000
namespace L2
open PySem PySem.Spec PyProof.Rows
section
variable {X : Cx} {tg : Expr}
noncomputable def DictO (_ : Addr) : HO := .dK []
theorem Inv.big {pins : List (Addr × Obj)} {σ : St} {H : Hp} {s : Shared} (I : Inv X pins σ H s) : sysModules < s.heap.objs.size := by
  have h : mainGlobals < s.heap.objs.size := (I.mod.glob.keeps I.bk).lt
  exact Nat.lt_trans (by decide) h
noncomputable def tDict0 : TE := fun _ H Q => ∀ p, H p = none → Q (.ref p) (upd H p (DictO p))
theorem pe_dict0 {pos : Pos} : PE X (.Dict [] [] pos) tDict0 := fun pins s σ H Q I h =>
  wpAny_Dict_empty ⟨.ref s.heap.objs.size, _, I.laid (a := s.heap.objs.size) (o := DictO s.heap.objs.size) (t' := s.toks) (fun _ _ q => Heap.get?_push_of_some _ q) (Nat.le_refl _)
    ⟨Nat.zero_le _, beq_eq_false_iff_ne.mpr (Ne.symm (Nat.ne_of_lt I.big)), [], .nil, Heap.DictOf.new s.heap⟩, rfl, h _ (I.hok.fresh (Nat.le_refl _))⟩
end
noncomputable def PassesR (CX : CXT) (X : Cx) (R : St → XK) : Prop := ∀ (pins : List (Addr × Obj)) (σ : St) (H : Hp) (s : Shared) (e : Value) (s' : Shared), Inv X pins σ H s → CX X.stack H s (R σ) e s' → X.xe e s'
structure DefX (P : Program) (w : World) (K : PySem.W.Frag) (mg : Str → Option Value) (base : Heap) (k : Nat) (x : Str) (ps : List Str) (ds : List V) (sp : Sp) : Prop where
  ex : ∃ (f : Addr) (fd : FuncData) (dvs : List Value), FnOk P w K mg base (CX1 P w) k f fd ps sp ∧ mg x = some (.ref f) ∧ PySem.W.keepIn K (.ref f) = true ∧ Binds K fd ps dvs ∧ Vals ds dvs
noncomputable def tCallR (sp : Sp) (dvs : List V) (R : St → XK) (t : TA) : TE := fun σ H Q => t σ H fun vs H1 => sp (vs ++ dvs) H1 Q (R σ)
section
variable {X : Cx}
theorem pe_callX {k : Nat} {x : Str} {ps : List Str} {ds : List V} {sp : Sp} {e : Expr} {es : List Expr} {t : TA} {p pos : Pos} {R : St → XK} (D : DefX X.prog X.w X.K X.mg X.base k x ps ds sp) (hr : Room k X.A) (hx : PassesR (CX1 X.prog X.w) X R) (hg : Gl X x)
    (ha : PA X (e :: es) t) (hdb : (x == ("__debug__" : Str)) = false := by decide) (he : starEach (e :: es) X.env = (false, eval e X.env) :: starEach es X.env := by rfl) (hpl : (backTo pos (starEach es X.env)).any (·.1) = false := by rfl) :
    PE X (.Call (.Name x p) (e :: es) [] pos) (tCallR sp ds R t) := by
  obtain ⟨f, fd, dvs, F, hm, hk, hb, hd⟩ := D.ex
  intro pins s σ H Q I h
  refine wpAny_Call_Name_kw (ld_glob I hg hm ?_ hdb)
  refine PySem.W.callWith_K (h₀ := X.base) I.ok.mod.kin hk (thn (ha pos pins s σ H _ I h) fun us s1 ⟨vs, H1, I1, r, q⟩ => ⟨I1.kIn, ?_⟩) he hpl
  have r2 : Vals (vs ++ ds) (us ++ dvs) := r.append hd
  have hl : (us ++ dvs).length = ps.length := by rw [← r2.length]; exact F.len _ _ _ _ q
  refine wpAny_call (codeAny_mono (F.run X.A X.stack s1 H1 ⟨us, []⟩ (us ++ dvs) (vs ++ ds) Q (R σ) hr I1.env0 (hb s1 us I1.kIn hl) r2 q) fun res s' hq => ?_)
  cases res with
  | error er => exact hx pins σ H1 s1 er s' I1 hq
  | ok fl =>
    cases fl with
    | ret u => exact I1.after hq
    | next => exact False.elim hq
    | brk => exact False.elim hq
    | cont => exact False.elim hq
theorem passF {P : Program} {w : World} : PassesR (CX1 P w) X fun _ => E0 := fun _ _ _ _ _ _ _ h => by
  obtain ⟨_, _, _, _, _, _, _, _, _, _, _, q⟩ := h
  exact False.elim q
theorem PS.nox {st : Stmt} {t : TS} (h : PS X.nox st t) : PS X st t := fun pins s σ H D I hw =>
  wpAny_mono (h pins s σ H D (I.wish _) hw) (fun _ _ q => q.unwish) fun _ _ z => False.elim z
end
section
variable {P : Program} {w : World} {K : PySem.W.Frag} {mg : Str → Option Value} {base : Heap}
theorem passes1R {N : List Str} {qual : Str} {scope : Scope} {f : Addr} {cd : Value} {A : Around} {outer : List Env} {s₀ : Shared} {H₀ : Hp} {E : XK} :
    PassesR (CX1 P w) (cxOf (CX1 P w) P w K mg base N qual scope f cd A outer s₀ H₀ E) fun _ => E := fun pins σ H s e s' I h => passes1 pins σ H s e s' I h
theorem FunD.okX {x qual : Str} {st : Stmt} {dV : Value} {f : Addr} {fd : FuncData} {N ps : List Str} {k : Nat} {sp : Sp} (F : FunD K x qual st dV f fd) (S : FnScope N ps (defScope st)) (len : ∀ vs H Q E, sp vs H Q E → vs.length = ps.length)
    (hbody : ∀ (cdv : Value) (A : Around) (outer : List Env) (s : Shared) (H : Hp) (vs : List V) (Q : VK) (E : XK), Room k (A.deeper (envOfC qual (defScope st) s.heap.objs.size f cdv)) → sp vs H Q E →
      ∃ t, PSs (cxOf (CX1 P w) P w K mg base N qual (defScope st) f cdv A outer s H E) (defBody st) t ∧ t { nx := fun _ H' => Q .non H', rt := Q } (start N vs) H) : FnOk P w K mg base (CX1 P w) (k + 1) f fd ps sp := by
  obtain ⟨oc, od, kV, doc, pm, an, cdv, ct, osl, rfl, lk, hcd⟩ := F.ex
  exact fn_of lk hcd S len fun A outer s H vs Q E hr hsp => hbody cdv A outer s H vs Q E hr hsp
theorem FunD.defX {x qual : Str} {st : Stmt} {f : Addr} {fd : FuncData} {ps : List Str} {k : Nat} {sp : Sp} (F : FunD K x qual st .none f fd) (G : FnOk P w K mg base (CX1 P w) k f fd ps sp) (hm : mg x = some (.ref f))
    (h : ∀ (kV doc pm : Value) (an : Option Addr) (cdv ct : Value) (us : List Value), us.length = ps.length → bindArgs (PySem.W.fnOf x qual (defArgs st) (defBody st) (defScope st) .none kV doc pm an cdv ct) ⟨us, []⟩ = pure (ps.zip us)) : DefX P w K mg base k x ps [] sp := by
  obtain ⟨oc, od, kV, doc, pm, an, cdv, ct, osl, rfl, lk, hcd⟩ := F.ex
  exact ⟨f, _, [], G, hm, F.kp, .all (h kV doc pm an cdv ct), .nil⟩
end
section
variable {X : Cx} {pins pn : List (Addr × Obj)} {σ : St} {H : Hp} {s : Shared} {XE : Value → Shared → Prop}
noncomputable abbrev Cx.at (X : Cx) (pn : List (Addr × Obj)) (XE : Value → Shared → Prop) : Cx := { X with pn := pn, xe := XE }
theorem Cx.Ok.at (ok : X.Ok) : (X.at pn XE).Ok :=
  ⟨ok.mod, ok.kind, ok.glob, ok.blt, ok.above, ok.inj, ok.has, ok.cab, ok.hd, ok.frames, ok.stk, ok.exf, ok.bs, ok.bsz, ok.noex, ok.exfs, ok.funs, ok.frf⟩
theorem Cx.Ok.unat (ok : (X.at pn XE).Ok) : X.Ok :=
  ⟨ok.mod, ok.kind, ok.glob, ok.blt, ok.above, ok.inj, ok.has, ok.cab, ok.hd, ok.frames, ok.stk, ok.exf, ok.bs, ok.bsz, ok.noex, ok.exfs, ok.funs, ok.frf⟩
theorem Inv.at (I : Inv X pins σ H s) : Inv (X.at (X.pn ++ pins) XE) [] σ H s := ⟨I.ok.at, I.os, I.bare, I.base, I.loc, I.cell, I.free, I.freeC, fun p hp => I.pin p (by simpa using hp), I.hok, I.len⟩
theorem Inv.unat {pins' : List (Addr × Obj)} (I : Inv (X.at (X.pn ++ pins) XE) pins' σ H s) : Inv X pins σ H s := ⟨I.ok.unat, I.os, I.bare, I.base, I.loc, I.cell, I.free, I.freeC, fun p hp => I.pin p (List.mem_append_left _ hp), I.hok, I.len⟩
end
end L2
set_option Elab.async false
set_option linter.all false
set_option maxRecDepth 100000
namespace L2
open PySem PySem.Spec PyProof.Rows
structure XCls (K : PySem.W.Frag) (D : Addr) : Prop where
  ga : PySem.W.findIn K (.ref D) "__getattribute__" = some (some (.builtin "BaseException.__getattribute__"))
  gx : PySem.W.findIn K (.ref D) "__getattr__" = some none
  cl : PySem.W.findIn K (.ref D) "__class__" = some (some (.builtin "object.__class__"))
  mB : PySem.W.mroIn K D (.type "BaseException") = some true
  mo : PySem.W.mroIn K D (.type "object") = some true
  isc : (PySem.W.clsIn K D).isSome = true
noncomputable def ExcAt (x D : Addr) (h : Heap) : Prop := ∃ o vs, h.get? x = some o ∧ o.cls = .ref D ∧ o.data = .fields vs
section
variable {prog : Program} {w : World} {A : Around} {E : Value → Shared → Prop} {s : Shared} {K : PySem.W.Frag} {x D : Addr}
theorem ExcAt.ty {M : Model} {h : Heap} (e : ExcAt x D h) : PySem.W.Looks M h (typeOf (.ref x)) (.ref D) := by
  obtain ⟨o, vs, h1, h2, _⟩ := e
  exact h2 ▸ (PySem.W.Looks.ld h1).andThen .now
theorem exc_class_get {R : Result → Shared → Prop} (KX : K.In s.heap) (e : ExcAt x D s.heap) (c : XCls K D) (h : R (.ok (.ret (.ref D))) s) :
    codeAny (model prog w) A (.call (.builtin "getset_descriptor.__get__") ⟨[.builtin "object.__class__", .ref x, .ref D], []⟩) R s := by
  obtain ⟨hh, g, dr, t, os⟩ := s
  have L0 : PySem.W.Looks (model prog w) hh (typeOf (.ref x)) (.ref D) := e.ty
  have L1 : PySem.W.Looks (model prog w) hh (isSubtype (.ref D) (.type (".".intercalate ("object.__class__".cutAt '.').dropLast))) true := by rw [F.owner_object_class]; exact PySem.W.looks_mroIn KX c.mo
  have LI : PySem.W.Looks (model prog w) hh (isInstance (.ref x) (.type (".".intercalate ("object.__class__".cutAt '.').dropLast))) true := L0.andThen L1
  have hT5 : (⟨hh, g, dr, t, os⟩ : Shared).TypeIs (.builtin "object.__class__") "getset_descriptor" := F.typeOf_object_class
  refine codeAny_call_builtin F.slot_gs_get.plain F.entry_gs_get (F.slot_gs_get.check _ _ _ _ _ _ _ _ hT5 (F.args_gs_get _ _ _) ?_)
  repeat (any_goals (first | assumption | (with_reducible refine LI.at ?_) | (with_reducible refine L0.at ?_) | (with_reducible refine L1.at ?_) | wp_step))
  refine ⟨Code.quiet_builtin _ (by decide +kernel), codeAny_builtin F.entry_object_class ?_⟩
  repeat (any_goals (first | assumption | (with_reducible refine L0.at ?_) | wp_step))
theorem exc_entry {tk : Tok} {Q : Fin → Shared → Prop} (KX : K.In s.heap) (e : ExcAt x D s.heap) (c : XCls K D) (h : Q (.done (.ret (.ref D))) s) :
    wpAny (model prog w) A (Builtin.«object.__getattribute__» ⟨[.ref x, .str "__class__" tk], []⟩) Q E s := by
  obtain ⟨hh, g, dr, t, os⟩ := s
  have L0 : PySem.W.Looks (model prog w) hh (typeOf (.ref x)) (.ref D) := e.ty
  have L4 := PySem.W.looks_findIn (M := model prog w) KX c.cl
  have hT5 : (⟨hh, g, dr, t, os⟩ : Shared).TypeIs (.builtin "object.__class__") "getset_descriptor" := F.typeOf_object_class
  have f5 := F.typeOf_object_class
  have f6 := F.slot_gs_get.lookup
  have f7 := F.slot_gs_set.lookup
  repeat (any_goals (first | assumption | (with_reducible refine L0.at ?_) | (with_reducible refine L4.at ?_) | wp_step))
  refine exc_class_get KX e c ?_
  exact wpAny_pure h
theorem bega_split : splitId "BaseException.__getattribute__" = some ("BaseException", "__getattribute__") := by decide +kernel
theorem bega_kind : builtinKind "BaseException.__getattribute__" = some .slot := by decide +kernel
theorem exc_check {M : Model} {v : Value} {Q : Unit → Shared → Prop} (KX : K.In s.heap) (e : ExcAt x D s.heap) (c : XCls K D) (h : Q () s) :
    wpAny M A (checkBuiltinCall "BaseException.__getattribute__" ⟨[.ref x, v], []⟩) Q E s := by
  have L0 : PySem.W.Looks M s.heap (typeOf (.ref x)) (.ref D) := e.ty
  have LI : PySem.W.Looks M s.heap (isInstance (.ref x) (.type "BaseException")) true := L0.andThen (PySem.W.looks_mroIn KX c.mB)
  have hA := F.args_bexc_ga (.ref x) v
  simp only [checkBuiltinCall, bega_split, bega_kind]
  refine wpAny_bind (LI.at ?_)
  unfold argsOk at hA
  cases hsig : Manifest.signature? "BaseException.__getattribute__" with
  | none =>
    rw [hsig] at hA
    simp only [Bool.not_true, Bool.false_eq_true, if_false]
    exact wpAny_pure h
  | some sig =>
    rw [hsig] at hA
    simp only [Bool.not_true, Bool.false_eq_true, if_false]
    exact wpAny_of_eq hA h
theorem exc_class {Q : Option Value → Shared → Prop} (KX : K.In s.heap) (e : ExcAt x D s.heap) (c : XCls K D) (h : Q (some (.ref D)) { s with toks := s.toks + 1 }) :
    wpAny (model prog w) A (getAttr? (.ref x) "__class__") Q E s := by
  obtain ⟨hh, g, dr, t, os⟩ := s
  have L0 : PySem.W.Looks (model prog w) hh (typeOf (.ref x)) (.ref D) := e.ty
  have L1 := PySem.W.looks_findIn (M := model prog w) KX c.ga
  have L2 := PySem.W.looks_findIn (M := model prog w) KX c.gx
  have hbind := F.excAttr_ValueError.ga.bind (.ref x)
  unfold getAttr? getAttrBy?
  repeat (any_goals (first | assumption | (with_reducible refine L0.at ?_) | (with_reducible refine L1.at ?_) | (with_reducible refine L2.at ?_) | wp_step))
  refine codeAny_call_builtin F.excAttr_ValueError.ga.plain F.entry_bexc_ga (exc_check (s := ⟨hh, g, dr, t + 1, os⟩) KX e c (exc_entry (s := ⟨hh, g, dr, t + 1, os⟩) KX e c ?_))
  repeat (any_goals (first | assumption | wp_step))
theorem kitx_exc (c : XCls K D) : PySem.W.KitX K (.ref x) (.ref D) (ExcAt x D) where
  ty := fun _ _ _ e => e.ty
  it := fun M h KX _ => by
    have hc := c.isc
    unfold PySem.W.clsIn at hc
    split at hc
    · rename_i c' d' cd' sl' ho
      intro A' Q' E' s' k q
      unfold isType loadHead
      exact wpAny_bind (wpAny_loadPart (k _ _ (KX _ _ ho)) (wpAny_pure q))
    · cases hc
  ne := fun h tp dd its n sl KX htp => by
    have hc := c.isc
    refine Bool.eq_false_iff.mpr fun q => ?_
    have e : D = tp := Value.ref.inj (beq_iff_eq.mp q)
    subst e
    unfold PySem.W.clsIn at hc
    split at hc
    · rename_i c' d' cd' sl' ho
      have z := (KX _ _ ho).symm.trans htp
      cases z
    · cases hc
  ca := fun KX e k => exc_class KX e c k
end
inductive TyX (K : PySem.W.Frag) (H : Hp) : V → Value → Prop where
  | of {x : V} {t : Value} (h : TyOf K H x t) : TyX K H x t
  | exc {a C : Addr} (e : H a = some (ExcO a C)) (c : XCls K C) : TyX K H (.ref a) (.ref C)
  | dict {a : Addr} (e : H a = some (DictO a)) : TyX K H (.ref a) (.type "dict")
noncomputable def IsX (K : PySem.W.Frag) (H : Hp) (x : V) (c : Value) (b : Bool) : Prop := ∃ t, TyX K H x t ∧ PySem.W.kitOne K t c = some b
noncomputable def rIsX (K : PySem.W.Frag) : List V → Hp → VK → Prop := fun xs H Q => match xs with
  | [x, .ty n] => ∃ b, IsX K H x (.type n) b ∧ Q (.bl b) H
  | [x, .ref C] => ∃ b, IsX K H x (.ref C) b ∧ Q (.bl b) H
  | _ => False
section
variable {X : Cx}
theorem isX_ok {A : Around} {E : Value → Shared → Prop} {Q : Value → Shared → Prop} {pins : List (Addr × Obj)} {σ : St} {H : Hp} {s : Shared} {x : V} {u c : Value} {b : Bool} (I : Inv X pins σ H s) (rx : RelV x u) (h : IsX X.K H x c b) (k : ∀ tk, Q (.bool b) { s with toks := tk }) :
    wpAny (model X.prog X.w) A (call (.builtin "isinstance") [u, c]) Q E s := by
  obtain ⟨t, ty, e⟩ := h
  cases ty with
  | of ty => exact isinst_ok I rx ty e k
  | @exc a C ea cc =>
    cases (show u = Value.ref a from rx)
    obtain ⟨⟨ox, vx, p1, p2, p3, _⟩, _, _⟩ := (show ObjOk X.prog X.w H s.heap a (ExcO a C) from I.hok a _ ea)
    have p : ∃ o vs, s.heap.get? a = some o ∧ o.cls = Value.ref C ∧ o.data = Data.fields vs := ⟨ox, vx, p1, p2, p3⟩
    exact PySem.W.kia_one (kitx_exc cc) I.kIn p e (fun z => nomatch z) k
  | @dict a ea =>
    cases (show u = Value.ref a from rx)
    obtain ⟨_, _, vs, _, p⟩ := (show ObjOk X.prog X.w H s.heap a (.dK []) from I.hok a _ ea)
    obtain ⟨o, es, ep, h1, h2, _⟩ := p
    exact PySem.W.kia_one PySem.W.kitx_dict I.kIn ⟨o, h1, h2.1⟩ e (fun z => nomatch z) k
theorem call_isX : CallR X (.builtin "isinstance") (rIsX X.K) := by
  intro pins s σ H xs us Q I rs h
  unfold rIsX at h
  split at h
  · obtain ⟨u, w', rfl, r1, r2⟩ := vals2 rs
    cases r2
    obtain ⟨b, hb, q⟩ := h
    exact isX_ok I r1 hb fun tk => ⟨.bl b, H, I.tok tk, rfl, q⟩
  · obtain ⟨u, w', rfl, r1, r2⟩ := vals2 rs
    cases r2
    obtain ⟨b, hb, q⟩ := h
    exact isX_ok I r1 hb fun tk => ⟨.bl b, H, I.tok tk, rfl, q⟩
  · exact h.elim
theorem pe_isiX {e : Expr} {te : TE} {T : Str} {n : String} {p p2 pos : Pos} (he : PE X e te) (h1 : Gl X "isinstance") (h2 : X.mg "isinstance" = none) (h3 : Gl X T) (h4 : X.mg T = none) (h5 : bootBuiltins T = some (.type n)) (h6 : T ≠ "__name__" := by decide) (h7 : (T == ("__debug__" : Str)) = false := by decide)
    (s1 : starEach [e, .Name T p2] X.env = (false, eval e X.env) :: starEach [.Name T p2] X.env := by rfl) (s2 : starEach [.Name T p2] X.env = (false, eval (.Name T p2) X.env) :: starEach [] X.env := by rfl) (hpl : (backTo pos (starEach [.Name T p2] X.env)).any (·.1) = false := by rfl) :
    PE X (.Call (.Name "isinstance" p) [e, .Name T p2] [] pos) (tCB (rIsX X.K) (tCons te (tCons (tC (.ty n)) tNil))) :=
  pe_callB call_isX h1 h2 PyProof.Rows.boot_isinstance (pa_cons he (pa_cons (pe_bltn h3 h4 h5 rfl h6 h7) pa_nil s2) s1) (by decide) (by decide) s1 hpl
theorem pe_isiC {e : Expr} {te : TE} {T : Str} {C : Addr} {p p2 pos : Pos} (he : PE X e te) (h1 : Gl X "isinstance") (h2 : X.mg "isinstance" = none) (h3 : Gl X T) (h4 : X.mg T = some (.ref C)) (h7 : (T == ("__debug__" : Str)) = false := by decide)
    (s1 : starEach [e, .Name T p2] X.env = (false, eval e X.env) :: starEach [.Name T p2] X.env := by rfl) (s2 : starEach [.Name T p2] X.env = (false, eval (.Name T p2) X.env) :: starEach [] X.env := by rfl) (hpl : (backTo pos (starEach [.Name T p2] X.env)).any (·.1) = false := by rfl) :
    PE X (.Call (.Name "isinstance" p) [e, .Name T p2] [] pos) (tCB (rIsX X.K) (tCons te (tCons (tC (.ref C)) tNil))) :=
  pe_callB call_isX h1 h2 PyProof.Rows.boot_isinstance (pa_cons he (pa_cons (pe_glob h3 h4 rfl h7) pa_nil s2) s1) (by decide) (by decide) s1 hpl
end
end L2
set_option Elab.async false
set_option linter.all false
set_option maxRecDepth 100000
namespace L2
open PySem PySem.Spec PyProof.Rows
theorem same_upd {H H' : Hp} {D : Addr} {o : HO} (s : Same H H') (h : H D = none) : Same H (upd H' D o) := fun b u e => by rw [upd_ne (ne_of_none e h)]; exact s b u e
theorem same_new {H : Hp} {D : Addr} {o : HO} (h : H D = none) : Same H (upd H D o) := same_upd (Same.refl H) h
inductive Kd (K : PySem.W.Frag) (H : Hp) : V → Prop where
  | non : Kd K H .non
  | bl (b : Bool) : Kd K H (.bl b)
  | int (i : Int) : Kd K H (.int i)
  | str (x : Str) : Kd K H (.str x)
  | lst {a : Addr} {xs : List V} (e : H a = some (.lst xs)) : Kd K H (.ref a)
  | tup {a : Addr} {xs : List V} (e : H a = some (.tup xs)) : Kd K H (.ref a)
  | dict {a : Addr} (e : H a = some (DictO a)) : Kd K H (.ref a)
theorem Kd.mono {K : PySem.W.Frag} {H H' : Hp} {x : V} (k : Kd K H x) (s : Same H H') : Kd K H' x := by
  cases k with
  | non => exact .non
  | bl b => exact .bl b
  | int i => exact .int i
  | str y => exact .str y
  | lst e => exact .lst (s _ _ e)
  | tup e => exact .tup (s _ _ e)
  | dict e => exact .dict (s _ _ e)
noncomputable def isI : V → Bool
  | .int _ => true
  | .bl _ => true
  | _ => false
noncomputable def isB : V → Bool
  | .bl _ => true
  | _ => false
noncomputable def isS : V → Bool
  | .str _ => true
  | _ => false
noncomputable def isL (H : Hp) : V → Bool
  | .ref a => match H a with
    | some (.lst _) => true
    | _ => false
  | _ => false
section
variable {K : PySem.W.Frag}
theorem k_ii : PySem.W.kitOne K (.type "int") (.type "int") = some true := by kernel_rfl
theorem k_ib : PySem.W.kitOne K (.type "int") (.type "bool") = some false := by kernel_rfl
theorem k_il : PySem.W.kitOne K (.type "int") (.type "list") = some false := by kernel_rfl
theorem k_is : PySem.W.kitOne K (.type "int") (.type "str") = some false := by kernel_rfl
theorem k_bi : PySem.W.kitOne K (.type "bool") (.type "int") = some true := by kernel_rfl
theorem k_bb : PySem.W.kitOne K (.type "bool") (.type "bool") = some true := by kernel_rfl
theorem k_bL : PySem.W.kitOne K (.type "bool") (.type "list") = some false := by kernel_rfl
theorem k_bs : PySem.W.kitOne K (.type "bool") (.type "str") = some false := by kernel_rfl
theorem k_ni : PySem.W.kitOne K (.type "NoneType") (.type "int") = some false := by kernel_rfl
theorem k_nb : PySem.W.kitOne K (.type "NoneType") (.type "bool") = some false := by kernel_rfl
theorem k_nl : PySem.W.kitOne K (.type "NoneType") (.type "list") = some false := by kernel_rfl
theorem k_ns : PySem.W.kitOne K (.type "NoneType") (.type "str") = some false := by kernel_rfl
theorem k_si : PySem.W.kitOne K (.type "str") (.type "int") = some false := by kernel_rfl
theorem k_sb : PySem.W.kitOne K (.type "str") (.type "bool") = some false := by kernel_rfl
theorem k_sl : PySem.W.kitOne K (.type "str") (.type "list") = some false := by kernel_rfl
theorem k_ss : PySem.W.kitOne K (.type "str") (.type "str") = some true := by kernel_rfl
theorem k_li : PySem.W.kitOne K (.type "list") (.type "int") = some false := by kernel_rfl
theorem k_lb : PySem.W.kitOne K (.type "list") (.type "bool") = some false := by kernel_rfl
theorem k_ll : PySem.W.kitOne K (.type "list") (.type "list") = some true := by kernel_rfl
theorem k_ls : PySem.W.kitOne K (.type "list") (.type "str") = some false := by kernel_rfl
theorem k_ti : PySem.W.kitOne K (.type "tuple") (.type "int") = some false := by kernel_rfl
theorem k_tb : PySem.W.kitOne K (.type "tuple") (.type "bool") = some false := by kernel_rfl
theorem k_tl : PySem.W.kitOne K (.type "tuple") (.type "list") = some false := by kernel_rfl
theorem k_ts : PySem.W.kitOne K (.type "tuple") (.type "str") = some false := by kernel_rfl
theorem k_di : PySem.W.kitOne K (.type "dict") (.type "int") = some false := by kernel_rfl
theorem k_db : PySem.W.kitOne K (.type "dict") (.type "bool") = some false := by kernel_rfl
theorem k_dl : PySem.W.kitOne K (.type "dict") (.type "list") = some false := by kernel_rfl
theorem k_ds : PySem.W.kitOne K (.type "dict") (.type "str") = some false := by kernel_rfl
variable {H : Hp} {x : V}
theorem Kd.isInt (k : Kd K H x) : IsX K H x (.type "int") (isI x) := by
  cases k with
  | non => exact ⟨_, .of .non, k_ni⟩
  | bl b => exact ⟨_, .of (.bl b), k_bi⟩
  | int i => exact ⟨_, .of (.int i), k_ii⟩
  | str y => exact ⟨_, .of (.str y), k_si⟩
  | lst e => exact ⟨_, .of (.lst e), k_li⟩
  | tup e => exact ⟨_, .of (.tup e), k_ti⟩
  | dict e => exact ⟨_, .dict e, k_di⟩
theorem Kd.isBool (k : Kd K H x) : IsX K H x (.type "bool") (isB x) := by
  cases k with
  | non => exact ⟨_, .of .non, k_nb⟩
  | bl b => exact ⟨_, .of (.bl b), k_bb⟩
  | int i => exact ⟨_, .of (.int i), k_ib⟩
  | str y => exact ⟨_, .of (.str y), k_sb⟩
  | lst e => exact ⟨_, .of (.lst e), k_lb⟩
  | tup e => exact ⟨_, .of (.tup e), k_tb⟩
  | dict e => exact ⟨_, .dict e, k_db⟩
theorem Kd.isStr (k : Kd K H x) : IsX K H x (.type "str") (isS x) := by
  cases k with
  | non => exact ⟨_, .of .non, k_ns⟩
  | bl b => exact ⟨_, .of (.bl b), k_bs⟩
  | int i => exact ⟨_, .of (.int i), k_is⟩
  | str y => exact ⟨_, .of (.str y), k_ss⟩
  | lst e => exact ⟨_, .of (.lst e), k_ls⟩
  | tup e => exact ⟨_, .of (.tup e), k_ts⟩
  | dict e => exact ⟨_, .dict e, k_ds⟩
theorem Kd.isList (k : Kd K H x) : IsX K H x (.type "list") (isL H x) := by
  cases k with
  | non => exact ⟨_, .of .non, k_nl⟩
  | bl b => exact ⟨_, .of (.bl b), k_bL⟩
  | int i => exact ⟨_, .of (.int i), k_il⟩
  | str y => exact ⟨_, .of (.str y), k_sl⟩
  | lst e => refine ⟨_, .of (.lst e), ?_⟩; simp only [isL, e]; exact k_ll
  | tup e => refine ⟨_, .of (.tup e), ?_⟩; simp only [isL, e]; exact k_tl
  | dict e => refine ⟨_, .dict e, ?_⟩; simp only [isL, e, DictO]; exact k_dl
theorem isList_lst {a : Addr} {xs : List V} (e : H a = some (.lst xs)) : IsX K H (.ref a) (.type "list") true := ⟨_, .of (.lst e), k_ll⟩
end
noncomputable def Src (J : It) (L : List V) (H : Hp) : Prop := ∀ H', Same H H' → (∀ i x, L[i]? = some x → J.go i H' ∧ ∀ y H2, J.yld i H' y H2 → y = x ∧ H2 = H') ∧ J.stop L.length H'
theorem src_list {K : PySem.W.Frag} {a : Addr} {xs : List V} {H : Hp} (h : SqL K H a xs) : Src (Itl K a) xs H := fun H' sm =>
  ⟨fun i x e => ⟨⟨xs, x, sm.seq h, e⟩, fun y H2 ⟨q1, q2⟩ => ⟨by have := q2 xs (sm.seq h); rw [e] at this; exact (Option.some.inj this).symm, q1⟩⟩, ⟨xs, sm.seq h, Nat.le_refl _⟩⟩
theorem src_range {lo : Int} {n : Nat} {H : Hp} : Src (Itr lo n) ((List.range n).map fun (i : Nat) => V.int (lo + i)) H := fun H' sm => by
  refine ⟨fun i x e => ?_, ?_⟩
  · have hi : i < n := by
      have := (List.getElem?_eq_some_iff.mp e).1
      simpa using this
    refine ⟨hi, fun y H2 ⟨q1, q2⟩ => ⟨?_, q1⟩⟩
    rw [List.getElem?_map, List.getElem?_range hi] at e
    rw [q2]
    exact Option.some.inj e
  · show n ≤ _
    simp
theorem comp_fm {J : It} {L : List V} {k : Nat} {tt : TT} {te : TE} {D : Addr} {σ0 : St} {H : Hp} {Fn : Hp → Prop} (f : V → V) (p : V → Bool) (S : Src J L H) (hn : L.length ≤ sizeLine) (hD : H D = none)
    (ht : ∀ x ∈ L, ∀ (H' : Hp) (Qb : Bool → Hp → Prop), Same H H' → (∀ H'', Same H' H'' → Qb (p x) H'') → tt (σ0.set k (some x)) H' Qb)
    (he : ∀ x ∈ L, p x = true → ∀ (H' : Hp) (Q : VK), Same H H' → (∀ H'', Same H' H'' → Q (f x) H'') → te (σ0.set k (some x)) H' Q)
    (hd : ∀ H', Same H H' → H' D = some (.lst ((L.filter p).map f)) → Fn H') :
    ∃ W : Nat → Nat → St → Hp → Prop, (∃ m, W 0 m σ0 (upd H D (.lst []))) ∧ ∀ i m σ' H', W i m σ' H' →
      (J.stop i H' ∧ Fn H') ∨ (J.go i H' ∧ ∃ N : St → Hp → Prop, (∀ σ2 H2, N σ2 H2 → ∃ m', m' < m ∧ W (i + 1) m' σ2 H2) ∧ ∀ x H2, J.yld i H' x H2 → gName k x σ' H2 fun σ3 H3 => tt σ3 H3 fun b H4 =>
        if b = true then te σ3 H4 fun v H5 => ∃ xs, H5 D = some (.lst xs) ∧ xs.length < sizeLine ∧ N σ3 (upd H5 D (.lst (xs ++ [v]))) else N σ3 H4) := by
  refine ⟨fun i m σ' H' => m = L.length - i ∧ i ≤ L.length ∧ (∀ y, σ'.set k y = σ0.set k y) ∧ Same H H' ∧ H' D = some (.lst (((L.take i).filter p).map f)), ⟨L.length, rfl, Nat.zero_le _, fun _ => rfl, same_new hD, by rw [upd_same]; rfl⟩, ?_⟩
  rintro i m σ' H' ⟨rfl, hi, hσ, sm, hH⟩
  by_cases hlt : i < L.length
  · have hx : L[i]? = some L[i] := by simp [hlt]
    obtain ⟨go, yl⟩ := (S H' sm).1 i _ hx
    refine .inr ⟨go, fun σ2 H2 => (∀ y, σ2.set k y = σ0.set k y) ∧ Same H H2 ∧ H2 D = some (.lst (((L.take (i + 1)).filter p).map f)), ?_, ?_⟩
    · rintro σ2 H2 ⟨q1, q2, q3⟩
      exact ⟨L.length - (i + 1), by omega, rfl, hlt, q1, q2, q3⟩
    · intro x H2 y
      obtain ⟨rfl, rfl⟩ := yl x H2 y
      show tt (σ'.set k (some L[i])) H2 _
      rw [hσ]
      have hm : L[i] ∈ L := List.getElem_mem hlt
      have tk : L.take (i + 1) = L.take i ++ [L[i]] := by rw [List.take_add_one, hx]; rfl
      refine ht _ hm H2 _ sm fun H4 s4 => ?_
      cases hp : p L[i] with
      | true =>
        refine iteT (he _ hm hp H4 _ (sm.trans s4) fun H5 s5 => ⟨_, s5 D _ (s4 D _ hH), ?_, fun y => by rw [List.set_set], same_upd (sm.trans (s4.trans s5)) hD, ?_⟩)
        · have h1 : (((L.take i).filter p).map f).length ≤ (L.take i).length := by rw [List.length_map]; exact List.length_filter_le _ _
          rw [List.length_take] at h1
          omega
        · rw [upd_same, tk, List.filter_append, List.map_append]
          simp [hp]
      | false =>
        refine iteF ⟨fun y => by rw [List.set_set], sm.trans s4, ?_⟩
        rw [tk, List.filter_append, List.filter_cons_of_neg (by simp [hp])]
        simpa using s4 D _ hH
  · have e : i = L.length := by omega
    subst e
    exact .inl ⟨(S H' sm).2, hd H' sm (by rw [hH, List.take_length])⟩
section
variable {H H' : Hp} {a : Addr} {ps : List Addr} {R : List (List V)}
end
end L2
set_option Elab.async false
set_option linter.all false
set_option maxRecDepth 100000
namespace L2
open PySem PySem.Spec PyProof.Rows
section
variable {X : Cx} (K : PySem.W.Frag)
theorem ixK (h : X.K = K) : IxR X (rIxL K) := by subst h; exact ix_list
theorem slK (h : X.K = K) : SlR X (rSlL K) := by subst h; exact sl_list
theorem lenK (h : X.K = K) : CallR X (.builtin "len") (fun xs H Q => ∃ p ys, xs = [.ref p] ∧ (SqL K H p ys ∨ SqT K H p ys) ∧ Q (.int ys.length) H) := by subst h; exact call_len_seq
theorem listK (h : X.K = K) : CallR X (.type "list") (fun xs H Q => ∃ p ys, xs = [.ref p] ∧ (SqL K H p ys ∨ SqT K H p ys) ∧ ∀ l, H l = none → Q (.ref l) (upd H l (.lst ys))) := by subst h; exact call_list_of
theorem allK (h : X.K = K) (hc : X.calm = true) : CallR X (.builtin "all") (rAll K) := by subst h; exact call_all hc
theorem eqDK (h : X.K = K) (hu : X.A.units + 64 < cLine) : OpR X (compareOp .Eq) (rEqD K false) := by subst h; exact op_eqD hu
theorem neDK (h : X.K = K) (hu : X.A.units + 64 < cLine) : OpR X (compareOp .NotEq) (rEqD K true) := by subst h; exact op_neD hu
theorem piK {tg l : Expr} {tl : TE} (h : X.K = K) (hl : PE X l tl) : PI X tg l (iList K tl) := by subst h; exact pi_list hl
theorem isiK {e : Expr} {te : TE} {T : Str} {n : String} {p p2 pos : Pos} (h : X.K = K) (he : PE X e te) (h1 : Gl X "isinstance") (h2 : X.mg "isinstance" = none) (h3 : Gl X T) (h4 : X.mg T = none) (h5 : bootBuiltins T = some (.type n)) (h6 : T ≠ "__name__" := by decide) (h7 : (T == ("__debug__" : Str)) = false := by decide)
    (s1 : starEach [e, .Name T p2] X.env = (false, eval e X.env) :: starEach [.Name T p2] X.env := by rfl) (s2 : starEach [.Name T p2] X.env = (false, eval (.Name T p2) X.env) :: starEach [] X.env := by rfl) (hpl : (backTo pos (starEach [.Name T p2] X.env)).any (·.1) = false := by rfl) :
    PE X (.Call (.Name "isinstance" p) [e, .Name T p2] [] pos) (tCB (rIsX K) (tCons te (tCons (tC (.ty n)) tNil))) := by
  subst h; exact pe_isiX he h1 h2 h3 h4 h5 h6 h7 s1 s2 hpl
theorem isiCK {e : Expr} {te : TE} {T : Str} {C : Addr} {p p2 pos : Pos} (h : X.K = K) (he : PE X e te) (h1 : Gl X "isinstance") (h2 : X.mg "isinstance" = none) (h3 : Gl X T) (h4 : X.mg T = some (.ref C)) (h7 : (T == ("__debug__" : Str)) = false := by decide)
    (s1 : starEach [e, .Name T p2] X.env = (false, eval e X.env) :: starEach [.Name T p2] X.env := by rfl) (s2 : starEach [.Name T p2] X.env = (false, eval (.Name T p2) X.env) :: starEach [] X.env := by rfl) (hpl : (backTo pos (starEach [.Name T p2] X.env)).any (·.1) = false := by rfl) :
    PE X (.Call (.Name "isinstance" p) [e, .Name T p2] [] pos) (tCB (rIsX K) (tCons te (tCons (tC (.ref C)) tNil))) := by
  subst h; exact pe_isiC he h1 h2 h3 h4 h7 s1 s2 hpl
end
open C5
section
variable {X : Cx} {sc : Scope} {N : List Str} {src : List (Option Nat)}
structure TurnG (Cp : Cx → Prop) (P : Program) (w : World) (K : PySem.W.Frag) (tg : Expr) (J : It) (fp : List Addr) (it : Addr) (tn : Nat → Heap → Prop) : Prop where
  mem : it ∈ fp
  obj : ∀ i h, tn i h → ∀ b ∈ fp, ∃ o, h.get? b = some o ∧ ∀ v, o.data ≠ .cell v
  keep : ∀ i h h', tn i h → (∀ b ∈ fp, ∀ o, h.get? b = some o → h'.get? b = some o) → tn i h'
  item : ∀ (X : Cx), X.prog = P → X.w = w → X.K = K → Cp X → ∀ (i : Nat) (pins : List (Addr × Obj)) (s : Shared) (σ : St) (H : Hp) (E : Value → Shared → Prop), Inv X pins σ H s → (∀ b ∈ fp, FpOk X pins H b) → tn i s.heap → J.go i H →
    wpAny (model P w) X.A (pyNext (.ref it)) (fun r s1 => ∃ u, r = some u ∧ wpAny (model P w) X.A (letOwnedTupleGo tg (.ref it) u) (fun _ s2 => ∃ x H', Inv X pins σ H' s2 ∧ RelV x u ∧ J.yld i H x H' ∧ tn (i + 1) s2.heap ∧ ∀ b ∈ fp, H' b = none) E s1) E s
  done : ∀ (X : Cx), X.prog = P → X.w = w → X.K = K → Cp X → ∀ (i : Nat) (pins : List (Addr × Obj)) (s : Shared) (σ : St) (H : Hp) (E : Value → Shared → Prop), Inv X pins σ H s → (∀ b ∈ fp, FpOk X pins H b) → tn i s.heap → J.stop i H →
    wpAny (model P w) X.A (pyNext (.ref it)) (fun r s1 => r = none ∧ Inv X pins σ H s1) E s
  self : ∀ (A : Around) (i : Nat) (s : Shared) (Q : Value → Shared → Prop) (E : Value → Shared → Prop), tn i s.heap → Q (.ref it) s → wpAny (model P w) A (pyIter (.ref it)) Q E s
noncomputable def PIG (Cp : Cx → Prop) (X : Cx) (tg iter : Expr) (wi : TI) : Prop :=
  ∀ (pins : List (Addr × Obj)) (s : Shared) (σ : St) (H : Hp) (R : It → Hp → Prop), Inv X pins σ H s → wi σ H R →
    wpAny (model X.prog X.w) X.A (eval iter X.env) (fun v s1 => wpAny (model X.prog X.w) X.A (pyIter v) (fun itv s2 => ∃ (it : Addr) (fp : List Addr) (tn : Nat → Heap → Prop) (J : It) (H' : Hp), itv = .ref it ∧ Inv X pins σ H' s2 ∧ TurnG Cp X.prog X.w X.K tg J fp it tn ∧ tn 0 s2.heap ∧ (∀ b ∈ fp, FpOk X pins H' b) ∧ R J H') X.xe s1) X.xe s
theorem ps_setCG (Cp : Cx → Prop) {x : Str} {ix : Nat} {p1 spos : Pos} {elt tgt iter : Expr} {ifs : List Expr} {wi : TI} {g : TG} {tt : TT} {te : TE} {pos : Pos} (hN : X.N.Nodup) (hix : X.N[ix]? = some x) (hxl : X.env.scope.names.lookup x = some .local) (hc : ∀ (s : Shared) (H : Hp) (C : Addr) (fp : List Addr), Cp (cxB X sc N fp C s H)) (B : BkScope X.env.scope sc X.N N src) (hi : PIG Cp X tgt iter wi)
    (hg : ∀ (s : Shared) (H : Hp) (C : Addr) (fp : List Addr), PG (cxB X sc N fp C s H) tgt g) (ht : ∀ (s : Shared) (H : Hp) (C : Addr) (fp : List Addr), PTs (cxB X sc N fp C s H) ifs tt)
    (he : ∀ (s : Shared) (H : Hp) (C : Addr) (fp : List Addr), PE (cxB X sc N fp C s H) elt te) (hs : ∀ x, foldedSetIterable iter X.env x = pure x := by intro _; rfl)
    (hsw : swapsWith (.ListComp elt [⟨tgt, iter, ifs, 0⟩] sc pos) (some (.Name x p1)) spos.line X.env = pure true := by rfl) :
    PS X (.Assign [.Name x p1] (.ListComp elt [⟨tgt, iter, ifs, 0⟩] sc pos) spos) (tAsg (tComp src wi g tt te) (gName ix)) := by
  intro pins s σ H D I h
  rw [exec_Assign_Name_used _ _ _ _ hsw]
  refine wpAny_bind (wpAny_standAt (wpAny_bind ?_))
  show wpAny _ X.A (do let _ ← comprehension (.ListComp elt [⟨tgt, iter, ifs, 0⟩] sc pos) sc X.env _ (newList []) false (eval iter X.env) (some (assign (.Name x p1) X.env))) _ _ s
  have has := B.has rfl I.ok
  refine wpAny_bind (wpAny_mono (wpAny_comprehension_free (use := some (assign (.Name x p1) X.env)) (Q := fun _ s' => SP X pins D .next s') rfl hs (clos_of has) B.kind (fun y hy hk => by have := B.look (x := y.1) (k := y.2) hy; rw [hk] at this; exact this)
    (thn (hi pins s σ H _ I h) fun v s1 h1 => thn h1 fun itv s2 h2 => ?_)) (fun _ s' hq => wpAny_pure (wpAny_pure hq)) fun _ _ z => z)
  obtain ⟨it, fp, tn, J, H2, e, I2, T, st2, f2, q⟩ := h2
  subst e
  refine wpAny_newObj_type (newBlock ?_)
  obtain ⟨W, ⟨m0, w0⟩, turn⟩ := q s2.heap.objs.size (I2.hok.fresh (Nat.le_refl _))
  have hlt : ∀ b ∈ fp, b < s2.heap.objs.size := fun b hb => by
    obtain ⟨o, ho, _⟩ := T.obj 0 _ st2 b hb
    exact Heap.lt_size ho
  have szL : (s2.heap.push { cls := .type "list", dict := none, data := .seq ([] : List Value).toArray } : Heap).objs.size = s2.heap.objs.size + 1 := Heap.size_push ..
  generalize hh1 : pushCells ((s2.heap.push { cls := .type "list", dict := none, data := .seq ([] : List Value).toArray } : Heap).push { cls := .type "dict", data := .dict #[] }) sc.names = hB
  have IB := I2.block (C := (s2.heap.push { cls := .type "list", dict := none, data := .seq ([] : List Value).toArray } : Heap).objs.size) (t := s2.toks) B f2 hlt szL hh1.symm
  generalize (s2.heap.push { cls := .type "list", dict := none, data := .seq ([] : List Value).toArray } : Heap).objs.size = C at IB szL ⊢
  have keepB : ∀ b o, s2.heap.get? b = some o → hB.get? b = some o := fun b o e => by
    rw [← hh1]
    exact pushCells_keeps _ _ b o (Heap.get?_push_of_some _ (Heap.get?_push_of_some _ e))
  have stB : tn 0 hB := T.keep 0 _ _ st2 fun b _ o e => keepB b o e
  have frB : ∀ b ∈ fp, upd H2 s2.heap.objs.size (.lst []) b = none := fun b hb => by
    rw [upd_ne (Nat.ne_of_lt (hlt b hb))]
    exact (f2 b hb).1
  have stat : ∀ {H' : Hp}, (∀ b ∈ fp, H' b = none) → ∀ b ∈ fp, FpOk (cxB X sc N fp C s2 H2) [] H' b := fun {H'} hn b hb => by
    obtain ⟨z1, z2⟩ := IB.ok.exf b hb
    exact ⟨hn b hb, z1, IB.ok.exfs b hb, .inl hb, z2, fun p hp => absurd (show p ∈ ([] : List (Addr × Obj)) from hp) (by simp)⟩
  show codeAny (model X.prog X.w) X.A (.compStart (.ListComp elt [⟨tgt, iter, ifs, 0⟩] sc pos) 0 (.ref it) (.ref s2.heap.objs.size) (bkEnv sc (clOf sc X.env) C X.env)) (compPost (model X.prog X.w) X.A X.xe (some (assign (.Name x p1) X.env)) (fun _ s' => SP X pins D .next s') (.ref s2.heap.objs.size) C) { s2 with heap := hB }
  have loop : codeAny (model X.prog X.w) X.A (.compLoop (.ListComp elt [⟨tgt, iter, ifs, 0⟩] sc pos) 0 (.ref it) (.ref s2.heap.objs.size) (bkEnv sc (clOf sc X.env) C X.env))
      (compPost (model X.prog X.w) X.A X.xe (some (assign (.Name x p1) X.env)) (fun _ s' => SP X pins D .next s') (.ref s2.heap.objs.size) C) { s2 with heap := hB } := by
    refine compLoop_go (fun n s' => ∃ i σ' H', Inv (cxB X sc N fp C s2 H2) [] σ' H' s' ∧ tn i s'.heap ∧ (∀ b ∈ fp, H' b = none) ∧ W i n σ' H') ?_ m0 ⟨0, _, _, IB, stB, frB, w0⟩
    rintro n s3 ⟨i, σ3, H3, I3, st3, fr3, w3⟩
    rcases turn i n σ3 H3 w3 with ⟨stop, qn⟩ | ⟨go, N', hN, step⟩
    · refine thn (T.done (cxB X sc N fp C s2 H2) rfl rfl rfl (hc _ _ _ _) i [] s3 σ3 H3 _ I3 (stat fr3) st3 stop) fun r s4 ⟨hr, I4⟩ => ?_
      subst hr
      obtain ⟨m, hn, _⟩ := I4.loc
      have ltC : ∀ b o, s2.heap.get? b = some o → b ≠ C := fun b o e => Nat.ne_of_lt (show @LT.lt Nat instLTNat b C by have : @LT.lt Nat instLTNat b s2.heap.objs.size := Heap.lt_size e; omega)
      have base := I4.base
      have freeC : H3 C = none := I4.free
      have J : Inv X pins σ H3 s4 := by
        refine I2.call' (s' := s4) (ch := fp) I4.os ⟨base.keep, base.slot, base.free, base.there, base.tups, base.frzs, base.tbls⟩ I4.hok I4.bare (fun b hb => ?_)
        obtain ⟨f0, f1, f2', f3, f4, f5⟩ := f2 b hb
        exact ⟨f3, f1, f4, f5⟩
      have neL : C ≠ X.env.locals := fun z => by
        obtain ⟨m', ⟨o, _, _, ho, _⟩, _⟩ := I2.loc
        exact ltC _ o ho z.symm
      have neCell : ∀ y c, X.env.cells.lookup y = some c → c ≠ C := fun y c e => by
        obtain ⟨v', o, ho, _⟩ := I2.cell y c e
        exact ltC c o ho
      show wpAny (model X.prog X.w) X.A (assign (.Name x p1) X.env (.ref s2.heap.objs.size)) _ _ s4
      refine wpAny_assign_Name (store_ok2 J hN hix (.inl hxl) (show RelV (.ref s2.heap.objs.size) (.ref s2.heap.objs.size) from rfl) (fun s5 J5 hsb => ?_) (.inr hxl))
      obtain ⟨a, sb, ha⟩ := hsb
      have neA : C ≠ a := by
        rcases ha with z | z
        · rw [z]; exact neL
        · exact fun q => neCell _ _ z q.symm
      refine ⟨m, hn.sameBut sb neA, fun h' hs' => ?_⟩
      refine ⟨_, H3, J5.turned (t' := s5.toks) (it := C) (fun b o hb e => (hs'.2 b hb).trans e) freeC neL (.inr ?_) neCell (fun p hp => ltC p.1 p.2 (I2.pin p hp).1), qn⟩
      exact Nat.le_trans I2.sz (show @LE.le Nat instLENat s2.heap.objs.size C by omega)
    · refine thn (T.item (cxB X sc N fp C s2 H2) rfl rfl rfl (hc _ _ _ _) i [] s3 σ3 H3 _ I3 (stat fr3) st3 go) fun r s4 ⟨u, hr, h4⟩ => ?_
      subst hr
      refine thn h4 fun _ s5 ⟨x, H5, I5, r5, y5, st5, fr5⟩ => ?_
      have I5' := I5.pinned (stat fr5) (T.obj _ _ st5)
      have again : ∀ {s7 : Shared} {σ7 : St} {H7 : Hp}, Inv (cxB X sc N fp C s2 H2) ([] ++ pinsAt fp s5.heap) σ7 H7 s7 → N' σ7 H7 → ∃ m, m < n ∧ ∃ i σ' H', Inv (cxB X sc N fp C s2 H2) [] σ' H' s7 ∧ tn i s7.heap ∧ (∀ b ∈ fp, H' b = none) ∧ W i m σ' H' := fun {s7 σ7 H7} I7 n7 => by
        obtain ⟨m', hm, w7⟩ := hN σ7 H7 n7
        refine ⟨m', hm, i + 1, σ7, H7, I7.unpinned, T.keep _ _ _ st5 fun b hb o e => (I7.pin (b, o) (List.mem_append_right _ (List.mem_append_right _ (mem_pinsAt hb e)))).1, fun b hb => ?_, w7⟩
        obtain ⟨o, e, d⟩ := T.obj _ _ st5 b hb
        exact (I7.pin (b, o) (List.mem_append_right _ (List.mem_append_right _ (mem_pinsAt hb e)))).2.1
      refine thn (hg s2 H2 C fp _ s5 σ3 H5 x u _ I5' r5 (step x H5 y5)) fun _ s6 ⟨σ6, H6, I6, q6⟩ => ?_
      refine thn (ht s2 H2 C fp _ s6 σ6 H6 _ I6 q6) fun b s7 ⟨H7, I7, q7⟩ => ?_
      cases b with
      | false =>
        rw [if_neg Bool.false_ne_true] at q7 ⊢
        exact again I7 q7
      | true =>
        rw [if_pos rfl] at q7 ⊢
        refine thn (he s2 H2 C fp _ s7 σ6 H7 _ I7 q7) fun u8 s8 ⟨v8, H8, I8, r8, xs, hD, hz, n8⟩ => ?_
        exact thn (mt_append (X := cxB X sc N fp C s2 H2) _ s8 σ6 H8 (.ref s2.heap.objs.size) [v8] (.ref s2.heap.objs.size) [u8] (fun _ H => N' σ6 H) I8 rfl (.cons r8 .nil) ⟨_, xs, v8, rfl, rfl, hD, hz, n8⟩) fun _ s9 ⟨_, H9, I9, _, n9⟩ => again I9 n9
  exact codeAny_compStart_list loop (T.self _ 0 _ _ _ stB loop)
end
end L2
namespace L2
open PySem
theorem exm_mk {K : PySem.W.Frag} {C F : Addr} (h1 : PySem.W.subIn K (.ref F) (.type "BaseException") = some true) (h2 : PySem.W.isClsIn K F = true) (h3 : PySem.W.typeIn K (.ref F) = some (.type "type")) (h4 : PySem.W.subIn K (.ref C) (.ref F) = some true) : PySem.W.exmOne K (.ref C) (.ref F) = some true := by
  unfold PySem.W.exmOne PySem.W.kitCls
  have h2' : (PySem.W.clsIn K F).isSome = true := h2
  rw [h1, if_pos (by decide)]
  dsimp only
  rw [h2', h3, if_pos (by simp), h4]
end L2
set_option Elab.async false
set_option linter.all false
set_option maxRecDepth 100000
namespace L2
open PySem PySem.Spec PyProof.Rows
section
variable {X : Cx}
end
end L2
set_option Elab.async false
set_option linter.all false
set_option maxRecDepth 100000
namespace L2
open PySem PySem.Spec PyProof.Rows
section
variable {X : Cx}
end
end L2
set_option Elab.async false
set_option linter.all false
set_option maxRecDepth 100000
namespace L2
open PySem PySem.Spec PyProof.Rows
section
variable {X : Cx} {tg : Expr}
theorem Inv.revd {pins : List (Addr × Obj)} {σ : St} {H : Hp} {s : Shared} {o : Obj} (I : Inv X pins σ H s) : Inv X pins σ H { s with heap := s.heap.push o } := I.kept (t' := s.toks) fun b o e => Heap.get?_push_of_some _ e
end
end L2
namespace PySem
namespace F
end F
section
variable {prog : Program} {w : World} {A : Around} {E : Value → Shared → Prop} {s : Shared} {I l : Addr} {items : Array Value}
end
end PySem
namespace L2
open PySem PySem.Spec PyProof.Rows
section
variable {X : Cx}
end
end L2
set_option Elab.async false
set_option linter.all false
set_option maxRecDepth 100000
namespace L2
open PySem PySem.Spec PyProof.Rows
noncomputable def Sl (e : Expr) : Prop := ∀ es env, starEach (e :: es) env = (false, eval e env) :: starEach es env
structure LitE (e : Expr) (t : TE) : Prop where
  pe : ∀ X : Cx, PE X e t
  sl : Sl e
structure LitA (es : List Expr) (t : TA) : Prop where
  pa : ∀ X : Cx, PA X es t
theorem la_nil : LitA [] tNil := ⟨fun _ => pa_nil⟩
theorem la_cons {e : Expr} {es : List Expr} {t : TE} {ts : TA} (h : LitE e t) (hs : LitA es ts) : LitA (e :: es) (tCons t ts) := ⟨fun X => pa_cons (h.pe X) (hs.pa X) (h.sl _ _)⟩
theorem lit_non {k : Nat} {p : Pos} : LitE (.Constant .none k p) (L2.tC .non) := ⟨fun _ => pe_non, fun _ _ => rfl⟩
theorem lit_int {n : Int} {k : Nat} {p : Pos} : LitE (.Constant (.int n) k p) (L2.tC (.int n)) := ⟨fun _ => pe_int, fun _ _ => rfl⟩
theorem lit_str {x : Str} {k : Nat} {p : Pos} : LitE (.Constant (.str x) k p) (L2.tC (.str x)) := ⟨fun _ => pe_str, fun _ _ => rfl⟩
theorem lit_bl {b : Bool} {k : Nat} {p : Pos} : LitE (.Constant (.bool b) k p) (L2.tC (.bl b)) := ⟨fun _ => pe_bl, fun _ _ => rfl⟩
theorem lit_lst {es : List Expr} {ts : TA} {p : Pos} (h : LitA es ts) : LitE (.List es p) (tLst ts) := ⟨fun X => pe_lst (h.pa X), fun _ _ => rfl⟩
theorem lit_tup {es : List Expr} {ts : TA} {k : Nat} {p : Pos} (h : LitA es ts) : LitE (.Tuple es k p) (tTup ts) := ⟨fun X => pe_tup (h.pa X), fun _ _ => rfl⟩
theorem drop_at {α : Type} {l : List α} {n : Nat} {x : α} (h : l[n]? = some x) (m : Nat) (hm : n + 1 = m) : l.drop n = x :: l.drop m := by
  subst hm
  obtain ⟨hlt, rfl⟩ := List.getElem?_eq_some_iff.mp h
  exact List.drop_eq_getElem_cons hlt
theorem pss_at {X : Cx} {body : List Stmt} {n : Nat} {st : Stmt} {t u : TS} (m : Nat) (h : body[n]? = some st) (hm : n + 1 = m) (h1 : PS X st t) (h2 : PSs X (body.drop m) u) : PSs X (body.drop n) (tSeq t u) := by
  rw [drop_at h m hm]; exact pss_cons h1 h2
end L2
set_option Elab.async false
set_option linter.all false
set_option maxRecDepth 100000
namespace L2
open PySem PySem.Spec PyProof.Rows
section
variable {X : Cx} {a b c e : Expr} {es : List Expr} {ta tb te : TE} {t : TA} {p pos : Pos}
end
end L2
set_option Elab.async false
set_option linter.all false
set_option maxRecDepth 100000
namespace L2
open PySem PySem.Spec PyProof.Rows
section
variable {prog : Program} {w : World} {A : Around} {E : Value → Shared → Prop} {s : Shared}
theorem entry_unchain : entryFor table "proto.unchain" = some Builtin.«proto.unchain» := entryFor_of_tree (by kernel_rfl)
theorem wp_unchain {e : Value} {ea : Addr} {Q : Value → Shared → Prop} (hc : NoCtx s.heap ea) (h : ∀ v, Q v s) : wpAny (model prog w) A (runValue (.builtin "proto.unchain" ⟨[e, .ref ea, .ref ea, .bool false], []⟩)) Q E s := by
  obtain ⟨o, vs, ho, hd, h2⟩ := hc
  refine wpAny_runValue (codeAny_builtin entry_unchain ?_)
  show wpAny _ _ (field (.ref ea) 2 >>= _) _ _ s
  refine wpAny_bind (wpAny_field ho hd h2 ?_)
  rw [if_pos (show (Value.none == Value.none) = true from rfl)]
  exact wpAny_pure (h _)
theorem wp_raiseMarked {α : Type} {x ea : Addr} {o : Obj} {vs : Array Value} {Q : α → Shared → Prop} (hh : A.handled = some (.ref ea)) (ne : x ≠ ea) (hc : NoCtx s.heap ea) (ho : s.heap.get? x = some o) (hd : o.data = .fields vs) (hz : 2 < vs.size)
    (h : E (.ref x) { s with heap := s.heap.update x (Obj.mapFields (·.setIfInBounds 2 (.ref ea))) }) : wpAny (model prog w) A (raiseNew (.ref x) : Sem α) Q E s := by
  unfold raiseNew
  refine wpAny_bind (wpAny_handled ?_)
  rw [hh]
  dsimp only
  rw [if_pos (show (Value.ref ea != Value.ref x) = true from by simp [bne, Ne.symm ne])]
  exact wpAny_bind (wpAny_holding (wp_unchain hc fun v => wpAny_bind (wpAny_setField (x := .ref ea) ho hd hz (wpAny_throw h))))
end
end L2
set_option Elab.async false
set_option linter.all false
set_option maxRecDepth 100000
namespace L2
open PySem PySem.Spec PyProof.Rows
section
variable {prog : Program} {w : World} {A : Around} {E : Value → Shared → Prop} {s : Shared}
theorem wp_stopM {α : Type} {ea : Addr} {Q : α → Shared → Prop} (hh : A.handled = some (.ref ea)) (hc : NoCtx s.heap ea)
    (h : ∀ x h', (∀ b o, s.heap.get? b = some o → h'.get? b = some o) → (∃ o, h'.get? x = some o ∧ o.cls = .type "StopIteration") → E (.ref x) { s with heap := h' }) :
    wpAny (model prog w) A (do raiseNew (← newExc (.type "StopIteration") []) : Sem α) Q E s := by
  refine wpAny_bind ?_
  simp only [newExc, newTuple]
  refine wpAny_bind (wpAny_newObj_type (wpAny_bind (m := firstArgMember _ _) (wpAny_of_eq (a := Value.none) (by first | rfl | (simp only [firstArgMember]; rfl)) (wpAny_newObj_type ?_ (by size_fits)))) (by size_fits))
  have k1 : ∀ b o, s.heap.get? b = some o → (s.heap.push { cls := Value.type "tuple", data := Data.seq #[] } : Heap).get? b = some o := fun b o e => Heap.get?_push_of_some _ e
  show wpAny _ _ (raiseNew (.ref (s.heap.push { cls := Value.type "tuple", data := Data.seq #[] } : Heap).objs.size)) Q E { s with heap := (s.heap.push { cls := Value.type "tuple", data := Data.seq #[] } : Heap).push _ }
  generalize (s.heap.push { cls := Value.type "tuple", data := Data.seq #[] } : Heap) = h1 at k1 ⊢
  obtain ⟨oe, vs, he, hd, h2⟩ := hc
  have lt : ∀ b o, s.heap.get? b = some o → b ≠ h1.objs.size := fun b o e => Nat.ne_of_lt (Heap.lt_size (k1 b o e))
  refine wp_raiseMarked hh (lt ea oe he).symm ⟨oe, vs, Heap.get?_push_of_some _ (k1 ea oe he), hd, h2⟩ (Heap.get?_push_size _ rfl) rfl (by simp only [Array.size_append]; exact Nat.lt_of_lt_of_le (by decide) (Nat.le_add_right 6 _)) (h _ _ (fun b o e => ?_) ?_)
  · rw [Heap.get?_update_other _ _ (lt b o e).symm]
    exact Heap.get?_push_of_some _ (k1 b o e)
  · exact ⟨_, Heap.get?_update_self _ (Heap.get?_push_size _ rfl) (Obj.isFreed_of_fields (Obj.data_mapFields rfl _)), rfl⟩
end
end L2
set_option Elab.async false
set_option linter.all false
set_option maxRecDepth 100000
namespace L2
open PySem PySem.Spec PyProof.Rows
section
variable {prog : Program} {w : World} {A : Around} {E : Value → Shared → Prop} {s : Shared}
theorem next_list_endM {it l ea : Addr} {i : Nat} {items : Array Value} {Q : Option Value → Shared → Prop} (hh : A.handled = some (.ref ea)) (hc : NoCtx s.heap ea) (ne : ea ≠ it)
    (hit : s.heap.IsListIter it l i) (hl : s.heap.IsList l items) (hx : items[i]? = none)
    (hQ : ∀ h', Heap.ExtBut it s.heap h' → Q none { s with heap := h' }) : wpAny (model prog w) A (pyNext (.ref it)) Q E s := by
  obtain ⟨oi, g1, _, g2⟩ := id hit
  obtain ⟨ol, g3, _, nl, g4⟩ := hl
  unfold pyNext
  refine wpAny_bind (wpAny_attempt (wpAny_callSpecial?_slot hit.typeIs (name := Str.ofString "__next__") slot_listiter_next (wpAny_call_entry slot_listiter_next hit.typeIs entry_listiter_next ?_ (args_listiter_next _))))
  refine wpAny_bind (m := field (.ref it) 0) (wpAny_field g1 g2 rfl (x := .ref l) ?_)
  rw [if_neg (show ¬ ((Value.ref l == Value.none) = true) from Bool.noConfusion)]
  refine wpAny_bind (m := field (.ref it) 1) (wpAny_field g1 g2 rfl (x := .int i 0) ?_)
  refine wpAny_bind (m := seqItems? (.ref l)) (wpAny_seqItems g3 g4 ?_)
  simp only [Int.toNat_natCast, hx]
  refine wpAny_bind (wpAny_rule (wpAny_bind (wpAny_setField g1 g2 (by simp) ?_)))
  have ob := Heap.SameBut.update (a := it) (h := s.heap) (f := Obj.mapFields (·.setIfInBounds 0 Value.none))
  show wpAny _ A.in1 (do raiseNew (← newExc (.type "StopIteration") []) : Sem _) _ _ _
  refine wp_stopM (show A.in1.handled = some (.ref ea) from hh) (hc.keeps fun o e => (ob.2 ea ne).trans e) fun x h' kp ⟨ox, ex, cx⟩ => ?_
  refine wpAny_bind (wpAny_isInstance ⟨ox, ex, cx⟩ isSubtype_stop (T := "StopIteration") (b := true) ?_)
  exact wpAny_pure (hQ h' fun b o hb e => kp b o ((ob.2 b hb).trans e))
end
end L2
set_option Elab.async false
set_option linter.all false
set_option maxRecDepth 100000
namespace L2
open PySem PySem.Spec PyProof.Rows
section
variable {prog : Program} {w : World} {A : Around} {E : Value → Shared → Prop} {s : Shared}
theorem next_tuple_endM {it t ea : Addr} {i : Nat} {items : Array Value} {Q : Option Value → Shared → Prop} (hh : A.handled = some (.ref ea)) (hc : NoCtx s.heap ea) (ne : ea ≠ it)
    (hit : IsTupIter s.heap it t i) (ht : IsTup s.heap t items) (hx : items[i]? = none)
    (hQ : ∀ h', Heap.ExtBut it s.heap h' → Q none { s with heap := h' }) : wpAny (model prog w) A (pyNext (.ref it)) Q E s := by
  obtain ⟨oi, g1, _, g2⟩ := id hit
  obtain ⟨ol, g3, _, nl, g4⟩ := ht
  unfold pyNext
  refine wpAny_bind (wpAny_attempt (wpAny_callSpecial?_slot hit.typeIs (name := Str.ofString "__next__") slot_tupleiter_next (wpAny_call_entry slot_tupleiter_next hit.typeIs entry_tupleiter_next ?_ (args_tupleiter_next _))))
  refine wpAny_bind (m := field (.ref it) 0) (wpAny_field g1 g2 rfl (x := .ref t) ?_)
  rw [if_neg (show ¬ ((Value.ref t == Value.none) = true) from Bool.noConfusion)]
  refine wpAny_bind (m := field (.ref it) 1) (wpAny_field g1 g2 rfl (x := .int i 0) ?_)
  refine wpAny_bind (m := seqItems? (.ref t)) (wpAny_seqItems g3 g4 ?_)
  simp only [Int.toNat_natCast, hx]
  refine wpAny_bind (wpAny_rule (wpAny_bind (wpAny_setField g1 g2 (by simp) ?_)))
  have ob := Heap.SameBut.update (a := it) (h := s.heap) (f := Obj.mapFields (·.setIfInBounds 0 Value.none))
  show wpAny _ A.in1 (do raiseNew (← newExc (.type "StopIteration") []) : Sem _) _ _ _
  refine wp_stopM (show A.in1.handled = some (.ref ea) from hh) (hc.keeps fun o e => (ob.2 ea ne).trans e) fun x h' kp ⟨ox, ex, cx⟩ => ?_
  refine wpAny_bind (wpAny_isInstance ⟨ox, ex, cx⟩ isSubtype_stop (T := "StopIteration") (b := true) ?_)
  exact wpAny_pure (hQ h' fun b o hb e => kp b o ((ob.2 b hb).trans e))
theorem assign_TupleM {env : Env} {elts : List Expr} {k : Nat} {pos : Pos} {t ea : Addr} {items : Array Value} {Q : Unit → Shared → Prop} (hh : A.handled = some (.ref ea)) (hc : NoCtx s.heap ea) (ht : IsTup s.heap t items)
    (hn : (assignEach elts env).length = items.size) (hstar : (assignEach elts env).findIdx? (·.1) = none)
    (h : ∀ h', Heap.ExtBut s.heap.objs.size s.heap h' → wpAny (model prog w) A (assignInOrder ((assignEach elts env).map (·.2)) items.toList) Q E { s with heap := h' }) :
    wpAny (model prog w) A (assign (.Tuple elts k pos) env (.ref t)) Q E s := by
  have lt : t ≠ s.heap.objs.size := by obtain ⟨o, ho, _⟩ := ht; exact Nat.ne_of_lt (Heap.lt_size ho)
  have lte : ea ≠ s.heap.objs.size := by obtain ⟨o, _, ho, _⟩ := hc; exact Nat.ne_of_lt (Heap.lt_size ho)
  rw [assign_Tuple]
  refine wpAny_bind (wpAny_standAt ?_)
  unfold unpack
  rw [hn, hstar]
  refine wpAny_bind (wpAny_holding ?_)
  unfold unpackItems notIterableAtAll
  refine wpAny_bind (wpAny_bind (wpAny_specialOf ht.typeIs slot_tuple_iter.lookup (wpAny_pure ?_)))
  simp only [Bool.false_eq_true, if_false]
  refine wpAny_bind (wpAny_holding (iter_tuple ht (wpAny_bind (wpAny_holding (draw_tuple lt items.size 0 _ _ ⟨_, Heap.get?_push_size _ rfl, rfl, rfl⟩ (ht.push _) (by omega) fun h1 it1 sb => ?_)))))
  rw [List.drop_zero, List.take_of_length_le (by simp), if_neg (by simp)]
  have c1 : NoCtx h1 ea := hc.keeps fun o e => (sb.2 ea lte).trans (Heap.get?_push_of_some _ e)
  refine wpAny_bind (wpAny_holding (next_tuple_endM hh c1 lte it1 ((ht.push _).extBut sb.extBut lt) (by simp) fun h2 e2 => ?_))
  simp only [Option.isSome_none, Bool.false_eq_true, if_false]
  exact wpAny_pure (h h2 fun b o hb e => e2 b o hb (sb.extBut b o hb (Heap.get?_push_of_some _ e)))
end
end L2
set_option Elab.async false
set_option linter.all false
set_option maxRecDepth 100000
namespace L2
open PySem PySem.Spec PyProof.Rows C5
section
variable {X : Cx} {Ec : XK}
end
section
variable {M : Model} {A : Around} {E : Value → Shared → Prop} {s : Shared} {B : Heap} {env : Env} {outer : List Env} {L ea : Addr} {cls a0 fl : Value} {Q : Unit → Shared → Prop}
end
section
variable {P : Program} {w : World} {K : PySem.W.Frag} {mg : Str → Option Value} {base : Heap} {N : List Str} {qual : Str} {scope : Scope} {f : Addr} {cd : Value} {A : Around} {outer : List Env} {s₀ : Shared} {H₀ : Hp} {E : XK}
end
end L2
set_option Elab.async false
set_option linter.all false
set_option maxRecDepth 100000
namespace C5
open PySem
section
variable {prog : Program} {w : World} {A : Around} {R : Result → Shared → Prop} {s : Shared}
end
end C5
namespace L2
open PySem PySem.Spec PyProof.Rows C5
section
variable {X : Cx} {pins : List (Addr × Obj)} {σ : St} {H : Hp} {s : Shared} {sc : Scope} {N : List Str} {src : List (Option Nat)}
end
end L2
set_option Elab.async false
set_option linter.all false
set_option maxRecDepth 100000
namespace L2
open PySem PySem.Spec PyProof.Rows
noncomputable def g2 (K : PySem.W.Frag) (k1 k2 : Nat) : TG := gTup K 2 (gCons (gName k1) (gCons (gName k2) gNil))
section
variable {K : PySem.W.Frag} {H : Hp} {k1 k2 : Nat}
noncomputable def enumL (xs : List V) : List (V × V) := (List.range xs.length).map fun (i : Nat) => (V.int (i : Int), xs.getD i .non)
end
end L2
set_option Elab.async false
set_option linter.all false
set_option maxRecDepth 100000
namespace PySem
open Sem (wp)
open AutoSeq1 (wpAny_loadPart')
section
variable {prog : Program} {w : World} {A : Around} {E : Value → Shared → Prop} {s : Shared}
end
section
variable {prog : Program} {w : World} {A : Around} {E : Value → Shared → Prop} {s : Shared}
end
section
variable {prog : Program} {w : World} {A : Around} {E : Value → Shared → Prop} {s : Shared}
end
end PySem
namespace L2
open PySem PySem.Spec PyProof.Rows
section
variable {X : Cx}
end
section
variable {K : PySem.W.Frag} {H : Hp} {k1 k2 : Nat}
theorem Same.seqT {K : PySem.W.Frag} {H H' : Hp} {a : Addr} {xs : List V} (e : Same H H') (h : SqT K H a xs) : SqT K H' a xs := by
  rcases h with (h | ⟨o, h⟩) | h
  · exact .inl (.inl (e _ _ h))
  · exact .inl (.inr ⟨o, e _ _ h⟩)
  · exact .inr h
end
end L2
set_option Elab.async false
set_option linter.all false
set_option maxRecDepth 100000
namespace L2
open PySem PySem.Spec PyProof.Rows
noncomputable def Hd (H : Hp) (ea : Addr) : Prop := ∃ C, H ea = some (ExcO ea C)
theorem Hd.mono {H H' : Hp} {ea : Addr} (h : Hd H ea) (s : Same H H') : Hd H' ea := by
  obtain ⟨C, e⟩ := h
  exact ⟨C, s _ _ e⟩
theorem Inv.noctx {X : Cx} {pins : List (Addr × Obj)} {σ : St} {H : Hp} {s : Shared} {ea : Addr} (I : Inv X pins σ H s) (h : Hd H ea) : NoCtx s.heap ea := by
  obtain ⟨C, e⟩ := h
  obtain ⟨⟨o, vs, p1, _, p3, p4⟩, _⟩ := (show ObjOk X.prog X.w H s.heap ea (ExcO ea C) from I.hok ea _ e)
  exact ⟨o, vs, p1, p3, p4⟩
noncomputable abbrev Marked (ea : Addr) : Cx → Prop := fun X => X.A.handled = some (.ref ea)
noncomputable def ItlM (K : PySem.W.Frag) (a ea : Addr) : It := ⟨(Itl K a).go, (Itl K a).yld, fun i H => (Itl K a).stop i H ∧ Hd H ea⟩
theorem turn_listM {P : Program} {w : World} {K : PySem.W.Frag} {tg : Expr} {ea : Addr} (a it : Addr) : TurnG (Marked ea) P w K tg (ItlM K a ea) [it] it (fun i h => h.IsListIter it a i) where
  mem := List.mem_singleton.mpr rfl
  obj := fun i h st b hb => by
    rw [List.mem_singleton.mp hb]
    obtain ⟨o, e, _, d⟩ := st
    exact ⟨o, e, fun v z => by rw [d] at z; cases z⟩
  keep := fun i h h' st k => st.at fun o e => k it (List.mem_singleton.mpr rfl) o e
  item := by
    rintro X rfl rfl rfl hc i pins s σ H E I hf st ⟨xs, x, hq, hx⟩
    obtain ⟨its, rv, p, _⟩ := I.list hq
    obtain ⟨u, hu, ru⟩ := rv.get hx
    obtain ⟨f0, f1, f2, f3, f4, f5⟩ := hf it (List.mem_singleton.mpr rfl)
    refine wpAny_pyNext_list_item st p.isList (x := u) (by simpa using hu) fun h' st' sb => ⟨u, rfl, ?_⟩
    have J : Inv X pins σ H { s with heap := h' } := I.turned (t' := s.toks) (fun b o hb e => (sb.2 b hb).trans e) f0 f1 f3 f4 f5
    obtain ⟨o, e, c, d⟩ := id st'
    exact go_of (s := { s with heap := h' }) e c d (by decide) ⟨x, H, J, ru, ⟨rfl, fun ys hy => by rw [I.list_inj hy hq]; exact hx⟩, st', fun b hb => (hf b hb).1⟩
  done := by
    rintro X rfl rfl rfl hc i pins s σ H E I hf st ⟨⟨xs, hq, hx⟩, he⟩
    obtain ⟨its, rv, p, _⟩ := I.list hq
    obtain ⟨f0, f1, f2, f3, f4, f5⟩ := hf it (List.mem_singleton.mpr rfl)
    have hl := rv.length
    obtain ⟨C, e⟩ := id he
    exact next_list_endM hc (I.noctx he) (ne_of_none e f0) st p.isList (by simp; omega) fun h' eb => ⟨rfl, I.turned (t' := s.toks) (fun b o hb e => eb b o hb e) f0 f1 f3 f4 f5⟩
  self := fun _ _ _ _ _ st h => wpAny_pyIter_listiter st h
noncomputable def iListM (K : PySem.W.Frag) (ea : Addr) (tl : TE) : TI := fun σ H R => tl σ H fun x H1 => ∃ a, x = .ref a ∧ (∃ xs, SqL K H1 a xs) ∧ R (ItlM K a ea) H1
section
variable {X : Cx} {ea : Addr}
theorem pi_listM {tg l : Expr} {tl : TE} (K : PySem.W.Frag) (hK : X.K = K) (hl : PE X l tl) : PIG (Marked ea) X tg l (iListM K ea tl) := by
  subst hK
  intro pins s σ H R I h
  refine thn (hl pins s σ H _ I h) fun v s1 ⟨x, H1, J, r1, a, e, ⟨xs, hq⟩, q⟩ => ?_
  subst e
  cases r1
  obtain ⟨its, rv, p, _⟩ := J.list hq
  refine wpAny_pyIter_list p.isList ⟨s1.heap.objs.size, [s1.heap.objs.size], _, _, H1, rfl, J.kept (t' := s1.toks) fun b o e => Heap.get?_push_of_some _ e, turn_listM a _, ⟨_, Heap.get?_push_size _ rfl, rfl, rfl⟩, fun b hb => ?_, q⟩
  rw [List.mem_singleton.mp hb]
  exact J.fpOk (Nat.le_refl _) (J.hok.fresh (Nat.le_refl _))
noncomputable def gTupM (K : PySem.W.Frag) (ea : Addr) (n : Nat) (t : TGs) : TG := fun v σ H Q => Hd H ea ∧ gTup K n t v σ H Q
theorem pg_tupM {es : List Expr} {k n : Nat} {pos : Pos} {t : TGs} (K : PySem.W.Frag) (hK : X.K = K) (hc : Marked ea X) (h : PGs X es t) (hn : (assignEach es X.env).length = n := by rfl) (hst : (assignEach es X.env).findIdx? (·.1) = none := by rfl) : PG X (.Tuple es k pos) (gTupM K ea n t) := by
  subst hK
  intro pins s σ H v u Q I r ⟨he, a, xs, e1, hq, hl, hw⟩
  subst e1
  cases r
  obtain ⟨its, rv, ht, _⟩ := I.tuple hq
  refine assign_TupleM hc (I.noctx he) ht (by simp [hn, ← hl, rv.length]) hst fun h' hx => ?_
  exact h pins _ σ H xs _ Q (I.kept (t' := s.toks) fun b o e => hx b o (Nat.ne_of_lt (Heap.lt_size e)) e) (by simpa using rv) hw
end
theorem comp_word {K : PySem.W.Frag} {a ea D : Addr} {L : List (Addr × Str × Bool)} {σ0 : St} {H : Hp} {Fn : Hp → Prop} (hS : SqL K H a (L.map fun t => V.ref t.1)) (hT : ∀ t ∈ L, SqT K H t.1 [.str t.2.1, .bl t.2.2]) (hE : Hd H ea) (hn : L.length ≤ sizeLine) (h2 : σ0.length = 2) (hD : H D = none)
    (hd : ∀ H', Same H H' → H' D = some (.lst ((L.filter fun t => t.2.2).map fun t => V.str t.2.1)) → Fn H') :
    ∃ W : Nat → Nat → St → Hp → Prop, (∃ m, W 0 m σ0 (upd H D (.lst []))) ∧ ∀ i m σ' H', W i m σ' H' →
      ((ItlM K a ea).stop i H' ∧ Fn H') ∨ ((ItlM K a ea).go i H' ∧ ∃ N : St → Hp → Prop, (∀ σ2 H2, N σ2 H2 → ∃ m', m' < m ∧ W (i + 1) m' σ2 H2) ∧ ∀ x H2, (ItlM K a ea).yld i H' x H2 → gTupM K ea 2 (gCons (gName 0) (gCons (gName 1) gNil)) x σ' H2 fun σ3 H3 => tB (tVar 1) σ3 H3 fun b H4 =>
        if b = true then tVar 0 σ3 H4 fun v H5 => ∃ xs, H5 D = some (.lst xs) ∧ xs.length < sizeLine ∧ N σ3 (upd H5 D (.lst (xs ++ [v]))) else N σ3 H4) := by
  refine ⟨fun i m σ' H' => m = L.length - i ∧ i ≤ L.length ∧ σ'.length = 2 ∧ Same H H' ∧ H' D = some (.lst (((L.take i).filter fun t => t.2.2).map fun t => V.str t.2.1)), ⟨L.length, rfl, Nat.zero_le _, h2, same_new hD, by rw [upd_same]; rfl⟩, ?_⟩
  rintro i m σ' H' ⟨rfl, hi, hσ, sm, hH⟩
  by_cases hlt : i < L.length
  · have hx : L[i]? = some L[i] := List.getElem?_eq_getElem hlt
    have hx' : (L.map fun t => V.ref t.1)[i]? = some (.ref L[i].1) := by rw [List.getElem?_map, hx]; rfl
    have hS' := sm.seq hS
    refine .inr ⟨⟨_, _, hS', hx'⟩, fun σ2 H2 => σ2.length = 2 ∧ Same H H2 ∧ H2 D = some (.lst (((L.take (i + 1)).filter fun t => t.2.2).map fun t => V.str t.2.1)), fun σ2 H2 ⟨q1, q2, q3⟩ => ⟨L.length - (i + 1), by omega, rfl, hlt, q1, q2, q3⟩, ?_⟩
    rintro x H2 ⟨rfl, hy⟩
    have e := hy _ hS'
    rw [hx'] at e
    cases e
    have tk : (L.take (i + 1)).filter (fun t => t.2.2) = (L.take i).filter (fun t => t.2.2) ++ [L[i]].filter fun t => t.2.2 := by rw [List.take_succ_eq_append_getElem hlt, List.filter_append]
    obtain ⟨v0, v1, rfl⟩ : ∃ v0 v1, σ' = [v0, v1] := by
      match σ', hσ with
      | [a, b], _ => exact ⟨a, b, rfl⟩
    refine ⟨hE.mono sm, _, _, rfl, sm.seqT (hT _ (List.getElem_mem hlt)), rfl, _, _, rfl, _, _, rfl, rfl, _, rfl, _, rfl, ?_⟩
    have lf : ((L.take i).filter fun t => t.2.2).length ≤ i := Nat.le_trans (List.length_filter_le _ _) (by rw [List.length_take]; omega)
    cases hb : L[i].2.2 with
    | false =>
      refine iteF ?_
      refine ⟨rfl, sm, ?_⟩
      rw [tk, List.filter_cons_of_neg (by simp [hb]), List.filter_nil, List.append_nil]
      exact hH
    | true =>
      refine iteT ?_
      refine ⟨_, rfl, _, hH, by rw [List.length_map]; omega, rfl, same_upd sm hD, ?_⟩
      rw [upd_same, tk, List.filter_cons_of_pos (by simp [hb]), List.filter_nil, List.map_append]
      rfl
  · have e : i = L.length := by omega
    subst e
    rw [List.take_length] at hH
    exact .inl ⟨⟨⟨_, sm.seq hS, by rw [List.length_map]; exact Nat.le_refl _⟩, hE.mono sm⟩, hd H' sm hH⟩
end L2
set_option Elab.async false
set_option linter.all false
set_option maxRecDepth 100000
namespace L2
open PySem PySem.Spec PyProof.Rows
end L2
set_option Elab.async false
set_option linter.all false
set_option maxRecDepth 100000
namespace L2
open PySem PySem.Spec PyProof.Rows
noncomputable def Its (x : Str) : It := ⟨fun i _ => i < x.cps.size, fun i H v H' => H' = H ∧ ∃ c, x.cps[i]? = some c ∧ v = .str ⟨#[c]⟩, fun i _ => i = x.cps.size⟩
noncomputable def signsOf (x : Str) : List V := x.cps.toList.map fun c => .str ⟨#[c]⟩
theorem turn_str {P : Program} {w : World} {K : PySem.W.Frag} {tg : Expr} (it : Addr) (x : Str) (t : Tok) {ty : String} (hty : ty = "str_ascii_iterator" ∨ ty = "str_iterator") : Turn P w K tg (Its x) [it] it (fun i h => h.IsStrIter it ty x t i) where
  mem := List.mem_singleton.mpr rfl
  obj := fun i h st b hb => by
    cases List.mem_singleton.mp hb
    obtain ⟨o, e, _, d⟩ := st
    exact ⟨o, e, fun v z => by rw [d] at z; cases z⟩
  keep := fun i h h' st k => let ⟨o, e, r⟩ := st; ⟨o, k it (List.mem_singleton.mpr rfl) o e, r⟩
  item := by
    intro X hP hw hK hc i pins s σ H E I hf st hg
    subst hP hw hK
    obtain ⟨f0, f1, f2, f3, f4, f5⟩ := hf it (List.mem_singleton.mpr rfl)
    rcases hty with rfl | rfl
    · refine (Walks.strAscii (prog := X.prog) (w := X.w) (I.ok.hd hc) it x t).item i s _ _ hg st fun v h' tk hv st' kk => ?_
      obtain ⟨c, u, e, rfl⟩ := hv
      obtain ⟨o, eo, co, dd⟩ := id st'
      exact ⟨_, rfl, go_of (s := { s with heap := h', toks := tk }) eo co dd (by decide) ⟨.str ⟨#[c]⟩, H, I.turned (fun b o hb e => kk b o (by simpa using hb) e) f0 f1 f3 f4 f5, ⟨u, rfl⟩, ⟨rfl, c, e, rfl⟩, st', fun b hb => (hf b hb).1⟩⟩
    · refine (Walks.strWide (prog := X.prog) (w := X.w) (I.ok.hd hc) it x t).item i s _ _ hg st fun v h' tk hv st' kk => ?_
      obtain ⟨c, u, e, rfl⟩ := hv
      obtain ⟨o, eo, co, dd⟩ := id st'
      exact ⟨_, rfl, go_of (s := { s with heap := h', toks := tk }) eo co dd (by decide) ⟨.str ⟨#[c]⟩, H, I.turned (fun b o hb e => kk b o (by simpa using hb) e) f0 f1 f3 f4 f5, ⟨u, rfl⟩, ⟨rfl, c, e, rfl⟩, st', fun b hb => (hf b hb).1⟩⟩
  done := by
    intro X hP hw hK hc i pins s σ H E I hf st hg
    subst hP hw hK
    obtain ⟨f0, f1, f2, f3, f4, f5⟩ := hf it (List.mem_singleton.mpr rfl)
    cases (show i = x.cps.size from hg)
    rcases hty with rfl | rfl
    · exact (Walks.strAscii (prog := X.prog) (w := X.w) (I.ok.hd hc) it x t).done s _ _ st fun h' tk kk => ⟨rfl, I.turned (fun b o hb e => kk b o (by simpa using hb) e) f0 f1 f3 f4 f5⟩
    · exact (Walks.strWide (prog := X.prog) (w := X.w) (I.ok.hd hc) it x t).done s _ _ st fun h' tk kk => ⟨rfl, I.turned (fun b o hb e => kk b o (by simpa using hb) e) f0 f1 f3 f4 f5⟩
  self := fun _ _ _ _ _ st h => by
    rcases hty with rfl | rfl
    · exact wpAny_pyIter_striter_ascii st h
    · exact wpAny_pyIter_striter_wide st h
noncomputable def iStr (tl : TE) : TI := fun σ H R => tl σ H fun v H1 => ∃ x, v = .str x ∧ R (Its x) H1
section
variable {X : Cx} {tg : Expr}
theorem pi_str {l : Expr} {tl : TE} (hl : PE X l tl) : PI X tg l (iStr tl) := by
  intro pins s σ H R I h
  refine thn (hl pins s σ H _ I h) fun v s1 ⟨y, H1, I1, r1, x, e, q⟩ => ?_
  subst e
  obtain ⟨t, rfl⟩ := r1
  refine wpAny_pyIter_strU ?_
  refine ⟨s1.heap.objs.size, [s1.heap.objs.size], _, Its x, H1, rfl, I1.revd, turn_str (ty := strIterType x) _ x t ?_, ⟨_, Heap.get?_push_size _ rfl, rfl, rfl⟩, fun b hb => ?_, q⟩
  · unfold strIterType
    by_cases ha : x.cps.all (· < 128) = true
    · exact .inl (by simp [ha])
    · exact .inr (by simp [ha])
  · cases List.mem_singleton.mp hb
    exact I1.fpOk (Nat.le_refl _) (I1.hok.fresh (Nat.le_refl _))
end
theorem for_str {x : Str} {g : TG} {tb : TS} {D : Ends} {σ : St} {H : Hp} (Pv : Nat → St → Hp → Prop) (h0 : Pv 0 σ H)
    (hs : ∀ i c σ H, x.cps.toList[i]? = some c → Pv i σ H → g (.str ⟨#[c]⟩) σ H fun σ2 H2 => tb { D with nx := Pv (i + 1), ct := Pv (i + 1), bk := D.nx } σ2 H2) (hd : ∀ σ H, Pv x.cps.size σ H → D.nx σ H) :
    ∃ W : Nat → Nat → St → Hp → Prop, (∃ m, W 0 m σ H) ∧ ∀ i m σ H, W i m σ H →
      ((Its x).stop i H ∧ D.nx σ H) ∨ ((Its x).go i H ∧ ∃ N : St → Hp → Prop, (∀ σ' H', N σ' H' → ∃ m', m' < m ∧ W (i + 1) m' σ' H') ∧ ∀ v H', (Its x).yld i H v H' → g v σ H' fun σ2 H2 => tb { D with nx := N, ct := N, bk := D.nx } σ2 H2) := by
  refine ⟨fun i m σ H => m = x.cps.size - i ∧ i ≤ x.cps.size ∧ Pv i σ H, ⟨x.cps.size, by simp, Nat.zero_le _, h0⟩, ?_⟩
  rintro i m σ H ⟨rfl, hi, p⟩
  by_cases hlt : i < x.cps.size
  · refine .inr ⟨hlt, Pv (i + 1), fun σ' H' p' => ⟨x.cps.size - (i + 1), by omega, rfl, hlt, p'⟩, fun v H' y => ?_⟩
    obtain ⟨rfl, c, hc, rfl⟩ := y
    exact hs i c σ H' (by rw [Array.getElem?_toList]; exact hc) p
  · have e : i = x.cps.size := by omega
    subst e
    exact .inl ⟨rfl, hd σ H p⟩
section
variable {X : Cx}
noncomputable def rFind : V → List V → Hp → VK → Prop := fun x vs H Q => ∃ a b, x = .str a ∧ vs = [.str b] ∧ Q (.int (Txt.find a b)) H
theorem mt_find : MtR X "str.find" rFind := by
  intro pins s σ H x vs v us Q I rx rv h
  obtain ⟨a, b, rfl, rfl, q⟩ := h
  obtain ⟨t, rfl⟩ := rx
  obtain ⟨u, rfl, t2, rfl⟩ := rv.one
  exact SC.find ⟨.int _, H, I.tok _, ⟨_, rfl⟩, q⟩
noncomputable def rIndexS : V → List V → Hp → VK → Prop := fun x vs H Q => ∃ a b, x = .str a ∧ vs = [.str b] ∧ (Builtin.Str.occurrences a b 0 a.length 1).isEmpty = false ∧ Q (.int (Txt.find a b)) H
theorem mt_indexS : MtR X "str.index" rIndexS := by
  intro pins s σ H x vs v us Q I rx rv h
  obtain ⟨a, b, rfl, rfl, hne, q⟩ := h
  obtain ⟨t, rfl⟩ := rx
  obtain ⟨u, rfl, t2, rfl⟩ := rv.one
  cases ho : Builtin.Str.occurrences a b 0 a.length 1 with
  | nil => rw [ho] at hne; cases hne
  | cons i rest =>
    have e : Txt.find a b = (i : Int) := by simp [Txt.find, ho]
    rw [e] at q
    exact SC.index ho ⟨.int _, H, I.tok _, ⟨_, rfl⟩, q⟩
theorem strsAre_of : ∀ {ys : List Str} {us : List Value}, Vals (ys.map V.str) us → StrsAre us ys
  | [], _, .nil => .nil
  | y :: ys, _, .cons r t => by
    obtain ⟨tk, rfl⟩ := r
    exact .cons y tk (strsAre_of t)
noncomputable def rJoin (K : PySem.W.Frag) : V → List V → Hp → VK → Prop := fun x vs H Q => ∃ a p ys, x = .str a ∧ vs = [.ref p] ∧ SqL K H p (ys.map V.str) ∧ (ys.map (·.length)).sum + ys.length * a.length ≤ 16777216 ∧ Q (.str (Txt.join a ys)) H
theorem mt_joinK (K : PySem.W.Frag) (hK : X.K = K) : MtR X "str.join" (rJoin K) := by
  subst hK
  intro pins s σ H x vs v us Q I rx rv h
  obtain ⟨a, p, ys, rfl, rfl, hp, hz, q⟩ := h
  obtain ⟨t, rfl⟩ := rx
  obtain ⟨u, rfl, ru⟩ := rv.one
  cases ru
  obtain ⟨its, r, pl, _⟩ := I.list hp
  exact join_list pl.isList (ys := ys) (by simpa using strsAre_of r) hz fun t' k => ⟨.str _, H, I.tok _, ⟨_, rfl⟩, q⟩
noncomputable def rSlS : V → Option Int → Option Int → Hp → VK → Prop := fun x lo hi H Q => ∃ z, x = .str z ∧ z.length ≤ sizeLine ∧ Q (.str (Txt.slice z lo hi)) H
theorem sl_str : SlR X rSlS := by
  intro pins s σ H x v vl vu lo hi sl Q I rx hs pl pu h
  obtain ⟨z, rfl, hz, q⟩ := h
  obtain ⟨t, rfl⟩ := rx
  refine ⟨"str", _, F.slot_str_getitem.lookup, typeIs_str _ _ _, ?_⟩
  have fin : ∀ t' k, EP X pins σ Q (.str (Txt.slice z lo hi) t') { s with toks := k } := fun t' k => ⟨.str _, H, I.tok _, ⟨_, rfl⟩, q⟩
  cases pl with
  | none =>
    cases pu with
    | none => exact wpAny_getItem_str_slice (l := none) (u := none) (st := none) hs rfl (post_val_or_str ⟨Nat.le_trans (Txt.slice_le z _ _) hz, fin⟩)
    | int j tj => exact wpAny_getItem_str_slice (l := none) (u := some (j, tj)) (st := none) hs rfl (post_val_or_str ⟨Nat.le_trans (Txt.slice_le z _ _) hz, fin⟩)
  | int i ti =>
    cases pu with
    | none => exact wpAny_getItem_str_slice (l := some (i, ti)) (u := none) (st := none) hs rfl (post_val_or_str ⟨Nat.le_trans (Txt.slice_le z _ _) hz, fin⟩)
    | int j tj => exact wpAny_getItem_str_slice (l := some (i, ti)) (u := some (j, tj)) (st := none) hs rfl (post_val_or_str ⟨Nat.le_trans (Txt.slice_le z _ _) hz, fin⟩)
end
end L2
namespace L2
open PySem
end L2
namespace L2
open PySem PySem.Spec PyProof.Rows
theorem pe_bmK {X : Cx} {T : String} {name : Str} {id : String} {r : V → List V → Hp → VK → Prop} {o e : Expr} {es : List Expr} {to : TE} {t : TA} {apos cpos : Pos} (K : PySem.W.Frag) (hK : X.K = K) (pa : PlainAttrs T) (slot : Slot T name id) (hty : typeOf (.builtin id) = pure (.type "method_descriptor")) (hm : MtR X id r) (ho : PE X o to) (ha : PA X (e :: es) t)
    (hbase : attributeBase o name X.env (eval o X.env) = eval o X.env := by rfl)
    (hfew : ((backTo cpos (starEach (e :: es) X.env)).all (fun x => !x.1) && (backToKw cpos (keywordEach [] X.env)).all (fun x => x.1.isSome) && decide ((e :: es).length + ([] : List Keyword).length + (if ([] : List Keyword).isEmpty then 0 else 1) < 30)) = true := by rfl)
    (hline : (apos.endLine == cpos.line) = true := by rfl) (hs : starEach (e :: es) X.env = (false, eval e X.env) :: starEach es X.env := by rfl) (hplain : (backTo cpos (starEach es X.env)).any (·.1) = false := by rfl) :
    PE X (.Call (.Attribute o name apos) (e :: es) [] cpos) (tBM K T r to t) := by
  subst hK; exact pe_bm pa slot hty hm ho ha hbase hfew hline hs hplain
end L2
set_option Elab.async false
set_option linter.all false
set_option maxRecDepth 100000
namespace L2
open PySem PySem.Spec PyProof.Rows
section
variable {X : Cx}
end
end L2
set_option Elab.async false
set_option linter.all false
set_option maxRecDepth 100000
namespace L2
open PySem PySem.Spec PyProof.Rows
noncomputable def isT (H : Hp) : V → Bool
  | .ref a => match H a with
    | some (.tup _) => true
    | _ => false
  | _ => false
section
variable {K : PySem.W.Frag}
theorem k_nt : PySem.W.kitOne K (.type "NoneType") (.type "tuple") = some false := by kernel_rfl
theorem k_bt : PySem.W.kitOne K (.type "bool") (.type "tuple") = some false := by kernel_rfl
theorem k_it : PySem.W.kitOne K (.type "int") (.type "tuple") = some false := by kernel_rfl
theorem k_st : PySem.W.kitOne K (.type "str") (.type "tuple") = some false := by kernel_rfl
theorem k_lt : PySem.W.kitOne K (.type "list") (.type "tuple") = some false := by kernel_rfl
theorem k_tt : PySem.W.kitOne K (.type "tuple") (.type "tuple") = some true := by kernel_rfl
theorem k_dt : PySem.W.kitOne K (.type "dict") (.type "tuple") = some false := by kernel_rfl
variable {H : Hp} {x : V}
theorem Kd.isTuple (k : Kd K H x) : IsX K H x (.type "tuple") (isT H x) := by
  cases k with
  | non => exact ⟨_, .of .non, k_nt⟩
  | bl b => exact ⟨_, .of (.bl b), k_bt⟩
  | int i => exact ⟨_, .of (.int i), k_it⟩
  | str y => exact ⟨_, .of (.str y), k_st⟩
  | lst e => refine ⟨_, .of (.lst e), ?_⟩; simp only [isT, e]; exact k_lt
  | tup e => refine ⟨_, .of (.tup e), ?_⟩; simp only [isT, e]; exact k_tt
  | dict e => refine ⟨_, .dict e, ?_⟩; simp only [isT, e, DictO]; exact k_dt
end
section
variable {X : Cx}
end
end L2
set_option Elab.async false
set_option linter.all false
set_option maxRecDepth 100000
namespace L2
open PySem PySem.Spec PyProof.Rows
structure DefA (P : Program) (w : World) (K : PySem.W.Frag) (mg : Str → Option Value) (base : Heap) (k : Nat) (f : Addr) (ps : List Str) (ds : List V) (sp : Sp) : Prop where
  ex : ∃ (fd : FuncData) (dvs : List Value), FnOk P w K mg base CX0 k f fd ps sp ∧ PySem.W.keepIn K (.ref f) = true ∧ Binds K fd ps dvs ∧ Vals ds dvs
section
variable {P : Program} {w : World} {K : PySem.W.Frag} {mg : Str → Option Value} {base : Heap}
theorem FunD.defA {x qual : Str} {st : Stmt} {f : Addr} {fd : FuncData} {ps : List Str} {k : Nat} {sp : Sp} (F : FunD K x qual st .none f fd) (G : FnOk P w K mg base CX0 k f fd ps sp)
    (h : ∀ (kV doc pm : Value) (an : Option Addr) (cdv ct : Value) (us : List Value), us.length = ps.length → bindArgs (PySem.W.fnOf x qual (defArgs st) (defBody st) (defScope st) .none kV doc pm an cdv ct) ⟨us, []⟩ = pure (ps.zip us)) : DefA P w K mg base k f ps [] sp := by
  obtain ⟨oc, od, kV, doc, pm, an, cdv, ct, osl, rfl, lk, hcd⟩ := F.ex
  exact ⟨_, [], G, F.kp, .all (h kV doc pm an cdv ct), .nil⟩
end
section
variable {X : Cx}
theorem ld_var {E : Value → Shared → Prop} {pins : List (Addr × Obj)} {s : Shared} {σ : St} {H : Hp} {i : Nat} {x : Str} {v : V} {pos : Pos} {Q : Value → Shared → Prop} (I : Inv X pins σ H s) (hN : X.N[i]? = some x) (hv : Vis X.env.scope x) (e : σ[i]? = some (some v)) (h : ∀ u, RelV v u → Q u s)
    (hd : (x == ("__debug__" : Str)) = false := by decide) (hcd : (x == ("__classdict__" : Str)) = false := by decide) : wpAny (model X.prog X.w) X.A (eval (.Name x pos) X.env) Q E s := by
  obtain ⟨m, hn, hl⟩ := I.loc
  obtain ⟨u, r, l⟩ := hl i x v hN e hv
  have fin := h u r
  rcases l with ⟨hk, hm⟩ | ⟨hk, c, hc, hcell⟩
  · exact wpAny_Name (wpAny_loadName_local I.ok.kind hk hn hm fin) hd
  · rcases hk with hk | hk
    · exact wpAny_Name (wpAny_loadName_cell I.ok.kind hk hc hcell fin) hd
    · exact wpAny_Name (wpAny_loadName_free I.ok.kind hk hc hcell fin hcd) hd
noncomputable def tCallV (i : Nat) (f : Addr) (sp : Sp) (dvs : List V) (E : XK) (t : TA) : TE := fun σ H Q => σ[i]? = some (some (.ref f)) ∧ tCall sp dvs E t σ H Q
theorem pe_callV (i : Nat) {k : Nat} {x : Str} {f : Addr} {ps : List Str} {ds : List V} {sp : Sp} {e : Expr} {es : List Expr} {t : TA} {p pos : Pos} (D : DefA X.prog X.w X.K X.mg X.base k f ps ds sp) (hr : Room k X.A) (ha : PA X (e :: es) t)
    (hN : X.N[i]? = some x := by rfl) (hv : Vis X.env.scope x := by first | exact Or.inl rfl | exact Or.inr (Or.inl rfl) | exact Or.inr (Or.inr rfl)) (hdb : (x == ("__debug__" : Str)) = false := by decide) (hcd : (x == ("__classdict__" : Str)) = false := by decide)
    (he : starEach (e :: es) X.env = (false, eval e X.env) :: starEach es X.env := by rfl) (hpl : (backTo pos (starEach es X.env)).any (·.1) = false := by rfl) :
    PE X (.Call (.Name x p) (e :: es) [] pos) (tCallV i f sp ds E0 t) := by
  obtain ⟨fd, dvs, F, hk, hb, hd⟩ := D.ex
  intro pins s σ H Q I ⟨hi, h⟩
  refine wpAny_Call_Name_kw (ld_var I hN hv hi (fun u r => ?_) hdb hcd)
  obtain rfl : u = Value.ref f := r
  refine PySem.W.callWith_K (h₀ := X.base) I.ok.mod.kin hk (thn (ha pos pins s σ H _ I h) fun us s1 ⟨vs, H1, I1, r, q⟩ => ⟨I1.kIn, ?_⟩) he hpl
  exact run_fn F hr hb hd pass0 I1 r q
end
end L2
set_option Elab.async false
set_option linter.all false
set_option maxRecDepth 100000
namespace L2
open PySem PySem.Spec PyProof.Rows
section
variable {X : Cx}
noncomputable def rIsXE (K : PySem.W.Frag) : List V → Hp → VK → Prop := fun xs H Q => ∃ (a C tp : Addr) (Cs : List Addr) (b : Bool), xs = [.ref a, .ref tp] ∧ H a = some (ExcO a C) ∧ XCls K C ∧ SqT K H tp (Cs.map V.ref) ∧ PySem.W.kitAny K (.ref C) (Cs.map Value.ref) = some b ∧ Q (.bl b) H
theorem vals_refs : ∀ {Cs : List Addr} {us : List Value}, Vals (Cs.map V.ref) us → us = Cs.map Value.ref
  | [], _, r => by cases r; rfl
  | C :: Cs, _, .cons r t => by rw [show _ = Value.ref C from r, vals_refs t]; rfl
theorem call_isXE (K : PySem.W.Frag) (hK : X.K = K) : CallR X (.builtin "isinstance") (rIsXE K) := by
  subst hK
  intro pins s σ H xs us Q I rs h
  obtain ⟨a, C, tp, Cs, b, rfl, ea, cc, ht, e, q⟩ := h
  obtain ⟨u, w', rfl, r1, r2⟩ := vals2 rs
  cases r1
  cases r2
  obtain ⟨its, r, p1, _⟩ := I.tuple ht
  have ei := vals_refs r
  subst ei
  obtain ⟨⟨oc, od, odt, osl⟩, e1, ec, n, ed⟩ := p1
  cases ec
  cases ed
  obtain ⟨⟨ox, vx, p1, p2, p3, _⟩, _, _⟩ := (show ObjOk X.prog X.w H s.heap a (ExcO a C) from I.hok a _ ea)
  have p : ∃ o vs, s.heap.get? a = some o ∧ o.cls = Value.ref C ∧ o.data = Data.fields vs := ⟨ox, vx, p1, p2, p3⟩
  exact PySem.W.kia_tup (kitx_exc cc) I.kIn p e1 e (fun z => nomatch z) fun tk => ⟨.bl b, H, I.tok tk, rfl, q⟩
theorem kitAny_none {K : PySem.W.Frag} {t : Value} : ∀ {Cs : List Addr}, (∀ c ∈ Cs, PySem.W.kitOne K t (.ref c) = some false) → PySem.W.kitAny K t (Cs.map Value.ref) = some false
  | [], _ => rfl
  | c :: r, h => by
    rw [List.map_cons]
    unfold PySem.W.kitAny
    rw [h c List.mem_cons_self]
    exact kitAny_none fun d hd => h d (List.mem_cons_of_mem _ hd)
end
end L2
set_option Elab.async false
set_option linter.all false
set_option maxRecDepth 100000
namespace L2
open PySem PySem.Spec PyProof.Rows
section
variable {X : Cx} {tg : Expr}
end
end L2
set_option Elab.async false
set_option linter.all false
set_option maxRecDepth 100000
namespace L2
open PySem PySem.Spec PyProof.Rows
section
variable {X : Cx}
end
end L2
set_option Elab.async false
set_option linter.all false
set_option maxRecDepth 100000
namespace L2
open PySem PySem.Spec PyProof.Rows
structure FnOkM (P : Program) (w : World) (K : PySem.W.Frag) (mg : Str → Option Value) (base : Heap) (k : Nat) (f : Addr) (fd : FuncData) (ps : List Str) (sp : Addr → Sp) : Prop where
  len : ∀ ea vs H Q E, sp ea vs H Q E → vs.length = ps.length
  run : ∀ (A : Around) (ea : Addr) (outer : List Env) (s : Shared) (H : Hp) (args : Args) (us : List Value) (vs : List V) (Q : VK) (E : XK), Room k A → Env0 P w K mg base (A.mark (some (.ref ea))) outer s H → BindsTo s fd args (ps.zip us) → Vals vs us → sp ea vs H Q E →
    codeAny (model P w) (A.mark (some (.ref ea))) (.call (.ref f) args) (CR CX0 outer P w H s Q E) s
structure DefM (P : Program) (w : World) (K : PySem.W.Frag) (mg : Str → Option Value) (base : Heap) (k : Nat) (x : Str) (ps : List Str) (ds : List V) (sp : Addr → Sp) : Prop where
  ex : ∃ (f : Addr) (fd : FuncData) (dvs : List Value), FnOkM P w K mg base k f fd ps sp ∧ mg x = some (.ref f) ∧ PySem.W.keepIn K (.ref f) = true ∧ Binds K fd ps dvs ∧ Vals ds dvs
section
variable {P : Program} {w : World} {K : PySem.W.Frag} {mg : Str → Option Value} {base : Heap}
theorem Env0.unmark {A : Around} {ea : Addr} {outer : List Env} {s : Shared} {H : Hp} (e : Env0 P w K mg base (A.mark (some (.ref ea))) outer s H) : Env0 P w K mg base A outer s H := ⟨e.frames, e.mod, e.bs, e.bsz, e.funs, e.frf, e.hok, e.bare⟩
theorem FunD.okM {x qual : Str} {st : Stmt} {dV : Value} {f : Addr} {fd : FuncData} {N ps : List Str} {k : Nat} {sp : Addr → Sp} (F : FunD K x qual st dV f fd) (S : FnScope N ps (defScope st)) (len : ∀ ea vs H Q E, sp ea vs H Q E → vs.length = ps.length)
    (hbody : ∀ (cdv : Value) (A : Around) (ea : Addr) (outer : List Env) (s : Shared) (H : Hp) (vs : List V) (Q : VK) (E : XK), Room k (A.deeper (envOfC qual (defScope st) s.heap.objs.size f cdv)) → sp ea vs H Q E →
      ∃ t, PSs ((cxOf CX0 P w K mg base N qual (defScope st) f cdv A outer s H E).marked ea) (defBody st) t ∧ t { nx := fun _ H' => Q .non H', rt := Q } (start N vs) H) : FnOkM P w K mg base (k + 1) f fd ps sp := by
  obtain ⟨oc, od, kV, doc, pm, an, cdv, ct, osl, rfl, lk, hcd⟩ := F.ex
  refine ⟨len, fun A ea outer s H args us vs Q E hr e0 hb r hsp => ?_⟩
  have hl := len _ _ _ _ _ hsp
  have KX : K.In s.heap := e0.mod.kin.keeps fun b o e => (e0.bs b o e).1
  have lim : s.heap.NoLimit := e0.mod.nolimit.keeps fun b o e => (e0.bs b o e).1
  have hkind : ∀ y ∈ ps.zip us, (defScope st).names.lookup y.1 = some .local ∨ ((defScope st).names.lookup y.1 = some .cell ∧ ((cellsFrom (s.heap.objs.size + 1) (defScope st).names []).lookup y.1).isSome = true) := fun ⟨n, v⟩ hy => by
    rcases S.par n (List.of_mem_zip hy).1 with q | q
    · exact .inl q
    · exact .inr ⟨q, PySem.W.cellsFrom_some _ _ _ (.inl q)⟩
  refine codeAny_call_function (A := A.mark (some (.ref ea))) hr.depth (KX _ _ lk) rfl S.co S.gen rfl (PySem.W.codeRec_of KX hcd) (hb _ _ _ _ ?_)
  refine wpAny_newFunctionEnv_cells S.kind hkind fun env he s1 x => ?_
  subst he
  refine ⟨lim.keeps x.toInCall.keep, codeAny_func ?_⟩
  obtain ⟨t, ht, hq⟩ := hbody cdv A ea outer s H vs Q E (hr.deeper _) hsp
  have I : Inv ((cxOf CX0 P w K mg base N qual (defScope st) f cdv A outer s H E).marked ea) [] (start N vs) H s1 := (inv_start S hr.hd e0.unmark hl r x).marked ea
  refine wpAny_mono (ht [] s1 (start N vs) H _ I hq) (fun fl s' hs => ?_) fun e s' hs => False.elim hs
  have fin : ∀ {σ' : St} {H' : Hp} {v : V} {u : Value}, Inv ((cxOf CX0 P w K mg base N qual (defScope st) f cdv A outer s H E).marked ea) [] σ' H' s' → RelV v u → Q v H' → CE outer P w H s Q u s' :=
    fun {σ' H' v u} J rv q => ⟨v, H', J.os, J.bare, J.base, J.hok, rv, q⟩
  cases fl with
  | ret u =>
    obtain ⟨v, σ', H', J, rv, q⟩ := hs
    exact fin J rv q
  | next =>
    obtain ⟨σ', H', J, q⟩ := hs
    exact fin (v := V.non) (u := Value.none) J rfl q
  | brk =>
    obtain ⟨_, _, _, q⟩ := hs
    exact False.elim q
  | cont =>
    obtain ⟨_, _, _, q⟩ := hs
    exact False.elim q
theorem FunD.defM {x qual : Str} {st : Stmt} {f : Addr} {fd : FuncData} {ps : List Str} {k : Nat} {sp : Addr → Sp} (F : FunD K x qual st .none f fd) (G : FnOkM P w K mg base k f fd ps sp) (hm : mg x = some (.ref f))
    (h : ∀ (kV doc pm : Value) (an : Option Addr) (cdv ct : Value) (us : List Value), us.length = ps.length → bindArgs (PySem.W.fnOf x qual (defArgs st) (defBody st) (defScope st) .none kV doc pm an cdv ct) ⟨us, []⟩ = pure (ps.zip us)) : DefM P w K mg base k x ps [] sp := by
  obtain ⟨oc, od, kV, doc, pm, an, cdv, ct, osl, rfl, lk, hcd⟩ := F.ex
  exact ⟨f, _, [], G, hm, F.kp, .all (h kV doc pm an cdv ct), .nil⟩
end
section
variable {X : Cx}
theorem pe_callM {k : Nat} {x : Str} {ps : List Str} {ds : List V} {sp : Addr → Sp} {e : Expr} {es : List Expr} {t : TA} {p pos : Pos} {ea : Addr} (D : DefM X.prog X.w X.K X.mg X.base k x ps ds sp) (hr : Room k X.A) (hg : Gl (X.marked ea) x)
    (ha : PA (X.marked ea) (e :: es) t) (hdb : (x == ("__debug__" : Str)) = false := by decide) (he : starEach (e :: es) X.env = (false, eval e X.env) :: starEach es X.env := by rfl) (hpl : (backTo pos (starEach es X.env)).any (·.1) = false := by rfl) :
    PE (X.marked ea) (.Call (.Name x p) (e :: es) [] pos) (tCall (sp ea) ds E0 t) := by
  obtain ⟨f, fd, dvs, F, hm, hk, hb, hd⟩ := D.ex
  intro pins s σ H Q I h
  refine wpAny_Call_Name_kw (ld_glob I hg hm ?_ hdb)
  refine PySem.W.callWith_K (h₀ := X.base) I.ok.mod.kin hk (thn (ha pos pins s σ H _ I h) fun us s1 ⟨vs, H1, I1, r, q⟩ => ⟨I1.kIn, ?_⟩) he hpl
  have r2 : Vals (vs ++ ds) (us ++ dvs) := r.append hd
  have hl : (us ++ dvs).length = ps.length := by rw [← r2.length]; exact F.len _ _ _ _ _ q
  refine wpAny_call (codeAny_mono (F.run X.A ea X.stack s1 H1 ⟨us, []⟩ (us ++ dvs) (vs ++ ds) Q E0 hr I1.env0 (hb s1 us I1.kIn hl) r2 q) fun r s' hq => ?_)
  cases r with
  | error e => exact False.elim hq
  | ok fl =>
    cases fl with
    | ret u => exact I1.after hq
    | next => exact False.elim hq
    | brk => exact False.elim hq
    | cont => exact False.elim hq
end
end L2
set_option Elab.async false
set_option linter.all false
set_option maxRecDepth 100000
namespace L2
open PySem PySem.Spec PyProof.Rows
set_option maxHeartbeats 1600000
section
variable {X : Cx}
end
end L2
set_option Elab.async false
set_option linter.all false
set_option maxRecDepth 100000
namespace L2
open PySem PySem.Spec PyProof.Rows
section
variable {X : Cx}
end
end L2
namespace M4
end M4
set_option Elab.async false
set_option linter.all false
set_option maxRecDepth 100000
namespace L2
open PySem PySem.Spec PyProof.Rows
section
variable {X : Cx}
end
end L2
set_option Elab.async false
set_option linter.all false
set_option maxRecDepth 100000
namespace L2
open PySem PySem.Spec PyProof.Rows
section
variable {X : Cx} {pins pn : List (Addr × Obj)} {σ : St} {H : Hp} {s : Shared} {XE : Value → Shared → Prop}
noncomputable def catchXG (K : PySem.W.Frag) (CF : Addr) (i : Nat) (ts : Addr → TS) (D : Ends) (σ : St) : XK := fun cls _ H1 =>
  ∃ C, cls = .ref C ∧ PySem.W.exmOne K (.ref C) (.ref CF) = some true ∧ ∀ ea, H1 ea = none → ts ea (endsX i D) (σ.set i (some (.ref ea))) (upd H1 ea (ExcO ea C))
noncomputable def tTryG (K : PySem.W.Frag) (CF : Addr) (i : Nat) (tb : (St → XK) → TS) (ts : Addr → TS) : TS := fun D σ H => tb (fun σ' => catchXG K CF i ts D σ') D σ H
theorem ps_tryG {body : List Stmt} {cx n : Str} {CF : Addr} {i : Nat} {b0 : Stmt} {suite : List Stmt} {np hpos pos : Pos} {tb : (St → XK) → TS} {ts : Addr → TS}
    (hN : X.N.Nodup) (hi : X.N[i]? = some n) (hl : X.env.scope.names.lookup n = some .local) (hg : Gl X cx) (hm : X.mg cx = some (.ref CF)) (hst : X.stack = X.env :: X.outer) (hf : X.env.frame = some X.env.locals)
    (hb : ∀ (pn : List (Addr × Obj)) (XE : Value → Shared → Prop) (R : St → XK), PassesR (CX1 X.prog X.w) (X.at pn XE) R → PSs (X.at pn XE) body (tb R))
    (hs : ∀ ea, PSs (X.marked ea) (b0 :: suite) (ts ea)) (hdb : (cx == ("__debug__" : Str)) = false := by decide) :
    PS X (.Try body [.ExceptHandler (some (.Name cx np)) (some n) (b0 :: suite) hpos] [] [] pos) (tTryG X.K CF i tb ts) := by
  intro pins s σ H D I hq
  refine wpAny_Try_except (wpAny_mono (hb (X.pn ++ pins) _ (fun σ' => catchXG X.K CF i ts D σ') ?_ [] s σ H D I.at hq) (fun f s1 q => ?_) fun e s1 q => q)
  · intro pins0 σ0 H0 s0 e s' I0' hc
    have I0 : Inv X pins σ0 H0 s0 := I0'.unat
    obtain ⟨ea, cls, a0, H', B, rfl, fl, nc, os, bare, fw, C, rfl, hex, q⟩ := hc
    replace fl : Heap.FlyingW B (X.env :: X.outer) ea (.ref C) a0 s'.heap := by rw [← hst]; exact fl
    replace fw : Flew X.prog X.w (X.env :: X.outer) H0 H' s0.heap B s'.heap ea := by rw [← hst]; exact fw
    have fr0 : X.A.frames = some (X.env :: X.outer) := by rw [I0.ok.frames, hst]
    have new0 : s0.heap.get? ea = none := by
      cases g : s0.heap.get? ea with
      | none => rfl
      | some o =>
        by_cases hb : ea ∈ frs (X.env :: X.outer)
        · obtain ⟨_, o1, e1, nf⟩ := fl.2.2.1.mem hb
          obtain ⟨oe, vs, e2, _, d2, _⟩ := fl.first
          rw [e1] at e2; cases e2
          exact absurd d2 (nf vs)
        · obtain ⟨o', e1⟩ := fw.there ea o g hb
          rw [fl.2.1] at e1; cases e1
    refine looks_onC fr0 hf fl nc fun h4 held4 nc4 up4 => ?_
    refine landsC held4 nc4 fun h5 fl5 nc5 up5 => ?_
    have inv : ∀ {h6 : Heap} {tk : Nat}, Heap.FlyingW B (X.env :: X.outer) ea (.ref C) a0 h6 → NoCtx h6 ea → s'.heap.UpToSlots h6 → Inv X pins σ0 (upd H' ea (ExcO ea C)) { s' with heap := h6, toks := tk } := fun {h6 tk} fl6 nc6 up6 => by
      have f6 := fw.up fl up6
      have u6 := f6.un fl6.1
      obtain ⟨oe, vs, e6, c6, d6, _⟩ := fl6.first
      obtain ⟨on, wn, en, dn, nn⟩ := nc6
      rw [e6] at en; cases en
      rw [d6] at dn; cases dn
      refine I0.call' (s' := { s' with heap := h6, toks := tk }) (ch := []) os (by
        rw [hst]
        exact ⟨u6.keep, u6.slot, fun b o e n hx => by
          rw [upd_ne (fun z => by rw [z, new0] at e; cases e)]
          exact u6.free b o e n hx, u6.there, fun b xs e => by
          have z := u6.tups b xs e
          rw [upd_ne (ne_of_none z fw.exc)]; exact z, fun b o u e => by
          have z := u6.frzs b o u e
          rw [upd_ne (ne_of_none z fw.exc)]; exact z, fun b ps e => by
          obtain ⟨more, z⟩ := u6.tbls b ps e
          exact ⟨more, by rw [upd_ne (ne_of_none z fw.exc)]; exact z⟩⟩) (fun b u e => ?_) bare (fun b hb => absurd hb (by simp))
      by_cases hbe : b = ea
      · subst hbe
        rw [upd_same] at e
        cases e
        refine ⟨⟨oe, vs, e6, c6, d6, nn⟩, ⟨oe, e6⟩, fun h1 h2 p k => ?_⟩
        obtain ⟨o, ws, p1, p2, p3, p4⟩ := p
        exact ⟨o, ws, k o p1, p2, p3, p4⟩
      · rw [upd_ne hbe] at e
        refine (f6.ok fl6.1 b u e).stay (fun _ _ _ g => g) (fun c g => ?_) fun c xs g => ?_
        · rw [upd_ne (ne_of_none g fw.exc)]; exact g
        · rw [upd_ne (ne_of_none g fw.exc)]; exact g
    have I5 := inv (tk := s'.toks) fl5 nc5 (up4.trans up5)
    refine wpAny_handleBy_cons (codeAny_handlers_test (ld_glob (X := X.marked ea) (I5.marked ea) hg hm ?_ hdb)) (by intro z; cases z)
    obtain ⟨ob, hob, hobc⟩ := fl5.there
    have LT : PySem.W.Looks (model X.prog X.w) h5 (typeOf (.ref ea)) (.ref C) := by
      rw [← hobc]
      exact (PySem.W.Looks.ld hob).andThen .now
    refine (PySem.W.exm_one (h := h5) I5.kIn LT hex).here ?_
    refine codeAny_handlers_suite_as ?_
    refine lands_againC fl5 nc5 fun h6 fl6 nc6 up6 => ?_
    have I6 := inv (tk := s'.toks) fl6 nc6 ((up4.trans up5).trans up6)
    refine store_ok I6 hN hi (Or.inl hl) (show RelV (.ref ea) (.ref ea) from rfl) (fun s7 I7 => ?_) (.inr hl)
    refine wpAny_mono (hs ea pins s7 _ _ _ (I7.marked ea) (q ea fw.exc)) (fun f s8 sp => ?_) fun _ _ z => z.elim
    have fin : ∀ {σ8 : St} {H8 : Hp} {Q8 : Shared → Prop}, Inv (X.marked ea) pins σ8 H8 s8 → (∀ s9, Inv X pins (σ8.set i none) H8 s9 → Q8 s9) →
        wpAny (model X.prog X.w) X.A (do bindName X.env n .none; unbindBehindTheSuite X.env n hpos) (fun _ s9 => Q8 s9) X.xe s8 := fun {σ8 H8 Q8} J k => by
      have J' := J.unmarked I0.ok
      obtain ⟨m, hn, hlk⟩ := J'.loc
      refine wpAny_nameGoes_keeps hl hn (by rw [I0.ok.kind]; rfl) fun h9 v hn9 sb9 => k _ ?_
      exact J'.gone hN hi hl hlk hn9 sb9
    cases f with
    | next =>
      obtain ⟨σ8, H8, J, z⟩ := sp
      exact fin J fun s9 I9 => ⟨_, H8, I9, z⟩
    | brk =>
      obtain ⟨σ8, H8, J, z⟩ := sp
      exact fin J fun s9 I9 => ⟨_, H8, I9, z⟩
    | cont =>
      obtain ⟨σ8, H8, J, z⟩ := sp
      exact fin J fun s9 I9 => ⟨_, H8, I9, z⟩
    | ret u =>
      obtain ⟨v, σ8, H8, J, r, z⟩ := sp
      exact fin J fun s9 I9 => ⟨v, _, H8, I9, r, z⟩
  · cases f with
    | next => obtain ⟨σ1, H1, J, z⟩ := q; exact wpAny_execs_nil ⟨σ1, H1, J.unat, z⟩
    | brk => obtain ⟨σ1, H1, J, z⟩ := q; exact ⟨σ1, H1, J.unat, z⟩
    | cont => obtain ⟨σ1, H1, J, z⟩ := q; exact ⟨σ1, H1, J.unat, z⟩
    | ret u => obtain ⟨v, σ1, H1, J, r, z⟩ := q; exact ⟨v, σ1, H1, J.unat, r, z⟩
end
end L2
set_option Elab.async false
set_option linter.all false
set_option maxRecDepth 100000
namespace L2
open PySem PySem.Spec PyProof.Rows
noncomputable def MnE (t : TE) : Prop := ∀ σ H (Q Q' : VK), (∀ v H1, Q v H1 → Q' v H1) → t σ H Q → t σ H Q'
noncomputable def MnT (t : TT) : Prop := ∀ σ H (Q Q' : Bool → Hp → Prop), (∀ b H1, Q b H1 → Q' b H1) → t σ H Q → t σ H Q'
noncomputable def MnA (t : TA) : Prop := ∀ σ H (Q Q' : List V → Hp → Prop), (∀ v H1, Q v H1 → Q' v H1) → t σ H Q → t σ H Q'
noncomputable def Mn2 (r : R2) : Prop := ∀ x y H (Q Q' : VK), (∀ v H1, Q v H1 → Q' v H1) → r x y H Q → r x y H Q'
theorem mn_var (i : Nat) : MnE (tVar i) := fun σ H Q Q' h q => by obtain ⟨v, e, k⟩ := q; exact ⟨v, e, h _ _ k⟩
theorem mn_c (v : V) : MnE (tC v) := fun σ H Q Q' h q => h _ _ q
theorem mn_op {r : R2} {a b : TE} (hr : Mn2 r) (ha : MnE a) (hb : MnE b) : MnE (tOp r a b) := fun σ H Q Q' h q =>
  ha σ H _ _ (fun x H1 q1 => hb σ H1 _ _ (fun y H2 q2 => hr x y H2 Q Q' h q2) q1) q
theorem mn_i0 (g : Int → Int → V) : Mn2 (rI0 g) := fun x y H Q Q' h q => by obtain ⟨i, j, e1, e2, k⟩ := q; exact ⟨i, j, e1, e2, h _ _ k⟩
theorem mn_eq : Mn2 rEq := fun x y H Q Q' h q => ⟨q.1, h _ _ q.2⟩
theorem mn_ixL (K : PySem.W.Frag) : Mn2 (rIxL K) := fun x y H Q Q' h q => by obtain ⟨a, xs, i, z, e1, e2, s, e3, k⟩ := q; exact ⟨a, xs, i, z, e1, e2, s, e3, h _ _ k⟩
theorem mn_nil : MnA tNil := fun σ H Q Q' h q => h _ _ q
theorem mn_cons {a : TE} {t : TA} (ha : MnE a) (ht : MnA t) : MnA (tCons a t) := fun σ H Q Q' h q => ha σ H _ _ (fun x H1 q1 => ht σ H1 _ _ (fun xs H2 q2 => h _ _ q2) q1) q
theorem mn_call {r : List V → Hp → VK → Prop} {t : TA} (hr : ∀ xs H (Q Q' : VK), (∀ v H1, Q v H1 → Q' v H1) → r xs H Q → r xs H Q') (ht : MnA t) : MnE (tCB r t) := fun σ H Q Q' h q => ht σ H _ _ (fun xs H1 q1 => hr xs H1 Q Q' h q1) q
theorem mn_test {t : TE} (h : MnE t) : MnT (tTest t) := fun σ H Q Q' hq q => h σ H _ _ (fun x H1 q1 => by obtain ⟨k, e, z⟩ := q1; exact ⟨k, e, hq _ _ z⟩) q
theorem mn_and {t u : TT} (h1 : MnT t) (h2 : MnT u) : MnT (tAnd t u) := fun σ H Q Q' hq q => h1 σ H _ _ (fun b H1 q1 => by
  cases b with
  | true => exact h2 σ H1 _ _ hq q1
  | false => exact hq _ _ q1) q
end L2
set_option Elab.async false
set_option linter.all false
set_option maxRecDepth 100000
namespace L2
open PySem PySem.Spec PyProof.Rows
mutual
inductive ShV (H : Hp) : Nat → V → PyData → Prop
  | non {n : Nat} : ShV H n .non .none
  | bl {n : Nat} (b : Bool) : ShV H n (.bl b) (.bool b)
  | int {n : Nat} (i : Int) : i.natAbs.log2 < 1920 → ShV H n (.int i) (.int i)
  | str {n : Nat} (x : Str) : ShV H n (.str x) (.str x)
  | lst {n : Nat} {a : Addr} {xs : List V} {ds : List PyData} : H a = some (.lst xs) → ShVs H n xs ds → ShV H (n + 1) (.ref a) (.list ds)
  | tup {n : Nat} {a : Addr} {xs : List V} {ds : List PyData} : H a = some (.tup xs) → ShVs H n xs ds → ShV H (n + 1) (.ref a) (.tuple ds)
inductive ShVs (H : Hp) : Nat → List V → List PyData → Prop
  | nil {n : Nat} : ShVs H n [] []
  | cons {n : Nat} {x : V} {xs : List V} {d : PyData} {ds : List PyData} : ShV H n x d → ShVs H n xs ds → ShVs H n (x :: xs) (d :: ds)
end
mutual
theorem ShV.mono {H H' : Hp} (s : Same H H') : ∀ {n : Nat} {v : V} {d : PyData}, ShV H n v d → ShV H' n v d
  | _, _, _, .non => .non
  | _, _, _, .bl b => .bl b
  | _, _, _, .int i h => .int i h
  | _, _, _, .str x => .str x
  | _, _, _, .lst e h => .lst (s _ _ e) (h.mono s)
  | _, _, _, .tup e h => .tup (s _ _ e) (h.mono s)
theorem ShVs.mono {H H' : Hp} (s : Same H H') : ∀ {n : Nat} {v : List V} {d : List PyData}, ShVs H n v d → ShVs H' n v d
  | _, _, _, .nil => .nil
  | _, _, _, .cons h t => .cons (h.mono s) (t.mono s)
end
mutual
theorem ShV.deep {H : Hp} : ∀ {n : Nat} {v : V} {d : PyData}, ShV H n v d → d.depth ≤ n ∧ d.showable = true ∧ d.hasDict = false
  | _, _, _, .non => ⟨Nat.zero_le _, rfl, rfl⟩
  | _, _, _, .bl b => ⟨Nat.zero_le _, rfl, rfl⟩
  | _, _, _, .int i h => ⟨Nat.zero_le _, by simpa [PyData.showable] using h, rfl⟩
  | _, _, _, .str x => ⟨Nat.zero_le _, rfl, rfl⟩
  | _, _, _, .lst e h => by
    have := h.deep
    refine ⟨?_, by simpa [PyData.showable] using this.2.1, by simpa [PyData.hasDict] using this.2.2⟩
    simp only [PyData.depth]; omega
  | _, _, _, .tup e h => by
    have := h.deep
    refine ⟨?_, by simpa [PyData.showable] using this.2.1, by simpa [PyData.hasDict] using this.2.2⟩
    simp only [PyData.depth]; omega
theorem ShVs.deep {H : Hp} : ∀ {n : Nat} {v : List V} {d : List PyData}, ShVs H n v d → PyData.depthAll d ≤ n ∧ PyData.showableAll d = true ∧ PyData.hasDictAll d = false
  | _, _, _, .nil => ⟨Nat.zero_le _, rfl, rfl⟩
  | _, _, _, .cons h t => by
    have h1 := h.deep
    have h2 := t.deep
    refine ⟨?_, ?_, ?_⟩
    · simp only [PyData.depthAll]; omega
    · simp only [PyData.showableAll, h1.2.1, h2.2.1, Bool.and_self]
    · simp only [PyData.hasDictAll, h1.2.2, h2.2.2, Bool.or_self]
end
mutual
theorem ShV.reads {X : Cx} {pins : List (Addr × Obj)} {σ : St} {H : Hp} {s : Shared} (I : Inv X pins σ H s) : ∀ {n : Nat} {v : V} {d : PyData}, ShV H n v d → ∀ {u : Value}, RelV v u → ∃ as, Reads s.heap u d as
  | _, _, _, .non, u, r => by cases r; exact ⟨_, .none⟩
  | _, _, _, .bl b, u, r => by cases r; exact ⟨_, .bool b⟩
  | _, _, _, .int i h, u, r => by obtain ⟨t, rfl⟩ := r; exact ⟨_, .int i t⟩
  | _, _, _, .str x, u, r => by obtain ⟨t, rfl⟩ := r; exact ⟨_, .str x t⟩
  | _, _, _, .lst e h, u, r => by
    cases r
    obtain ⟨_, its, n, rv, eh⟩ := I.hok _ _ e
    obtain ⟨as, ra⟩ := h.reads I rv
    exact ⟨_, .list eh rfl rfl ra⟩
  | _, _, _, .tup e h, u, r => by
    cases r
    obtain ⟨_, its, rv, o, eh, ec, n, ed⟩ := I.hok _ _ e
    obtain ⟨as, ra⟩ := h.reads I rv
    exact ⟨_, .tuple eh ec ed ra⟩
theorem ShVs.reads {X : Cx} {pins : List (Addr × Obj)} {σ : St} {H : Hp} {s : Shared} (I : Inv X pins σ H s) : ∀ {n : Nat} {v : List V} {d : List PyData}, ShVs H n v d → ∀ {u : List Value}, Vals v u → ∃ as, ReadsAll s.heap u d as
  | _, _, _, .nil, u, r => by cases r; exact ⟨_, .nil⟩
  | _, _, _, .cons h t, u, r => by
    cases r with
    | cons r1 r2 =>
      obtain ⟨a1, q1⟩ := h.reads I r1
      obtain ⟨a2, q2⟩ := t.reads I r2
      exact ⟨_, .cons q1 q2⟩
end
inductive StrV (H : Hp) : V → Str → Prop
  | non : StrV H .non "None"
  | int (i : Int) : i.natAbs.log2 < 1920 → StrV H (.int i) (toString i)
  | str (x : Str) : StrV H (.str x) x
  | dict {a : Addr} : H a = some (DictO a) → StrV H (.ref a) (dictText [])
  | dat {a : Addr} {n : Nat} {d : PyData} : n ≤ 8 → ShV H n (.ref a) d → d.shown.length ≤ sizeLine → StrV H (.ref a) d.shown
theorem StrV.mono {H H' : Hp} {v : V} {t : Str} (s : Same H H') (h : StrV H v t) : StrV H' v t := by
  cases h with
  | non => exact .non
  | int i h => exact .int i h
  | str => exact .str _
  | dict e => exact .dict (s _ _ e)
  | dat hn h hz => exact .dat hn (h.mono s) hz
theorem call_strV {X : Cx} (hu : X.A.units + 64 < cLine) (hg : X.A.guards = some []) : CallR X (.type "str") (fun xs H Q => ∃ v t, xs = [v] ∧ StrV H v t ∧ Q (.str t) H) := by
  intro pins s σ H xs us Q I r h
  obtain ⟨v, t, rfl, hv, q⟩ := h
  obtain ⟨u, rfl, ru⟩ := vals1 r
  cases hv with
  | non => cases ru; exact PySem.P.str_of_none ⟨.str _, H, I.tok _, ⟨_, rfl⟩, q⟩
  | int i hz => obtain ⟨t, rfl⟩ := ru; exact PySem.P.str_of_int hz ⟨.str _, H, I.tok _, ⟨_, rfl⟩, q⟩
  | str x => obtain ⟨t, rfl⟩ := ru; exact PySem.P.str_of_str ⟨.str _, H, I, ⟨_, rfl⟩, q⟩
  | dict e =>
    cases ru
    rename_i a
    obtain ⟨_, hs, vs, kv, o, es, ep, eh, ex, ed, _, ps, _⟩ := I.hok _ _ e
    cases kv
    have e0 : es.toList = [] := by
      generalize es.toList = el at ps ⊢
      cases ps; rfl
    have rd : Reads s.heap (.ref a) (.dict []) (a :: [] ++ []) := .dict eh ex.1 ed (by rw [e0]; exact .nil) (by rw [e0]; exact .nil)
    exact str_of_reads rd rfl (fun _ => by simp; exact fun z => by rw [z] at hs; simp at hs) hg (by show X.A.units + (1 + 3) < cLine; omega) (fun _ _ e => e) (fun h' u tk k => ⟨.str _, H, I.kept k, ⟨_, rfl⟩, q⟩) (by show _ ≤ sizeLine; decide)
  | dat hn hd hz =>
    have dd := hd.deep
    obtain ⟨as, rd⟩ := hd.reads I ru
    cases ru
    exact str_of_reads rd dd.2.1 (fun z => by rw [dd.2.2] at z; cases z) hg (by omega) (fun _ _ e => e) (fun h' u tk k => ⟨.str _, H, I.kept k, ⟨_, rfl⟩, q⟩) hz
end L2
set_option Elab.async false
set_option linter.all false
set_option maxRecDepth 100000
set_option maxHeartbeats 4000000
namespace K20
open PySem L2 M4
noncomputable def top (i : Nat) : Stmt := PySem.Challenge.pw_cellfolio_k20_runs.main.body.getD i (.Pass ⟨0, 0, 0, 0⟩)
noncomputable abbrev s_is_whole_from : Stmt := top 27
noncomputable abbrev s_is_whole_within : Stmt := top 28
noncomputable abbrev s_is_cell : Stmt := top 29
noncomputable abbrev s_is_list_of : Stmt := top 30
noncomputable abbrev s_is_list_of_cells : Stmt := top 31
noncomputable abbrev s_need_cells : Stmt := top 32
noncomputable abbrev s_runs_of : Stmt := top 37
noncomputable abbrev s_is_run : Stmt := top 38
noncomputable abbrev s_are_runs : Stmt := top 39
noncomputable abbrev s_need_runs : Stmt := top 40
noncomputable abbrev s_cells_by_runs : Stmt := top 41
noncomputable abbrev s_run_text : Stmt := top 42
noncomputable abbrev s_runs_text : Stmt := top 43
noncomputable abbrev s_runs_as_read : Stmt := top 44
noncomputable abbrev s_runs_by_text : Stmt := top 45
noncomputable abbrev s_law_draw : Stmt := top 47
noncomputable abbrev s_law_whole : Stmt := top 48
noncomputable abbrev s_law_word : Stmt := top 49
noncomputable abbrev s_law_cells : Stmt := top 50
noncomputable abbrev s_law_runs : Stmt := top 51
noncomputable abbrev s_law_is_runs : Stmt := top 52
noncomputable abbrev s_law_text : Stmt := top 53
noncomputable abbrev s_law_by_text : Stmt := top 54
noncomputable abbrev s_law_odd_runs : Stmt := top 55
noncomputable abbrev s_law_bent : Stmt := top 56
noncomputable abbrev s_law_asked : Stmt := top 57
noncomputable abbrev s_law_kinds : Stmt := top 58
noncomputable abbrev s_law_good : Stmt := top 59
noncomputable abbrev s_law_looked : Stmt := top 60
noncomputable abbrev s_law : Stmt := top 61
theorem iteB {b : Bool} {A B : Prop} (h1 : b = true → A) (h2 : b = false → B) : if b = true then A else B := by
  cases b with
  | true => exact iteT (h1 rfl)
  | false => exact iteF (h2 rfl)
theorem iteN {b : Bool} {A B : Prop} (h1 : b = false → A) (h2 : b = true → B) : if (!b) = true then A else B := by
  cases b with
  | true => exact iteF (h2 rfl)
  | false => exact iteT (h1 rfl)
noncomputable def isWh (lo hi : Int) : V → Bool
  | .int i => decide (lo ≤ i) && decide (i ≤ hi)
  | _ => false
noncomputable def isWf (lo : Int) : V → Bool
  | .int i => decide (lo ≤ i)
  | _ => false
noncomputable def spWf (K : PySem.W.Frag) : Sp := fun vs H Q _ => ∃ x lo, vs = [x, .int lo] ∧ Kd K H x ∧ Q (.bl (isWf lo x)) H
noncomputable def spWh (K : PySem.W.Frag) : Sp := fun vs H Q _ => ∃ x lo hi, vs = [x, .int lo, .int hi] ∧ Kd K H x ∧ Q (.bl (isWh lo hi x)) H
noncomputable def spInQ (K : PySem.W.Frag) (lo hi : Int) : Sp := fun vs H Q _ => ∃ x, vs = [x] ∧ Kd K H x ∧ Q (.bl (isWh lo hi x)) H
noncomputable abbrev spCellQ (K : PySem.W.Frag) : Sp := spInQ K 0 15
noncomputable def spLocG (K : PySem.W.Frag) (lo hi : Int) : Sp := fun vs H Q _ => ∃ x, vs = [x] ∧ ((∃ a xs, x = .ref a ∧ H a = some (.lst xs) ∧ xs.length ≤ 1000000 ∧ (∀ y ∈ xs, Kd K H y) ∧ ∀ H', Same H H' → Q (.bl (xs.all (isWh lo hi))) H') ∨ (Kd K H x ∧ isL H x = false ∧ Q (.bl false) H))
noncomputable abbrev spLoc (K : PySem.W.Frag) : Sp := spLocG K 0 15
noncomputable def spLocFG (K : PySem.W.Frag) (fC : Addr) (lo hi : Int) : Sp := fun vs H Q E => ∃ x, vs = [x, .ref fC] ∧ spLocG K lo hi [x] H Q E
noncomputable abbrev spLocF (K : PySem.W.Frag) (fC : Addr) : Sp := spLocFG K fC 0 15
structure Txt (K : PySem.W.Frag) (mg : Str → Option Value) (cFE cC cP : Addr) (tC tL tG tB : Tok) : Prop where
  len : mg "len" = none
  range : mg "range" = none
  isinstance : mg "isinstance" = none
  int : mg "int" = none
  bool : mg "bool" = none
  list : mg "list" = none
  all : mg "all" = none
  min : mg "min" = none
  max : mg "max" = none
  sum : mg "sum" = none
  tuple : mg "tuple" = none
  str : mg "str" = none
  ValueError : mg "ValueError" = none
  MOST_CELL : mg "MOST_CELL" = some (.int 15 tC)
  MOST_LISTED : mg "MOST_LISTED" = some (.int 576 tL)
  FIGURES : mg "FIGURES" = some (.str "0123456789" tG)
  LETTERS : mg "LETTERS" = some (.str "abcdefghijklmnop" tB)
  FolioError : mg "FolioError" = some (.ref cFE)
  BadCell : mg "BadCell" = some (.ref cC)
  BadRuns : mg "BadRuns" = some (.ref cP)
  xBadCell : PySem.W.excIn K cC mroVE "ValueError.__new__" = true
  kC : XCls K cC
  eC : PySem.W.exmOne K (.ref cC) (.ref cFE) = some true
  xBadRuns : PySem.W.excIn K cP mroVE "ValueError.__new__" = true
  kP : XCls K cP
  eP : PySem.W.exmOne K (.ref cP) (.ref cFE) = some true
theorem boot_VE : bootBuiltins "ValueError" = some (.type "ValueError") := by decide +kernel
section
variable {P : Program} {w : World} {K : PySem.W.Frag} {mg : Str → Option Value} {base : Heap} {cFE cC cP : Addr} {tC tL tG tB : Tok}
theorem sc_is_whole_from : FnScope ["thing", "least"] ["thing", "least"] (defScope s_is_whole_from) := ⟨rfl, rfl, rfl, by decide +kernel, rfl, by decide +kernel, by decide +kernel⟩
theorem ok_is_whole_from {f : Addr} {fd : FuncData} (F : FunD K "is_whole_from" "is_whole_from" s_is_whole_from .none f fd) (T : Txt K mg cFE cC cP tC tL tG tB) : FnOk P w K mg base CX0 1 f fd ["thing", "least"] (spWf K) := by
  refine F.ok sc_is_whole_from (fun vs H Q E h => ?_) (fun cdv A outer s H vs Q E hr h => ?_)
  · obtain ⟨x, lo, rfl, _⟩ := h; rfl
  · obtain ⟨x, lo, rfl, kd, k⟩ := h
    refine ⟨_, (pss_cons (ps_if (PW.pt (pw_or (pt_not (pt_val (isiK K rfl (pv 0) rfl T.isinstance rfl T.int PyProof.Rows.boot_int))) (pw_or1 (pt_val (isiK K rfl (pv 0) rfl T.isinstance rfl T.bool PyProof.Rows.boot_bool))))) (pss_one (ps_ret pe_bl)) pss_nil)
        (pss_one (ps_ret (pe_cmpR op_le (pv 1) (pv 0) (nomark _))))), ?_⟩
    have fl : isWf lo x = false → Q (.bl false) H := fun e => by rw [e] at k; exact k
    refine ⟨_, rfl, _, kd.isInt, _, rfl, iteN (fun hI => (fl ?_)) (fun hI => ⟨_, rfl, _, kd.isBool, _, rfl, iteB (fun hB => (fl ?_)) (fun hB => ?_)⟩)⟩
    · cases x <;> first | rfl | cases hI
    · cases x <;> first | rfl | cases hB
    · cases x with
      | int i => exact ⟨_, rfl, _, rfl, _, _, rfl, rfl, k⟩
      | bl b => cases hB
      | _ => cases hI
theorem sc_is_whole_within : FnScope ["thing", "least", "most"] ["thing", "least", "most"] (defScope s_is_whole_within) := ⟨rfl, rfl, rfl, by decide +kernel, rfl, by decide +kernel, by decide +kernel⟩
theorem ok_is_whole_within {f : Addr} {fd : FuncData} (F : FunD K "is_whole_within" "is_whole_within" s_is_whole_within .none f fd) (g_is_whole_from : Def P w K mg base 1 "is_whole_from" ["thing", "least"] [] (spWf K)) : FnOk P w K mg base CX0 2 f fd ["thing", "least", "most"] (spWh K) := by
  refine F.ok sc_is_whole_within (fun vs H Q E h => ?_) (fun cdv A outer s H vs Q E hr h => ?_)
  · obtain ⟨x, lo, hi, rfl, _⟩ := h; rfl
  · obtain ⟨x, lo, hi, rfl, kd, k⟩ := h
    refine ⟨_, (pss_one (ps_ret (pe_and (pe_callD g_is_whole_from (hr.mono (by decide)) rfl (pa_cons (pv 0) (pa_cons (pv 1) pa_nil))) (pe_one (pe_cmpR op_le (pv 0) (pv 2) (nomark _)))))), ?_⟩
    refine ⟨_, rfl, _, rfl, x, lo, rfl, kd, _, rfl, iteB (fun h1 => ?_) (fun h1 => ?_)⟩
    · cases x with
      | int i =>
        refine ⟨_, rfl, _, rfl, _, _, rfl, rfl, ?_⟩
        have h2 : decide (lo ≤ i) = true := h1
        simpa only [isWh, h2, Bool.true_and] using k
      | _ => cases h1
    · have e : isWh lo hi x = false := by
        cases x with
        | int i =>
          have h2 : decide (lo ≤ i) = false := h1
          simp only [isWh, h2, Bool.false_and]
        | _ => rfl
      rw [e] at k
      exact k
theorem sc_is_cell : FnScope ["thing"] ["thing"] (defScope s_is_cell) := ⟨rfl, rfl, rfl, by decide +kernel, rfl, by decide +kernel, by decide +kernel⟩
theorem ok_is_cell {f : Addr} {fd : FuncData} (F : FunD K "is_cell" "is_cell" s_is_cell .none f fd) (T : Txt K mg cFE cC cP tC tL tG tB) (g_is_whole_within : Def P w K mg base 2 "is_whole_within" ["thing", "least", "most"] [] (spWh K)) : FnOk P w K mg base CX0 3 f fd ["thing"] (spCellQ K) := by
  refine F.ok sc_is_cell (fun vs H Q E h => ?_) (fun cdv A outer s H vs Q E hr h => ?_)
  · obtain ⟨x, rfl, _⟩ := h; rfl
  · obtain ⟨x, rfl, kd, k⟩ := h
    refine ⟨_, (pss_one (ps_ret (pe_callD g_is_whole_within (hr.mono (by decide)) rfl (pa_cons (pv 0) (pa_cons pe_int (pa_cons (pe_glob (v := .int 15) rfl T.MOST_CELL ⟨_, rfl⟩) pa_nil)))))), ?_⟩
    exact ⟨_, rfl, x, 0, 15, rfl, kd, k⟩
theorem all_map_id {α : Type} (f : α → Bool) (xs : List α) : (xs.map f).all id = xs.all f := by
  induction xs with
  | nil => rfl
  | cons x r ih => rw [List.map_cons, List.all_cons, List.all_cons, ih]; rfl
theorem filter_t {α : Type} (xs : List α) : xs.filter (fun _ => true) = xs := List.filter_eq_self.mpr fun _ _ => rfl
theorem sc_is_list_of : FnScope ["thing", "is_one"] ["thing", "is_one"] (defScope s_is_list_of) := ⟨rfl, rfl, rfl, by decide +kernel, rfl, by decide +kernel, by decide +kernel⟩
theorem ok_is_list_of {lo hi : Int} {fC f : Addr} {fd : FuncData} (F : FunD K "is_list_of" "is_list_of" s_is_list_of .none f fd) (T : Txt K mg cFE cC cP tC tL tG tB) (g_is_one : DefA P w K mg base 3 fC ["thing"] [] (spInQ K lo hi)) : FnOk P w K mg base CX0 4 f fd ["thing", "is_one"] (spLocFG K fC lo hi) := by
  refine F.ok sc_is_list_of (fun vs H Q E h => ?_) (fun cdv A outer s H vs Q E hr h => ?_)
  · obtain ⟨x, rfl, _⟩ := h; rfl
  · obtain ⟨x, rfl, x', ex, h⟩ := h
    cases ex
    refine ⟨_, (pss_one (ps_ret (pe_and (isiK K rfl (pv 0) rfl T.isinstance rfl T.list PyProof.Rows.boot_list) (pe_one (pe_callB (allK K rfl rfl) rfl T.all PyProof.Rows.boot_all (pa_cons (pe_comp (N := ["part", "is_one"]) (src := [none, some 1]) rfl ⟨rfl, rfl, rfl, rfl, rfl, by decide +kernel⟩ (piK K rfl (pv 0)) (fun s H C fp => pg_name (i := 0) (show (["part", "is_one"] : List Str).Nodup by decide +kernel) rfl (by first | exact Or.inl rfl | exact Or.inr rfl)) (fun s H C fp => pts_nil) (fun s H C fp => (pe_callV 1 g_is_one (hr.mono (by decide)) (pa_cons (pv 0) pa_nil)))) pa_nil)))))), ?_⟩
    rcases h with ⟨a, xs, rfl, hH, hl, kds, k⟩ | ⟨kd, hL, k⟩
    · refine ⟨_, rfl, true, isList_lst hH, _, rfl, ⟨_, rfl, a, rfl, ⟨_, SqL.of hH⟩, fun D hD => ?_⟩⟩
      refine comp_fm (k := 0) (fun x => .bl (isWh lo hi x)) (fun _ => true) (src_list (SqL.of hH)) (Nat.le_trans hl (by decide)) hD (fun x _ H' Qb _ kk => kk H' (Same.refl _)) (fun x hx _ H' Q sm kk => ⟨rfl, _, rfl, x, rfl, (kds x hx).mono sm, kk H' (Same.refl _)⟩) fun H' sm hD' => ?_
      refine ⟨D, xs.map (isWh lo hi), rfl, SqL.of (by rw [hD', filter_t, List.map_map]; rfl), ?_⟩
      rw [all_map_id]
      exact k H' sm
    · refine ⟨_, rfl, _, kd.isList, _, rfl, iteB (fun z => ?_) (fun _ => k)⟩
      rw [hL] at z; cases z
theorem sc_is_list_of_cells : FnScope ["thing"] ["thing"] (defScope s_is_list_of_cells) := ⟨rfl, rfl, rfl, by decide +kernel, rfl, by decide +kernel, by decide +kernel⟩
theorem ok_is_list_of_cells {fC f : Addr} {fd : FuncData} (F : FunD K "is_list_of_cells" "is_list_of_cells" s_is_list_of_cells .none f fd) (hC : mg "is_cell" = some (.ref fC)) (g_is_list_of : Def P w K mg base 4 "is_list_of" ["thing", "is_one"] [] (spLocF K fC)) : FnOk P w K mg base CX0 5 f fd ["thing"] (spLoc K) := by
  refine F.ok sc_is_list_of_cells (fun vs H Q E h => ?_) (fun cdv A outer s H vs Q E hr h => ?_)
  · obtain ⟨x, rfl, _⟩ := h; rfl
  · obtain ⟨x, rfl, h⟩ := h
    refine ⟨_, (pss_one (ps_ret (pe_callD g_is_list_of (hr.mono (by decide)) rfl (pa_cons (pv 0) (pa_cons (pe_glob (v := .ref fC) rfl hC rfl) pa_nil))))), ?_⟩
    exact ⟨_, rfl, x, rfl, x, rfl, h⟩
end
end K20
set_option Elab.async false
set_option linter.all false
set_option maxRecDepth 100000
set_option maxHeartbeats 1600000
namespace K20
open PySem L2 M4
noncomputable def rowOf (H : Hp) : V → Option (List V)
  | .ref b => match H b with
    | some (.lst ys) => some ys
    | _ => none
  | _ => none
section
variable {K : PySem.W.Frag} {H H' : Hp} {x : V}
theorem rowOf_lst {a : Addr} {ys : List V} (e : H a = some (.lst ys)) : rowOf H (.ref a) = some ys := by simp only [rowOf, e]
theorem rowOf_ref {ys : List V} (h : rowOf H x = some ys) : ∃ a, x = .ref a ∧ H a = some (.lst ys) := by
  cases x with
  | ref a =>
    refine ⟨a, rfl, ?_⟩
    unfold rowOf at h
    dsimp only at h
    split at h
    · rename_i zs e; cases h; exact e
    · cases h
  | _ => cases h
theorem rowOf_mono (k : Kd K H x) (s : Same H H') : rowOf H' x = rowOf H x := by
  cases k with
  | lst e => rw [rowOf_lst e, rowOf_lst (s _ _ e)]
  | tup e => simp only [rowOf, e, s _ _ e]
  | dict e => simp only [rowOf, e, s _ _ e, DictO]
  | _ => rfl
theorem isL_row (k : Kd K H x) : isL H x = (rowOf H x).isSome := by
  cases k with
  | lst e => simp only [isL, rowOf, e]; rfl
  | tup e => simp only [isL, rowOf, e]; rfl
  | dict e => simp only [isL, rowOf, e, DictO]; rfl
  | _ => rfl
end
noncomputable def Cl (K : PySem.W.Frag) (mg : Str → Option Value) (cC : Addr) (n : Str) : Prop := ∃ c : Addr, mg n = some (.ref c) ∧ PySem.W.kitOne K (.ref cC) (.ref c) = some false
structure TxtC (K : PySem.W.Frag) (mg : Str → Option Value) (cC : Addr) : Prop where
  iCC : PySem.W.kitOne K (.ref cC) (.ref cC) = some true
  iCV : PySem.W.kitOne K (.ref cC) (.type "ValueError") = some true
  BadColour : Cl K mg cC "BadColour"
  BadCheck : Cl K mg cC "BadCheck"
  BadDeed : Cl K mg cC "BadDeed"
  BadEdge : Cl K mg cC "BadEdge"
  BadHead : Cl K mg cC "BadHead"
  BadMask : Cl K mg cC "BadMask"
  BadName : Cl K mg cC "BadName"
  BadPack : Cl K mg cC "BadPack"
  BadPalette : Cl K mg cC "BadPalette"
  BadPart : Cl K mg cC "BadPart"
  BadPicture : Cl K mg cC "BadPicture"
  BadRule : Cl K mg cC "BadRule"
  BadRuns : Cl K mg cC "BadRuns"
  BadSize : Cl K mg cC "BadSize"
  BadText : Cl K mg cC "BadText"
  NoColour : Cl K mg cC "NoColour"
  NoPart : Cl K mg cC "NoPart"
  NoPicture : Cl K mg cC "NoPicture"
  NothingDone : Cl K mg cC "NothingDone"
  OutOfPlace : Cl K mg cC "OutOfPlace"
  TooMany : Cl K mg cC "TooMany"
  Twice : Cl K mg cC "Twice"
noncomputable def isN : V → Bool
  | .int _ => true
  | _ => false
noncomputable def spWhN (K : PySem.W.Frag) : Sp := fun vs H Q _ => ∃ x, vs = [x] ∧ Kd K H x ∧ Q (.bl (isN x)) H
noncomputable def spDraw (K : PySem.W.Frag) : Sp := fun vs H Q _ => ∃ (a : Addr) (ns : List Int) (k : Nat), vs = [.ref a, .int (k : Int)] ∧ SqL K H a (ns.map V.int) ∧ k ≤ 1000 ∧ ∀ (n : Nat) H', n < 2147483647 → Same H H' → Q (.int (n : Int)) H'
noncomputable def spWord (cC ea : Addr) : Sp := fun vs H Q _ => vs = [.ref ea] ∧ H ea = some (ExcO ea cC) ∧ ∀ t H', Same H H' → H t = none → H' t = some (.tup [.str "cell"]) → Q (.ref t) H'
theorem EqL.nil {K : PySem.W.Frag} {H : Hp} {a p : Addr} {xs : List V} {rec : V → V → Bool → Prop} (ha : SqL K H a xs) (hp : SqL K H p []) : EqL K H rec a p (decide (xs = [])) := by
  cases xs with
  | nil => exact ⟨[], [], .inr ⟨.inl ⟨ha, hp⟩, rfl, fun _ => true, (fun i x y e => by simp at e), rfl⟩⟩
  | cons x r => exact ⟨_, [], .inl ⟨ha, hp, by simp, rfl⟩⟩
section
variable {P : Program} {w : World} {K : PySem.W.Frag} {mg : Str → Option Value} {base : Heap} {cFE cC cP : Addr} {tC tL tG tB : Tok}
theorem sc_law_draw : FnScope ["_law_script", "_law_k", "_law_cell", "_law_base"] ["_law_script", "_law_k"] (defScope s_law_draw) := ⟨rfl, rfl, rfl, by decide +kernel, rfl, by decide +kernel, by decide +kernel⟩
theorem ok_law_draw {f : Addr} {fd : FuncData} (F : FunD K "_law_draw" "_law_draw" s_law_draw .none f fd) (T : Txt K mg cFE cC cP tC tL tG tB) : FnOk P w K mg base CX0 1 f fd ["_law_script", "_law_k"] (spDraw K) := by
  refine F.ok sc_law_draw (fun vs H Q E h => ?_) (fun cdv A outer s H vs Q E hr h => ?_)
  · obtain ⟨a, ns, k, rfl, _⟩ := h; rfl
  · obtain ⟨a, ns, k, rfl, hS, hk, kk⟩ := h
    have hu : _ + 64 < cLine := hr.units
    obtain ⟨t2, r2, k2⟩ : ∃ tr, PSs ((cxOf CX0 P w K mg base ["_law_script", "_law_k", "_law_cell", "_law_base"] "_law_draw" (defScope s_law_draw) f cdv A outer s H E).nox) ((defBody s_law_draw).drop 2) tr ∧
        ∀ (c : Int) (H1 : Hp), Same H H1 → tr { nx := fun _ H' => Q .non H', rt := Q } [some (.ref a), some (.int (k : Int)), some (.int c), none] H1 := by
      refine ⟨_, (pss_cons (ps_set (i := 3) sc_law_draw.nd rfl (by first | exact Or.inl rfl | exact Or.inr rfl) (pe_op op_mod (pe_op op_mul (pe_op op_add (pe_op op_add (pe_op op_add (pv 2) (pe_op op_mul (pe_op op_mul pe_int (pv 1)) (pv 1))) (pe_op op_mul pe_int (pv 1))) pe_int) pe_int) pe_int))
        (pss_one (ps_ret (pe_op op_mod (pe_op op_mul (pv 3) (pe_op op_add pe_int (pe_op op_mul (pv 1) (pv 1)))) pe_int)))), ?_⟩
      intro c H1 s1
      refine ⟨_, rfl, _, rfl, _, _, rfl, rfl, .inl ⟨by decide, by decide⟩, _, rfl, _, _, rfl, rfl, .inr ⟨by omega, by omega⟩, _, _, rfl, rfl, _, rfl, _, _, rfl, rfl, .inl ⟨by decide, by decide⟩, _, _, rfl, rfl, _, _, rfl, rfl, _, _, rfl, rfl, .inr ⟨by decide, by decide⟩, _, _, rfl, rfl, (by show (0 : Int) < 2147483647; decide), ?_⟩
      have f0 := Int.emod_nonneg ((c + 1009 * (k : Int) * (k : Int) + 31 * (k : Int) + 11) * 1103515245) (show (2147483647 : Int) ≠ 0 by decide)
      have f1 := Int.emod_lt_of_pos ((c + 1009 * (k : Int) * (k : Int) + 31 * (k : Int) + 11) * 1103515245) (show (0 : Int) < 2147483647 by decide)
      show gName 3 (.int ((c + 1009 * (k : Int) * (k : Int) + 31 * (k : Int) + 11) * 1103515245 % 2147483647)) _ H1 _
      generalize (c + 1009 * (k : Int) * (k : Int) + 31 * (k : Int) + 11) * 1103515245 % 2147483647 = bs at f0 f1 ⊢
      refine ⟨_, rfl, _, rfl, _, rfl, _, _, rfl, rfl, .inl ⟨by omega, by omega⟩, _, _, rfl, rfl, _, _, rfl, rfl, .inl ⟨by omega, by omega⟩, _, _, rfl, rfl, (by show (0 : Int) < 2147483647; decide), ?_⟩
      have g0 := Int.emod_nonneg (bs * (48271 + (k : Int) * (k : Int))) (show (2147483647 : Int) ≠ 0 by decide)
      have g1 := Int.emod_lt_of_pos (bs * (48271 + (k : Int) * (k : Int))) (show (0 : Int) < 2147483647 by decide)
      show Q (.int (bs * (48271 + (k : Int) * (k : Int)) % 2147483647)) H1
      obtain ⟨n, en, hn⟩ : ∃ n : Nat, bs * (48271 + (k : Int) * (k : Int)) % 2147483647 = (n : Int) ∧ n < 2147483647 := ⟨(bs * (48271 + (k : Int) * (k : Int)) % 2147483647).toNat, by omega, by omega⟩
      rw [en]
      exact kk n H1 hn s1
    refine ⟨_, (pss_cons (ps_set (i := 2) sc_law_draw.nd rfl (by first | exact Or.inl rfl | exact Or.inr rfl) pe_int)
        (pss_cons (ps_if (pt_cmpR (neDK K rfl hu) (pv 0) (pe_lst pa_nil) (nomark _)) (pss_one (ps_set (i := 2) sc_law_draw.nd rfl (by first | exact Or.inl rfl | exact Or.inr rfl) (pe_ix (ixK K rfl) (pv 0) (pe_op op_mod (pv 1) (pe_callB (lenK K rfl) rfl T.len PySem.boot_len (pa_cons (pv 0) pa_nil))) (fun _ _ => rfl)))) pss_nil)
        (@r2))), ?_⟩
    refine ⟨_, rfl, Nat.zero_le _, fun p hp => ?_⟩
    have z := same_new (o := HO.lst []) hp
    refine ⟨1, a, p, _, by decide, rfl, rfl, EqL.nil (z.seq hS) (SqL.of upd_same), _, rfl, ?_⟩
    cases ns with
    | nil => exact k2 0 _ z
    | cons x r =>
      refine ⟨_, rfl, _, rfl, _, rfl, a, _, rfl, .inl (z.seq hS), _, _, rfl, rfl, (by show (0 : Int) < (((x :: r).map V.int).length : Int); rw [List.length_map, List.length_cons]; omega), ?_⟩
      have f0 := Int.emod_nonneg (k : Int) (show (((x :: r).map V.int).length : Int) ≠ 0 by rw [List.length_map, List.length_cons]; omega)
      have f1 := Int.emod_lt_of_pos (k : Int) (show (0 : Int) < (((x :: r).map V.int).length : Int) by rw [List.length_map, List.length_cons]; omega)
      obtain ⟨v, hv, hvm⟩ : ∃ v, atI ((x :: r).map V.int) ((k : Int) % (((x :: r).map V.int).length : Int)) = some v ∧ v ∈ (x :: r).map V.int := by
        obtain ⟨j, ej⟩ : ∃ j : Nat, (k : Int) % (((x :: r).map V.int).length : Int) = (j : Int) := ⟨((k : Int) % (((x :: r).map V.int).length : Int)).toNat, by omega⟩
        rw [ej] at f1 ⊢
        have hj : j < ((x :: r).map V.int).length := by omega
        exact ⟨_, atI_nat (List.getElem?_eq_getElem hj), List.getElem_mem hj⟩
      obtain ⟨c, _, rfl⟩ := List.mem_map.mp hvm
      exact ⟨a, _, _, _, rfl, rfl, z.seq hS, hv, k2 c _ z⟩
theorem sc_law_whole : FnScope ["_law_found"] ["_law_found"] (defScope s_law_whole) := ⟨rfl, rfl, rfl, by decide +kernel, rfl, by decide +kernel, by decide +kernel⟩
theorem ok_law_whole {f : Addr} {fd : FuncData} (F : FunD K "_law_whole" "_law_whole" s_law_whole .none f fd) (T : Txt K mg cFE cC cP tC tL tG tB) : FnOk P w K mg base CX0 1 f fd ["_law_found"] (spWhN K) := by
  refine F.ok sc_law_whole (fun vs H Q E h => ?_) (fun cdv A outer s H vs Q E hr h => ?_)
  · obtain ⟨x, rfl, _⟩ := h; rfl
  · obtain ⟨x, rfl, kd, k⟩ := h
    refine ⟨_, (pss_one (ps_ret (pe_and (isiK K rfl (pv 0) rfl T.isinstance rfl T.int PyProof.Rows.boot_int) (pe_one (pe_not (isiK K rfl (pv 0) rfl T.isinstance rfl T.bool PyProof.Rows.boot_bool)))))), ?_⟩
    refine ⟨_, rfl, _, kd.isInt, _, rfl, ?_⟩
    cases x with
    | int i => exact iteT ⟨_, rfl, _, kd.isBool, _, rfl, k⟩
    | bl b => exact iteT ⟨_, rfl, _, kd.isBool, _, rfl, k⟩
    | _ => exact iteF k
structure TCs (K : PySem.W.Frag) (H : Hp) (v : V) : Prop where
  kd : Kd K H v
  len : ∀ xs, rowOf H v = some xs → xs.length ≤ 1000000
  it : ∀ xs, rowOf H v = some xs → ∀ x ∈ xs, Kd K H x
end
noncomputable def cellsB (H : Hp) (v : V) (m : Int) : Bool := match rowOf H v with
  | some xs => xs.all (isWh 0 15) && decide ((xs.length : Int) ≤ m)
  | none => false
noncomputable def spNeedCs (K : PySem.W.Frag) (cC : Addr) : Sp := fun vs H Q E => ∃ v m, vs = [v, .int m] ∧ TCs K H v ∧ (cellsB H v m = true → ∀ H', Same H H' → Q .non H') ∧ (cellsB H v m = false → ∀ H', Same H H' → E (.ref cC) none H')
section
variable {P : Program} {w : World} {K : PySem.W.Frag} {mg : Str → Option Value} {base : Heap} {cFE cC cP : Addr} {tC tL tG tB : Tok}
theorem sc_need_cells : FnScope ["cells", "most"] ["cells", "most"] (defScope s_need_cells) := ⟨rfl, rfl, rfl, by decide +kernel, rfl, by decide +kernel, by decide +kernel⟩
theorem ok_need_cells {f : Addr} {fd : FuncData} (F : FunD K "need_cells" "need_cells" s_need_cells .none f fd) (T : Txt K mg cFE cC cP tC tL tG tB) (g_is_list_of_cells : Def P w K mg base 5 "is_list_of_cells" ["thing"] [] (spLoc K)) : FnOk P w K mg base (CX1 P w) 6 f fd ["cells", "most"] (spNeedCs K cC) := by
  refine F.okX sc_need_cells (fun vs H Q E h => ?_) (fun cdv A outer s H vs Q E hr h => ?_)
  · obtain ⟨v, m, rfl, _⟩ := h; rfl
  · obtain ⟨v, m, rfl, t, kY, kN⟩ := h
    refine ⟨_, (pss_one (ps_if (PW.pt (pw_or (pt_not (pt_val (pe_callD g_is_list_of_cells (hr.mono (by decide)) rfl (pa_cons (pv 0) pa_nil)))) (pw_or1 (pt_cmpR op_gt (pe_callB (lenK K rfl) rfl T.len PySem.boot_len (pa_cons (pv 0) pa_nil)) (pv 1) (nomark _))))) (pss_one (ps_raise rfl raises1 rfl T.BadCell T.xBadCell (pa_cons pe_str pa_nil))) pss_nil)), ?_⟩
    cases hx : rowOf H v with
    | none =>
      have e : cellsB H v m = false := by unfold cellsB; rw [hx]
      refine ⟨_, rfl, v, rfl, .inr ⟨t.kd, by rw [isL_row t.kd, hx]; rfl, _, rfl, ⟨by show 1 ≤ sizeLine; decide, kN e H (Same.refl H)⟩⟩⟩
    | some xs =>
      obtain ⟨a, rfl, e⟩ := rowOf_ref hx
      have eb : cellsB H (.ref a) m = (xs.all (isWh 0 15) && decide ((xs.length : Int) ≤ m)) := by unfold cellsB; rw [hx]
      rw [eb] at kY kN
      refine ⟨_, rfl, _, rfl, .inl ⟨a, xs, rfl, e, Nat.le_trans (t.len xs hx) (by decide), t.it xs hx, fun H1 s1 => ⟨_, rfl, iteN (fun h => ?_) (fun h => ?_)⟩⟩⟩
      · exact ⟨by show 1 ≤ sizeLine; decide, kN (by rw [h]; rfl) H1 s1⟩
      rw [h, Bool.true_and] at kY kN
      refine ⟨_, rfl, a, _, rfl, .inl (SqL.of (s1 _ _ e)), _, rfl, _, _, rfl, rfl, _, rfl, iteB (fun h2 => ?_) (fun h2 => ?_)⟩
      · exact ⟨by show 1 ≤ sizeLine; decide, kN (decide_eq_false (by have := of_decide_eq_true h2; omega)) H1 s1⟩
      · exact kY (decide_eq_true (by have := of_decide_eq_false h2; omega)) H1 s1
end
end K20
set_option Elab.async false
set_option linter.all false
set_option maxRecDepth 100000
set_option maxHeartbeats 1600000
namespace K20
open PySem L2 M4
theorem tupleK {X : Cx} (K : PySem.W.Frag) (hK : X.K = K) : CallR X (.type "tuple") (fun xs H Q => ∃ p ys, xs = [V.ref p] ∧ ((SqL K H p ys ∧ ∀ (l : Addr), H l = none → Q (V.ref l) (upd H l (HO.tup ys))) ∨ SqT K H p ys ∧ Q (V.ref p) H)) := by
  subst hK
  exact call_tuple_of
section
variable {P : Program} {w : World} {K : PySem.W.Frag} {mg : Str → Option Value} {base : Heap} {cFE cC cP : Addr} {tC tL tG tB : Tok}
theorem sc_law_word : FnScope ["_law_e", "_law_some", "_law_found"] ["_law_e"] (defScope s_law_word) := ⟨rfl, rfl, rfl, by decide +kernel, rfl, by decide +kernel, by decide +kernel⟩
theorem ok_law_word {f : Addr} {fd : FuncData} (F : FunD K "_law_word" "_law_word" s_law_word .none f fd) (T : Txt K mg cFE cC cP tC tL tG tB) (TC : TxtC K mg cC) : FnOkM P w K mg base 2 f fd ["_law_e"] (spWord cC) := by
  refine F.okM sc_law_word (fun ea vs H Q E h => ?_) (fun cdv A ea outer s H vs Q E hr h => ?_)
  · obtain ⟨rfl, _⟩ := h; rfl
  · obtain ⟨rfl, ex, k⟩ := h
    obtain ⟨cBadColour, mBadColour, nBadColour⟩ := TC.BadColour
    obtain ⟨cBadCheck, mBadCheck, nBadCheck⟩ := TC.BadCheck
    obtain ⟨cBadDeed, mBadDeed, nBadDeed⟩ := TC.BadDeed
    obtain ⟨cBadEdge, mBadEdge, nBadEdge⟩ := TC.BadEdge
    obtain ⟨cBadHead, mBadHead, nBadHead⟩ := TC.BadHead
    obtain ⟨cBadMask, mBadMask, nBadMask⟩ := TC.BadMask
    obtain ⟨cBadName, mBadName, nBadName⟩ := TC.BadName
    obtain ⟨cBadPack, mBadPack, nBadPack⟩ := TC.BadPack
    obtain ⟨cBadPalette, mBadPalette, nBadPalette⟩ := TC.BadPalette
    obtain ⟨cBadPart, mBadPart, nBadPart⟩ := TC.BadPart
    obtain ⟨cBadPicture, mBadPicture, nBadPicture⟩ := TC.BadPicture
    obtain ⟨cBadRule, mBadRule, nBadRule⟩ := TC.BadRule
    obtain ⟨cBadRuns, mBadRuns, nBadRuns⟩ := TC.BadRuns
    obtain ⟨cBadSize, mBadSize, nBadSize⟩ := TC.BadSize
    obtain ⟨cBadText, mBadText, nBadText⟩ := TC.BadText
    obtain ⟨cNoColour, mNoColour, nNoColour⟩ := TC.NoColour
    obtain ⟨cNoPart, mNoPart, nNoPart⟩ := TC.NoPart
    obtain ⟨cNoPicture, mNoPicture, nNoPicture⟩ := TC.NoPicture
    obtain ⟨cNothingDone, mNothingDone, nNothingDone⟩ := TC.NothingDone
    obtain ⟨cOutOfPlace, mOutOfPlace, nOutOfPlace⟩ := TC.OutOfPlace
    obtain ⟨cTooMany, mTooMany, nTooMany⟩ := TC.TooMany
    obtain ⟨cTwice, mTwice, nTwice⟩ := TC.Twice
    refine ⟨_, (pss_cons (ps_set (i := 1) sc_law_word.nd rfl (by first | exact Or.inl rfl | exact Or.inr rfl) (pe_lst (pa_cons (pe_tup (pa_cons pe_str (pa_cons (isiCK K rfl (pv 0) rfl T.isinstance rfl T.BadCell) pa_nil))) (pa_cons (pe_tup (pa_cons pe_str (pa_cons (isiCK K rfl (pv 0) rfl T.isinstance rfl mBadColour) pa_nil))) (pa_cons (pe_tup (pa_cons pe_str (pa_cons (isiCK K rfl (pv 0) rfl T.isinstance rfl mBadPack) pa_nil))) pa_nil)))))
        (pss_cons (ps_set (i := 1) sc_law_word.nd rfl (by first | exact Or.inl rfl | exact Or.inr rfl) (pe_op op_cat (pv 1) (pe_lst (pa_cons (pe_tup (pa_cons pe_str (pa_cons (isiCK K rfl (pv 0) rfl T.isinstance rfl mBadPalette) pa_nil))) (pa_cons (pe_tup (pa_cons pe_str (pa_cons (isiCK K rfl (pv 0) rfl T.isinstance rfl mBadPicture) pa_nil))) pa_nil)))))
        (pss_cons (ps_set (i := 1) sc_law_word.nd rfl (by first | exact Or.inl rfl | exact Or.inr rfl) (pe_op op_cat (pv 1) (pe_lst (pa_cons (pe_tup (pa_cons pe_str (pa_cons (isiCK K rfl (pv 0) rfl T.isinstance rfl mBadSize) pa_nil))) (pa_cons (pe_tup (pa_cons pe_str (pa_cons (isiCK K rfl (pv 0) rfl T.isinstance rfl mNoColour) pa_nil))) pa_nil)))))
        (pss_cons (ps_set (i := 1) sc_law_word.nd rfl (by first | exact Or.inl rfl | exact Or.inr rfl) (pe_op op_cat (pv 1) (pe_lst (pa_cons (pe_tup (pa_cons pe_str (pa_cons (isiCK K rfl (pv 0) rfl T.isinstance rfl mTooMany) pa_nil))) (pa_cons (pe_tup (pa_cons pe_str (pa_cons (isiCK K rfl (pv 0) rfl T.isinstance rfl mBadRuns) pa_nil))) pa_nil)))))
        (pss_cons (ps_setCG (Marked ea) (ix := 2) (N := ["_law_word_here", "_law_fits"]) (src := [none, none]) sc_law_word.nd rfl rfl (fun _ _ _ _ => rfl) ⟨rfl, rfl, rfl, rfl, rfl, by decide +kernel⟩ (pi_listM K rfl (pv 1)) (fun s H C fp => pg_tupM (n := 2) K rfl rfl (pgs_cons (pg_name (i := 0) (show (["_law_word_here", "_law_fits"] : List Str).Nodup by decide +kernel) rfl (by first | exact Or.inl rfl | exact Or.inr rfl)) (pgs_cons (pg_name (i := 1) (show (["_law_word_here", "_law_fits"] : List Str).Nodup by decide +kernel) rfl (by first | exact Or.inl rfl | exact Or.inr rfl)) pgs_nil))) (fun s H C fp => (pts_one (pt_val (pv 1)))) (fun s H C fp => (pv 0)))
        (pss_cons (ps_if (pt_val (pe_callB (call_isXE K rfl) rfl T.isinstance PyProof.Rows.boot_isinstance (pa_cons (pv 0) (pa_cons (pe_tup (pa_cons (pe_glob (v := .ref cBadCheck) rfl mBadCheck rfl) (pa_cons (pe_glob (v := .ref cBadDeed) rfl mBadDeed rfl) (pa_cons (pe_glob (v := .ref cBadEdge) rfl mBadEdge rfl) (pa_cons (pe_glob (v := .ref cBadHead) rfl mBadHead rfl) (pa_cons (pe_glob (v := .ref cBadMask) rfl mBadMask rfl) (pa_cons (pe_glob (v := .ref cBadName) rfl mBadName rfl) (pa_cons (pe_glob (v := .ref cBadPart) rfl mBadPart rfl) (pa_cons (pe_glob (v := .ref cBadRule) rfl mBadRule rfl) (pa_cons (pe_glob (v := .ref cBadText) rfl mBadText rfl) pa_nil)))))))))) pa_nil)))) (pss_one (ps_expr (pe_bm PySem.F.plainAttrs_list PySem.F.slot_list_append PySem.F.type_list_append mt_append (pv 2) (pa_cons pe_str pa_nil)))) pss_nil)
        (pss_cons (ps_if (PW.pt (pw_or (pt_val (pe_callB (call_isXE K rfl) rfl T.isinstance PyProof.Rows.boot_isinstance (pa_cons (pv 0) (pa_cons (pe_tup (pa_cons (pe_glob (v := .ref cNoPart) rfl mNoPart rfl) (pa_cons (pe_glob (v := .ref cNoPicture) rfl mNoPicture rfl) (pa_cons (pe_glob (v := .ref cNothingDone) rfl mNothingDone rfl) (pa_cons (pe_glob (v := .ref cOutOfPlace) rfl mOutOfPlace rfl) (pa_cons (pe_glob (v := .ref cTwice) rfl mTwice rfl) pa_nil)))))) pa_nil)))) (pw_or1 (pt_not (pt_val (isiK K rfl (pv 0) rfl T.isinstance rfl T.ValueError boot_VE)))))) (pss_one (ps_expr (pe_bm PySem.F.plainAttrs_list PySem.F.slot_list_append PySem.F.type_list_append mt_append (pv 2) (pa_cons pe_str pa_nil)))) pss_nil)
        (pss_one (ps_ret (pe_callTy (tupleK K rfl) rfl T.tuple PyProof.Rows.boot_tuple (pa_cons (pv 2) pa_nil))))))))))), ?_⟩
    have sm := Same.refl H
    refine ⟨_, rfl, true, ⟨_, .exc ex T.kC, TC.iCC⟩, (by show 2 ≤ sizeLine; decide), fun t1 h_ => ?_⟩
    have z_ := same_new (o := HO.tup [V.str "cell", .bl true]) h_
    have ft1 : H t1 = none := sm.free h_
    have sm := sm.trans z_
    have ex := z_ _ _ ex
    have et1 : upd H t1 (HO.tup [V.str "cell", .bl true]) t1 = some (HO.tup [V.str "cell", .bl true]) := upd_same
    clear z_
    generalize upd H t1 (HO.tup [V.str "cell", .bl true]) = G1 at sm ex et1 h_ ⊢
    clear h_
    refine ⟨_, rfl, false, ⟨_, .exc ex T.kC, nBadColour⟩, (by show 2 ≤ sizeLine; decide), fun t2 h_ => ?_⟩
    have z_ := same_new (o := HO.tup [V.str "colour", .bl false]) h_
    have ft2 : H t2 = none := sm.free h_
    have sm := sm.trans z_
    have ex := z_ _ _ ex
    have et1 := z_ _ _ et1
    have et2 : upd G1 t2 (HO.tup [V.str "colour", .bl false]) t2 = some (HO.tup [V.str "colour", .bl false]) := upd_same
    clear z_
    generalize upd G1 t2 (HO.tup [V.str "colour", .bl false]) = G2 at sm ex et1 et2 h_ ⊢
    clear h_
    refine ⟨_, rfl, false, ⟨_, .exc ex T.kC, nBadPack⟩, (by show 2 ≤ sizeLine; decide), fun t3 h_ => ?_⟩
    have z_ := same_new (o := HO.tup [V.str "pack", .bl false]) h_
    have ft3 : H t3 = none := sm.free h_
    have sm := sm.trans z_
    have ex := z_ _ _ ex
    have et1 := z_ _ _ et1
    have et2 := z_ _ _ et2
    have et3 : upd G2 t3 (HO.tup [V.str "pack", .bl false]) t3 = some (HO.tup [V.str "pack", .bl false]) := upd_same
    clear z_
    generalize upd G2 t3 (HO.tup [V.str "pack", .bl false]) = G3 at sm ex et1 et2 et3 h_ ⊢
    clear h_
    refine ⟨(by show 3 ≤ sizeLine; decide), fun l1 h_ => ?_⟩
    have z_ := same_new (o := HO.lst [V.ref t1, .ref t2, .ref t3]) h_
    have fl1 : H l1 = none := sm.free h_
    have sm := sm.trans z_
    have ex := z_ _ _ ex
    have et1 := z_ _ _ et1
    have et2 := z_ _ _ et2
    have et3 := z_ _ _ et3
    have el1 : upd G3 l1 (HO.lst [V.ref t1, .ref t2, .ref t3]) l1 = some (HO.lst [V.ref t1, .ref t2, .ref t3]) := upd_same
    clear z_
    generalize upd G3 l1 (HO.lst [V.ref t1, .ref t2, .ref t3]) = G4 at sm ex et1 et2 et3 el1 h_ ⊢
    clear h_
    refine ⟨_, rfl, ?_⟩
    refine ⟨_, rfl, false, ⟨_, .exc ex T.kC, nBadPalette⟩, (by show 2 ≤ sizeLine; decide), fun t4 h_ => ?_⟩
    have z_ := same_new (o := HO.tup [V.str "palette", .bl false]) h_
    have ft4 : H t4 = none := sm.free h_
    have sm := sm.trans z_
    have ex := z_ _ _ ex
    have et1 := z_ _ _ et1
    have et2 := z_ _ _ et2
    have et3 := z_ _ _ et3
    have el1 := z_ _ _ el1
    have et4 : upd G4 t4 (HO.tup [V.str "palette", .bl false]) t4 = some (HO.tup [V.str "palette", .bl false]) := upd_same
    clear z_
    generalize upd G4 t4 (HO.tup [V.str "palette", .bl false]) = G5 at sm ex et1 et2 et3 el1 et4 h_ ⊢
    clear h_
    refine ⟨_, rfl, false, ⟨_, .exc ex T.kC, nBadPicture⟩, (by show 2 ≤ sizeLine; decide), fun t5 h_ => ?_⟩
    have z_ := same_new (o := HO.tup [V.str "picture", .bl false]) h_
    have ft5 : H t5 = none := sm.free h_
    have sm := sm.trans z_
    have ex := z_ _ _ ex
    have et1 := z_ _ _ et1
    have et2 := z_ _ _ et2
    have et3 := z_ _ _ et3
    have el1 := z_ _ _ el1
    have et4 := z_ _ _ et4
    have et5 : upd G5 t5 (HO.tup [V.str "picture", .bl false]) t5 = some (HO.tup [V.str "picture", .bl false]) := upd_same
    clear z_
    generalize upd G5 t5 (HO.tup [V.str "picture", .bl false]) = G6 at sm ex et1 et2 et3 el1 et4 et5 h_ ⊢
    clear h_
    refine ⟨(by show 2 ≤ sizeLine; decide), fun m2 h_ => ?_⟩
    have z_ := same_new (o := HO.lst [V.ref t4, .ref t5]) h_
    have fm2 : H m2 = none := sm.free h_
    have sm := sm.trans z_
    have ex := z_ _ _ ex
    have et1 := z_ _ _ et1
    have et2 := z_ _ _ et2
    have et3 := z_ _ _ et3
    have el1 := z_ _ _ el1
    have et4 := z_ _ _ et4
    have et5 := z_ _ _ et5
    have em2 : upd G6 m2 (HO.lst [V.ref t4, .ref t5]) m2 = some (HO.lst [V.ref t4, .ref t5]) := upd_same
    clear z_
    generalize upd G6 m2 (HO.lst [V.ref t4, .ref t5]) = G7 at sm ex et1 et2 et3 el1 et4 et5 em2 h_ ⊢
    clear h_
    refine ⟨l1, m2, _, _, rfl, rfl, el1, em2, (by show 3 + 2 ≤ sizeLine; decide), fun l2 h_ => ?_⟩
    have z_ := same_new (o := HO.lst ([V.ref t1, .ref t2, .ref t3] ++ [V.ref t4, .ref t5])) h_
    have fl2 : H l2 = none := sm.free h_
    have sm := sm.trans z_
    have ex := z_ _ _ ex
    have et1 := z_ _ _ et1
    have et2 := z_ _ _ et2
    have et3 := z_ _ _ et3
    have el1 := z_ _ _ el1
    have et4 := z_ _ _ et4
    have et5 := z_ _ _ et5
    have em2 := z_ _ _ em2
    have el2 : upd G7 l2 (HO.lst ([V.ref t1, .ref t2, .ref t3] ++ [V.ref t4, .ref t5])) l2 = some (HO.lst ([V.ref t1, .ref t2, .ref t3] ++ [V.ref t4, .ref t5])) := upd_same
    clear z_
    generalize upd G7 l2 (HO.lst ([V.ref t1, .ref t2, .ref t3] ++ [V.ref t4, .ref t5])) = G8 at sm ex et1 et2 et3 el1 et4 et5 em2 el2 h_ ⊢
    clear h_
    have el2 : G8 l2 = some (.lst [V.ref t1, .ref t2, .ref t3, .ref t4, .ref t5]) := el2
    refine ⟨_, rfl, ?_⟩
    refine ⟨_, rfl, false, ⟨_, .exc ex T.kC, nBadSize⟩, (by show 2 ≤ sizeLine; decide), fun t6 h_ => ?_⟩
    have z_ := same_new (o := HO.tup [V.str "size", .bl false]) h_
    have ft6 : H t6 = none := sm.free h_
    have sm := sm.trans z_
    have ex := z_ _ _ ex
    have et1 := z_ _ _ et1
    have et2 := z_ _ _ et2
    have et3 := z_ _ _ et3
    have et4 := z_ _ _ et4
    have et5 := z_ _ _ et5
    have el2 := z_ _ _ el2
    have et6 : upd G8 t6 (HO.tup [V.str "size", .bl false]) t6 = some (HO.tup [V.str "size", .bl false]) := upd_same
    clear z_
    generalize upd G8 t6 (HO.tup [V.str "size", .bl false]) = G9 at sm ex et1 et2 et3 et4 et5 el2 et6 h_ ⊢
    clear h_
    refine ⟨_, rfl, false, ⟨_, .exc ex T.kC, nNoColour⟩, (by show 2 ≤ sizeLine; decide), fun t7 h_ => ?_⟩
    have z_ := same_new (o := HO.tup [V.str "none", .bl false]) h_
    have ft7 : H t7 = none := sm.free h_
    have sm := sm.trans z_
    have ex := z_ _ _ ex
    have et1 := z_ _ _ et1
    have et2 := z_ _ _ et2
    have et3 := z_ _ _ et3
    have et4 := z_ _ _ et4
    have et5 := z_ _ _ et5
    have el2 := z_ _ _ el2
    have et6 := z_ _ _ et6
    have et7 : upd G9 t7 (HO.tup [V.str "none", .bl false]) t7 = some (HO.tup [V.str "none", .bl false]) := upd_same
    clear z_
    generalize upd G9 t7 (HO.tup [V.str "none", .bl false]) = G10 at sm ex et1 et2 et3 et4 et5 el2 et6 et7 h_ ⊢
    clear h_
    refine ⟨(by show 2 ≤ sizeLine; decide), fun m3 h_ => ?_⟩
    have z_ := same_new (o := HO.lst [V.ref t6, .ref t7]) h_
    have fm3 : H m3 = none := sm.free h_
    have sm := sm.trans z_
    have ex := z_ _ _ ex
    have et1 := z_ _ _ et1
    have et2 := z_ _ _ et2
    have et3 := z_ _ _ et3
    have et4 := z_ _ _ et4
    have et5 := z_ _ _ et5
    have el2 := z_ _ _ el2
    have et6 := z_ _ _ et6
    have et7 := z_ _ _ et7
    have em3 : upd G10 m3 (HO.lst [V.ref t6, .ref t7]) m3 = some (HO.lst [V.ref t6, .ref t7]) := upd_same
    clear z_
    generalize upd G10 m3 (HO.lst [V.ref t6, .ref t7]) = G11 at sm ex et1 et2 et3 et4 et5 el2 et6 et7 em3 h_ ⊢
    clear h_
    refine ⟨l2, m3, _, _, rfl, rfl, el2, em3, (by show 5 + 2 ≤ sizeLine; decide), fun l3 h_ => ?_⟩
    have z_ := same_new (o := HO.lst ([V.ref t1, .ref t2, .ref t3, .ref t4, .ref t5] ++ [V.ref t6, .ref t7])) h_
    have fl3 : H l3 = none := sm.free h_
    have sm := sm.trans z_
    have ex := z_ _ _ ex
    have et1 := z_ _ _ et1
    have et2 := z_ _ _ et2
    have et3 := z_ _ _ et3
    have et4 := z_ _ _ et4
    have et5 := z_ _ _ et5
    have el2 := z_ _ _ el2
    have et6 := z_ _ _ et6
    have et7 := z_ _ _ et7
    have em3 := z_ _ _ em3
    have el3 : upd G11 l3 (HO.lst ([V.ref t1, .ref t2, .ref t3, .ref t4, .ref t5] ++ [V.ref t6, .ref t7])) l3 = some (HO.lst ([V.ref t1, .ref t2, .ref t3, .ref t4, .ref t5] ++ [V.ref t6, .ref t7])) := upd_same
    clear z_
    generalize upd G11 l3 (HO.lst ([V.ref t1, .ref t2, .ref t3, .ref t4, .ref t5] ++ [V.ref t6, .ref t7])) = G12 at sm ex et1 et2 et3 et4 et5 el2 et6 et7 em3 el3 h_ ⊢
    clear h_
    have el3 : G12 l3 = some (.lst [V.ref t1, .ref t2, .ref t3, .ref t4, .ref t5, .ref t6, .ref t7]) := el3
    refine ⟨_, rfl, ?_⟩
    refine ⟨_, rfl, false, ⟨_, .exc ex T.kC, nTooMany⟩, (by show 2 ≤ sizeLine; decide), fun t8 h_ => ?_⟩
    have z_ := same_new (o := HO.tup [V.str "many", .bl false]) h_
    have ft8 : H t8 = none := sm.free h_
    have sm := sm.trans z_
    have ex := z_ _ _ ex
    have et1 := z_ _ _ et1
    have et2 := z_ _ _ et2
    have et3 := z_ _ _ et3
    have et4 := z_ _ _ et4
    have et5 := z_ _ _ et5
    have et6 := z_ _ _ et6
    have et7 := z_ _ _ et7
    have el3 := z_ _ _ el3
    have et8 : upd G12 t8 (HO.tup [V.str "many", .bl false]) t8 = some (HO.tup [V.str "many", .bl false]) := upd_same
    clear z_
    generalize upd G12 t8 (HO.tup [V.str "many", .bl false]) = G13 at sm ex et1 et2 et3 et4 et5 et6 et7 el3 et8 h_ ⊢
    clear h_
    refine ⟨_, rfl, false, ⟨_, .exc ex T.kC, nBadRuns⟩, (by show 2 ≤ sizeLine; decide), fun t9 h_ => ?_⟩
    have z_ := same_new (o := HO.tup [V.str "runs", .bl false]) h_
    have ft9 : H t9 = none := sm.free h_
    have sm := sm.trans z_
    have ex := z_ _ _ ex
    have et1 := z_ _ _ et1
    have et2 := z_ _ _ et2
    have et3 := z_ _ _ et3
    have et4 := z_ _ _ et4
    have et5 := z_ _ _ et5
    have et6 := z_ _ _ et6
    have et7 := z_ _ _ et7
    have el3 := z_ _ _ el3
    have et8 := z_ _ _ et8
    have et9 : upd G13 t9 (HO.tup [V.str "runs", .bl false]) t9 = some (HO.tup [V.str "runs", .bl false]) := upd_same
    clear z_
    generalize upd G13 t9 (HO.tup [V.str "runs", .bl false]) = G14 at sm ex et1 et2 et3 et4 et5 et6 et7 el3 et8 et9 h_ ⊢
    clear h_
    refine ⟨(by show 2 ≤ sizeLine; decide), fun m4 h_ => ?_⟩
    have z_ := same_new (o := HO.lst [V.ref t8, .ref t9]) h_
    have fm4 : H m4 = none := sm.free h_
    have sm := sm.trans z_
    have ex := z_ _ _ ex
    have et1 := z_ _ _ et1
    have et2 := z_ _ _ et2
    have et3 := z_ _ _ et3
    have et4 := z_ _ _ et4
    have et5 := z_ _ _ et5
    have et6 := z_ _ _ et6
    have et7 := z_ _ _ et7
    have el3 := z_ _ _ el3
    have et8 := z_ _ _ et8
    have et9 := z_ _ _ et9
    have em4 : upd G14 m4 (HO.lst [V.ref t8, .ref t9]) m4 = some (HO.lst [V.ref t8, .ref t9]) := upd_same
    clear z_
    generalize upd G14 m4 (HO.lst [V.ref t8, .ref t9]) = G15 at sm ex et1 et2 et3 et4 et5 et6 et7 el3 et8 et9 em4 h_ ⊢
    clear h_
    refine ⟨l3, m4, _, _, rfl, rfl, el3, em4, (by show 7 + 2 ≤ sizeLine; decide), fun l4 h_ => ?_⟩
    have z_ := same_new (o := HO.lst ([V.ref t1, .ref t2, .ref t3, .ref t4, .ref t5, .ref t6, .ref t7] ++ [V.ref t8, .ref t9])) h_
    have fl4 : H l4 = none := sm.free h_
    have sm := sm.trans z_
    have ex := z_ _ _ ex
    have et1 := z_ _ _ et1
    have et2 := z_ _ _ et2
    have et3 := z_ _ _ et3
    have et4 := z_ _ _ et4
    have et5 := z_ _ _ et5
    have et6 := z_ _ _ et6
    have et7 := z_ _ _ et7
    have el3 := z_ _ _ el3
    have et8 := z_ _ _ et8
    have et9 := z_ _ _ et9
    have em4 := z_ _ _ em4
    have el4 : upd G15 l4 (HO.lst ([V.ref t1, .ref t2, .ref t3, .ref t4, .ref t5, .ref t6, .ref t7] ++ [V.ref t8, .ref t9])) l4 = some (HO.lst ([V.ref t1, .ref t2, .ref t3, .ref t4, .ref t5, .ref t6, .ref t7] ++ [V.ref t8, .ref t9])) := upd_same
    clear z_
    generalize upd G15 l4 (HO.lst ([V.ref t1, .ref t2, .ref t3, .ref t4, .ref t5, .ref t6, .ref t7] ++ [V.ref t8, .ref t9])) = G16 at sm ex et1 et2 et3 et4 et5 et6 et7 el3 et8 et9 em4 el4 h_ ⊢
    clear h_
    have el4 : G16 l4 = some (.lst [V.ref t1, .ref t2, .ref t3, .ref t4, .ref t5, .ref t6, .ref t7, .ref t8, .ref t9]) := el4
    refine ⟨_, rfl, l4, rfl, ⟨_, SqL.of el4⟩, fun D h_ => ?_⟩
    have hT : ∀ t ∈ ([(t1, ("cell" : Str), true), (t2, ("colour" : Str), false), (t3, ("pack" : Str), false), (t4, ("palette" : Str), false), (t5, ("picture" : Str), false), (t6, ("size" : Str), false), (t7, ("none" : Str), false), (t8, ("many" : Str), false), (t9, ("runs" : Str), false)] : List (Addr × Str × Bool)), SqT K G16 t.1 [.str t.2.1, .bl t.2.2] := fun t ht => by
      simp only [List.mem_cons, List.not_mem_nil, or_false] at ht
      rcases ht with rfl | rfl | rfl | rfl | rfl | rfl | rfl | rfl | rfl
      · exact SqT.of et1
      · exact SqT.of et2
      · exact SqT.of et3
      · exact SqT.of et4
      · exact SqT.of et5
      · exact SqT.of et6
      · exact SqT.of et7
      · exact SqT.of et8
      · exact SqT.of et9
    refine comp_word (L := [(t1, ("cell" : Str), true), (t2, ("colour" : Str), false), (t3, ("pack" : Str), false), (t4, ("palette" : Str), false), (t5, ("picture" : Str), false), (t6, ("size" : Str), false), (t7, ("none" : Str), false), (t8, ("many" : Str), false), (t9, ("runs" : Str), false)]) (SqL.of el4) hT ⟨cC, ex⟩ (by show 9 ≤ sizeLine; decide) rfl h_ fun H5 s5 eD => ?_
    have fD : H D = none := sm.free h_
    have eD : H5 D = some (.lst [.str "cell"]) := eD
    have ex := s5 _ _ ex
    have sm := sm.trans s5
    refine ⟨_, rfl, (by show 9 ≤ sizeLine; decide), fun p1 hp1 => ?_⟩
    have y1 := same_new (o := HO.tup [V.ref cBadCheck, V.ref cBadDeed, V.ref cBadEdge, V.ref cBadHead, V.ref cBadMask, V.ref cBadName, V.ref cBadPart, V.ref cBadRule, V.ref cBadText]) hp1
    refine ⟨ea, cC, p1, [cBadCheck, cBadDeed, cBadEdge, cBadHead, cBadMask, cBadName, cBadPart, cBadRule, cBadText], false, rfl, y1 _ _ ex, T.kC, SqT.of upd_same, kitAny_none (fun c hc => ?_), ?_⟩
    · simp only [List.mem_cons, List.not_mem_nil, or_false] at hc
      rcases hc with rfl | rfl | rfl | rfl | rfl | rfl | rfl | rfl | rfl <;> assumption
    have ex := y1 _ _ ex
    have eD := y1 _ _ eD
    have sm := sm.trans y1
    generalize upd H5 p1 (HO.tup [V.ref cBadCheck, V.ref cBadDeed, V.ref cBadEdge, V.ref cBadHead, V.ref cBadMask, V.ref cBadName, V.ref cBadPart, V.ref cBadRule, V.ref cBadText]) = Y1 at ex eD sm y1 ⊢
    refine ⟨_, rfl, ?_⟩
    refine ⟨_, rfl, (by show 5 ≤ sizeLine; decide), fun p2 hp2 => ?_⟩
    have y2 := same_new (o := HO.tup [V.ref cNoPart, V.ref cNoPicture, V.ref cNothingDone, V.ref cOutOfPlace, V.ref cTwice]) hp2
    refine ⟨ea, cC, p2, [cNoPart, cNoPicture, cNothingDone, cOutOfPlace, cTwice], false, rfl, y2 _ _ ex, T.kC, SqT.of upd_same, kitAny_none (fun c hc => ?_), ?_⟩
    · simp only [List.mem_cons, List.not_mem_nil, or_false] at hc
      rcases hc with rfl | rfl | rfl | rfl | rfl <;> assumption
    have ex := y2 _ _ ex
    have eD := y2 _ _ eD
    have sm := sm.trans y2
    generalize upd Y1 p2 (HO.tup [V.ref cNoPart, V.ref cNoPicture, V.ref cNothingDone, V.ref cOutOfPlace, V.ref cTwice]) = Y2 at ex eD sm y2 ⊢
    refine ⟨_, rfl, _, rfl, true, ⟨_, .exc ex T.kC, TC.iCV⟩, _, rfl, ?_⟩
    exact ⟨_, rfl, D, _, rfl, .inl ⟨SqL.of eD, fun t ht => k t _ (sm.trans (same_new ht)) (sm.free ht) upd_same⟩⟩
end
end K20
set_option Elab.async false
set_option linter.all false
set_option maxRecDepth 100000
set_option maxHeartbeats 1600000
namespace K20
open PySem L2 M4
structure TxtR (K : PySem.W.Frag) (mg : Str → Option Value) (cP : Addr) : Prop where
  iCC : PySem.W.kitOne K (.ref cP) (.ref cP) = some true
  iCV : PySem.W.kitOne K (.ref cP) (.type "ValueError") = some true
  BadColour : Cl K mg cP "BadColour"
  BadCheck : Cl K mg cP "BadCheck"
  BadDeed : Cl K mg cP "BadDeed"
  BadEdge : Cl K mg cP "BadEdge"
  BadHead : Cl K mg cP "BadHead"
  BadMask : Cl K mg cP "BadMask"
  BadName : Cl K mg cP "BadName"
  BadPack : Cl K mg cP "BadPack"
  BadPalette : Cl K mg cP "BadPalette"
  BadPart : Cl K mg cP "BadPart"
  BadPicture : Cl K mg cP "BadPicture"
  BadRule : Cl K mg cP "BadRule"
  BadCell : Cl K mg cP "BadCell"
  BadSize : Cl K mg cP "BadSize"
  BadText : Cl K mg cP "BadText"
  NoColour : Cl K mg cP "NoColour"
  NoPart : Cl K mg cP "NoPart"
  NoPicture : Cl K mg cP "NoPicture"
  NothingDone : Cl K mg cP "NothingDone"
  OutOfPlace : Cl K mg cP "OutOfPlace"
  TooMany : Cl K mg cP "TooMany"
  Twice : Cl K mg cP "Twice"
noncomputable def spWordR (cP ea : Addr) : Sp := fun vs H Q _ => vs = [.ref ea] ∧ H ea = some (ExcO ea cP) ∧ ∀ t H', Same H H' → H t = none → H' t = some (.tup [.str "runs"]) → Q (.ref t) H'
section
variable {P : Program} {w : World} {K : PySem.W.Frag} {mg : Str → Option Value} {base : Heap} {cFE cC cP : Addr} {tC tL tG tB : Tok}
theorem ok_law_wordR {f : Addr} {fd : FuncData} (F : FunD K "_law_word" "_law_word" s_law_word .none f fd) (T : Txt K mg cFE cC cP tC tL tG tB) (TC : TxtR K mg cP) : FnOkM P w K mg base 2 f fd ["_law_e"] (spWordR cP) := by
  refine F.okM sc_law_word (fun ea vs H Q E h => ?_) (fun cdv A ea outer s H vs Q E hr h => ?_)
  · obtain ⟨rfl, _⟩ := h; rfl
  · obtain ⟨rfl, ex, k⟩ := h
    obtain ⟨cBadColour, mBadColour, nBadColour⟩ := TC.BadColour
    obtain ⟨cBadCheck, mBadCheck, nBadCheck⟩ := TC.BadCheck
    obtain ⟨cBadDeed, mBadDeed, nBadDeed⟩ := TC.BadDeed
    obtain ⟨cBadEdge, mBadEdge, nBadEdge⟩ := TC.BadEdge
    obtain ⟨cBadHead, mBadHead, nBadHead⟩ := TC.BadHead
    obtain ⟨cBadMask, mBadMask, nBadMask⟩ := TC.BadMask
    obtain ⟨cBadName, mBadName, nBadName⟩ := TC.BadName
    obtain ⟨cBadPack, mBadPack, nBadPack⟩ := TC.BadPack
    obtain ⟨cBadPalette, mBadPalette, nBadPalette⟩ := TC.BadPalette
    obtain ⟨cBadPart, mBadPart, nBadPart⟩ := TC.BadPart
    obtain ⟨cBadPicture, mBadPicture, nBadPicture⟩ := TC.BadPicture
    obtain ⟨cBadRule, mBadRule, nBadRule⟩ := TC.BadRule
    obtain ⟨cBadCell, mBadCell, nBadCell⟩ := TC.BadCell
    obtain ⟨cBadSize, mBadSize, nBadSize⟩ := TC.BadSize
    obtain ⟨cBadText, mBadText, nBadText⟩ := TC.BadText
    obtain ⟨cNoColour, mNoColour, nNoColour⟩ := TC.NoColour
    obtain ⟨cNoPart, mNoPart, nNoPart⟩ := TC.NoPart
    obtain ⟨cNoPicture, mNoPicture, nNoPicture⟩ := TC.NoPicture
    obtain ⟨cNothingDone, mNothingDone, nNothingDone⟩ := TC.NothingDone
    obtain ⟨cOutOfPlace, mOutOfPlace, nOutOfPlace⟩ := TC.OutOfPlace
    obtain ⟨cTooMany, mTooMany, nTooMany⟩ := TC.TooMany
    obtain ⟨cTwice, mTwice, nTwice⟩ := TC.Twice
    refine ⟨_, (pss_cons (ps_set (i := 1) sc_law_word.nd rfl (by first | exact Or.inl rfl | exact Or.inr rfl) (pe_lst (pa_cons (pe_tup (pa_cons pe_str (pa_cons (isiCK K rfl (pv 0) rfl T.isinstance rfl mBadCell) pa_nil))) (pa_cons (pe_tup (pa_cons pe_str (pa_cons (isiCK K rfl (pv 0) rfl T.isinstance rfl mBadColour) pa_nil))) (pa_cons (pe_tup (pa_cons pe_str (pa_cons (isiCK K rfl (pv 0) rfl T.isinstance rfl mBadPack) pa_nil))) pa_nil)))))
        (pss_cons (ps_set (i := 1) sc_law_word.nd rfl (by first | exact Or.inl rfl | exact Or.inr rfl) (pe_op op_cat (pv 1) (pe_lst (pa_cons (pe_tup (pa_cons pe_str (pa_cons (isiCK K rfl (pv 0) rfl T.isinstance rfl mBadPalette) pa_nil))) (pa_cons (pe_tup (pa_cons pe_str (pa_cons (isiCK K rfl (pv 0) rfl T.isinstance rfl mBadPicture) pa_nil))) pa_nil)))))
        (pss_cons (ps_set (i := 1) sc_law_word.nd rfl (by first | exact Or.inl rfl | exact Or.inr rfl) (pe_op op_cat (pv 1) (pe_lst (pa_cons (pe_tup (pa_cons pe_str (pa_cons (isiCK K rfl (pv 0) rfl T.isinstance rfl mBadSize) pa_nil))) (pa_cons (pe_tup (pa_cons pe_str (pa_cons (isiCK K rfl (pv 0) rfl T.isinstance rfl mNoColour) pa_nil))) pa_nil)))))
        (pss_cons (ps_set (i := 1) sc_law_word.nd rfl (by first | exact Or.inl rfl | exact Or.inr rfl) (pe_op op_cat (pv 1) (pe_lst (pa_cons (pe_tup (pa_cons pe_str (pa_cons (isiCK K rfl (pv 0) rfl T.isinstance rfl mTooMany) pa_nil))) (pa_cons (pe_tup (pa_cons pe_str (pa_cons (isiCK K rfl (pv 0) rfl T.isinstance rfl T.BadRuns) pa_nil))) pa_nil)))))
        (pss_cons (ps_setCG (Marked ea) (ix := 2) (N := ["_law_word_here", "_law_fits"]) (src := [none, none]) sc_law_word.nd rfl rfl (fun _ _ _ _ => rfl) ⟨rfl, rfl, rfl, rfl, rfl, by decide +kernel⟩ (pi_listM K rfl (pv 1)) (fun s H C fp => pg_tupM (n := 2) K rfl rfl (pgs_cons (pg_name (i := 0) (show (["_law_word_here", "_law_fits"] : List Str).Nodup by decide +kernel) rfl (by first | exact Or.inl rfl | exact Or.inr rfl)) (pgs_cons (pg_name (i := 1) (show (["_law_word_here", "_law_fits"] : List Str).Nodup by decide +kernel) rfl (by first | exact Or.inl rfl | exact Or.inr rfl)) pgs_nil))) (fun s H C fp => (pts_one (pt_val (pv 1)))) (fun s H C fp => (pv 0)))
        (pss_cons (ps_if (pt_val (pe_callB (call_isXE K rfl) rfl T.isinstance PyProof.Rows.boot_isinstance (pa_cons (pv 0) (pa_cons (pe_tup (pa_cons (pe_glob (v := .ref cBadCheck) rfl mBadCheck rfl) (pa_cons (pe_glob (v := .ref cBadDeed) rfl mBadDeed rfl) (pa_cons (pe_glob (v := .ref cBadEdge) rfl mBadEdge rfl) (pa_cons (pe_glob (v := .ref cBadHead) rfl mBadHead rfl) (pa_cons (pe_glob (v := .ref cBadMask) rfl mBadMask rfl) (pa_cons (pe_glob (v := .ref cBadName) rfl mBadName rfl) (pa_cons (pe_glob (v := .ref cBadPart) rfl mBadPart rfl) (pa_cons (pe_glob (v := .ref cBadRule) rfl mBadRule rfl) (pa_cons (pe_glob (v := .ref cBadText) rfl mBadText rfl) pa_nil)))))))))) pa_nil)))) (pss_one (ps_expr (pe_bm PySem.F.plainAttrs_list PySem.F.slot_list_append PySem.F.type_list_append mt_append (pv 2) (pa_cons pe_str pa_nil)))) pss_nil)
        (pss_cons (ps_if (PW.pt (pw_or (pt_val (pe_callB (call_isXE K rfl) rfl T.isinstance PyProof.Rows.boot_isinstance (pa_cons (pv 0) (pa_cons (pe_tup (pa_cons (pe_glob (v := .ref cNoPart) rfl mNoPart rfl) (pa_cons (pe_glob (v := .ref cNoPicture) rfl mNoPicture rfl) (pa_cons (pe_glob (v := .ref cNothingDone) rfl mNothingDone rfl) (pa_cons (pe_glob (v := .ref cOutOfPlace) rfl mOutOfPlace rfl) (pa_cons (pe_glob (v := .ref cTwice) rfl mTwice rfl) pa_nil)))))) pa_nil)))) (pw_or1 (pt_not (pt_val (isiK K rfl (pv 0) rfl T.isinstance rfl T.ValueError boot_VE)))))) (pss_one (ps_expr (pe_bm PySem.F.plainAttrs_list PySem.F.slot_list_append PySem.F.type_list_append mt_append (pv 2) (pa_cons pe_str pa_nil)))) pss_nil)
        (pss_one (ps_ret (pe_callTy (tupleK K rfl) rfl T.tuple PyProof.Rows.boot_tuple (pa_cons (pv 2) pa_nil))))))))))), ?_⟩
    have sm := Same.refl H
    refine ⟨_, rfl, false, ⟨_, .exc ex T.kP, nBadCell⟩, (by show 2 ≤ sizeLine; decide), fun t1 h_ => ?_⟩
    have z_ := same_new (o := HO.tup [V.str "cell", .bl false]) h_
    have ft1 : H t1 = none := sm.free h_
    have sm := sm.trans z_
    have ex := z_ _ _ ex
    have et1 : upd H t1 (HO.tup [V.str "cell", .bl false]) t1 = some (HO.tup [V.str "cell", .bl false]) := upd_same
    clear z_
    generalize upd H t1 (HO.tup [V.str "cell", .bl false]) = G1 at sm ex et1 h_ ⊢
    clear h_
    refine ⟨_, rfl, false, ⟨_, .exc ex T.kP, nBadColour⟩, (by show 2 ≤ sizeLine; decide), fun t2 h_ => ?_⟩
    have z_ := same_new (o := HO.tup [V.str "colour", .bl false]) h_
    have ft2 : H t2 = none := sm.free h_
    have sm := sm.trans z_
    have ex := z_ _ _ ex
    have et1 := z_ _ _ et1
    have et2 : upd G1 t2 (HO.tup [V.str "colour", .bl false]) t2 = some (HO.tup [V.str "colour", .bl false]) := upd_same
    clear z_
    generalize upd G1 t2 (HO.tup [V.str "colour", .bl false]) = G2 at sm ex et1 et2 h_ ⊢
    clear h_
    refine ⟨_, rfl, false, ⟨_, .exc ex T.kP, nBadPack⟩, (by show 2 ≤ sizeLine; decide), fun t3 h_ => ?_⟩
    have z_ := same_new (o := HO.tup [V.str "pack", .bl false]) h_
    have ft3 : H t3 = none := sm.free h_
    have sm := sm.trans z_
    have ex := z_ _ _ ex
    have et1 := z_ _ _ et1
    have et2 := z_ _ _ et2
    have et3 : upd G2 t3 (HO.tup [V.str "pack", .bl false]) t3 = some (HO.tup [V.str "pack", .bl false]) := upd_same
    clear z_
    generalize upd G2 t3 (HO.tup [V.str "pack", .bl false]) = G3 at sm ex et1 et2 et3 h_ ⊢
    clear h_
    refine ⟨(by show 3 ≤ sizeLine; decide), fun l1 h_ => ?_⟩
    have z_ := same_new (o := HO.lst [V.ref t1, .ref t2, .ref t3]) h_
    have fl1 : H l1 = none := sm.free h_
    have sm := sm.trans z_
    have ex := z_ _ _ ex
    have et1 := z_ _ _ et1
    have et2 := z_ _ _ et2
    have et3 := z_ _ _ et3
    have el1 : upd G3 l1 (HO.lst [V.ref t1, .ref t2, .ref t3]) l1 = some (HO.lst [V.ref t1, .ref t2, .ref t3]) := upd_same
    clear z_
    generalize upd G3 l1 (HO.lst [V.ref t1, .ref t2, .ref t3]) = G4 at sm ex et1 et2 et3 el1 h_ ⊢
    clear h_
    refine ⟨_, rfl, ?_⟩
    refine ⟨_, rfl, false, ⟨_, .exc ex T.kP, nBadPalette⟩, (by show 2 ≤ sizeLine; decide), fun t4 h_ => ?_⟩
    have z_ := same_new (o := HO.tup [V.str "palette", .bl false]) h_
    have ft4 : H t4 = none := sm.free h_
    have sm := sm.trans z_
    have ex := z_ _ _ ex
    have et1 := z_ _ _ et1
    have et2 := z_ _ _ et2
    have et3 := z_ _ _ et3
    have el1 := z_ _ _ el1
    have et4 : upd G4 t4 (HO.tup [V.str "palette", .bl false]) t4 = some (HO.tup [V.str "palette", .bl false]) := upd_same
    clear z_
    generalize upd G4 t4 (HO.tup [V.str "palette", .bl false]) = G5 at sm ex et1 et2 et3 el1 et4 h_ ⊢
    clear h_
    refine ⟨_, rfl, false, ⟨_, .exc ex T.kP, nBadPicture⟩, (by show 2 ≤ sizeLine; decide), fun t5 h_ => ?_⟩
    have z_ := same_new (o := HO.tup [V.str "picture", .bl false]) h_
    have ft5 : H t5 = none := sm.free h_
    have sm := sm.trans z_
    have ex := z_ _ _ ex
    have et1 := z_ _ _ et1
    have et2 := z_ _ _ et2
    have et3 := z_ _ _ et3
    have el1 := z_ _ _ el1
    have et4 := z_ _ _ et4
    have et5 : upd G5 t5 (HO.tup [V.str "picture", .bl false]) t5 = some (HO.tup [V.str "picture", .bl false]) := upd_same
    clear z_
    generalize upd G5 t5 (HO.tup [V.str "picture", .bl false]) = G6 at sm ex et1 et2 et3 el1 et4 et5 h_ ⊢
    clear h_
    refine ⟨(by show 2 ≤ sizeLine; decide), fun m2 h_ => ?_⟩
    have z_ := same_new (o := HO.lst [V.ref t4, .ref t5]) h_
    have fm2 : H m2 = none := sm.free h_
    have sm := sm.trans z_
    have ex := z_ _ _ ex
    have et1 := z_ _ _ et1
    have et2 := z_ _ _ et2
    have et3 := z_ _ _ et3
    have el1 := z_ _ _ el1
    have et4 := z_ _ _ et4
    have et5 := z_ _ _ et5
    have em2 : upd G6 m2 (HO.lst [V.ref t4, .ref t5]) m2 = some (HO.lst [V.ref t4, .ref t5]) := upd_same
    clear z_
    generalize upd G6 m2 (HO.lst [V.ref t4, .ref t5]) = G7 at sm ex et1 et2 et3 el1 et4 et5 em2 h_ ⊢
    clear h_
    refine ⟨l1, m2, _, _, rfl, rfl, el1, em2, (by show 3 + 2 ≤ sizeLine; decide), fun l2 h_ => ?_⟩
    have z_ := same_new (o := HO.lst ([V.ref t1, .ref t2, .ref t3] ++ [V.ref t4, .ref t5])) h_
    have fl2 : H l2 = none := sm.free h_
    have sm := sm.trans z_
    have ex := z_ _ _ ex
    have et1 := z_ _ _ et1
    have et2 := z_ _ _ et2
    have et3 := z_ _ _ et3
    have el1 := z_ _ _ el1
    have et4 := z_ _ _ et4
    have et5 := z_ _ _ et5
    have em2 := z_ _ _ em2
    have el2 : upd G7 l2 (HO.lst ([V.ref t1, .ref t2, .ref t3] ++ [V.ref t4, .ref t5])) l2 = some (HO.lst ([V.ref t1, .ref t2, .ref t3] ++ [V.ref t4, .ref t5])) := upd_same
    clear z_
    generalize upd G7 l2 (HO.lst ([V.ref t1, .ref t2, .ref t3] ++ [V.ref t4, .ref t5])) = G8 at sm ex et1 et2 et3 el1 et4 et5 em2 el2 h_ ⊢
    clear h_
    have el2 : G8 l2 = some (.lst [V.ref t1, .ref t2, .ref t3, .ref t4, .ref t5]) := el2
    refine ⟨_, rfl, ?_⟩
    refine ⟨_, rfl, false, ⟨_, .exc ex T.kP, nBadSize⟩, (by show 2 ≤ sizeLine; decide), fun t6 h_ => ?_⟩
    have z_ := same_new (o := HO.tup [V.str "size", .bl false]) h_
    have ft6 : H t6 = none := sm.free h_
    have sm := sm.trans z_
    have ex := z_ _ _ ex
    have et1 := z_ _ _ et1
    have et2 := z_ _ _ et2
    have et3 := z_ _ _ et3
    have et4 := z_ _ _ et4
    have et5 := z_ _ _ et5
    have el2 := z_ _ _ el2
    have et6 : upd G8 t6 (HO.tup [V.str "size", .bl false]) t6 = some (HO.tup [V.str "size", .bl false]) := upd_same
    clear z_
    generalize upd G8 t6 (HO.tup [V.str "size", .bl false]) = G9 at sm ex et1 et2 et3 et4 et5 el2 et6 h_ ⊢
    clear h_
    refine ⟨_, rfl, false, ⟨_, .exc ex T.kP, nNoColour⟩, (by show 2 ≤ sizeLine; decide), fun t7 h_ => ?_⟩
    have z_ := same_new (o := HO.tup [V.str "none", .bl false]) h_
    have ft7 : H t7 = none := sm.free h_
    have sm := sm.trans z_
    have ex := z_ _ _ ex
    have et1 := z_ _ _ et1
    have et2 := z_ _ _ et2
    have et3 := z_ _ _ et3
    have et4 := z_ _ _ et4
    have et5 := z_ _ _ et5
    have el2 := z_ _ _ el2
    have et6 := z_ _ _ et6
    have et7 : upd G9 t7 (HO.tup [V.str "none", .bl false]) t7 = some (HO.tup [V.str "none", .bl false]) := upd_same
    clear z_
    generalize upd G9 t7 (HO.tup [V.str "none", .bl false]) = G10 at sm ex et1 et2 et3 et4 et5 el2 et6 et7 h_ ⊢
    clear h_
    refine ⟨(by show 2 ≤ sizeLine; decide), fun m3 h_ => ?_⟩
    have z_ := same_new (o := HO.lst [V.ref t6, .ref t7]) h_
    have fm3 : H m3 = none := sm.free h_
    have sm := sm.trans z_
    have ex := z_ _ _ ex
    have et1 := z_ _ _ et1
    have et2 := z_ _ _ et2
    have et3 := z_ _ _ et3
    have et4 := z_ _ _ et4
    have et5 := z_ _ _ et5
    have el2 := z_ _ _ el2
    have et6 := z_ _ _ et6
    have et7 := z_ _ _ et7
    have em3 : upd G10 m3 (HO.lst [V.ref t6, .ref t7]) m3 = some (HO.lst [V.ref t6, .ref t7]) := upd_same
    clear z_
    generalize upd G10 m3 (HO.lst [V.ref t6, .ref t7]) = G11 at sm ex et1 et2 et3 et4 et5 el2 et6 et7 em3 h_ ⊢
    clear h_
    refine ⟨l2, m3, _, _, rfl, rfl, el2, em3, (by show 5 + 2 ≤ sizeLine; decide), fun l3 h_ => ?_⟩
    have z_ := same_new (o := HO.lst ([V.ref t1, .ref t2, .ref t3, .ref t4, .ref t5] ++ [V.ref t6, .ref t7])) h_
    have fl3 : H l3 = none := sm.free h_
    have sm := sm.trans z_
    have ex := z_ _ _ ex
    have et1 := z_ _ _ et1
    have et2 := z_ _ _ et2
    have et3 := z_ _ _ et3
    have et4 := z_ _ _ et4
    have et5 := z_ _ _ et5
    have el2 := z_ _ _ el2
    have et6 := z_ _ _ et6
    have et7 := z_ _ _ et7
    have em3 := z_ _ _ em3
    have el3 : upd G11 l3 (HO.lst ([V.ref t1, .ref t2, .ref t3, .ref t4, .ref t5] ++ [V.ref t6, .ref t7])) l3 = some (HO.lst ([V.ref t1, .ref t2, .ref t3, .ref t4, .ref t5] ++ [V.ref t6, .ref t7])) := upd_same
    clear z_
    generalize upd G11 l3 (HO.lst ([V.ref t1, .ref t2, .ref t3, .ref t4, .ref t5] ++ [V.ref t6, .ref t7])) = G12 at sm ex et1 et2 et3 et4 et5 el2 et6 et7 em3 el3 h_ ⊢
    clear h_
    have el3 : G12 l3 = some (.lst [V.ref t1, .ref t2, .ref t3, .ref t4, .ref t5, .ref t6, .ref t7]) := el3
    refine ⟨_, rfl, ?_⟩
    refine ⟨_, rfl, false, ⟨_, .exc ex T.kP, nTooMany⟩, (by show 2 ≤ sizeLine; decide), fun t8 h_ => ?_⟩
    have z_ := same_new (o := HO.tup [V.str "many", .bl false]) h_
    have ft8 : H t8 = none := sm.free h_
    have sm := sm.trans z_
    have ex := z_ _ _ ex
    have et1 := z_ _ _ et1
    have et2 := z_ _ _ et2
    have et3 := z_ _ _ et3
    have et4 := z_ _ _ et4
    have et5 := z_ _ _ et5
    have et6 := z_ _ _ et6
    have et7 := z_ _ _ et7
    have el3 := z_ _ _ el3
    have et8 : upd G12 t8 (HO.tup [V.str "many", .bl false]) t8 = some (HO.tup [V.str "many", .bl false]) := upd_same
    clear z_
    generalize upd G12 t8 (HO.tup [V.str "many", .bl false]) = G13 at sm ex et1 et2 et3 et4 et5 et6 et7 el3 et8 h_ ⊢
    clear h_
    refine ⟨_, rfl, true, ⟨_, .exc ex T.kP, TC.iCC⟩, (by show 2 ≤ sizeLine; decide), fun t9 h_ => ?_⟩
    have z_ := same_new (o := HO.tup [V.str "runs", .bl true]) h_
    have ft9 : H t9 = none := sm.free h_
    have sm := sm.trans z_
    have ex := z_ _ _ ex
    have et1 := z_ _ _ et1
    have et2 := z_ _ _ et2
    have et3 := z_ _ _ et3
    have et4 := z_ _ _ et4
    have et5 := z_ _ _ et5
    have et6 := z_ _ _ et6
    have et7 := z_ _ _ et7
    have el3 := z_ _ _ el3
    have et8 := z_ _ _ et8
    have et9 : upd G13 t9 (HO.tup [V.str "runs", .bl true]) t9 = some (HO.tup [V.str "runs", .bl true]) := upd_same
    clear z_
    generalize upd G13 t9 (HO.tup [V.str "runs", .bl true]) = G14 at sm ex et1 et2 et3 et4 et5 et6 et7 el3 et8 et9 h_ ⊢
    clear h_
    refine ⟨(by show 2 ≤ sizeLine; decide), fun m4 h_ => ?_⟩
    have z_ := same_new (o := HO.lst [V.ref t8, .ref t9]) h_
    have fm4 : H m4 = none := sm.free h_
    have sm := sm.trans z_
    have ex := z_ _ _ ex
    have et1 := z_ _ _ et1
    have et2 := z_ _ _ et2
    have et3 := z_ _ _ et3
    have et4 := z_ _ _ et4
    have et5 := z_ _ _ et5
    have et6 := z_ _ _ et6
    have et7 := z_ _ _ et7
    have el3 := z_ _ _ el3
    have et8 := z_ _ _ et8
    have et9 := z_ _ _ et9
    have em4 : upd G14 m4 (HO.lst [V.ref t8, .ref t9]) m4 = some (HO.lst [V.ref t8, .ref t9]) := upd_same
    clear z_
    generalize upd G14 m4 (HO.lst [V.ref t8, .ref t9]) = G15 at sm ex et1 et2 et3 et4 et5 et6 et7 el3 et8 et9 em4 h_ ⊢
    clear h_
    refine ⟨l3, m4, _, _, rfl, rfl, el3, em4, (by show 7 + 2 ≤ sizeLine; decide), fun l4 h_ => ?_⟩
    have z_ := same_new (o := HO.lst ([V.ref t1, .ref t2, .ref t3, .ref t4, .ref t5, .ref t6, .ref t7] ++ [V.ref t8, .ref t9])) h_
    have fl4 : H l4 = none := sm.free h_
    have sm := sm.trans z_
    have ex := z_ _ _ ex
    have et1 := z_ _ _ et1
    have et2 := z_ _ _ et2
    have et3 := z_ _ _ et3
    have et4 := z_ _ _ et4
    have et5 := z_ _ _ et5
    have et6 := z_ _ _ et6
    have et7 := z_ _ _ et7
    have el3 := z_ _ _ el3
    have et8 := z_ _ _ et8
    have et9 := z_ _ _ et9
    have em4 := z_ _ _ em4
    have el4 : upd G15 l4 (HO.lst ([V.ref t1, .ref t2, .ref t3, .ref t4, .ref t5, .ref t6, .ref t7] ++ [V.ref t8, .ref t9])) l4 = some (HO.lst ([V.ref t1, .ref t2, .ref t3, .ref t4, .ref t5, .ref t6, .ref t7] ++ [V.ref t8, .ref t9])) := upd_same
    clear z_
    generalize upd G15 l4 (HO.lst ([V.ref t1, .ref t2, .ref t3, .ref t4, .ref t5, .ref t6, .ref t7] ++ [V.ref t8, .ref t9])) = G16 at sm ex et1 et2 et3 et4 et5 et6 et7 el3 et8 et9 em4 el4 h_ ⊢
    clear h_
    have el4 : G16 l4 = some (.lst [V.ref t1, .ref t2, .ref t3, .ref t4, .ref t5, .ref t6, .ref t7, .ref t8, .ref t9]) := el4
    refine ⟨_, rfl, l4, rfl, ⟨_, SqL.of el4⟩, fun D h_ => ?_⟩
    have hT : ∀ t ∈ ([(t1, ("cell" : Str), false), (t2, ("colour" : Str), false), (t3, ("pack" : Str), false), (t4, ("palette" : Str), false), (t5, ("picture" : Str), false), (t6, ("size" : Str), false), (t7, ("none" : Str), false), (t8, ("many" : Str), false), (t9, ("runs" : Str), true)] : List (Addr × Str × Bool)), SqT K G16 t.1 [.str t.2.1, .bl t.2.2] := fun t ht => by
      simp only [List.mem_cons, List.not_mem_nil, or_false] at ht
      rcases ht with rfl | rfl | rfl | rfl | rfl | rfl | rfl | rfl | rfl
      · exact SqT.of et1
      · exact SqT.of et2
      · exact SqT.of et3
      · exact SqT.of et4
      · exact SqT.of et5
      · exact SqT.of et6
      · exact SqT.of et7
      · exact SqT.of et8
      · exact SqT.of et9
    refine comp_word (L := [(t1, ("cell" : Str), false), (t2, ("colour" : Str), false), (t3, ("pack" : Str), false), (t4, ("palette" : Str), false), (t5, ("picture" : Str), false), (t6, ("size" : Str), false), (t7, ("none" : Str), false), (t8, ("many" : Str), false), (t9, ("runs" : Str), true)]) (SqL.of el4) hT ⟨cP, ex⟩ (by show 9 ≤ sizeLine; decide) rfl h_ fun H5 s5 eD => ?_
    have fD : H D = none := sm.free h_
    have eD : H5 D = some (.lst [.str "runs"]) := eD
    have ex := s5 _ _ ex
    have sm := sm.trans s5
    refine ⟨_, rfl, (by show 9 ≤ sizeLine; decide), fun p1 hp1 => ?_⟩
    have y1 := same_new (o := HO.tup [V.ref cBadCheck, V.ref cBadDeed, V.ref cBadEdge, V.ref cBadHead, V.ref cBadMask, V.ref cBadName, V.ref cBadPart, V.ref cBadRule, V.ref cBadText]) hp1
    refine ⟨ea, cP, p1, [cBadCheck, cBadDeed, cBadEdge, cBadHead, cBadMask, cBadName, cBadPart, cBadRule, cBadText], false, rfl, y1 _ _ ex, T.kP, SqT.of upd_same, kitAny_none (fun c hc => ?_), ?_⟩
    · simp only [List.mem_cons, List.not_mem_nil, or_false] at hc
      rcases hc with rfl | rfl | rfl | rfl | rfl | rfl | rfl | rfl | rfl <;> assumption
    have ex := y1 _ _ ex
    have eD := y1 _ _ eD
    have sm := sm.trans y1
    generalize upd H5 p1 (HO.tup [V.ref cBadCheck, V.ref cBadDeed, V.ref cBadEdge, V.ref cBadHead, V.ref cBadMask, V.ref cBadName, V.ref cBadPart, V.ref cBadRule, V.ref cBadText]) = Y1 at ex eD sm y1 ⊢
    refine ⟨_, rfl, ?_⟩
    refine ⟨_, rfl, (by show 5 ≤ sizeLine; decide), fun p2 hp2 => ?_⟩
    have y2 := same_new (o := HO.tup [V.ref cNoPart, V.ref cNoPicture, V.ref cNothingDone, V.ref cOutOfPlace, V.ref cTwice]) hp2
    refine ⟨ea, cP, p2, [cNoPart, cNoPicture, cNothingDone, cOutOfPlace, cTwice], false, rfl, y2 _ _ ex, T.kP, SqT.of upd_same, kitAny_none (fun c hc => ?_), ?_⟩
    · simp only [List.mem_cons, List.not_mem_nil, or_false] at hc
      rcases hc with rfl | rfl | rfl | rfl | rfl <;> assumption
    have ex := y2 _ _ ex
    have eD := y2 _ _ eD
    have sm := sm.trans y2
    generalize upd Y1 p2 (HO.tup [V.ref cNoPart, V.ref cNoPicture, V.ref cNothingDone, V.ref cOutOfPlace, V.ref cTwice]) = Y2 at ex eD sm y2 ⊢
    refine ⟨_, rfl, _, rfl, true, ⟨_, .exc ex T.kP, TC.iCV⟩, _, rfl, ?_⟩
    exact ⟨_, rfl, D, _, rfl, .inl ⟨SqL.of eD, fun t ht => k t _ (sm.trans (same_new ht)) (sm.free ht) upd_same⟩⟩
end
end K20
set_option Elab.async false
set_option linter.all false
set_option maxRecDepth 100000
set_option maxHeartbeats 1600000
namespace K20
open PySem L2 M4
noncomputable abbrev Rs := List (Int × Int)
noncomputable def rgo (c : Int) (n : Nat) : List Int → Rs
  | [] => [((n : Int), c)]
  | d :: r => if d = c then rgo c (n + 1) r else ((n : Int), c) :: rgo d 1 r
noncomputable def runsL : List Int → Rs
  | [] => []
  | c :: r => rgo c 1 r
theorem rgo_nil (c : Int) (n : Nat) : rgo c n [] = [((n : Int), c)] := rfl
theorem rgo_yes (c : Int) (n : Nat) (r : List Int) : rgo c n (c :: r) = rgo c (n + 1) r := by rw [rgo, if_pos rfl]
theorem rgo_no {c d : Int} (n : Nat) (r : List Int) (h : d ≠ c) : rgo c n (d :: r) = ((n : Int), c) :: rgo d 1 r := by rw [rgo, if_neg h]
theorem rgo_end {c : Int} {n : Nat} {l : List Int} (h : l[0]? ≠ some c) : rgo c n l = ((n : Int), c) :: runsL l := by
  cases l with
  | nil => rfl
  | cons d r => exact rgo_no n r (fun z => h (by rw [z]; rfl))
noncomputable def xp (rs : Rs) : List Int := (rs.map fun r => List.replicate r.1.toNat r.2).flatten
theorem xp_cons (r : Int × Int) (rs : Rs) : xp (r :: rs) = List.replicate r.1.toNat r.2 ++ xp rs := rfl
theorem xp_rgo : ∀ (l : List Int) (c : Int) (n : Nat), xp (rgo c n l) = List.replicate n c ++ l
  | [], c, n => by rw [rgo_nil, xp_cons]; rfl
  | d :: r, c, n => by
    by_cases h : d = c
    · subst h
      rw [rgo_yes, xp_rgo r d (n + 1), List.replicate_succ']
      rw [List.append_assoc]; rfl
    · rw [rgo_no n r h, xp_cons, xp_rgo r d 1]; rfl
theorem xp_runs (l : List Int) : xp (runsL l) = l := by
  cases l with
  | nil => rfl
  | cons c r => show xp (rgo c 1 r) = _; rw [xp_rgo]; rfl
noncomputable def okRun (r : Int × Int) : Bool := decide (1 ≤ r.1) && (decide (0 ≤ r.2) && decide (r.2 ≤ 15))
noncomputable def aprt : Rs → Bool
  | [] => true
  | [_] => true
  | a :: b :: r => (!decide (a.2 = b.2)) && aprt (b :: r)
noncomputable def totl (rs : Rs) : Int := (rs.map (·.1)).sum
noncomputable def okRs (rs : Rs) : Bool := rs.all okRun && (decide (totl rs ≤ 576) && aprt rs)
theorem total_cons (r : Int × Int) (rs : Rs) : totl (r :: rs) = r.1 + totl rs := rfl
theorem total_pos {rs : Rs} (h : rs.all okRun = true) : 0 ≤ totl rs := by
  induction rs with
  | nil => exact Int.le_refl _
  | cons r rs ih =>
    rw [List.all_cons, Bool.and_eq_true] at h
    have := ih h.2
    have h1 := h.1
    unfold okRun at h1
    simp only [Bool.and_eq_true, decide_eq_true_eq] at h1
    rw [total_cons]; omega
theorem one_le_total {rs : Rs} (h : rs.all okRun = true) {r : Int × Int} (hr : r ∈ rs) : r.1 ≤ totl rs := by
  induction rs with
  | nil => cases hr
  | cons q rs ih =>
    rw [List.all_cons, Bool.and_eq_true] at h
    have h1 := h.1
    unfold okRun at h1
    simp only [Bool.and_eq_true, decide_eq_true_eq] at h1
    have p := total_pos h.2
    rw [total_cons]
    rcases List.mem_cons.mp hr with rfl | hr
    · omega
    · have := ih h.2 hr; omega
theorem rgo_total : ∀ (l : List Int) (c : Int) (n : Nat), totl (rgo c n l) = (n : Int) + (l.length : Int)
  | [], c, n => by rw [rgo_nil, total_cons]; show _ + 0 = _ + ((0 : Nat) : Int); omega
  | d :: r, c, n => by
    by_cases h : d = c
    · subst h; rw [rgo_yes, rgo_total r d (n + 1), List.length_cons]; omega
    · rw [rgo_no n r h, total_cons, rgo_total r d 1, List.length_cons]; omega
theorem rgo_head : ∀ (l : List Int) (c : Int) (n : Nat), ∃ m t, rgo c n l = (m, c) :: t ∧ (n : Int) ≤ m
  | [], c, n => ⟨_, _, rgo_nil c n, Int.le_refl _⟩
  | d :: r, c, n => by
    by_cases h : d = c
    · subst h
      obtain ⟨m, t, e, hm⟩ := rgo_head r d (n + 1)
      exact ⟨m, t, by rw [rgo_yes, e], by omega⟩
    · exact ⟨_, _, rgo_no n r h, Int.le_refl _⟩
noncomputable def Cells (cs : List Int) : Prop := ∀ c ∈ cs, 0 ≤ c ∧ c ≤ 15
theorem rgo_ok : ∀ (l : List Int) (c : Int) (n : Nat), 1 ≤ n → 0 ≤ c ∧ c ≤ 15 → Cells l → (rgo c n l).all okRun = true ∧ aprt (rgo c n l) = true
  | [], c, n, hn, hc, _ => by
    rw [rgo_nil]
    refine ⟨?_, rfl⟩
    rw [List.all_cons, List.all_nil, Bool.and_true]
    unfold okRun
    simp only [Bool.and_eq_true, decide_eq_true_eq]; omega
  | d :: r, c, n, hn, hc, hl => by
    have hd := hl d List.mem_cons_self
    have hr : Cells r := fun x hx => hl x (List.mem_cons_of_mem _ hx)
    by_cases h : d = c
    · subst h; rw [rgo_yes]; exact rgo_ok r d (n + 1) (by omega) hc hr
    · obtain ⟨h1, h2⟩ := rgo_ok r d 1 (by decide) hd hr
      rw [rgo_no n r h]
      refine ⟨?_, ?_⟩
      · rw [List.all_cons, h1, Bool.and_true]
        unfold okRun
        simp only [Bool.and_eq_true, decide_eq_true_eq]; omega
      · obtain ⟨m, t, e, _⟩ := rgo_head r d 1
        rw [e] at h2 ⊢
        show ((!decide (c = d)) && aprt ((m, d) :: t)) = true
        rw [h2, decide_eq_false (fun z => h z.symm)]; rfl
theorem runs_total (l : List Int) : totl (runsL l) = (l.length : Int) := by
  cases l with
  | nil => rfl
  | cons c r => show totl (rgo c 1 r) = _; rw [rgo_total, List.length_cons]; omega
theorem runs_ok {l : List Int} (h : Cells l) (hl : l.length ≤ 576) : okRs (runsL l) = true := by
  unfold okRs
  rw [runs_total, decide_eq_true (by omega)]
  cases l with
  | nil => rfl
  | cons c r =>
    obtain ⟨h1, h2⟩ := rgo_ok r c 1 (by decide) (h c List.mem_cons_self) (fun x hx => h x (List.mem_cons_of_mem _ hx))
    show ((rgo c 1 r).all okRun && (true && aprt (rgo c 1 r))) = true
    rw [h1, h2]; rfl
theorem okRs_of {rs : Rs} (h : okRs rs = true) : rs.all okRun = true ∧ totl rs ≤ 576 ∧ aprt rs = true := by
  unfold okRs at h
  simp only [Bool.and_eq_true, decide_eq_true_eq] at h
  exact h
theorem run_in {rs : Rs} (h : okRs rs = true) {r : Int × Int} (hr : r ∈ rs) : 1 ≤ r.1 ∧ r.1 ≤ 576 ∧ 0 ≤ r.2 ∧ r.2 ≤ 15 := by
  obtain ⟨h1, h2, _⟩ := okRs_of h
  have a := List.all_eq_true.mp h1 r hr
  unfold okRun at a
  simp only [Bool.and_eq_true, decide_eq_true_eq] at a
  have := one_le_total h1 hr
  omega
noncomputable def isDg (s : Nat) : Bool := decide (48 ≤ s) && decide (s ≤ 57)
noncomputable def isLt (s : Nat) : Bool := decide (97 ≤ s) && decide (s ≤ 112)
noncomputable def digs (n : Nat) : List Nat := if n < 10 then [48 + n] else if n < 100 then [48 + n / 10, 48 + n % 10] else [48 + n / 100, 48 + n / 10 % 10, 48 + n % 10]
noncomputable def seg (r : Int × Int) : List Nat := (if r.1 = 1 then [] else digs r.1.toNat) ++ [97 + r.2.toNat]
noncomputable def txL (rs : Rs) : List Nat := (rs.map seg).flatten
theorem txL_cons (r : Int × Int) (rs : Rs) : txL (r :: rs) = seg r ++ txL rs := rfl
noncomputable def ixL (s : Nat) : Int := if isLt s = true then (s : Int) - 97 else -1
noncomputable def rdgo (c : Nat) : List Nat → Rs
  | [] => []
  | s :: r => if isDg s = true then rdgo (min (10 * c + (s - 48)) 577) r else (((max c 1 : Nat) : Int), ixL s) :: rdgo 0 r
theorem isD_of {s : Nat} (h0 : 48 ≤ s) (h1 : s ≤ 57) : isDg s = true := by unfold isDg; rw [decide_eq_true h0, decide_eq_true h1]; rfl
theorem isL_of {s : Nat} (h0 : 97 ≤ s) (h1 : s ≤ 112) : isLt s = true ∧ isDg s = false := by
  refine ⟨by unfold isLt; rw [decide_eq_true h0, decide_eq_true h1]; rfl, by unfold isDg; rw [decide_eq_false (show ¬ s ≤ 57 by omega), Bool.and_false]⟩
theorem rd_d {s c : Nat} {r : List Nat} (h : isDg s = true) : rdgo c (s :: r) = rdgo (min (10 * c + (s - 48)) 577) r := by rw [rdgo, if_pos h]
theorem rd_n {s c : Nat} {r : List Nat} (h : isDg s = false) : rdgo c (s :: r) = (((max c 1 : Nat) : Int), ixL s) :: rdgo 0 r := by rw [rdgo, if_neg (by rw [h]; decide)]
theorem rd_let {c m : Nat} {r : List Nat} (hm : m ≤ 15) : rdgo c ((97 + m) :: r) = (((max c 1 : Nat) : Int), (m : Int)) :: rdgo 0 r := by
  have := isL_of (s := 97 + m) (by omega) (by omega)
  rw [rd_n this.2]
  unfold ixL
  rw [if_pos this.1]
  congr 2; omega
theorem rd_seg {n m : Nat} {r : List Nat} (h1 : 1 ≤ n) (h2 : n ≤ 576) (hm : m ≤ 15) : rdgo 0 (seg ((n : Int), (m : Int)) ++ r) = ((n : Int), (m : Int)) :: rdgo 0 r := by
  unfold seg
  by_cases e : n = 1
  · subst e
    show rdgo 0 ((97 + m) :: r) = _
    rw [rd_let hm]; rfl
  · rw [if_neg (by omega)]
    show rdgo 0 ((digs n ++ [97 + m]) ++ r) = _
    unfold digs
    by_cases a : n < 10
    · rw [if_pos a]
      show rdgo 0 ((48 + n) :: (97 + m) :: r) = _
      rw [rd_d (isD_of (by omega) (by omega)), rd_let hm]
      congr 2; omega
    · rw [if_neg a]
      by_cases b : n < 100
      · rw [if_pos b]
        show rdgo 0 ((48 + n / 10) :: (48 + n % 10) :: (97 + m) :: r) = _
        rw [rd_d (isD_of (by omega) (by omega)), rd_d (isD_of (by omega) (by omega)), rd_let hm]
        congr 2; omega
      · rw [if_neg b]
        show rdgo 0 ((48 + n / 100) :: (48 + n / 10 % 10) :: (48 + n % 10) :: (97 + m) :: r) = _
        rw [rd_d (isD_of (by omega) (by omega)), rd_d (isD_of (by omega) (by omega)), rd_d (isD_of (by omega) (by omega)), rd_let hm]
        congr 2; omega
theorem rd_txt : ∀ {rs : Rs}, (∀ r ∈ rs, 1 ≤ r.1 ∧ r.1 ≤ 576 ∧ 0 ≤ r.2 ∧ r.2 ≤ 15) → rdgo 0 (txL rs) = rs
  | [], _ => rfl
  | (a, b) :: rs, h => by
    have hr := h (a, b) List.mem_cons_self
    dsimp only at hr
    obtain ⟨n, rfl⟩ : ∃ n : Nat, a = (n : Int) := ⟨a.toNat, by omega⟩
    obtain ⟨m, rfl⟩ : ∃ m : Nat, b = (m : Int) := ⟨b.toNat, by omega⟩
    rw [txL_cons, rd_seg (by omega) (by omega) (by omega), rd_txt fun r hr => h r (List.mem_cons_of_mem _ hr)]
noncomputable def dvl (ds : List Nat) : Nat := ds.foldl (fun a d => a * 10 + (d - 48)) 0
noncomputable def okS (f : List Nat) (s : Nat) : Bool := isLt s && ((!decide (f.take 1 = [48])) && ((!decide (f = [49])) && decide (f.length ≤ 3)))
noncomputable def valF (f : List Nat) : Nat := dvl (48 :: f) + (if f = [] then 1 else 0)
noncomputable def lpgo (f : List Nat) : List Nat → Option Rs
  | [] => if f = [] then some [] else none
  | s :: r => if isDg s = true then lpgo (f ++ [s]) r else if okS f s = true then (lpgo [] r).map (((valF f : Int), (s : Int) - 97) :: ·) else none
theorem lp_d {s : Nat} {f r : List Nat} (h : isDg s = true) : lpgo f (s :: r) = lpgo (f ++ [s]) r := by rw [lpgo, if_pos h]
theorem lp_y {s : Nat} {f r : List Nat} (h : isDg s = false) (k : okS f s = true) : lpgo f (s :: r) = (lpgo [] r).map (((valF f : Int), (s : Int) - 97) :: ·) := by rw [lpgo, if_neg (by rw [h]; decide), if_pos k]
theorem lp_n {s : Nat} {f r : List Nat} (h : isDg s = false) (k : okS f s = false) : lpgo f (s :: r) = none := by rw [lpgo, if_neg (by rw [h]; decide), if_neg (by rw [k]; decide)]
theorem okS_of {f : List Nat} {s : Nat} (h : okS f s = true) : isLt s = true ∧ f.take 1 ≠ [48] ∧ f ≠ [49] ∧ f.length ≤ 3 := by
  unfold okS at h
  simp only [Bool.and_eq_true, decide_eq_true_eq, Bool.not_eq_true', decide_eq_false_iff_not] at h
  exact h
theorem okS_mk {f : List Nat} {s : Nat} (h1 : isLt s = true) (h2 : f.take 1 ≠ [48]) (h3 : f ≠ [49]) (h4 : f.length ≤ 3) : okS f s = true := by
  unfold okS
  rw [h1, decide_eq_false h2, decide_eq_false h3, decide_eq_true h4]; rfl
theorem lp_seg {n m : Nat} {r : List Nat} (h1 : 1 ≤ n) (h2 : n ≤ 576) (hm : m ≤ 15) : lpgo [] (seg ((n : Int), (m : Int)) ++ r) = (lpgo [] r).map (((n : Int), (m : Int)) :: ·) := by
  have hl := isL_of (s := 97 + m) (by omega) (by omega)
  have em : ((97 + m : Nat) : Int) - 97 = (m : Int) := by omega
  unfold seg
  by_cases e : n = 1
  · subst e
    show lpgo [] ((97 + m) :: r) = _
    rw [lp_y hl.2 (okS_mk hl.1 (by decide) (by decide) (by decide)), em]; rfl
  · rw [if_neg (by omega)]
    show lpgo [] ((digs n ++ [97 + m]) ++ r) = _
    unfold digs
    by_cases a : n < 10
    · rw [if_pos a]
      show lpgo [] ((48 + n) :: (97 + m) :: r) = _
      rw [lp_d (isD_of (by omega) (by omega)), List.nil_append, lp_y hl.2 (okS_mk hl.1 (by simp; omega) (by simp; omega) (by simp)), em]
      congr 2
      have : valF [48 + n] = n := by unfold valF dvl; simp
      rw [this]
    · rw [if_neg a]
      by_cases b : n < 100
      · rw [if_pos b]
        show lpgo [] ((48 + n / 10) :: (48 + n % 10) :: (97 + m) :: r) = _
        rw [lp_d (isD_of (by omega) (by omega)), lp_d (isD_of (by omega) (by omega)), List.nil_append]
        show lpgo [48 + n / 10, 48 + n % 10] _ = _
        rw [lp_y hl.2 (okS_mk hl.1 (by simp; omega) (by simp) (by simp)), em]
        congr 2
        have : valF [48 + n / 10, 48 + n % 10] = n := by unfold valF dvl; simp; omega
        rw [this]
      · rw [if_neg b]
        show lpgo [] ((48 + n / 100) :: (48 + n / 10 % 10) :: (48 + n % 10) :: (97 + m) :: r) = _
        rw [lp_d (isD_of (by omega) (by omega)), lp_d (isD_of (by omega) (by omega)), lp_d (isD_of (by omega) (by omega)), List.nil_append]
        show lpgo [48 + n / 100, 48 + n / 10 % 10, 48 + n % 10] _ = _
        rw [lp_y hl.2 (okS_mk hl.1 (by simp; omega) (by simp) (by simp)), em]
        congr 2
        have : valF [48 + n / 100, 48 + n / 10 % 10, 48 + n % 10] = n := by unfold valF dvl; simp; omega
        rw [this]
theorem lp_txt : ∀ {rs : Rs}, (∀ r ∈ rs, 1 ≤ r.1 ∧ r.1 ≤ 576 ∧ 0 ≤ r.2 ∧ r.2 ≤ 15) → lpgo [] (txL rs) = some rs
  | [], _ => rfl
  | (a, b) :: rs, h => by
    have hr := h (a, b) List.mem_cons_self
    dsimp only at hr
    obtain ⟨n, rfl⟩ : ∃ n : Nat, a = (n : Int) := ⟨a.toNat, by omega⟩
    obtain ⟨m, rfl⟩ : ∃ m : Nat, b = (m : Int) := ⟨b.toNat, by omega⟩
    rw [txL_cons, lp_seg (by omega) (by omega) (by omega), lp_txt fun r hr => h r (List.mem_cons_of_mem _ hr)]; rfl
theorem isD_in {s : Nat} (h : isDg s = true) : 48 ≤ s ∧ s ≤ 57 := by unfold isDg at h; simp only [Bool.and_eq_true, decide_eq_true_eq] at h; exact h
theorem isL_in {s : Nat} (h : isLt s = true) : 97 ≤ s ∧ s ≤ 112 := by unfold isLt at h; simp only [Bool.and_eq_true, decide_eq_true_eq] at h; exact h
theorem fig_seg {f : List Nat} {s : Nat} (hf : ∀ d ∈ f, isDg d = true) (k : okS f s = true) : seg ((valF f : Int), (s : Int) - 97) = f ++ [s] := by
  obtain ⟨hl, h0, h1, h3⟩ := okS_of k
  have hl := isL_in hl
  unfold seg
  have es : 97 + ((s : Int) - 97).toNat = s := by omega
  dsimp only
  rw [es]
  congr 1
  match f, hf, h0, h1, h3 with
  | [], _, _, _, _ => rfl
  | [a], hf, h0, h1, _ =>
    have ha := isD_in (hf a List.mem_cons_self)
    have : valF [a] = a - 48 := by unfold valF dvl; simp
    rw [this]
    simp at h0 h1
    rw [if_neg (by omega)]
    unfold digs
    rw [if_pos (by omega)]
    congr 1; omega
  | [a, b], hf, h0, _, _ =>
    have ha := isD_in (hf a List.mem_cons_self)
    have hb := isD_in (hf b (by simp))
    have e : valF [a, b] = (a - 48) * 10 + (b - 48) := by unfold valF dvl; simp
    rw [e]
    simp at h0
    rw [if_neg (by omega)]
    unfold digs
    rw [if_neg (by omega), if_pos (by omega)]
    congr 1
    · omega
    · congr 1; omega
  | [a, b, c], hf, h0, _, _ =>
    have ha := isD_in (hf a List.mem_cons_self)
    have hb := isD_in (hf b (by simp))
    have hc := isD_in (hf c (by simp))
    have e : valF [a, b, c] = ((a - 48) * 10 + (b - 48)) * 10 + (c - 48) := by unfold valF dvl; simp
    rw [e]
    simp at h0
    rw [if_neg (by omega)]
    unfold digs
    rw [if_neg (by omega), if_neg (by omega)]
    congr 1
    · omega
    · congr 1
      · omega
      · congr 1; omega
  | a :: b :: c :: d :: r, _, _, _, h3 => simp at h3
theorem lp_back : ∀ (t f : List Nat) (rs : Rs), (∀ d ∈ f, isDg d = true) → lpgo f t = some rs → f ++ t = txL rs
  | [], f, rs, hf, e => by
    rw [lpgo] at e
    by_cases h : f = []
    · rw [if_pos h] at e; cases e; rw [h]; rfl
    · rw [if_neg h] at e; cases e
  | s :: t, f, rs, hf, e => by
    cases hs : isDg s with
    | true =>
      rw [lp_d hs] at e
      have := lp_back t (f ++ [s]) rs (fun d hd => by
        rcases List.mem_append.mp hd with hd | hd
        · exact hf d hd
        · rw [List.mem_singleton.mp hd]; exact hs) e
      rw [← this, List.append_assoc]; rfl
    | false =>
      cases hk : okS f s with
      | false => rw [lp_n hs hk] at e; cases e
      | true =>
        rw [lp_y hs hk] at e
        cases hr : lpgo [] t with
        | none => rw [hr] at e; cases e
        | some qs =>
          rw [hr] at e
          cases e
          have := lp_back t [] qs (fun _ h => nomatch h) hr
          rw [txL_cons, fig_seg hf hk, ← this, List.append_assoc]; rfl
noncomputable def progT (t : List Nat) : Option Rs := if okRs (rdgo 0 t) = true ∧ txL (rdgo 0 t) = t then some (rdgo 0 t) else none
noncomputable def lawT (t : List Nat) : Option Rs := match lpgo [] t with
  | some rs => if okRs rs = true then some rs else none
  | none => none
theorem text_same (t : List Nat) : progT t = lawT t := by
  unfold progT lawT
  by_cases h : okRs (rdgo 0 t) = true ∧ txL (rdgo 0 t) = t
  · rw [if_pos h]
    have := lp_txt (rs := rdgo 0 t) (fun r hr => run_in h.1 hr)
    rw [h.2] at this
    rw [this]
    show _ = if okRs (rdgo 0 t) = true then some (rdgo 0 t) else none
    rw [if_pos h.1]
  · rw [if_neg h]
    cases hr : lpgo [] t with
    | none => rfl
    | some rs =>
      show none = if okRs rs = true then some rs else none
      by_cases hk : okRs rs = true
      · exfalso
        have e := lp_back t [] rs (fun _ h => nomatch h) hr
        have e : t = txL rs := e
        have r := rd_txt (rs := rs) fun r hr => run_in hk hr
        rw [← e] at r
        exact h ⟨by rw [r]; exact hk, by rw [r, ← e]⟩
      · rw [if_neg hk]
theorem piTK {X : Cx} {tg : Expr} (K : PySem.W.Frag) (h : X.K = K) {e : Expr} {te : TE} (he : PE X e te) : PI X tg e (iTup K te) := by subst h; exact pi_tup he
theorem ixTK {X : Cx} (K : PySem.W.Frag) (h : X.K = K) : IxR X (rIxT K) := by subst h; exact ix_tup
theorem src_tup {K : PySem.W.Frag} {a : Addr} {xs : List V} {H : Hp} (h : SqT K H a xs) : Src (Itt K a) xs H := fun H' sm =>
  ⟨fun i x e => ⟨⟨xs, x, sm.seqT h, e⟩, fun y H2 ⟨q1, q2⟩ => ⟨by have := q2 xs (sm.seqT h); rw [e] at this; exact (Option.some.inj this).symm, q1⟩⟩, ⟨xs, sm.seqT h, Nat.le_refl _⟩⟩
noncomputable def tupOf (H : Hp) : V → Option (List V)
  | .ref b => match H b with
    | some (.tup xs) => some xs
    | _ => none
  | _ => none
structure TC (K : PySem.W.Frag) (H : Hp) (v : V) : Prop where
  kd : Kd K H v
  len : ∀ xs, tupOf H v = some xs → xs.length ≤ 1000
  it : ∀ xs, tupOf H v = some xs → ∀ x ∈ xs, Kd K H x
section
variable {K : PySem.W.Frag} {H H' : Hp} {v : V}
theorem tupOf_tup {a : Addr} {xs : List V} (e : H a = some (.tup xs)) : tupOf H (.ref a) = some xs := by simp only [tupOf, e]
theorem tupOf_ref {xs : List V} (h : tupOf H v = some xs) : ∃ a, v = .ref a ∧ H a = some (.tup xs) := by
  cases v with
  | ref a =>
    simp only [tupOf] at h
    cases e : H a with
    | none => rw [e] at h; cases h
    | some o =>
      rw [e] at h
      cases o with
      | tup ys => cases h; exact ⟨a, rfl, e⟩
      | _ => cases h
  | _ => cases h
theorem tupOf_mono (k : Kd K H v) (s : Same H H') : tupOf H' v = tupOf H v := by
  cases k with
  | lst e => simp only [tupOf, e, s _ _ e]
  | tup e => simp only [tupOf, e, s _ _ e]
  | dict e => simp only [tupOf, e, s _ _ e, DictO]
  | _ => rfl
theorem isT_tup (k : Kd K H v) : isT H v = (tupOf H v).isSome := by
  cases k with
  | lst e => simp only [isT, tupOf, e]; rfl
  | tup e => simp only [isT, tupOf, e]; rfl
  | dict e => simp only [isT, tupOf, e, DictO]; rfl
  | _ => rfl
theorem TC.mono (t : TC K H v) (s : Same H H') : TC K H' v := by
  have e := tupOf_mono t.kd s
  exact ⟨t.kd.mono s, fun xs h => t.len xs (by rw [← e]; exact h), fun xs h x hx => (t.it xs (by rw [← e]; exact h) x hx).mono s⟩
theorem TC.other (k : Kd K H v) (h : tupOf H v = none) : TC K H v := ⟨k, fun xs e => (by rw [h] at e; cases e), fun xs e => (by rw [h] at e; cases e)⟩
theorem TC.tup {a : Addr} {xs : List V} (e : H a = some (.tup xs)) (hl : xs.length ≤ 1000) (hk : ∀ x ∈ xs, Kd K H x) : TC K H (.ref a) :=
  ⟨.tup e, fun ys h => (by rw [tupOf_tup e] at h; cases h; exact hl), fun ys h => (by rw [tupOf_tup e] at h; cases h; exact hk)⟩
end
noncomputable def isRunB (H : Hp) (x : V) : Bool := match tupOf H x with
  | some [a, b] => isWh 1 576 a && isWh 0 15 b
  | _ => false
theorem isRunB_mono {K : PySem.W.Frag} {H H' : Hp} {x : V} (k : Kd K H x) (s : Same H H') : isRunB H' x = isRunB H x := by unfold isRunB; rw [tupOf_mono k s]
structure TRs (K : PySem.W.Frag) (H : Hp) (v : V) : Prop where
  kd : Kd K H v
  len : ∀ xs, rowOf H v = some xs → xs.length ≤ 1000000
  it : ∀ xs, rowOf H v = some xs → ∀ x ∈ xs, TC K H x
theorem TRs.mono {K : PySem.W.Frag} {H H' : Hp} {v : V} (t : TRs K H v) (s : Same H H') : TRs K H' v := by
  have e := rowOf_mono t.kd s
  exact ⟨t.kd.mono s, fun xs h => t.len xs (by rw [← e]; exact h), fun xs h x hx => (t.it xs (by rw [← e]; exact h) x hx).mono s⟩
noncomputable def allRun (H : Hp) (v : V) : Bool := match rowOf H v with
  | some xs => xs.all (isRunB H)
  | none => false
noncomputable def RunL (H : Hp) (xs : List V) (rs : Rs) : Prop := xs.length = rs.length ∧ ∀ (i : Nat) (r : Int × Int), rs[i]? = some r → ∃ a : Addr, xs[i]? = some (V.ref a) ∧ H a = some (.tup [.int r.1, .int r.2])
theorem RunL.mono {H H' : Hp} {xs : List V} {rs : Rs} (s : Same H H') (h : RunL H xs rs) : RunL H' xs rs := ⟨h.1, fun i r e => let ⟨a, e1, e2⟩ := h.2 i r e; ⟨a, e1, s _ _ e2⟩⟩
theorem RunL.nil {H : Hp} : RunL H [] [] := ⟨rfl, fun i r e => by simp at e⟩
theorem RunL.cons {H : Hp} {a : Addr} {r : Int × Int} {xs : List V} {rs : Rs} (e : H a = some (.tup [.int r.1, .int r.2])) (h : RunL H xs rs) : RunL H (.ref a :: xs) (r :: rs) := by
  refine ⟨by rw [List.length_cons, List.length_cons, h.1], fun i q hq => ?_⟩
  cases i with
  | zero => cases hq; exact ⟨a, rfl, e⟩
  | succ i => exact h.2 i q hq
theorem RunL.split {H : Hp} {xs : List V} {r : Int × Int} {rs : Rs} (h : RunL H xs (r :: rs)) : ∃ a ys, xs = .ref a :: ys ∧ H a = some (.tup [.int r.1, .int r.2]) ∧ RunL H ys rs := by
  cases xs with
  | nil => have := h.1; simp at this
  | cons x ys =>
    obtain ⟨a, e1, e2⟩ := h.2 0 r rfl
    cases e1
    exact ⟨a, ys, rfl, e2, by have := h.1; simpa using this, fun i q hq => h.2 (i + 1) q hq⟩
theorem RunL.append {H : Hp} {xs ys : List V} {rs qs : Rs} (h : RunL H xs rs) (k : RunL H ys qs) : RunL H (xs ++ ys) (rs ++ qs) := by
  induction rs generalizing xs with
  | nil =>
    have : xs = [] := List.eq_nil_of_length_eq_zero h.1
    subst this; exact k
  | cons r rs ih =>
    obtain ⟨a, zs, rfl, e, hz⟩ := h.split
    exact .cons e (ih hz)
theorem RunL.uniq {H : Hp} {xs : List V} {rs qs : Rs} (h : RunL H xs rs) (k : RunL H xs qs) : rs = qs := by
  refine List.ext_getElem? fun i => ?_
  cases hr : rs[i]? with
  | none =>
    cases hq : qs[i]? with
    | none => rfl
    | some q =>
      have h1 : rs.length ≤ i := List.getElem?_eq_none_iff.mp hr
      have h2 : i < qs.length := List.getElem?_eq_some_iff.mp hq |>.1
      have := h.1; have := k.1; omega
  | some r =>
    obtain ⟨a, e1, e2⟩ := h.2 i r hr
    have hl : i < qs.length := by
      have := List.getElem?_eq_some_iff.mp hr |>.1
      have := h.1; have := k.1; omega
    obtain ⟨b, e3, e4⟩ := k.2 i qs[i] (List.getElem?_eq_getElem hl)
    rw [e1] at e3; cases e3
    rw [e2] at e4
    injection e4 with e4
    injection e4 with e4
    simp only [List.cons.injEq, V.int.injEq, and_true] at e4
    rw [List.getElem?_eq_getElem hl]
    exact congrArg some (Prod.ext e4.1 e4.2)
theorem RunL.map {H : Hp} {xs : List V} {rs : Rs} {β : Type} (g : V → β) (k : Int × Int → β) (h : RunL H xs rs) (e : ∀ (a : Addr) (r : Int × Int), H a = some (.tup [.int r.1, .int r.2]) → g (.ref a) = k r) : xs.map g = rs.map k := by
  induction rs generalizing xs with
  | nil =>
    have : xs = [] := List.eq_nil_of_length_eq_zero h.1
    subst this; rfl
  | cons r rs ih =>
    obtain ⟨a, zs, rfl, ea, hz⟩ := h.split
    rw [List.map_cons, List.map_cons, e a r ea, ih hz]
theorem RunL.mem {H : Hp} {xs : List V} {rs : Rs} {x : V} (h : RunL H xs rs) (hx : x ∈ xs) : ∃ a r, x = .ref a ∧ r ∈ rs ∧ H a = some (.tup [.int r.1, .int r.2]) := by
  obtain ⟨i, hi⟩ := List.getElem?_of_mem hx
  have hl : i < rs.length := by
    have := List.getElem?_eq_some_iff.mp hi |>.1
    have := h.1; omega
  obtain ⟨a, e1, e2⟩ := h.2 i rs[i] (List.getElem?_eq_getElem hl)
  rw [hi] at e1; cases e1
  exact ⟨a, _, rfl, List.getElem_mem hl, e2⟩
theorem runL_of {H : Hp} : ∀ {xs : List V}, xs.all (isRunB H) = true → ∃ rs, RunL H xs rs ∧ ∀ r ∈ rs, 1 ≤ r.1 ∧ r.1 ≤ 576 ∧ 0 ≤ r.2 ∧ r.2 ≤ 15
  | [], _ => ⟨[], RunL.nil, fun r h => nomatch h⟩
  | x :: xs, h => by
    rw [List.all_cons, Bool.and_eq_true] at h
    obtain ⟨rs, h1, h2⟩ := runL_of h.2
    have hx := h.1
    unfold isRunB at hx
    split at hx
    · rename_i p q e
      obtain ⟨a, rfl, ea⟩ := tupOf_ref e
      rw [Bool.and_eq_true] at hx
      obtain ⟨n, rfl, n0, n1⟩ : ∃ n : Int, p = .int n ∧ 1 ≤ n ∧ n ≤ 576 := by
        cases p with
        | int n => exact ⟨n, rfl, by have := hx.1; simp only [isWh, Bool.and_eq_true, decide_eq_true_eq] at this; exact this⟩
        | _ => cases hx.1
      obtain ⟨c, rfl, c0, c1⟩ : ∃ c : Int, q = .int c ∧ 0 ≤ c ∧ c ≤ 15 := by
        cases q with
        | int n => exact ⟨n, rfl, by have := hx.2; simp only [isWh, Bool.and_eq_true, decide_eq_true_eq] at this; exact this⟩
        | _ => cases hx.2
      refine ⟨(n, c) :: rs, RunL.cons ea h1, fun r hr => ?_⟩
      rcases List.mem_cons.mp hr with rfl | hr
      · exact ⟨n0, n1, c0, c1⟩
      · exact h2 r hr
    · cases hx
theorem runL_all {H : Hp} {xs : List V} {rs : Rs} (h : RunL H xs rs) (hr : ∀ r ∈ rs, 1 ≤ r.1 ∧ r.1 ≤ 576 ∧ 0 ≤ r.2 ∧ r.2 ≤ 15) : xs.all (isRunB H) = true := by
  rw [List.all_eq_true]
  intro x hx
  obtain ⟨a, r, rfl, hm, e⟩ := h.mem hx
  have := hr r hm
  unfold isRunB
  rw [tupOf_tup e]
  simp only [isWh, Bool.and_eq_true, decide_eq_true_eq]
  omega
noncomputable def IsRs (H : Hp) (v : V) (rs : Rs) : Prop := ∃ a xs, v = .ref a ∧ H a = some (.lst xs) ∧ RunL H xs rs ∧ okRs rs = true
theorem IsRs.mono {H H' : Hp} {v : V} {rs : Rs} (s : Same H H') (h : IsRs H v rs) : IsRs H' v rs := let ⟨a, xs, e, ea, r, o⟩ := h; ⟨a, xs, e, s _ _ ea, r.mono s, o⟩
theorem IsRs.uniq {H : Hp} {v : V} {rs qs : Rs} (h : IsRs H v rs) (k : IsRs H v qs) : rs = qs := by
  obtain ⟨a, xs, rfl, ea, r, _⟩ := h
  obtain ⟨b, ys, e, eb, q, _⟩ := k
  cases e
  rw [ea] at eb; cases eb
  exact r.uniq q
theorem okRs_mk {rs : Rs} (h : ∀ r ∈ rs, 1 ≤ r.1 ∧ 0 ≤ r.2 ∧ r.2 ≤ 15) (ht : totl rs ≤ 576) (ha : aprt rs = true) : okRs rs = true := by
  unfold okRs
  rw [decide_eq_true ht, ha, Bool.and_true, Bool.and_true, List.all_eq_true]
  intro r hr
  have := h r hr
  unfold okRun
  simp only [Bool.and_eq_true, decide_eq_true_eq]
  exact this
theorem aprt_range : ∀ rs : Rs, ((List.range (rs.length - 1)).map fun i => !decide ((rs.getD i (0, 0)).2 = (rs.getD (i + 1) (0, 0)).2)).all id = aprt rs
  | [] => rfl
  | [_] => rfl
  | a :: b :: r => by
    have ih := aprt_range (b :: r)
    have e : (a :: b :: r).length - 1 = ((b :: r).length - 1) + 1 := by simp
    rw [e, List.range_succ_eq_map, List.map_cons, List.all_cons, List.map_map]
    show ((!decide (a.2 = b.2)) && _) = ((!decide (a.2 = b.2)) && aprt (b :: r))
    congr 1
noncomputable def spRun (K : PySem.W.Frag) : Sp := fun vs H Q _ => ∃ x, vs = [x] ∧ TC K H x ∧ Q (.bl (isRunB H x)) H
noncomputable def spLor (K : PySem.W.Frag) (fR : Addr) : Sp := fun vs H Q _ => ∃ x, vs = [x, .ref fR] ∧ TRs K H x ∧ ∀ H', Same H H' → Q (.bl (allRun H x)) H'
noncomputable def spAre (K : PySem.W.Frag) : Sp := fun vs H Q _ => ∃ v, vs = [v] ∧ TRs K H v ∧ (∀ rs, IsRs H v rs → ∀ H', Same H H' → Q (.bl true) H') ∧ ((∀ rs, ¬ IsRs H v rs) → ∀ H', Same H H' → Q (.bl false) H')
noncomputable def spNeedR (K : PySem.W.Frag) (cP : Addr) : Sp := fun vs H Q E => ∃ v, vs = [v] ∧ TRs K H v ∧ (∀ rs, IsRs H v rs → ∀ H', Same H H' → Q .non H') ∧ ((∀ rs, ¬ IsRs H v rs) → ∀ H', Same H H' → E (.ref cP) none H')
noncomputable def spCBR (K : PySem.W.Frag) (cP : Addr) : Sp := fun vs H Q E => ∃ v, vs = [v] ∧ TRs K H v ∧ (∀ rs, IsRs H v rs → ∀ l H', Same H H' → H l = none → H' l = some (.lst ((xp rs).map V.int)) → Q (.ref l) H') ∧ ((∀ rs, ¬ IsRs H v rs) → ∀ H', Same H H' → E (.ref cP) none H')
theorem rep_map (n : Nat) (c : Int) : (List.replicate n c).map V.int = (List.replicate n [V.int c]).flatten := by
  induction n with
  | zero => rfl
  | succ n ih => rw [List.replicate_succ, List.map_cons, ih, List.replicate_succ, List.flatten_cons]; rfl
theorem xp_app (a b : Rs) : xp (a ++ b) = xp a ++ xp b := by unfold xp; rw [List.map_append, List.flatten_append]
theorem xp_len {rs : Rs} (h : rs.all okRun = true) : ((xp rs).length : Int) = totl rs := by
  induction rs with
  | nil => rfl
  | cons r rs ih =>
    rw [List.all_cons, Bool.and_eq_true] at h
    have h1 := h.1
    unfold okRun at h1
    simp only [Bool.and_eq_true, decide_eq_true_eq] at h1
    rw [xp_cons, List.length_append, List.length_replicate, total_cons, ← ih h.2]; omega
theorem take_len {rs : Rs} (h : okRs rs = true) (i : Nat) : (xp (rs.take i)).length ≤ 576 := by
  obtain ⟨h1, h2, _⟩ := okRs_of h
  have e := xp_len h1
  have : xp rs = xp (rs.take i) ++ xp (rs.drop i) := by rw [← xp_app, List.take_append_drop]
  rw [this, List.length_append] at e
  omega
section
variable {P : Program} {w : World} {K : PySem.W.Frag} {mg : Str → Option Value} {base : Heap} {cFE cC cP : Addr} {tC tL tG tB : Tok}
theorem sc_is_run : FnScope ["thing"] ["thing"] (defScope s_is_run) := ⟨rfl, rfl, rfl, by decide +kernel, rfl, by decide +kernel, by decide +kernel⟩
theorem ok_is_run {f : Addr} {fd : FuncData} (F : FunD K "is_run" "is_run" s_is_run .none f fd) (T : Txt K mg cFE cC cP tC tL tG tB) (g_is_whole_within : Def P w K mg base 2 "is_whole_within" ["thing", "least", "most"] [] (spWh K)) (g_is_cell : Def P w K mg base 3 "is_cell" ["thing"] [] (spCellQ K)) : FnOk P w K mg base CX0 4 f fd ["thing"] (spRun K) := by
  refine F.ok sc_is_run (fun vs H Q E h => ?_) (fun cdv A outer s H vs Q E hr h => ?_)
  · obtain ⟨x, rfl, _⟩ := h; rfl
  · obtain ⟨x, rfl, t, k⟩ := h
    refine ⟨_, (pss_cons (ps_if (PW.pt (pw_or (pt_not (pt_val (isiK K rfl (pv 0) rfl T.isinstance rfl T.tuple PyProof.Rows.boot_tuple))) (pw_or1 (pt_cmpR op_ne (pe_callB (lenK K rfl) rfl T.len PySem.boot_len (pa_cons (pv 0) pa_nil)) pe_int (nomark _))))) (pss_one (ps_ret pe_bl)) pss_nil)
        (pss_one (ps_ret (pe_and (pe_callD g_is_whole_within (hr.mono (by decide)) rfl (pa_cons (pe_ix (ixTK K rfl) (pv 0) pe_int (fun _ _ => rfl)) (pa_cons pe_int (pa_cons (pe_glob (v := .int 576) rfl T.MOST_LISTED ⟨_, rfl⟩) pa_nil)))) (pe_one (pe_callD g_is_cell (hr.mono (by decide)) rfl (pa_cons (pe_ix (ixTK K rfl) (pv 0) pe_int (fun _ _ => rfl)) pa_nil))))))), ?_⟩
    cases hx : tupOf H x with
    | none =>
      have e : isRunB H x = false := by unfold isRunB; rw [hx]
      rw [e] at k
      refine ⟨_, rfl, _, t.kd.isTuple, _, rfl, ?_⟩
      rw [isT_tup t.kd, hx]
      exact k
    | some xs =>
      obtain ⟨a, rfl, e⟩ := tupOf_ref hx
      refine ⟨_, rfl, _, t.kd.isTuple, _, rfl, ?_⟩
      rw [isT_tup t.kd, hx]
      refine ⟨_, rfl, a, _, rfl, .inr (SqT.of e), rfl, _, rfl, iteN (fun h => ?_) (fun h => ?_)⟩
      · have hl : xs.length ≠ 2 := fun z => of_decide_eq_false h (by rw [z]; rfl)
        have eb : isRunB H (.ref a) = false := by
          unfold isRunB; rw [hx]
          match xs, hl with
          | [], _ => rfl
          | [_], _ => rfl
          | [_, _], hl => exact absurd rfl hl
          | _ :: _ :: _ :: _, _ => rfl
        rw [eb] at k
        exact k
      have h2 : xs.length = 2 := by
        have := of_decide_eq_true h
        injection this with this
        omega
      match xs, h2, e, hx with
      | [p, q], _, e, hx =>
        have eb : isRunB H (.ref a) = (isWh 1 576 p && isWh 0 15 q) := by unfold isRunB; rw [hx]
        rw [eb] at k
        have kp := t.it _ hx p List.mem_cons_self
        have kq := t.it _ hx q (List.mem_cons_of_mem _ List.mem_cons_self)
        refine ⟨_, rfl, a, _, _, p, rfl, rfl, SqT.of e, atI_nat (j := 0) rfl, p, 1, 576, rfl, kp, _, rfl, iteB (fun h => ?_) (fun h => ?_)⟩
        · rw [h, Bool.true_and] at k
          exact ⟨_, rfl, a, _, _, q, rfl, rfl, SqT.of e, atI_nat (j := 1) rfl, q, rfl, kq, k⟩
        · rw [h, Bool.false_and] at k
          exact k
theorem ok_is_list_of_run {fR f : Addr} {fd : FuncData} (F : FunD K "is_list_of" "is_list_of" s_is_list_of .none f fd) (T : Txt K mg cFE cC cP tC tL tG tB) (g_is_one : DefA P w K mg base 4 fR ["thing"] [] (spRun K)) : FnOk P w K mg base CX0 5 f fd ["thing", "is_one"] (spLor K fR) := by
  refine F.ok sc_is_list_of (fun vs H Q E h => ?_) (fun cdv A outer s H vs Q E hr h => ?_)
  · obtain ⟨x, rfl, _⟩ := h; rfl
  · obtain ⟨x, rfl, t, k⟩ := h
    refine ⟨_, (pss_one (ps_ret (pe_and (isiK K rfl (pv 0) rfl T.isinstance rfl T.list PyProof.Rows.boot_list) (pe_one (pe_callB (allK K rfl rfl) rfl T.all PyProof.Rows.boot_all (pa_cons (pe_comp (N := ["part", "is_one"]) (src := [none, some 1]) rfl ⟨rfl, rfl, rfl, rfl, rfl, by decide +kernel⟩ (piK K rfl (pv 0)) (fun s H C fp => pg_name (i := 0) (show (["part", "is_one"] : List Str).Nodup by decide +kernel) rfl (by first | exact Or.inl rfl | exact Or.inr rfl)) (fun s H C fp => pts_nil) (fun s H C fp => (pe_callV 1 g_is_one (hr.mono (by decide)) (pa_cons (pv 0) pa_nil)))) pa_nil)))))), ?_⟩
    cases hx : rowOf H x with
    | none =>
      have e : allRun H x = false := by unfold allRun; rw [hx]
      rw [e] at k
      refine ⟨_, rfl, _, t.kd.isList, _, rfl, ?_⟩
      rw [isL_row t.kd, hx]
      exact k H (Same.refl H)
    | some xs =>
      obtain ⟨a, rfl, hH⟩ := rowOf_ref hx
      have e : allRun H (.ref a) = xs.all (isRunB H) := by unfold allRun; rw [hx]
      rw [e] at k
      refine ⟨_, rfl, true, isList_lst hH, _, rfl, ⟨_, rfl, a, rfl, ⟨_, SqL.of hH⟩, fun D hD => ?_⟩⟩
      refine comp_fm (k := 0) (fun x => .bl (isRunB H x)) (fun _ => true) (src_list (SqL.of hH)) (Nat.le_trans (t.len xs hx) (by decide)) hD (fun x _ H' Qb _ kk => kk H' (Same.refl _)) (fun x hx2 _ H' Q sm kk => ⟨rfl, _, rfl, x, rfl, (t.it xs hx x hx2).mono sm, by rw [isRunB_mono (t.it xs hx x hx2).kd sm]; exact kk H' (Same.refl _)⟩) fun H' sm hD' => ?_
      refine ⟨D, xs.map (isRunB H), rfl, SqL.of (by rw [hD', filter_t, List.map_map]; rfl), ?_⟩
      rw [all_map_id]
      exact k H' sm
theorem sc_are_runs : FnScope ["thing"] ["thing"] (defScope s_are_runs) := ⟨rfl, rfl, rfl, by decide +kernel, rfl, by decide +kernel, by decide +kernel⟩
theorem ok_are_runs {fR f : Addr} {fd : FuncData} (F : FunD K "are_runs" "are_runs" s_are_runs .none f fd) (T : Txt K mg cFE cC cP tC tL tG tB) (hR : mg "is_run" = some (.ref fR)) (g_is_list_of : Def P w K mg base 5 "is_list_of" ["thing", "is_one"] [] (spLor K fR)) : FnOk P w K mg base CX0 6 f fd ["thing"] (spAre K) := by
  refine F.ok sc_are_runs (fun vs H Q E h => ?_) (fun cdv A outer s H vs Q E hr h => ?_)
  · obtain ⟨v, rfl, _⟩ := h; rfl
  · obtain ⟨v, rfl, t, kY, kN⟩ := h
    refine ⟨_, (pss_cons (ps_if (pt_not (pt_val (pe_callD g_is_list_of (hr.mono (by decide)) rfl (pa_cons (pv 0) (pa_cons (pe_glob (v := .ref fR) rfl hR rfl) pa_nil))))) (pss_one (ps_ret pe_bl)) pss_nil)
        (pss_cons (ps_if (pt_cmpR op_gt (pe_callB (call_sum rfl) rfl T.sum PyProof.Rows.boot_sum (pa_cons (pe_comp (N := ["run"]) (src := [none]) rfl ⟨rfl, rfl, rfl, rfl, rfl, by decide +kernel⟩ (piK K rfl (pv 0)) (fun s H C fp => pg_name (i := 0) (show (["run"] : List Str).Nodup by decide +kernel) rfl (by first | exact Or.inl rfl | exact Or.inr rfl)) (fun s H C fp => pts_nil) (fun s H C fp => (pe_ix (ixTK K rfl) (pv 0) pe_int (fun _ _ => rfl)))) pa_nil)) (pe_glob (v := .int 576) rfl T.MOST_LISTED ⟨_, rfl⟩) (nomark _)) (pss_one (ps_ret pe_bl)) pss_nil)
        (pss_one (ps_ret (pe_callB (allK K rfl rfl) rfl T.all PyProof.Rows.boot_all (pa_cons (pe_comp (N := ["place", "thing"]) (src := [none, some 0]) rfl ⟨rfl, rfl, rfl, rfl, rfl, by decide +kernel⟩ (pi_range2 rfl T.range (pa_cons pe_int (pa_cons (pe_callB (lenK K rfl) rfl T.len PySem.boot_len (pa_cons (pv 0) pa_nil)) pa_nil))) (fun s H C fp => pg_name (i := 0) (show (["place", "thing"] : List Str).Nodup by decide +kernel) rfl (by first | exact Or.inl rfl | exact Or.inr rfl)) (fun s H C fp => pts_nil) (fun s H C fp => (pe_cmpR op_ne (pe_ix (ixTK K rfl) (pe_ix (ixK K rfl) (pv 1) (pe_op op_sub (pv 0) pe_int) (fun _ _ => rfl)) pe_int (fun _ _ => rfl)) (pe_ix (ixTK K rfl) (pe_ix (ixK K rfl) (pv 1) (pv 0) (fun _ _ => rfl)) pe_int (fun _ _ => rfl)) (nomark _)))) pa_nil)))))), ?_⟩
    refine ⟨_, rfl, v, rfl, t, fun H1 s1 => ⟨_, rfl, iteN (fun ha => ?_) (fun ha => ?_)⟩⟩
    · refine kN (fun rs ⟨a, xs, ev, ea, r, o⟩ => ?_) H1 s1
      subst ev
      unfold allRun at ha
      rw [rowOf_lst ea] at ha
      have : xs.all (isRunB H) = true := runL_all r fun q hq => run_in o hq
      rw [show (match some xs with | some xs => xs.all (isRunB H) | none => false) = xs.all (isRunB H) from rfl, this] at ha
      cases ha
    cases hx : rowOf H v with
    | none => unfold allRun at ha; rw [hx] at ha; cases ha
    | some xs =>
      obtain ⟨a, rfl, ea⟩ := rowOf_ref hx
      have ha : xs.all (isRunB H) = true := by unfold allRun at ha; rw [hx] at ha; exact ha
      obtain ⟨rs, hrs, hin⟩ := runL_of ha
      have lx := t.len xs hx
      have ll := hrs.1
      have kN' : okRs rs = false → ∀ H', Same H H' → Q (.bl false) H' := fun ho => kN fun qs ⟨b, ys, ev, eb, r, o⟩ => by
        cases ev
        rw [ea] at eb; cases eb
        rw [r.uniq hrs, ho] at o; cases o
      have e1 := s1 _ _ ea
      have r1 := hrs.mono s1
      refine ⟨_, rfl, a, rfl, ⟨_, SqL.of e1⟩, fun D hD => ?_⟩
      refine comp_fm (k := 0) (fun v => match tupOf H v with | some [p, _] => p | _ => .non) (fun _ => true) (src_list (SqL.of e1)) (Nat.le_trans lx (by decide)) hD (fun x _ H' Qb _ kk => kk H' (Same.refl _)) (fun x hx2 _ H' Q' sm kk => ?_) fun H2 s2 hD2 => ?_
      · obtain ⟨p, r, rfl, _, ep⟩ := hrs.mem hx2
        have tt : Q' (match tupOf H (.ref p) with | some [p, _] => p | _ => .non) H' := kk H' (Same.refl _)
        rw [tupOf_tup ep] at tt
        exact ⟨_, rfl, p, _, _, _, rfl, rfl, SqT.of (sm _ _ (s1 _ _ ep)), atI_nat (j := 0) rfl, tt⟩
      have e2 : H2 D = some (.lst ((rs.map (·.1)).map V.int)) := by
        rw [hD2, filter_t]
        congr 2
        rw [List.map_map]
        exact hrs.map _ _ fun p r ep => by rw [tupOf_tup ep]; rfl
      refine ⟨D, _, rfl, SqL.of e2, _, _, rfl, rfl, _, rfl, iteB (fun hs => ?_) (fun hs => ?_)⟩
      · have hs : totl rs > 576 := of_decide_eq_true hs
        refine kN' ?_ H2 (s1.trans s2)
        cases ho : okRs rs with
        | false => rfl
        | true => have := (okRs_of ho).2.1; omega
      have hs : totl rs ≤ 576 := by have : ¬ totl rs > 576 := of_decide_eq_false hs; omega
      have e3 := s2 _ _ e1
      have r3 := r1.mono s2
      refine ⟨_, rfl, a, _, rfl, .inl (SqL.of e3), 1, (xs.length : Int), rfl, ⟨by decide, by decide, by omega, by omega⟩, fun D2 hD2' => ?_⟩
      rw [show ((xs.length : Int) - 1).toNat = rs.length - 1 by omega]
      refine comp_fm (k := 0) (fun v => match v with | .int j => .bl (!decide ((rs.getD (j.toNat - 1) (0, 0)).2 = (rs.getD j.toNat (0, 0)).2)) | _ => .non) (fun _ => true) (src_range (lo := 1) (n := rs.length - 1)) (by rw [List.length_map, List.length_range]; exact Nat.le_trans (by omega : _ ≤ 1000000) (by decide)) hD2' (fun x _ H' Qb _ kk => kk H' (Same.refl _)) (fun x hx2 _ H' Q' sm kk => ?_) fun H4 s4 hD4 => ?_
      · obtain ⟨i, hi, rfl⟩ := List.mem_map.mp hx2
        have hi := List.mem_range.mp hi
        have tt : Q' (.bl (!decide ((rs.getD ((1 + (i : Int)).toNat - 1) (0, 0)).2 = (rs.getD (1 + (i : Int)).toNat (0, 0)).2))) H' := kk H' (Same.refl _)
        rw [show (1 + (i : Int)).toNat = i + 1 by omega, Nat.add_sub_cancel] at tt
        have g1 : rs[i]? = some (rs.getD i (0, 0)) := by rw [List.getD_eq_getElem?_getD, List.getElem?_eq_getElem (by omega)]; rfl
        have g2 : rs[i + 1]? = some (rs.getD (i + 1) (0, 0)) := by rw [List.getD_eq_getElem?_getD, List.getElem?_eq_getElem (by omega)]; rfl
        obtain ⟨p, p1, p2⟩ := (r3.mono sm).2 _ _ g1
        obtain ⟨q, q1, q2⟩ := (r3.mono sm).2 _ _ g2
        have a1 : atI xs (1 + (i : Int) - 1) = some (.ref p) := by rw [show 1 + (i : Int) - 1 = (i : Int) by omega]; exact atI_nat p1
        have a2 : atI xs (1 + (i : Int)) = some (.ref q) := by rw [show 1 + (i : Int) = ((i + 1 : Nat) : Int) by omega]; exact atI_nat q1
        refine ⟨_, rfl, _, rfl, _, _, rfl, rfl, a, _, _, _, rfl, rfl, SqL.of (sm _ _ e3), a1, p, _, _, _, rfl, rfl, SqT.of p2, atI_nat (j := 1) rfl, _, rfl, _, rfl, a, _, _, _, rfl, rfl, SqL.of (sm _ _ e3), a2, q, _, _, _, rfl, rfl, SqT.of q2, atI_nat (j := 1) rfl, rfl, ?_⟩
        rw [show decide (V.int (rs.getD i (0, 0)).2 = V.int (rs.getD (i + 1) (0, 0)).2) = decide ((rs.getD i (0, 0)).2 = (rs.getD (i + 1) (0, 0)).2) from by rw [decide_eq_decide, V.int.injEq]]
        exact tt
      have e4 : H4 D2 = some (.lst (((List.range (rs.length - 1)).map fun i => !decide ((rs.getD i (0, 0)).2 = (rs.getD (i + 1) (0, 0)).2)).map V.bl)) := by
        rw [hD4, filter_t, List.map_map, List.map_map]
        congr 2
        refine List.map_congr_left fun i _ => ?_
        show V.bl (!decide ((rs.getD ((1 + (i : Int)).toNat - 1) (0, 0)).2 = (rs.getD (1 + (i : Int)).toNat (0, 0)).2)) = _
        rw [show (1 + (i : Int)).toNat = i + 1 by omega, Nat.add_sub_cancel]; rfl
      refine ⟨D2, _, rfl, SqL.of e4, ?_⟩
      rw [aprt_range]
      have ss := s1.trans (s2.trans s4)
      cases hp : aprt rs with
      | true => exact kY rs ⟨a, xs, rfl, ea, hrs, okRs_mk (fun r h => let ⟨q1, _, q3, q4⟩ := hin r h; ⟨q1, q3, q4⟩) hs hp⟩ H4 ss
      | false =>
        refine kN' ?_ H4 ss
        cases ho : okRs rs with
        | false => rfl
        | true => rw [(okRs_of ho).2.2] at hp; cases hp
theorem sc_need_runs : FnScope ["runs"] ["runs"] (defScope s_need_runs) := ⟨rfl, rfl, rfl, by decide +kernel, rfl, by decide +kernel, by decide +kernel⟩
theorem ok_need_runs {f : Addr} {fd : FuncData} (F : FunD K "need_runs" "need_runs" s_need_runs .none f fd) (T : Txt K mg cFE cC cP tC tL tG tB) (g_are_runs : Def P w K mg base 6 "are_runs" ["thing"] [] (spAre K)) : FnOk P w K mg base (CX1 P w) 7 f fd ["runs"] (spNeedR K cP) := by
  refine F.okX sc_need_runs (fun vs H Q E h => ?_) (fun cdv A outer s H vs Q E hr h => ?_)
  · obtain ⟨v, rfl, _⟩ := h; rfl
  · obtain ⟨v, rfl, t, kY, kN⟩ := h
    refine ⟨_, (pss_one (ps_if (pt_not (pt_val (pe_callD g_are_runs (hr.mono (by decide)) rfl (pa_cons (pv 0) pa_nil)))) (pss_one (ps_raise rfl raises1 rfl T.BadRuns T.xBadRuns (pa_cons pe_str pa_nil))) pss_nil)), ?_⟩
    exact ⟨_, rfl, v, rfl, t, fun rs h H1 s1 => ⟨_, rfl, kY rs h H1 s1⟩, fun h H1 s1 => ⟨_, rfl, ⟨by show 1 ≤ sizeLine; decide, kN h H1 s1⟩⟩⟩
theorem sc_cells_by_runs : FnScope ["runs", "cells", "run"] ["runs"] (defScope s_cells_by_runs) := ⟨rfl, rfl, rfl, by decide +kernel, rfl, by decide +kernel, by decide +kernel⟩
theorem ok_cells_by_runs {f : Addr} {fd : FuncData} (F : FunD K "cells_by_runs" "cells_by_runs" s_cells_by_runs .none f fd) (T : Txt K mg cFE cC cP tC tL tG tB) (g_need_runs : DefX P w K mg base 7 "need_runs" ["runs"] [] (spNeedR K cP)) : FnOk P w K mg base (CX1 P w) 8 f fd ["runs"] (spCBR K cP) := by
  refine F.okX sc_cells_by_runs (fun vs H Q E h => ?_) (fun cdv A outer s H vs Q E hr h => ?_)
  · obtain ⟨v, rfl, _⟩ := h; rfl
  · obtain ⟨v, rfl, t, kY, kN⟩ := h
    refine ⟨_, (pss_cons (ps_expr (pe_callX g_need_runs (hr.mono (by decide)) passes1R rfl (pa_cons (pv 0) pa_nil)))
        (pss_cons (ps_set (i := 1) sc_cells_by_runs.nd rfl (by first | exact Or.inl rfl | exact Or.inr rfl) (pe_lst pa_nil))
        (pss_cons (PS.nox (ps_for PassesOwn.never rfl (piK K rfl (pv 0)) (pg_name (i := 2) sc_cells_by_runs.nd rfl (by first | exact Or.inl rfl | exact Or.inr rfl)) (pss_one (ps_expr (pe_bm PySem.F.plainAttrs_list PySem.F.slot_list_extend PySem.F.type_list_extend mt_extend (pv 1) (pa_cons (pe_op op_rep (pe_lst (pa_cons (pe_ix (ixTK K rfl) (pv 2) pe_int (fun _ _ => rfl)) pa_nil)) (pe_ix (ixTK K rfl) (pv 2) pe_int (fun _ _ => rfl))) pa_nil))))))
        (pss_one (ps_ret (pv 1)))))), ?_⟩
    refine ⟨_, rfl, v, rfl, t, fun rs h H1 s1 => ?_, kN⟩
    have kY2 := kY rs h
    clear kY
    obtain ⟨a, xs, rfl, ea, r, o⟩ := h
    have e1 := s1 _ _ ea
    have r1 := r.mono s1
    refine ⟨Nat.zero_le _, fun C hC => ?_⟩
    have z1 := same_new (o := HO.lst []) hC
    have fC := s1.free hC
    refine ⟨_, rfl, a, rfl, ⟨_, SqL.of (z1 _ _ e1)⟩, ?_⟩
    refine for_list (xs := xs) (fun i σ H3 => Same H H3 ∧ H3 C = some (.lst ((xp (rs.take i)).map V.int)) ∧ ∃ v2 : Option V, σ = [some (.ref a), some (.ref C), v2]) ⟨s1.trans z1, upd_same, none, rfl⟩ (fun i σ H3 _ p => SqL.of (p.1 _ _ ea)) ?_ ?_
    · rintro i x σ H3 hx ⟨s3, e3, v2, rfl⟩
      have hi : i < rs.length := by
        have := List.getElem?_eq_some_iff.mp hx |>.1
        have := r.1; omega
      obtain ⟨p, p1, p2⟩ := r.2 i rs[i] (List.getElem?_eq_getElem hi)
      rw [hx] at p1; cases p1
      have q := run_in o (List.getElem_mem hi)
      have p3 := s3 _ _ p2
      have lt := take_len o i
      have lt2 := take_len o (i + 1)
      refine ⟨_, rfl, .inl ⟨rfl, _, SqL.of e3⟩, _, rfl, p, _, _, _, rfl, rfl, SqT.of p3, atI_nat (j := 1) rfl, (by show 1 ≤ sizeLine; decide), fun q1 g1 => ?_⟩
      have z3 := same_new (o := HO.lst [V.int rs[i].2]) g1
      refine ⟨_, rfl, p, _, _, _, rfl, rfl, SqT.of (z3 _ _ p3), atI_nat (j := 0) rfl, q1, rs[i].1, _, rfl, rfl, upd_same, by omega, by omega, (by show 1 * _ ≤ _; exact Nat.le_trans (by omega : _ ≤ 600) (by decide)), fun q2 g2 => ?_⟩
      have z4 := same_new (o := HO.lst (List.replicate rs[i].1.toNat [V.int rs[i].2]).flatten) g2
      have e4 := (z3.trans z4) _ _ e3
      have ex : xp (rs.take (i + 1)) = xp (rs.take i) ++ List.replicate rs[i].1.toNat rs[i].2 := by
        rw [List.take_succ, List.getElem?_eq_getElem hi, xp_app]
        show _ ++ xp [rs[i]] = _
        rw [xp_cons]
        show _ ++ (_ ++ []) = _
        rw [List.append_nil]
      refine ⟨C, q2, _, _, rfl, rfl, e4, upd_same, Nat.le_trans (by rw [List.length_map, len_rep]; show _ + _ * 1 ≤ 2000; omega) (by decide), same_upd (s3.trans (z3.trans z4)) fC, ?_, _, rfl⟩
      rw [upd_same, ex, List.map_append, rep_map]
    · rintro σ H3 ⟨s3, e3, v2, rfl⟩
      refine ⟨_, rfl, kY2 C H3 s3 fC ?_⟩
      rw [e3, List.take_of_length_le (by rw [r.1]; exact Nat.le_refl _)]
end
end K20
set_option Elab.async false
set_option linter.all false
set_option maxRecDepth 100000
set_option maxHeartbeats 1600000
namespace K20
open PySem L2 M4
theorem cps_inj {a b : Str} (h : a.cps.toList = b.cps.toList) : a = b := by
  cases a; cases b
  congr 1
  exact Array.toList_inj.mp h
theorem at_last {xs : List V} {n : Nat} {x : V} (hl : xs.length = n + 1) (hx : xs[n]? = some x) : atI xs (-1) = some x := by
  unfold atI ixN
  rw [if_neg (by decide), if_pos (by omega)]
  show xs[(-1 + (xs.length : Int)).toNat]? = _
  rw [show (-1 + (xs.length : Int)).toNat = n by omega]
  exact hx
theorem RunL.upd {H : Hp} {xs ys zs : List V} {rs : Rs} {p : Addr} (h : RunL H xs rs) (e : H p = some (.lst ys)) : RunL (upd H p (.lst zs)) xs rs :=
  ⟨h.1, fun i r hr => let ⟨a, e1, e2⟩ := h.2 i r hr; ⟨a, e1, by rw [upd_ne (fun z => by subst z; rw [e] at e2; cases e2)]; exact e2⟩⟩
theorem RunL.last {H : Hp} {xs : List V} {done : Rs} {r : Int × Int} (h : RunL H xs (done ++ [r])) : ∃ ys a, xs = ys ++ [.ref a] ∧ H a = some (.tup [.int r.1, .int r.2]) ∧ RunL H ys done := by
  induction done generalizing xs with
  | nil =>
    obtain ⟨a, ys, rfl, e, hy⟩ := h.split
    have : ys = [] := List.eq_nil_of_length_eq_zero hy.1
    subst this
    exact ⟨[], a, rfl, e, RunL.nil⟩
  | cons q done ih =>
    obtain ⟨b, ys, rfl, e, hy⟩ := h.split
    obtain ⟨zs, a, rfl, ea, hz⟩ := ih hy
    exact ⟨.ref b :: zs, a, rfl, ea, .cons e hz⟩
theorem RunL.one {H : Hp} {a : Addr} {r : Int × Int} (e : H a = some (.tup [.int r.1, .int r.2])) : RunL H [.ref a] [r] := .cons e RunL.nil
noncomputable def segS (r : Int × Int) : Str := ⟨(seg r).toArray⟩
noncomputable def txS (rs : Rs) : Str := ⟨(txL rs).toArray⟩
theorem dig_num : ∀ m : Nat, m < 1000 → (Nat.toDigits 10 m).map Char.toNat = digs m := by decide +kernel
theorem num_cps {m : Nat} (h : m < 1000) : (Str.ofString (toString ((m : Nat) : Int))).cps.toList = digs m := by
  rw [PySem.W.KIN.signs_num, dig_num m h]
noncomputable def LT : Str := "abcdefghijklmnop"
noncomputable def FG : Str := "0123456789"
theorem LT_cps : LT.cps.toList = [97, 98, 99, 100, 101, 102, 103, 104, 105, 106, 107, 108, 109, 110, 111, 112] := by decide +kernel
theorem FG_cps : FG.cps.toList = [48, 49, 50, 51, 52, 53, 54, 55, 56, 57] := by decide +kernel
theorem LT_at {c : Int} (h0 : 0 ≤ c) (h1 : c ≤ 15) : atI LT.cps.toList c = some (97 + c.toNat) := by
  have e : c = 0 ∨ c = 1 ∨ c = 2 ∨ c = 3 ∨ c = 4 ∨ c = 5 ∨ c = 6 ∨ c = 7 ∨ c = 8 ∨ c = 9 ∨ c = 10 ∨ c = 11 ∨ c = 12 ∨ c = 13 ∨ c = 14 ∨ c = 15 := by omega
  rw [LT_cps]
  rcases e with rfl | rfl | rfl | rfl | rfl | rfl | rfl | rfl | rfl | rfl | rfl | rfl | rfl | rfl | rfl | rfl <;> rfl
theorem in_FG (c : Nat) : (!(Builtin.Str.occurrences FG ⟨#[c]⟩ 0 FG.length 1).isEmpty) = isDg c := by
  rw [StrLaws.found_one, FG_cps]
  unfold isDg
  rw [← Bool.decide_and, decide_eq_decide]
  simp only [List.mem_cons, List.not_mem_nil, or_false]
  omega
theorem in_LT (c : Nat) : (!(Builtin.Str.occurrences LT ⟨#[c]⟩ 0 LT.length 1).isEmpty) = isLt c := by
  rw [StrLaws.found_one, LT_cps]
  unfold isLt
  rw [← Bool.decide_and, decide_eq_decide]
  simp only [List.mem_cons, List.not_mem_nil, or_false]
  omega
theorem find_FG {c : Nat} (h : isDg c = true) : Txt.find FG ⟨#[c]⟩ = (c : Int) - 48 := by
  have h := isD_in h
  have e : c = 48 ∨ c = 49 ∨ c = 50 ∨ c = 51 ∨ c = 52 ∨ c = 53 ∨ c = 54 ∨ c = 55 ∨ c = 56 ∨ c = 57 := by omega
  rcases e with rfl | rfl | rfl | rfl | rfl | rfl | rfl | rfl | rfl | rfl <;> decide +kernel
theorem find_LT (c : Nat) : Txt.find LT ⟨#[c]⟩ = ixL c := by
  unfold ixL
  cases h : isLt c with
  | true =>
    rw [if_pos rfl]
    have h := isL_in h
    have e : c = 97 ∨ c = 98 ∨ c = 99 ∨ c = 100 ∨ c = 101 ∨ c = 102 ∨ c = 103 ∨ c = 104 ∨ c = 105 ∨ c = 106 ∨ c = 107 ∨ c = 108 ∨ c = 109 ∨ c = 110 ∨ c = 111 ∨ c = 112 := by omega
    rcases e with rfl | rfl | rfl | rfl | rfl | rfl | rfl | rfl | rfl | rfl | rfl | rfl | rfl | rfl | rfl | rfl <;> decide +kernel
  | false =>
    rw [if_neg (by decide)]
    have := in_LT c
    rw [h] at this
    unfold Txt.find
    cases e : Builtin.Str.occurrences LT ⟨#[c]⟩ 0 LT.length 1 with
    | nil => rfl
    | cons i r => rw [e] at this; cases this
theorem app_cps (a b : Str) : (a ++ b).cps.toList = a.cps.toList ++ b.cps.toList := by
  show (a.cps ++ b.cps).toList = _
  simp
theorem seg_one {c : Int} : (("" : Str) ++ ⟨#[97 + c.toNat]⟩ : Str) = segS (1, c) := by
  refine cps_inj ?_
  rw [app_cps]
  have : ("" : Str).cps = #[] := by decide +kernel
  rw [this]
  rfl
theorem seg_more {n c : Int} (h0 : 2 ≤ n) (h1 : n ≤ 576) : ((toString n : String) ++ ⟨#[97 + c.toNat]⟩ : Str) = segS (n, c) := by
  obtain ⟨m, rfl⟩ : ∃ m : Nat, n = (m : Int) := ⟨n.toNat, by omega⟩
  refine cps_inj ?_
  rw [app_cps, num_cps (by omega)]
  show digs m ++ [97 + c.toNat] = (seg ((m : Int), c)).toArray.toList
  unfold seg
  rw [if_neg (by show ¬ (m : Int) = 1; omega)]
  rfl
theorem join_segs (rs : Rs) : Txt.join "" (rs.map segS) = txS rs := by
  show Builtin.Str.glued "" _ = _
  rw [StrLaws.glued_eq_join]
  induction rs with
  | nil => rfl
  | cons a r ih =>
    cases r with
    | nil =>
      show segS a = _
      refine cps_inj ?_
      show seg a = seg a ++ []
      rw [List.append_nil]
    | cons b q =>
      show (segS a ++ "" ++ Str.join "" ((b :: q).map segS) : Str) = _
      rw [ih]
      refine cps_inj ?_
      rw [app_cps, app_cps]
      have : ("" : Str).cps = #[] := by decide +kernel
      rw [this]
      show (seg a ++ []) ++ txL (b :: q) = txL (a :: b :: q)
      rw [List.append_nil]; rfl
theorem seg_len {r : Int × Int} (h : r.1 ≤ 576) : (seg r).length ≤ 4 := by
  unfold seg
  rw [List.length_append, List.length_singleton]
  split
  · decide
  · unfold digs
    split
    · show 1 + 1 ≤ 4; decide
    · split
      · show 2 + 1 ≤ 4; decide
      · show 3 + 1 ≤ 4; decide
theorem txL_len {rs : Rs} (h : ∀ r ∈ rs, r.1 ≤ 576) : (txL rs).length ≤ 4 * rs.length := by
  induction rs with
  | nil => exact Nat.le_refl _
  | cons r rs ih =>
    rw [txL_cons, List.length_append, List.length_cons]
    have := seg_len (h r List.mem_cons_self)
    have := ih fun q hq => h q (List.mem_cons_of_mem _ hq)
    omega
theorem rs_len {rs : Rs} (h : rs.all okRun = true) : (rs.length : Int) ≤ totl rs := by
  induction rs with
  | nil => exact Int.le_refl _
  | cons r rs ih =>
    rw [List.all_cons, Bool.and_eq_true] at h
    have h1 := h.1
    unfold okRun at h1
    simp only [Bool.and_eq_true, decide_eq_true_eq] at h1
    have := ih h.2
    rw [total_cons, List.length_cons]; omega
theorem okRs_len {rs : Rs} (h : okRs rs = true) : rs.length ≤ 576 := by
  obtain ⟨h1, h2, _⟩ := okRs_of h
  have := rs_len h1; omega
theorem trs_of {K : PySem.W.Frag} {H : Hp} {a : Addr} {xs : List V} {rs : Rs} (e : H a = some (.lst xs)) (r : RunL H xs rs) (hl : xs.length ≤ 100000) : TRs K H (.ref a) := by
  refine ⟨.lst e, fun ys hy => ?_, fun ys hy y hm => ?_⟩
  · rw [rowOf_lst e] at hy; cases hy; omega
  · rw [rowOf_lst e] at hy; cases hy
    obtain ⟨p, q, rfl, _, ep⟩ := r.mem hm
    refine TC.tup ep (by show 2 ≤ 1000; decide) (fun z hz => ?_)
    simp only [List.mem_cons, List.not_mem_nil, or_false] at hz
    rcases hz with rfl | rfl <;> exact .int _
noncomputable def spRO (K : PySem.W.Frag) (cC : Addr) : Sp := fun vs H Q E => ∃ v, vs = [v] ∧ TCs K H v ∧ (∀ (a : Addr) (cs : List Int), v = .ref a → H a = some (.lst (cs.map V.int)) → Cells cs → cs.length ≤ 576 → ∀ l xs H', Same H H' → H l = none → H' l = some (.lst xs) → RunL H' xs (runsL cs) → Q (.ref l) H') ∧ (cellsB H v 576 = false → ∀ H', Same H H' → E (.ref cC) none H')
noncomputable def spRT (K : PySem.W.Frag) : Sp := fun vs H Q _ => ∃ (p : Addr) (r : Int × Int), vs = [.ref p] ∧ H p = some (.tup [.int r.1, .int r.2]) ∧ (1 ≤ r.1 ∧ r.1 ≤ 576 ∧ 0 ≤ r.2 ∧ r.2 ≤ 15) ∧ Q (.str (segS r)) H
noncomputable def spRTx (K : PySem.W.Frag) (cP : Addr) : Sp := fun vs H Q E => ∃ v, vs = [v] ∧ TRs K H v ∧ (∀ rs, IsRs H v rs → ∀ H', Same H H' → Q (.str (txS rs)) H') ∧ ((∀ rs, ¬ IsRs H v rs) → ∀ H', Same H H' → E (.ref cP) none H')
noncomputable def spRd (K : PySem.W.Frag) : Sp := fun vs H Q _ => ∃ t : Str, vs = [.str t] ∧ t.length ≤ 5000 ∧ ∀ l xs H', Same H H' → H l = none → H' l = some (.lst xs) → RunL H' xs (rdgo 0 t.cps.toList) → xs.length ≤ 5000 → Q (.ref l) H'
noncomputable def spRBT (K : PySem.W.Frag) (cP : Addr) : Sp := fun vs H Q E => ∃ v, vs = [v] ∧ Kd K H v ∧ (∀ t, v = .str t → t.length ≤ 5000) ∧ (∀ (t : Str) (rs : Rs), v = .str t → progT t.cps.toList = some rs → ∀ l xs H', Same H H' → H l = none → H' l = some (.lst xs) → RunL H' xs rs → Q (.ref l) H') ∧ ((∀ t : Str, v = .str t → progT t.cps.toList = none) → ∀ H', Same H H' → E (.ref cP) none H')
theorem ints_of : ∀ {xs : List V}, xs.all (isWh 0 15) = true → ∃ cs : List Int, xs = cs.map V.int ∧ ∀ c ∈ cs, 0 ≤ c ∧ c ≤ 15
  | [], _ => ⟨[], rfl, fun c hc => nomatch hc⟩
  | x :: r, h1 => by
    rw [List.all_cons, Bool.and_eq_true] at h1
    obtain ⟨cs, rfl, hc⟩ := ints_of h1.2
    cases x with
    | int i =>
      have hi : 0 ≤ i ∧ i ≤ 15 := by have := h1.1; simp only [isWh, Bool.and_eq_true, decide_eq_true_eq] at this; exact this
      refine ⟨i :: cs, rfl, fun c hm => ?_⟩
      rcases List.mem_cons.mp hm with rfl | hm
      · exact hi
      · exact hc c hm
    | _ => cases h1.1
theorem cells_of {H : Hp} {v : V} {m : Int} (h : cellsB H v m = true) : ∃ (a : Addr) (cs : List Int), v = .ref a ∧ H a = some (.lst (cs.map V.int)) ∧ (∀ c ∈ cs, 0 ≤ c ∧ c ≤ 15) ∧ (cs.length : Int) ≤ m := by
  unfold cellsB at h
  cases hx : rowOf H v with
  | none => rw [hx] at h; cases h
  | some xs =>
    rw [hx] at h
    obtain ⟨a, rfl, e⟩ := rowOf_ref hx
    have h := Bool.and_eq_true_iff.mp h
    obtain ⟨cs, rfl, hc⟩ := ints_of h.1
    refine ⟨a, cs, rfl, e, hc, ?_⟩
    have := of_decide_eq_true h.2
    rw [List.length_map] at this
    exact this
section
variable {P : Program} {w : World} {K : PySem.W.Frag} {mg : Str → Option Value} {base : Heap} {cFE cC cP : Addr} {tC tL tG tB : Tok}
theorem sc_runs_of : FnScope ["cells", "runs", "cell"] ["cells"] (defScope s_runs_of) := ⟨rfl, rfl, rfl, by decide +kernel, rfl, by decide +kernel, by decide +kernel⟩
theorem ok_runs_of {f : Addr} {fd : FuncData} (F : FunD K "runs_of" "runs_of" s_runs_of .none f fd) (T : Txt K mg cFE cC cP tC tL tG tB) (g_need_cells : DefX P w K mg base 6 "need_cells" ["cells", "most"] [] (spNeedCs K cC)) : FnOk P w K mg base (CX1 P w) 7 f fd ["cells"] (spRO K cC) := by
  refine F.okX sc_runs_of (fun vs H Q E h => ?_) (fun cdv A outer s H vs Q E hr h => ?_)
  · obtain ⟨v, rfl, _⟩ := h; rfl
  · obtain ⟨v, rfl, t, kY, kN⟩ := h
    refine ⟨_, (pss_cons (ps_expr (pe_callX g_need_cells (hr.mono (by decide)) passes1R rfl (pa_cons (pv 0) (pa_cons (pe_glob (v := .int 576) rfl T.MOST_LISTED ⟨_, rfl⟩) pa_nil))))
        (pss_cons (ps_set (i := 1) sc_runs_of.nd rfl (by first | exact Or.inl rfl | exact Or.inr rfl) (pe_lst pa_nil))
        (pss_cons (PS.nox (ps_for PassesOwn.never rfl (piK K rfl (pv 0)) (pg_name (i := 2) sc_runs_of.nd rfl (by first | exact Or.inl rfl | exact Or.inr rfl)) (pss_one (ps_if (PW.pt (pw_and (pt_cmpR op_gt (pe_callB (lenK K rfl) rfl T.len PySem.boot_len (pa_cons (pv 1) pa_nil)) pe_int (nomark _)) (pw_and1 (pt_cmpR op_eq (pe_ix (ixTK K rfl) (pe_ix (ixK K rfl) (pv 1) (pe_un un_neg pe_int) (fun _ _ => rfl)) pe_int (fun _ _ => rfl)) (pv 2) (nomark _))))) (pss_one (ps_asg (pe_tup (pa_cons (pe_op op_add (pe_ix (ixTK K rfl) (pe_ix (ixK K rfl) (pv 1) (pe_un un_neg pe_int) (fun _ _ => rfl)) pe_int (fun _ _ => rfl)) pe_int) (pa_cons (pv 2) pa_nil))) (pg_sub (pv 1) (pe_un un_neg pe_int) set_list))) (pss_one (ps_expr (pe_bm PySem.F.plainAttrs_list PySem.F.slot_list_append PySem.F.type_list_append mt_append (pv 1) (pa_cons (pe_tup (pa_cons pe_int (pa_cons (pv 2) pa_nil))) pa_nil))))))))
        (pss_one (ps_ret (pv 1)))))), ?_⟩
    refine ⟨_, rfl, v, 576, rfl, t, fun hb H1 s1 => ?_, kN⟩
    obtain ⟨a, cs, rfl, ea, hc, hl⟩ := cells_of hb
    have hl : cs.length ≤ 576 := by omega
    have kY2 := kY a cs rfl ea hc hl
    clear kY
    have e1 := s1 _ _ ea
    refine ⟨Nat.zero_le _, fun R0 hR0 => ?_⟩
    have z1 := same_new (o := HO.lst []) hR0
    have fR := s1.free hR0
    refine ⟨_, rfl, a, rfl, ⟨_, SqL.of (z1 _ _ e1)⟩, ?_⟩
    refine for_list (xs := cs.map V.int) (fun i σ H3 => Same H H3 ∧ ∃ (xs : List V) (rs : Rs) (v2 : Option V), σ = [some (.ref a), some (.ref R0), v2] ∧ H3 R0 = some (.lst xs) ∧ RunL H3 xs rs ∧ xs.length ≤ i ∧ ((i = 0 ∧ rs = []) ∨ ∃ (done : Rs) (n : Nat) (c : Int), rs = done ++ [((n : Int), c)] ∧ n ≤ i ∧ done ++ rgo c n (cs.drop i) = runsL cs)) ⟨s1.trans z1, [], [], none, rfl, upd_same, RunL.nil, Nat.le_refl _, .inl ⟨rfl, rfl⟩⟩ (fun i σ H3 _ p => SqL.of (p.1 _ _ ea)) ?_ ?_
    · rintro i x σ H3 hx ⟨s3, xs, rs, v2, rfl, eR, rl, lx, hinv⟩
      have hi : i < cs.length := by have := List.getElem?_eq_some_iff.mp hx |>.1; rw [List.length_map] at this; exact this
      obtain ⟨d, ed, hd⟩ : ∃ d, cs[i]? = some d ∧ x = .int d := by
        rw [List.getElem?_map] at hx
        rw [List.getElem?_eq_getElem hi] at hx ⊢
        exact ⟨_, rfl, by injection hx with hx; exact hx.symm⟩
      subst hd
      have edr : cs.drop i = d :: cs.drop (i + 1) := by
        rw [List.drop_eq_getElem_cons hi]
        rw [List.getElem?_eq_getElem hi] at ed
        injection ed with ed
        rw [ed]
      have app : (∀ done n c, rs = done ++ [(((n : Nat) : Int), c)] → c ≠ d) → (((i = 0 ∧ rs = []) ∨ ∃ (done : Rs) (n : Nat) (c : Int), rs = done ++ [((n : Int), c)] ∧ n ≤ i ∧ done ++ rgo c n (cs.drop i) = runsL cs)) → rs ++ rgo d 1 (cs.drop (i + 1)) = runsL cs := fun hne hv => by
        rcases hv with ⟨rfl, rfl⟩ | ⟨done, n, c, e, _, hg⟩
        · rw [List.drop_zero] at edr
          rw [edr]; rfl
        · have := hne done n c e
          rw [edr, rgo_no n _ (fun z => this z.symm)] at hg
          rw [e, List.append_assoc]; exact hg
      have push : ∀ H4, Same H H4 → H4 R0 = some (.lst xs) → RunL H4 xs rs → rs ++ rgo d 1 (cs.drop (i + 1)) = runsL cs → ∀ q, H4 q = none → (Same H (upd (upd H4 q (.tup [.int 1, .int d])) R0 (.lst (xs ++ [.ref q]))) ∧ ∃ (xs' : List V) (rs' : Rs) (v2' : Option V), [some (V.ref a), some (V.ref R0), some (V.int d)] = [some (.ref a), some (.ref R0), v2'] ∧ upd (upd H4 q (.tup [.int 1, .int d])) R0 (.lst (xs ++ [.ref q])) R0 = some (.lst xs') ∧ RunL (upd (upd H4 q (.tup [.int 1, .int d])) R0 (.lst (xs ++ [.ref q]))) xs' rs' ∧ xs'.length ≤ i + 1 ∧ ((i + 1 = 0 ∧ rs' = []) ∨ ∃ (done : Rs) (n : Nat) (c : Int), rs' = done ++ [((n : Int), c)] ∧ n ≤ i + 1 ∧ done ++ rgo c n (cs.drop (i + 1)) = runsL cs)) := fun H4 s4 e4 r4 hg q gq => by
        have zq := same_new (o := HO.tup [V.int 1, .int d]) gq
        refine ⟨same_upd (s4.trans zq) fR, xs ++ [.ref q], rs ++ [(((1 : Nat) : Int), d)], _, rfl, upd_same, ?_, by rw [List.length_append, List.length_singleton]; omega, .inr ⟨rs, 1, d, rfl, by omega, hg⟩⟩
        exact ((r4.mono zq).append (RunL.one (r := (((1 : Nat) : Int), d)) upd_same)).upd (zq _ _ e4)
      refine ⟨_, rfl, R0, _, rfl, .inl (SqL.of eR), _, _, rfl, rfl, _, rfl, iteB (fun h0 => ?_) (fun h0 => ?_)⟩
      · have h0 : ((xs.length : Nat) : Int) > 0 := of_decide_eq_true h0
        rcases hinv with ⟨_, rfl⟩ | ⟨done, n, c, rfl, hn, hg⟩
        · have := rl.1; simp at this; subst this; simp at h0
        obtain ⟨ys, p, rfl, ep, hy⟩ := rl.last
        have al : atI (ys ++ [V.ref p]) (-1) = some (.ref p) := at_last (n := ys.length) (by rw [List.length_append, List.length_singleton]) (by rw [List.getElem?_append_right (Nat.le_refl _), Nat.sub_self]; rfl)
        refine ⟨_, rfl, _, rfl, R0, _, _, _, rfl, rfl, SqL.of eR, al, p, _, _, _, rfl, rfl, SqT.of ep, atI_nat (j := 1) rfl, _, rfl, rfl, _, rfl, iteB (fun he => ?_) (fun he => ?_)⟩
        · have he : c = d := by have := of_decide_eq_true he; injection this
          subst he
          refine ⟨_, rfl, _, rfl, R0, _, _, _, rfl, rfl, SqL.of eR, al, p, _, _, _, rfl, rfl, SqT.of ep, atI_nat (j := 0) rfl, _, _, rfl, rfl, _, rfl, (by show 2 ≤ sizeLine; decide), fun q gq => ?_⟩
          have zq := same_new (o := HO.tup [V.int ((n : Int) + 1), .int c]) gq
          refine ⟨_, rfl, _, rfl, R0, _, _, ys.length, rfl, rfl, zq _ _ eR, ?_, ?_⟩
          · unfold ixN
            rw [if_neg (by decide), if_pos (by rw [List.length_append, List.length_singleton]; omega)]
            congr 1
            rw [List.length_append, List.length_singleton]; omega
          refine ⟨same_upd (s3.trans zq) fR, ys ++ [.ref q], done ++ [(((n + 1 : Nat) : Int), c)], _, rfl, ?_, ?_, ?_, .inr ⟨done, n + 1, c, rfl, by omega, ?_⟩⟩
          · rw [upd_same]
            congr 2
            rw [List.set_append_right _ _ (Nat.le_refl _), Nat.sub_self]; rfl
          · refine ((hy.mono zq).append (RunL.one (r := (((n + 1 : Nat) : Int), c)) ?_)).upd (zq _ _ eR)
            rw [upd_same]; rfl
          · rw [List.length_append, List.length_singleton]
            rw [List.length_append, List.length_singleton] at lx
            omega
          · rw [edr, rgo_yes] at hg; exact hg
        · have he : c ≠ d := fun z => of_decide_eq_false he (by rw [z])
          refine ⟨_, rfl, .inl ⟨rfl, _, SqL.of eR⟩, _, rfl, (by show 2 ≤ sizeLine; decide), fun q gq => ?_⟩
          have zq := same_new (o := HO.tup [V.int 1, .int d]) gq
          refine ⟨R0, _, _, rfl, rfl, zq _ _ eR, Nat.lt_of_lt_of_le (by omega : _ < 5000) (by decide), ?_⟩
          refine push H3 s3 eR rl (app (fun done' n' c' e => ?_) (.inr ⟨done, n, c, rfl, hn, hg⟩)) q gq
          have := List.append_inj' e rfl
          have := this.2
          simp only [List.cons.injEq, Prod.mk.injEq, and_true] at this
          rw [← this.2]; exact he
      · have h0 : ¬ ((xs.length : Nat) : Int) > 0 := of_decide_eq_false h0
        refine ⟨_, rfl, .inl ⟨rfl, _, SqL.of eR⟩, _, rfl, (by show 2 ≤ sizeLine; decide), fun q gq => ?_⟩
        have zq := same_new (o := HO.tup [V.int 1, .int d]) gq
        refine ⟨R0, _, _, rfl, rfl, zq _ _ eR, Nat.lt_of_lt_of_le (by omega : _ < 5000) (by decide), ?_⟩
        refine push H3 s3 eR rl (app (fun done' n' c' e => ?_) hinv) q gq
        have := rl.1
        rw [e, List.length_append, List.length_singleton] at this
        omega
    · rintro σ H3 ⟨s3, xs, rs, v2, rfl, eR, rl, lx, hinv⟩
      refine ⟨_, rfl, kY2 R0 xs H3 s3 fR eR ?_⟩
      rcases hinv with ⟨h0, rfl⟩ | ⟨done, n, c, rfl, hn, hg⟩
      · rw [List.length_map] at h0
        have : cs = [] := List.eq_nil_of_length_eq_zero h0
        subst this; exact rl
      · rw [List.length_map, List.drop_length, rgo_nil] at hg
        rw [← hg]; exact rl
theorem sc_run_text : FnScope ["run", "figures"] ["run"] (defScope s_run_text) := ⟨rfl, rfl, rfl, by decide +kernel, rfl, by decide +kernel, by decide +kernel⟩
theorem ok_run_text {f : Addr} {fd : FuncData} (F : FunD K "run_text" "run_text" s_run_text .none f fd) (T : Txt K mg cFE cC cP tC tL tG tB) : FnOk P w K mg base CX0 1 f fd ["run"] (spRT K) := by
  refine F.ok sc_run_text (fun vs H Q E h => ?_) (fun cdv A outer s H vs Q E hr h => ?_)
  · obtain ⟨p, r, rfl, _⟩ := h; rfl
  · obtain ⟨p, ⟨n, c⟩, rfl, ep, ⟨h1, h2, h3, h4⟩, k⟩ := h
    refine ⟨_, (pss_cons (ps_set (i := 1) sc_run_text.nd rfl (by first | exact Or.inl rfl | exact Or.inr rfl) (pe_ifExp (pt_cmpR op_eq (pe_ix (ixTK K rfl) (pv 0) pe_int (fun _ _ => rfl)) pe_int (nomark _)) pe_str (pe_callTy call_str_int rfl T.str PyProof.Rows.boot_str (pa_cons (pe_ix (ixTK K rfl) (pv 0) pe_int (fun _ _ => rfl)) pa_nil))))
        (pss_one (ps_ret (pe_op op_add_str (pv 1) (pe_ix ix_str (pe_glob (v := .str "abcdefghijklmnop") rfl T.LETTERS ⟨_, rfl⟩) (pe_ix (ixTK K rfl) (pv 0) pe_int (fun _ _ => rfl)) (fun _ _ => rfl)))))), ?_⟩
    have el : (⟨#[97 + c.toNat]⟩ : Str).length = 1 := rfl
    refine ⟨_, rfl, p, _, _, _, rfl, rfl, SqT.of ep, atI_nat (j := 0) rfl, rfl, _, rfl, iteB (fun he => ?_) (fun he => ?_)⟩
    · have he : n = 1 := by have := of_decide_eq_true he; injection this
      subst he
      refine ⟨_, rfl, _, rfl, p, _, _, _, rfl, rfl, SqT.of ep, atI_nat (j := 1) rfl, LT, c, _, rfl, rfl, (by show 16 ≤ sizeLine; decide), LT_at h3 h4, _, _, rfl, rfl, (by show 0 + 1 ≤ sizeLine; decide), ?_⟩
      rw [seg_one]; exact k
    · have he : n ≠ 1 := fun z => of_decide_eq_false he (by rw [z])
      have ln : (Str.ofString (toString n)).length ≤ sizeLine - 1 := by
        obtain ⟨m, rfl⟩ : ∃ m : Nat, n = (m : Int) := ⟨n.toNat, by omega⟩
        have := num_cps (m := m) (by have : (m : Int) ≤ 576 := h2; omega)
        have e : (Str.ofString (toString (m : Int))).length = (digs m).length := by rw [← this]; rfl
        rw [e]
        unfold digs
        split
        · show 1 ≤ _; decide
        · split
          · show 2 ≤ _; decide
          · show 3 ≤ _; decide
      have lg : n.natAbs.log2 < 1920 := by
        have : n.natAbs ≤ 576 := by have : n ≤ 576 := h2; have : 1 ≤ n := h1; omega
        exact Nat.lt_of_le_of_lt (Nat.log2_le_self _) (by omega)
      refine ⟨_, rfl, p, _, _, _, rfl, rfl, SqT.of ep, atI_nat (j := 0) rfl, n, rfl, lg, ?_⟩
      refine ⟨_, rfl, _, rfl, p, _, _, _, rfl, rfl, SqT.of ep, atI_nat (j := 1) rfl, LT, c, _, rfl, rfl, (by show 16 ≤ sizeLine; decide), LT_at h3 h4, _, _, rfl, rfl, ?_, ?_⟩
      · show (Str.ofString (toString n)).length + 1 ≤ sizeLine
        have : 1 ≤ sizeLine := by decide
        omega
      · show Q (.str ((toString n : String) ++ ⟨#[97 + c.toNat]⟩ : Str)) H
        rw [seg_more (by have : 1 ≤ n := h1; omega) h2]; exact k
theorem sc_runs_text : FnScope ["runs"] ["runs"] (defScope s_runs_text) := ⟨rfl, rfl, rfl, by decide +kernel, rfl, by decide +kernel, by decide +kernel⟩
theorem ok_runs_text {f : Addr} {fd : FuncData} (F : FunD K "runs_text" "runs_text" s_runs_text .none f fd) (T : Txt K mg cFE cC cP tC tL tG tB) (g_need_runs : DefX P w K mg base 7 "need_runs" ["runs"] [] (spNeedR K cP)) (g_run_text : Def P w K mg base 1 "run_text" ["run"] [] (spRT K)) : FnOk P w K mg base (CX1 P w) 8 f fd ["runs"] (spRTx K cP) := by
  refine F.okX sc_runs_text (fun vs H Q E h => ?_) (fun cdv A outer s H vs Q E hr h => ?_)
  · obtain ⟨v, rfl, _⟩ := h; rfl
  · obtain ⟨v, rfl, t, kY, kN⟩ := h
    refine ⟨_, (pss_cons (ps_expr (pe_callX g_need_runs (hr.mono (by decide)) passes1R rfl (pa_cons (pv 0) pa_nil)))
        (pss_one (ps_ret (pe_bmK K rfl PySem.F.plainAttrs_str PySem.F.slot_str_join PySem.F.type_str_join (mt_joinK K rfl) pe_str (pa_cons (pe_comp (N := ["run"]) (src := [none]) rfl ⟨rfl, rfl, rfl, rfl, rfl, by decide +kernel⟩ (piK K rfl (pv 0)) (fun s H C fp => pg_name (i := 0) (show (["run"] : List Str).Nodup by decide +kernel) rfl (by first | exact Or.inl rfl | exact Or.inr rfl)) (fun s H C fp => pts_nil) (fun s H C fp => (pe_callD g_run_text (hr.mono (by decide)) rfl (pa_cons (pv 0) pa_nil)))) pa_nil))))), ?_⟩
    refine ⟨_, rfl, v, rfl, t, fun rs h H1 s1 => ?_, kN⟩
    have kY2 := kY rs h
    clear kY
    obtain ⟨a, xs, rfl, ea, r, o⟩ := h
    have e1 := s1 _ _ ea
    have lr := okRs_len o
    refine ⟨rfl, _, rfl, a, rfl, ⟨_, SqL.of e1⟩, fun D hD => ?_⟩
    refine comp_fm (k := 0) (fun v => match tupOf H v with | some [.int n, .int c] => .str (segS (n, c)) | _ => .non) (fun _ => true) (src_list (SqL.of e1)) (Nat.le_trans (by rw [r.1]; omega : _ ≤ 2000) (by decide)) hD (fun x _ H' Qb _ kk => kk H' (Same.refl _)) (fun x hx2 _ H' Q' sm kk => ?_) fun H2 s2 hD2 => ?_
    · obtain ⟨p, q, rfl, hq, ep⟩ := r.mem hx2
      have tt : Q' (match tupOf H (.ref p) with | some [.int n, .int c] => .str (segS (n, c)) | _ => .non) H' := kk H' (Same.refl _)
      rw [tupOf_tup ep] at tt
      exact ⟨_, rfl, p, q, rfl, sm _ _ (s1 _ _ ep), run_in o hq, tt⟩
    have e2 : H2 D = some (.lst ((rs.map segS).map V.str)) := by
      rw [hD2, filter_t]
      congr 2
      rw [List.map_map]
      exact r.map _ _ fun p q ep => by rw [tupOf_tup ep]; rfl
    refine ⟨_, D, rs.map segS, rfl, rfl, SqL.of e2, ?_, ?_⟩
    · refine Nat.le_trans (Nat.add_le_add (?_ : _ ≤ 4 * rs.length) (Nat.le_of_eq (show (rs.map segS).length * 0 = 0 from Nat.mul_zero _))) (Nat.le_trans (by omega : _ ≤ 5000) (by decide))
      clear e2 hD2 r
      have hin : ∀ q ∈ rs, q.1 ≤ 576 := fun q hq => (run_in o hq).2.1
      clear o lr kN kY2
      induction rs with
      | nil => exact Nat.le_refl _
      | cons q rs ih =>
        have h1 : (segS q).length ≤ 4 := seg_len (hin q List.mem_cons_self)
        have h2 := ih fun z hz => hin z (List.mem_cons_of_mem _ hz)
        simp only [List.map_cons, List.sum_cons, List.length_cons] at h2 ⊢
        omega
    · rw [join_segs]
      exact kY2 H2 (s1.trans s2)
end
end K20
set_option Elab.async false
set_option linter.all false
set_option maxRecDepth 100000
namespace L2
open PySem PySem.Spec PyProof.Rows
theorem call_intT {X : Cx} : CallR X (.type "int") (fun xs H Q => ∃ x n, xs = [.str x] ∧ PySem.intText? x = some n ∧ x.length ≤ 640 ∧ Q (.int n) H) := by
  intro pins s σ H xs us Q I r h
  obtain ⟨x, n, rfl, hn, hl, q⟩ := h
  obtain ⟨u, rfl, t, rfl⟩ := vals1 r
  exact PySem.W.KIN.call_text hn hl ⟨.int n, H, I.tok _, ⟨_, rfl⟩, q⟩
theorem fold_size (a : Array Nat) : ∀ (k : Nat) (acc : Array Nat), ((List.replicate k a).foldl (· ++ ·) acc).size = acc.size + k * a.size
  | 0, acc => by simp
  | k + 1, acc => by
    rw [List.replicate_succ, List.foldl_cons, fold_size a k, Array.size_append, Nat.succ_mul]; omega
theorem op_mulS {X : Cx} : OpR X (binaryOp .Mult) (fun x y H Q => ∃ a n, x = .str a ∧ y = .int n ∧ a.length = 1 ∧ (2 ≤ n ∧ n ≤ 10000) ∧ ∀ z : Str, z.length = n.toNat → Q (.str z) H) := by
  intro pins s σ H x y v u Q I rx ry h
  obtain ⟨a, n, rfl, rfl, ha, ⟨h0, h1⟩, q⟩ := h
  obtain ⟨t, rfl⟩ := rx
  obtain ⟨t2, rfl⟩ := ry
  have hz : ¬ n < 1 := by omega
  have hk : ¬ (n == 1 || a.length == 0) = true := by
    rw [ha]
    simp only [Bool.or_eq_true, beq_iff_eq]
    omega
  refine PySem.P.mul_str ?_ (fun _ _ => ?_) (fun _ _ => ?_) ?_
  · rw [Bool.or_eq_false_iff]
    exact ⟨decide_eq_false (by omega), decide_eq_false (by omega)⟩
  · rw [ha]
    have : (1 : Int) ≤ (2 ^ 63 - 1) / n := by
      rw [Int.le_ediv_iff_mul_le (by omega)]; omega
    omega
  · rw [ha]
    unfold Builtin.Str.tooLong
    exact decide_eq_false (by have : (10001 : Nat) ≤ sizeLine := by decide
                              omega)
  · rw [if_neg hz, if_neg hk]
    refine ⟨?_, ⟨.str _, H, I.tok _, ⟨_, rfl⟩, q _ ?_⟩⟩
    · show ((List.replicate n.toNat a.cps).foldl (· ++ ·) #[]).size ≤ sizeLine
      rw [fold_size]
      have e : a.cps.size = 1 := ha
      rw [e]
      have : (10001 : Nat) ≤ sizeLine := by decide
      simp; omega
    · show ((List.replicate n.toNat a.cps).foldl (· ++ ·) #[]).size = n.toNat
      rw [fold_size]
      have e : a.cps.size = 1 := ha
      rw [e]; simp
end L2
set_option Elab.async false
set_option linter.all false
set_option maxRecDepth 100000
set_option maxHeartbeats 1600000
namespace K20
open PySem L2 M4
theorem lenMn {K : PySem.W.Frag} : ∀ xs H (Q Q' : VK), (∀ v H1, Q v H1 → Q' v H1) → (∃ p ys, xs = [V.ref p] ∧ (SqL K H p ys ∨ SqT K H p ys) ∧ Q (.int (ys.length : Int)) H) → (∃ p ys, xs = [V.ref p] ∧ (SqL K H p ys ∨ SqT K H p ys) ∧ Q' (.int (ys.length : Int)) H) := fun xs H Q Q' h ⟨p, ys, e, s, q⟩ => ⟨p, ys, e, s, h _ _ q⟩
theorem at2 (b : Bool) (x y : V) : atI [x, y] (if b = true then 1 else 0) = some (if b = true then y else x) := by cases b <;> rfl
theorem slice1 (f : List Nat) : Txt.slice ⟨f.toArray⟩ none (some 1) = ⟨(f.take 1).toArray⟩ := by
  cases f with
  | nil => decide +kernel
  | cons a r =>
    have := beq_iff_eq.mp (PyProof.Rows.slice_closes_toL (x := ⟨(a :: r).toArray⟩) (j := 1) (by decide) (by show (1 : Int) ≤ (((a :: r).toArray.size : Nat) : Int); rw [List.size_toArray, List.length_cons]; omega))
    rw [this]; rfl
theorem str_eq {a b : List Nat} : decide (V.str ⟨a.toArray⟩ = V.str ⟨b.toArray⟩) = decide (a = b) := by
  rw [decide_eq_decide]
  constructor
  · intro h
    injection h with h
    have := congrArg (fun s : Str => s.cps.toList) h
    simpa using this
  · intro h; rw [h]
theorem c0 : ("0" : Str) = ⟨[48].toArray⟩ := by decide +kernel
theorem c1 : ("1" : Str) = ⟨[49].toArray⟩ := by decide +kernel
theorem cE : ("" : Str) = ⟨([] : List Nat).toArray⟩ := by decide +kernel
theorem fig_int {f : List Nat} (h : ∀ d ∈ f, isDg d = true) (hl : f.length ≤ 3) : PySem.intText? (("0" : Str) ++ ⟨f.toArray⟩) = some ((dvl (48 :: f) : Nat) : Int) := by
  have e : (("0" : Str) ++ ⟨f.toArray⟩ : Str).cps.toList = 48 :: f := by rw [app_cps, c0]; simp
  have hd : PySem.NumText.AllDigits (("0" : Str) ++ ⟨f.toArray⟩ : Str).cps.toList := by
    rw [e]
    intro d hd
    rcases List.mem_cons.mp hd with rfl | hd
    · decide
    · exact isD_in (h d hd)
  have := PySem.intText_digits hd (by rw [e]; simp) (by
    show (("0" : Str) ++ ⟨f.toArray⟩ : Str).cps.size ≤ 4300
    rw [← Array.length_toList, e, List.length_cons]; omega)
  rw [this, e]; rfl
noncomputable def spLR (K : PySem.W.Frag) : Sp := fun vs H Q _ => ∃ (a : Addr) (cs : List Int), vs = [.ref a] ∧ H a = some (.lst (cs.map V.int)) ∧ cs.length ≤ 1000 ∧ ∀ l xs H', Same H H' → H l = none → H' l = some (.lst xs) → RunL H' xs (runsL cs) → Q (.ref l) H'
noncomputable def spLTx (K : PySem.W.Frag) : Sp := fun vs H Q _ => ∃ (v : V) (rs : Rs), vs = [v] ∧ IsRs H v rs ∧ ∀ H', Same H H' → Q (.str (txS rs)) H'
noncomputable def spLBT (K : PySem.W.Frag) : Sp := fun vs H Q _ => ∃ t : Str, vs = [.str t] ∧ t.length ≤ 5000 ∧ (∀ rs, lawT t.cps.toList = some rs → ∀ l xs H', Same H H' → H l = none → H' l = some (.lst xs) → RunL H' xs rs → Q (.ref l) H') ∧ (lawT t.cps.toList = none → ∀ H', Same H H' → Q .non H')
theorem runsL_drop {cs : List Int} {p : Nat} {c : Int} (h : cs[p]? = some c) : runsL (cs.drop p) = rgo c 1 (cs.drop (p + 1)) := by
  have hp := List.getElem?_eq_some_iff.mp h |>.1
  rw [List.drop_eq_getElem_cons hp]
  rw [List.getElem?_eq_getElem hp] at h
  injection h with h
  rw [h]; rfl
theorem rgo_drop {cs : List Int} {p n : Nat} {c : Int} (h : cs[p]? = some c) : rgo c n (cs.drop p) = rgo c (n + 1) (cs.drop (p + 1)) := by
  have hp := List.getElem?_eq_some_iff.mp h |>.1
  rw [List.drop_eq_getElem_cons hp]
  rw [List.getElem?_eq_getElem hp] at h
  injection h with h
  rw [h, rgo_yes]
section
variable {P : Program} {w : World} {K : PySem.W.Frag} {mg : Str → Option Value} {base : Heap} {cFE cC cP : Addr} {tC tL tG tB : Tok}
theorem sc_runs_as_read : FnScope ["text", "runs", "count", "sign"] ["text"] (defScope s_runs_as_read) := ⟨rfl, rfl, rfl, by decide +kernel, rfl, by decide +kernel, by decide +kernel⟩
theorem ok_runs_as_read {f : Addr} {fd : FuncData} (F : FunD K "runs_as_read" "runs_as_read" s_runs_as_read .none f fd) (T : Txt K mg cFE cC cP tC tL tG tB) : FnOk P w K mg base CX0 1 f fd ["text"] (spRd K) := by
  refine F.ok sc_runs_as_read (fun vs H Q E h => ?_) (fun cdv A outer s H vs Q E hr h => ?_)
  · obtain ⟨t, rfl, _⟩ := h; rfl
  · obtain ⟨t, rfl, hl, k⟩ := h
    refine ⟨_, (pss_cons (ps_set (i := 1) sc_runs_as_read.nd rfl (by first | exact Or.inl rfl | exact Or.inr rfl) (pe_lst pa_nil))
        (pss_cons (ps_set (i := 2) sc_runs_as_read.nd rfl (by first | exact Or.inl rfl | exact Or.inr rfl) pe_int)
        (pss_cons (ps_for PassesOwn.never rfl (pi_str (pv 0)) (pg_name (i := 3) sc_runs_as_read.nd rfl (by first | exact Or.inl rfl | exact Or.inr rfl)) (pss_one (ps_if (pt_cmpR op_in_str (pv 3) (pe_glob (v := .str "0123456789") rfl T.FIGURES ⟨_, rfl⟩) (by with_unfolding_all rfl)) (pss_one (ps_set (i := 2) sc_runs_as_read.nd rfl (by first | exact Or.inl rfl | exact Or.inr rfl) (pe_callB (call_min2 rfl) rfl T.min PyProof.Rows.boot_min (pa_cons (pe_op op_add (pe_op op_mul pe_int (pv 2)) (pe_bmK K rfl PySem.F.plainAttrs_str PySem.F.slot_str_index PySem.F.type_str_index mt_indexS (pe_glob (v := .str "0123456789") rfl T.FIGURES ⟨_, rfl⟩) (pa_cons (pv 3) pa_nil))) (pa_cons (pe_op op_add (pe_glob (v := .int 576) rfl T.MOST_LISTED ⟨_, rfl⟩) pe_int) pa_nil))))) (pss_cons (ps_expr (pe_bm PySem.F.plainAttrs_list PySem.F.slot_list_append PySem.F.type_list_append mt_append (pv 1) (pa_cons (pe_tup (pa_cons (pe_callB (call_max2 rfl) rfl T.max PyProof.Rows.boot_max (pa_cons (pv 2) (pa_cons pe_int pa_nil))) (pa_cons (pe_bmK K rfl PySem.F.plainAttrs_str PySem.F.slot_str_find PySem.F.type_str_find mt_find (pe_glob (v := .str "abcdefghijklmnop") rfl T.LETTERS ⟨_, rfl⟩) (pa_cons (pv 3) pa_nil)) pa_nil))) pa_nil)))
        (pss_one (ps_set (i := 2) sc_runs_as_read.nd rfl (by first | exact Or.inl rfl | exact Or.inr rfl) pe_int))))))
        (pss_one (ps_ret (pv 1)))))), ?_⟩
    refine ⟨Nat.zero_le _, fun R0 hR0 => ?_⟩
    have z1 := same_new (o := HO.lst []) hR0
    refine ⟨_, rfl, t, rfl, ?_⟩
    have tl : t.cps.toList.length = t.cps.size := Array.length_toList
    have hl : t.cps.size ≤ 5000 := hl
    refine for_str (x := t) (fun i σ H3 => Same H H3 ∧ ∃ (xs : List V) (rs : Rs) (cnt : Nat) (v3 : Option V), σ = [some (.str t), some (.ref R0), some (.int (cnt : Int)), v3] ∧ H3 R0 = some (.lst xs) ∧ RunL H3 xs rs ∧ xs.length ≤ i ∧ cnt ≤ 577 ∧ rs ++ rdgo cnt (t.cps.toList.drop i) = rdgo 0 t.cps.toList) ⟨z1, [], [], 0, none, rfl, upd_same, RunL.nil, Nat.le_refl _, by decide, rfl⟩ ?_ ?_
    · rintro i c σ H3 hc ⟨s3, xs, rs, cnt, v3, rfl, eR, rl, lx, hcnt, hg⟩
      have hi := List.getElem?_eq_some_iff.mp hc |>.1
      have edr : t.cps.toList.drop i = c :: t.cps.toList.drop (i + 1) := by
        rw [List.drop_eq_getElem_cons hi]
        rw [List.getElem?_eq_getElem hi] at hc
        injection hc with hc
        rw [hc]
      rw [edr] at hg
      refine ⟨_, rfl, _, _, rfl, rfl, _, rfl, iteB (fun h => ?_) (fun h => ?_)⟩
      · have h : isDg c = true := (in_FG c).symm.trans h
        have hc2 := isD_in h
        rw [rd_d h] at hg
        refine ⟨_, rfl, _, _, rfl, rfl, .inl ⟨by decide, by decide⟩, rfl, _, rfl, _, _, rfl, rfl, ?_, _, _, rfl, rfl, _, _, rfl, rfl, _, _, rfl, ?_⟩
        · have := in_FG c
          rw [h] at this
          exact Bool.not_eq_true' _ |>.mp this
        · show gName 2 (.int (if (576 : Int) + 1 < 10 * (cnt : Int) + Txt.find FG ⟨#[c]⟩ then 576 + 1 else 10 * (cnt : Int) + Txt.find FG ⟨#[c]⟩)) _ _ _
          rw [find_FG h, show (if (576 : Int) + 1 < 10 * (cnt : Int) + ((c : Int) - 48) then 576 + 1 else 10 * (cnt : Int) + ((c : Int) - 48)) = ((min (10 * cnt + (c - 48)) 577 : Nat) : Int) from by split <;> omega]
          exact ⟨s3, xs, rs, _, _, rfl, eR, rl, by omega, by omega, hg⟩
      · have h : isDg c = false := (in_FG c).symm.trans h
        rw [rd_n h] at hg
        refine ⟨_, rfl, .inl ⟨rfl, _, SqL.of eR⟩, _, rfl, _, _, rfl, rfl, _, rfl, _, _, rfl, rfl, (by show 2 ≤ sizeLine; decide), fun q gq => ?_⟩
        dsimp only [tNil]
        show rAppend _ [.ref q] (upd H3 q (.tup [.int (if (1 : Int) > (cnt : Int) then 1 else (cnt : Int)), .int (Txt.find LT ⟨#[c]⟩)])) _
        rw [find_LT, show (if (1 : Int) > (cnt : Int) then 1 else (cnt : Int)) = ((max cnt 1 : Nat) : Int) from by split <;> omega]
        have zq := same_new (o := HO.tup [V.int ((max cnt 1 : Nat) : Int), .int (ixL c)]) gq
        refine ⟨R0, _, _, rfl, rfl, zq _ _ eR, Nat.lt_of_lt_of_le (by omega : _ < 6000) (by decide), ?_⟩
        refine ⟨same_upd (s3.trans zq) hR0, xs ++ [.ref q], rs ++ [(((max cnt 1 : Nat) : Int), ixL c)], 0, _, rfl, upd_same, ((rl.mono zq).append (RunL.one upd_same)).upd (zq _ _ eR), by rw [List.length_append, List.length_singleton]; omega, by decide, ?_⟩
        rw [List.append_assoc]; exact hg
    · rintro σ H3 ⟨s3, xs, rs, cnt, v3, rfl, eR, rl, lx, hcnt, hg⟩
      rw [List.drop_eq_nil_of_le (by omega)] at hg
      have hg : rs = rdgo 0 t.cps.toList := by rw [← hg]; show rs = rs ++ []; rw [List.append_nil]
      rw [hg] at rl
      exact ⟨_, rfl, k R0 xs H3 s3 hR0 eR rl (by omega)⟩
theorem sc_runs_by_text : FnScope ["text", "runs"] ["text"] (defScope s_runs_by_text) := ⟨rfl, rfl, rfl, by decide +kernel, rfl, by decide +kernel, by decide +kernel⟩
theorem ok_runs_by_text {f : Addr} {fd : FuncData} (F : FunD K "runs_by_text" "runs_by_text" s_runs_by_text .none f fd) (T : Txt K mg cFE cC cP tC tL tG tB) (g_runs_as_read : Def P w K mg base 1 "runs_as_read" ["text"] [] (spRd K)) (g_runs_text : DefX P w K mg base 8 "runs_text" ["runs"] [] (spRTx K cP)) : FnOk P w K mg base (CX1 P w) 9 f fd ["text"] (spRBT K cP) := by
  refine F.okX sc_runs_by_text (fun vs H Q E h => ?_) (fun cdv A outer s H vs Q E hr h => ?_)
  · obtain ⟨v, rfl, _⟩ := h; rfl
  · obtain ⟨v, rfl, kd, hl, kY, kN⟩ := h
    refine ⟨_, (pss_cons (ps_if (pt_not (pt_val (isiK K rfl (pv 0) rfl T.isinstance rfl T.str PyProof.Rows.boot_str))) (pss_one (ps_raise rfl raises1 rfl T.BadRuns T.xBadRuns (pa_cons pe_str pa_nil))) pss_nil)
        (pss_cons (ps_set (i := 1) sc_runs_by_text.nd rfl (by first | exact Or.inl rfl | exact Or.inr rfl) (pe_callD g_runs_as_read (hr.mono (by decide)) rfl (pa_cons (pv 0) pa_nil)))
        (pss_cons (ps_if (pt_cmpR op_ne (pe_callX g_runs_text (hr.mono (by decide)) passes1R rfl (pa_cons (pv 1) pa_nil)) (pv 0) (nomark _)) (pss_one (ps_raise rfl raises1 rfl T.BadRuns T.xBadRuns (pa_cons pe_str pa_nil))) pss_nil)
        (pss_one (ps_ret (pv 1)))))), ?_⟩
    refine ⟨_, rfl, _, kd.isStr, _, rfl, iteN (fun h => ?_) (fun h => ?_)⟩
    · refine ⟨by show 1 ≤ sizeLine; decide, kN (fun t e => ?_) H (Same.refl H)⟩
      subst e; cases h
    obtain ⟨t, rfl⟩ : ∃ t, v = .str t := by
      cases v with
      | str t => exact ⟨t, rfl⟩
      | ref a =>
        cases kd <;> cases h
      | _ => cases h
    have hl := hl t rfl
    have kY2 := fun rs => kY t rs rfl
    clear kY
    have kN2 : progT t.cps.toList = none → ∀ H', Same H H' → E (.ref cP) none H' := fun hn => kN fun t' e => by cases e; exact hn
    clear kN
    refine ⟨_, rfl, t, rfl, hl, fun l xs H1 s1 hl1 el rl lx => ?_⟩
    have et : t = ⟨t.cps.toList.toArray⟩ := by cases t; rfl
    refine ⟨_, rfl, .ref l, rfl, trs_of el rl (by omega), fun rs hrs H2 s2 => ?_, fun hno H2 s2 => kN2 ?_ H2 (s1.trans s2)⟩
    · have hrs2 := hrs
      obtain ⟨l', xs', e', el', rl', o⟩ := hrs2
      cases e'
      rw [el] at el'; cases el'
      have er := rl'.uniq rl
      subst er
      refine ⟨_, rfl, rfl, _, rfl, iteN (fun hne => ?_) (fun heq => ?_)⟩
      · have hne : txL (rdgo 0 t.cps.toList) ≠ t.cps.toList := fun z => of_decide_eq_false hne (by
          show V.str (txS (rdgo 0 t.cps.toList)) = V.str t
          unfold txS
          rw [z, ← et])
        refine ⟨by show 1 ≤ sizeLine; decide, kN2 ?_ H2 (s1.trans s2)⟩
        unfold progT
        rw [if_neg (fun z => hne z.2)]
      · have heq : V.str (txS (rdgo 0 t.cps.toList)) = V.str t := of_decide_eq_true heq
        have heq : txL (rdgo 0 t.cps.toList) = t.cps.toList := by
          injection heq with heq
          have := congrArg (fun s : Str => s.cps.toList) heq
          simpa [txS] using this
        refine ⟨_, rfl, kY2 (rdgo 0 t.cps.toList) ?_ l xs H2 (s1.trans s2) hl1 (s2 _ _ el) (rl.mono s2)⟩
        unfold progT
        rw [if_pos ⟨o, heq⟩]
    · unfold progT
      rw [if_neg]
      intro z
      exact hno _ ⟨l, xs, rfl, el, rl, z.1⟩
theorem sc_law_runs : FnScope ["_law_cells_here", "_law_found", "_law_at", "_law_end"] ["_law_cells_here"] (defScope s_law_runs) := ⟨rfl, rfl, rfl, by decide +kernel, rfl, by decide +kernel, by decide +kernel⟩
theorem ok_law_runs {f : Addr} {fd : FuncData} (F : FunD K "_law_runs" "_law_runs" s_law_runs .none f fd) (T : Txt K mg cFE cC cP tC tL tG tB) : FnOk P w K mg base CX0 1 f fd ["_law_cells_here"] (spLR K) := by
  refine F.ok sc_law_runs (fun vs H Q E h => ?_) (fun cdv A outer s H vs Q E hr h => ?_)
  · obtain ⟨a, cs, rfl, _⟩ := h; rfl
  · obtain ⟨a, cs, rfl, ea, hl, k⟩ := h
    refine ⟨_, (pss_cons (ps_set (i := 1) sc_law_runs.nd rfl (by first | exact Or.inl rfl | exact Or.inr rfl) (pe_lst pa_nil))
        (pss_cons (ps_set (i := 2) sc_law_runs.nd rfl (by first | exact Or.inl rfl | exact Or.inr rfl) pe_int)
        (pss_cons (ps_while PassesOwn.never (pt_cmpR op_lt (pv 2) (pe_callB (lenK K rfl) rfl T.len PySem.boot_len (pa_cons (pv 0) pa_nil)) (nomark _)) (pss_cons (ps_set (i := 3) sc_law_runs.nd rfl (by first | exact Or.inl rfl | exact Or.inr rfl) (pv 2))
        (pss_cons (ps_while PassesOwn.never (PW.pt (pw_and (pt_cmpR op_lt (pv 3) (pe_callB (lenK K rfl) rfl T.len PySem.boot_len (pa_cons (pv 0) pa_nil)) (nomark _)) (pw_and1 (pt_cmpR op_eq (pe_ix (ixK K rfl) (pv 0) (pv 3) (fun _ _ => rfl)) (pe_ix (ixK K rfl) (pv 0) (pv 2) (fun _ _ => rfl)) (nomark _))))) (pss_one (ps_set (i := 3) sc_law_runs.nd rfl (by first | exact Or.inl rfl | exact Or.inr rfl) (pe_op op_add (pv 3) pe_int))))
        (pss_cons (ps_expr (pe_bm PySem.F.plainAttrs_list PySem.F.slot_list_append PySem.F.type_list_append mt_append (pv 1) (pa_cons (pe_tup (pa_cons (pe_op op_sub (pv 3) (pv 2)) (pa_cons (pe_ix (ixK K rfl) (pv 0) (pv 2) (fun _ _ => rfl)) pa_nil))) pa_nil)))
        (pss_one (ps_set (i := 2) sc_law_runs.nd rfl (by first | exact Or.inl rfl | exact Or.inr rfl) (pv 3)))))))
        (pss_one (ps_ret (pv 1)))))), ?_⟩
    refine ⟨Nat.zero_le _, fun F0 hF0 => ?_⟩
    have z1 := same_new (o := HO.lst []) hF0
    have le : (cs.map V.int).length = cs.length := List.length_map _
    have at_ : ∀ {j : Nat} {c : Int}, cs[j]? = some c → atI (cs.map V.int) (j : Int) = some (.int c) := fun {j c} h => atI_nat (by rw [List.getElem?_map, h]; rfl)
    refine while_by (fun σ H3 => Same H H3 ∧ ∃ (p : Nat) (xs : List V) (rs : Rs) (v3 : Option V), σ = [some (.ref a), some (.ref F0), some (.int (p : Int)), v3] ∧ p ≤ cs.length ∧ H3 F0 = some (.lst xs) ∧ RunL H3 xs rs ∧ xs.length ≤ p ∧ rs ++ runsL (cs.drop p) = runsL cs) (fun σ _ => match σ with | [_, _, some (.int p), _] => ((cs.length : Int) - p).toNat | _ => 0) ⟨z1, 0, [], [], none, rfl, Nat.zero_le _, upd_same, RunL.nil, Nat.le_refl _, rfl⟩ ?_ ?_
    · rintro σ H3 ⟨s3, p, xs, rs, v3, rfl, hp, eF, rl, lx, hg⟩
      have hA : SqL K H3 a (cs.map V.int) := SqL.of (s3 _ _ ea)
      refine ⟨_, rfl, _, rfl, a, _, rfl, .inl hA, _, _, rfl, rfl, _, rfl, iteB (fun hlt => ?_) (fun hlt => ?_)⟩
      · have hlt := of_decide_eq_true hlt
        rw [le] at hlt
        have hlt : p < cs.length := by omega
        obtain ⟨c, hc⟩ : ∃ c, cs[p]? = some c := ⟨_, List.getElem?_eq_getElem hlt⟩
        refine ⟨_, rfl, ?_⟩
        refine while_by (fun σ H4 => H4 = H3 ∧ ∃ e : Nat, σ = [some (.ref a), some (.ref F0), some (.int (p : Int)), some (.int (e : Int))] ∧ p ≤ e ∧ e ≤ cs.length ∧ (e = p ∨ (p < e ∧ rgo c (e - p) (cs.drop e) = runsL (cs.drop p)))) (fun σ _ => match σ with | [_, _, _, some (.int e)] => ((cs.length : Int) - e).toNat | _ => 0) ⟨rfl, p, rfl, Nat.le_refl _, hp, .inl rfl⟩ ?_ ?_
        · rintro σ H4 ⟨rfl, e, rfl, he1, he2, hinv⟩
          have stop : cs[e]? ≠ some c → p < e ∧ rs ++ ((((e - p : Nat) : Int), c) :: runsL (cs.drop e)) = runsL cs := fun hne => by
            rcases hinv with rfl | ⟨h1, h2⟩
            · exact absurd hc hne
            · refine ⟨h1, ?_⟩
              rw [← hg, ← h2]
              congr 1
              refine (rgo_end ?_).symm
              rw [List.getElem?_drop, Nat.add_zero]; exact hne
          refine ⟨_, rfl, _, rfl, a, _, rfl, .inl hA, _, _, rfl, rfl, _, rfl, iteB (fun h1 => ?_) (fun h1 => ?_)⟩
          · have h1 := of_decide_eq_true h1
            rw [le] at h1
            obtain ⟨d, hd⟩ : ∃ d, cs[e]? = some d := ⟨_, List.getElem?_eq_getElem (by omega)⟩
            refine ⟨_, rfl, _, rfl, a, _, _, _, rfl, rfl, hA, at_ hd, _, rfl, _, rfl, a, _, _, _, rfl, rfl, hA, at_ hc, rfl, _, rfl, iteB (fun h2 => ?_) (fun h2 => ?_)⟩
            · have h2 : d = c := by have := of_decide_eq_true h2; injection this
              subst h2
              refine ⟨_, rfl, _, _, rfl, rfl, ⟨rfl, e + 1, ?_, by omega, by omega, .inr ⟨by omega, ?_⟩⟩, ?_⟩
              · rw [show ((e + 1 : Nat) : Int) = (e : Int) + 1 by omega]; rfl
              · rcases hinv with rfl | ⟨h1, h2⟩
                · rw [runsL_drop hc, show e + 1 - e = 1 by omega]
                · rw [← h2, rgo_drop hd, show e + 1 - p = e - p + 1 by omega]
              · show ((cs.length : Int) - ((e : Int) + 1)).toNat < ((cs.length : Int) - (e : Int)).toNat
                omega
            · have h2 : d ≠ c := fun z => of_decide_eq_false h2 (by rw [z])
              obtain ⟨g1, g2⟩ := stop (fun z => by rw [hd] at z; injection z with z; exact h2 z)
              refine ⟨_, rfl, .inl ⟨rfl, _, SqL.of eF⟩, _, rfl, _, rfl, _, _, rfl, rfl, _, rfl, _, rfl, a, _, _, _, rfl, rfl, hA, at_ hc, (by show 2 ≤ sizeLine; decide), fun q gq => ?_⟩
              have zq := same_new (o := HO.tup [V.int ((e : Int) - (p : Int)), .int c]) gq
              refine ⟨F0, _, _, rfl, rfl, zq _ _ eF, Nat.lt_of_lt_of_le (by omega : _ < 5000) (by decide), ?_⟩
              refine ⟨_, rfl, ⟨same_upd (s3.trans zq) hF0, e, xs ++ [.ref q], rs ++ [(((e - p : Nat) : Int), c)], _, rfl, he2, upd_same, ((rl.mono zq).append (RunL.one ?_)).upd (zq _ _ eF), by rw [List.length_append, List.length_singleton]; omega, by rw [List.append_assoc]; exact g2⟩, ?_⟩
              · rw [upd_same, show ((e - p : Nat) : Int) = (e : Int) - (p : Int) by omega]
              · show ((cs.length : Int) - (e : Int)).toNat < ((cs.length : Int) - (p : Int)).toNat
                omega
          · have h1 := of_decide_eq_false h1
            rw [le] at h1
            obtain ⟨g1, g2⟩ := stop (fun z => by have := List.getElem?_eq_some_iff.mp z |>.1; omega)
            refine ⟨_, rfl, .inl ⟨rfl, _, SqL.of eF⟩, _, rfl, _, rfl, _, _, rfl, rfl, _, rfl, _, rfl, a, _, _, _, rfl, rfl, hA, at_ hc, (by show 2 ≤ sizeLine; decide), fun q gq => ?_⟩
            have zq := same_new (o := HO.tup [V.int ((e : Int) - (p : Int)), .int c]) gq
            refine ⟨F0, _, _, rfl, rfl, zq _ _ eF, Nat.lt_of_lt_of_le (by omega : _ < 5000) (by decide), ?_⟩
            refine ⟨_, rfl, ⟨same_upd (s3.trans zq) hF0, e, xs ++ [.ref q], rs ++ [(((e - p : Nat) : Int), c)], _, rfl, he2, upd_same, ((rl.mono zq).append (RunL.one ?_)).upd (zq _ _ eF), by rw [List.length_append, List.length_singleton]; omega, by rw [List.append_assoc]; exact g2⟩, ?_⟩
            · rw [upd_same, show ((e - p : Nat) : Int) = (e : Int) - (p : Int) by omega]
            · show ((cs.length : Int) - (e : Int)).toNat < ((cs.length : Int) - (p : Int)).toNat
              omega
        · exact mn_and (mn_test (mn_op (mn_i0 _) (mn_var _) (mn_call lenMn (mn_cons (mn_var _) mn_nil)))) (mn_test (mn_op mn_eq (mn_op (mn_ixL _) (mn_var _) (mn_var _)) (mn_op (mn_ixL _) (mn_var _) (mn_var _))))
      · have hlt := of_decide_eq_false hlt
        rw [le] at hlt
        rw [List.drop_eq_nil_of_le (by omega)] at hg
        have hg : rs = runsL cs := by rw [← hg]; show rs = rs ++ []; rw [List.append_nil]
        rw [hg] at rl
        exact ⟨_, rfl, k F0 xs H3 s3 hF0 eF rl⟩
    · exact mn_test (mn_op (mn_i0 _) (mn_var _) (mn_call lenMn (mn_cons (mn_var _) mn_nil)))
end
end K20
set_option Elab.async false
set_option linter.all false
set_option maxRecDepth 100000
set_option maxHeartbeats 1600000
namespace K20
open PySem L2 M4
theorem at_mod {xs : List V} {m : Int} (n : Nat) (h : xs.length = n) (hn : 0 < n) : ∃ x ∈ xs, atI xs (m % (n : Int)) = some x := by
  have f0 := Int.emod_nonneg m (show (n : Int) ≠ 0 by omega)
  have f1 := Int.emod_lt_of_pos m (show (0 : Int) < (n : Int) by omega)
  obtain ⟨j, ej⟩ : ∃ j : Nat, m % (n : Int) = (j : Int) := ⟨(m % (n : Int)).toNat, by omega⟩
  rw [ej] at f1 ⊢
  have hj : j < xs.length := by omega
  exact ⟨_, List.getElem_mem hj, atI_nat (List.getElem?_eq_getElem hj)⟩
theorem cut_hi (xs : List V) (k : Nat) : cutV xs none (some (k : Int)) = xs.take k := by
  unfold cutV
  rw [HT.sIx_none, HT.sIx_nat, List.drop_zero, Nat.sub_zero]
  exact List.take_eq_take_iff.mpr (by omega)
theorem app_len (a b : Str) : (a ++ b).length = a.length + b.length := by
  show (a.cps ++ b.cps).size = _
  rw [Array.size_append]; rfl
theorem aprt_filter (rs : Rs) : (List.range (rs.length - 1)).filter (fun i => decide ((rs.getD i (0, 0)).2 = (rs.getD (i + 1) (0, 0)).2)) = [] ↔ aprt rs = true := by
  rw [← aprt_range, List.all_map, List.filter_eq_nil_iff, List.all_eq_true]
  constructor
  · intro h i hi
    have := h i hi
    simp only [decide_eq_true_eq] at this
    show (!decide _) = true
    rw [decide_eq_false this]; rfl
  · intro h i hi z
    have := h i hi
    rw [decide_eq_true_eq] at z
    have this : (!decide ((rs.getD i (0, 0)).2 = (rs.getD (i + 1) (0, 0)).2)) = true := this
    rw [decide_eq_true z] at this; cases this
theorem okRun_of {n c : Int} (h1 : 1 ≤ n) (h2 : 0 ≤ c) (h3 : c ≤ 15) : okRun (n, c) = true := by
  unfold okRun; simp only [Bool.and_eq_true, decide_eq_true_eq]; omega
theorem not_rs {H : Hp} {a : Addr} {xs : List V} {x : V} {i : Nat} (ea : H a = some (.lst xs)) (hx : xs[i]? = some x) (no : ∀ (p : Addr) (n c : Int), x = .ref p → H p = some (.tup [.int n, .int c]) → 1 ≤ n → 0 ≤ c → c ≤ 15 → False) : ∀ rs, ¬ IsRs H (.ref a) rs := by
  rintro rs ⟨b, ys, e, eb, r, o⟩
  cases e
  rw [ea] at eb; cases eb
  have hi : i < rs.length := by
    have := List.getElem?_eq_some_iff.mp hx |>.1
    have := r.1; omega
  obtain ⟨p, p1, p2⟩ := r.2 i rs[i] (List.getElem?_eq_getElem hi)
  rw [hx] at p1; cases p1
  have q := run_in o (List.getElem_mem hi)
  exact no p _ _ rfl p2 q.1 q.2.2.1 q.2.2.2
noncomputable def spCells (K : PySem.W.Frag) : Sp := fun vs H Q _ => ∃ (a : Addr) (ns : List Int) (f : Nat), vs = [.ref a, .int (f : Int)] ∧ SqL K H a (ns.map V.int) ∧ f ≤ 100 ∧ ∀ p cs H', Same H H' → H p = none → H' p = some (.lst (cs.map V.int)) → Cells cs → cs.length ≤ 576 → Q (.ref p) H'
theorem txS_app (a : Rs) (r : Int × Int) : txS (a ++ [r]) = txS a ++ segS r := by
  refine cps_inj ?_
  rw [app_cps]
  show (txL (a ++ [r])) = txL a ++ seg r
  unfold txL
  rw [List.map_append, List.flatten_append]
  show _ ++ (seg r ++ []) = _
  rw [List.append_nil]
theorem str_assoc (a b c : Str) : (a ++ b) ++ c = a ++ (b ++ c) := by
  refine cps_inj ?_
  rw [app_cps, app_cps, app_cps, app_cps, List.append_assoc]
theorem str_len (a : Str) : a.length = a.cps.toList.length := Array.length_toList.symm
section
variable {P : Program} {w : World} {K : PySem.W.Frag} {mg : Str → Option Value} {base : Heap} {cFE cC cP : Addr} {tC tL tG tB : Tok}
theorem sc_law_is_runs : FnScope ["_law_thing", "_law_run"] ["_law_thing"] (defScope s_law_is_runs) := ⟨rfl, rfl, rfl, by decide +kernel, rfl, by decide +kernel, by decide +kernel⟩
theorem ok_law_is_runs {f : Addr} {fd : FuncData} (F : FunD K "_law_is_runs" "_law_is_runs" s_law_is_runs .none f fd) (T : Txt K mg cFE cC cP tC tL tG tB) (g__law_whole : Def P w K mg base 1 "_law_whole" ["_law_found"] [] (spWhN K)) : FnOk P w K mg base CX0 2 f fd ["_law_thing"] (spAre K) := by
  refine F.ok sc_law_is_runs (fun vs H Q E h => ?_) (fun cdv A outer s H vs Q E hr h => ?_)
  · obtain ⟨v, rfl, _⟩ := h; rfl
  · obtain ⟨v, rfl, t, kY, kN⟩ := h
    have hu : _ + 64 < cLine := hr.units
    refine ⟨_, (pss_cons (ps_if (pt_not (pt_val (isiK K rfl (pv 0) rfl T.isinstance rfl T.list PyProof.Rows.boot_list))) (pss_one (ps_ret pe_bl)) pss_nil)
        (pss_cons (ps_for PassesOwn.never rfl (piK K rfl (pv 0)) (pg_name (i := 1) sc_law_is_runs.nd rfl (by first | exact Or.inl rfl | exact Or.inr rfl)) (pss_cons (ps_if (PW.pt (pw_or (pt_not (pt_val (isiK K rfl (pv 1) rfl T.isinstance rfl T.tuple PyProof.Rows.boot_tuple))) (pw_or (pt_cmpR op_ne (pe_callB (lenK K rfl) rfl T.len PySem.boot_len (pa_cons (pv 1) pa_nil)) pe_int (nomark _)) (pw_or (pt_not (pt_val (pe_callD g__law_whole (hr.mono (by decide)) rfl (pa_cons (pe_ix (ixTK K rfl) (pv 1) pe_int (fun _ _ => rfl)) pa_nil)))) (pw_or1 (pt_not (pt_val (pe_callD g__law_whole (hr.mono (by decide)) rfl (pa_cons (pe_ix (ixTK K rfl) (pv 1) pe_int (fun _ _ => rfl)) pa_nil))))))))) (pss_one (ps_ret pe_bl)) pss_nil)
        (pss_one (ps_if (PW.pt (pw_or (pt_cmpR op_lt (pe_ix (ixTK K rfl) (pv 1) pe_int (fun _ _ => rfl)) pe_int (nomark _)) (pw_or (pt_cmpR op_lt (pe_ix (ixTK K rfl) (pv 1) pe_int (fun _ _ => rfl)) pe_int (nomark _)) (pw_or1 (pt_cmpR op_gt (pe_ix (ixTK K rfl) (pv 1) pe_int (fun _ _ => rfl)) pe_int (nomark _)))))) (pss_one (ps_ret pe_bl)) pss_nil))))
        (pss_cons (ps_if (pt_cmpR (neDK K rfl hu) (pe_comp (N := ["_law_k", "_law_thing"]) (src := [none, some 0]) rfl ⟨rfl, rfl, rfl, rfl, rfl, by decide +kernel⟩ (pi_range2 rfl T.range (pa_cons pe_int (pa_cons (pe_callB (lenK K rfl) rfl T.len PySem.boot_len (pa_cons (pv 0) pa_nil)) pa_nil))) (fun s H C fp => pg_name (i := 0) (show (["_law_k", "_law_thing"] : List Str).Nodup by decide +kernel) rfl (by first | exact Or.inl rfl | exact Or.inr rfl)) (fun s H C fp => (pts_one (pt_cmpR op_eq (pe_ix (ixTK K rfl) (pe_ix (ixK K rfl) (pv 1) (pe_op op_sub (pv 0) pe_int) (fun _ _ => rfl)) pe_int (fun _ _ => rfl)) (pe_ix (ixTK K rfl) (pe_ix (ixK K rfl) (pv 1) (pv 0) (fun _ _ => rfl)) pe_int (fun _ _ => rfl)) (nomark _)))) (fun s H C fp => (pv 0))) (pe_lst pa_nil) (nomark _)) (pss_one (ps_ret pe_bl)) pss_nil)
        (pss_one (ps_ret (pe_cmpR op_lt (pe_callB (call_sum rfl) rfl T.sum PyProof.Rows.boot_sum (pa_cons (pe_comp (N := ["_law_run"]) (src := [none]) rfl ⟨rfl, rfl, rfl, rfl, rfl, by decide +kernel⟩ (piK K rfl (pv 0)) (fun s H C fp => pg_name (i := 0) (show (["_law_run"] : List Str).Nodup by decide +kernel) rfl (by first | exact Or.inl rfl | exact Or.inr rfl)) (fun s H C fp => pts_nil) (fun s H C fp => (pe_ix (ixTK K rfl) (pv 0) pe_int (fun _ _ => rfl)))) pa_nil)) pe_int (nomark _))))))), ?_⟩
    refine ⟨_, rfl, _, t.kd.isList, _, rfl, iteN (fun hL => ?_) (fun hL => ?_)⟩
    · refine kN (fun rs ⟨a, xs, e, ea, _, _⟩ => ?_) H (Same.refl H)
      subst e
      rw [isL_row t.kd, rowOf_lst ea] at hL; cases hL
    rw [isL_row t.kd] at hL
    obtain ⟨xs, hx⟩ := Option.isSome_iff_exists.mp hL
    obtain ⟨a, rfl, ea⟩ := rowOf_ref hx
    have lx := t.len xs hx
    have it := t.it xs hx
    refine ⟨_, rfl, a, rfl, ⟨_, SqL.of ea⟩, ?_⟩
    refine for_list (xs := xs) (fun i σ H3 => Same H H3 ∧ ∃ (rs : Rs) (v1 : Option V), σ = [some (.ref a), v1] ∧ RunL H (xs.take i) rs ∧ rs.all okRun = true) ⟨Same.refl _, [], none, rfl, RunL.nil, rfl⟩ (fun i σ H3 _ p => SqL.of (p.1 _ _ ea)) ?_ ?_
    · rintro i x σ H3 hxi ⟨s3, rs, v1, rfl, rl, hok⟩
      have tx := it x (List.mem_of_getElem? hxi)
      have tx3 := tx.mono s3
      have no := fun z => kN (not_rs ea hxi z) H3 s3
      cases ht : tupOf H x with
      | none =>
        refine ⟨_, rfl, _, tx3.kd.isTuple, _, rfl, ?_⟩
        rw [isT_tup tx3.kd, tupOf_mono tx.kd s3, ht]
        exact no fun p n c e ep _ _ _ => by subst e; rw [tupOf_tup ep] at ht; cases ht
      | some ys =>
        obtain ⟨p, rfl, ep⟩ := tupOf_ref ht
        have ep3 := s3 _ _ ep
        refine ⟨_, rfl, _, tx3.kd.isTuple, _, rfl, ?_⟩
        rw [isT_tup tx3.kd, tupOf_mono tx.kd s3, ht]
        have no2 : (∀ n c : Int, ys = [.int n, .int c] → 1 ≤ n → 0 ≤ c → c ≤ 15 → False) → Q (.bl false) H3 := fun z => no fun p' n c e ep' h1 h2 h3 => by
          cases e
          rw [ep] at ep'; cases ep'
          exact z n c rfl h1 h2 h3
        refine ⟨_, rfl, p, _, rfl, .inr (SqT.of ep3), rfl, _, rfl, iteN (fun h => ?_) (fun h => ?_)⟩
        · exact no2 fun n c e _ _ _ => by subst e; exact of_decide_eq_false h rfl
        have h2 : ys.length = 2 := by
          have := of_decide_eq_true h
          injection this with this
          omega
        have ki := tx3.it ys (tupOf_tup ep3)
        match ys, h2 with
        | [u, w'], _ =>
          have ku := ki u List.mem_cons_self
          have kw := ki w' (List.mem_cons_of_mem _ List.mem_cons_self)
          refine ⟨_, rfl, p, _, _, u, rfl, rfl, SqT.of ep3, atI_nat (j := 0) rfl, u, rfl, ku, _, rfl, iteN (fun h5 => ?_) (fun h5 => ?_)⟩
          · exact no2 fun n c e _ _ _ => by cases e; exact nomatch (show true = false from h5)
          obtain ⟨n, rfl⟩ : ∃ n : Int, u = .int n := by
            cases u with
            | int n => exact ⟨n, rfl⟩
            | _ => cases h5
          refine ⟨_, rfl, p, _, _, w', rfl, rfl, SqT.of ep3, atI_nat (j := 1) rfl, w', rfl, kw, _, rfl, iteN (fun h6 => ?_) (fun h6 => ?_)⟩
          · exact no2 fun n c e _ _ _ => by cases e; exact nomatch (show true = false from h6)
          obtain ⟨c, rfl⟩ : ∃ c : Int, w' = .int c := by
            cases w' with
            | int c => exact ⟨c, rfl⟩
            | _ => cases h6
          refine ⟨_, rfl, p, _, _, _, rfl, rfl, SqT.of ep3, atI_nat (j := 0) rfl, _, _, rfl, rfl, _, rfl, iteB (fun h => ?_) (fun h1 => ?_)⟩
          · have h := of_decide_eq_true h
            exact no2 fun n' c' e h1 _ _ => by cases e; omega
          have h1 := of_decide_eq_false h1
          refine ⟨_, rfl, p, _, _, _, rfl, rfl, SqT.of ep3, atI_nat (j := 1) rfl, _, _, rfl, rfl, _, rfl, iteB (fun h => ?_) (fun h2 => ?_)⟩
          · have h := of_decide_eq_true h
            exact no2 fun n' c' e _ h2 _ => by cases e; omega
          have h2 := of_decide_eq_false h2
          refine ⟨_, rfl, p, _, _, _, rfl, rfl, SqT.of ep3, atI_nat (j := 1) rfl, _, _, rfl, rfl, _, rfl, iteB (fun h => ?_) (fun h3 => ?_)⟩
          · have h := of_decide_eq_true h
            exact no2 fun n' c' e _ _ h3 => by cases e; omega
          have h3 := of_decide_eq_false h3
          refine ⟨s3, rs ++ [(n, c)], _, rfl, ?_, ?_⟩
          · rw [List.take_succ, hxi]
            exact rl.append (RunL.one (r := (n, c)) ep)
          · rw [List.all_append, hok, List.all_cons, okRun_of (by omega) (by omega) (by omega)]; rfl
    rintro σ H3 ⟨s3, rs, v1, rfl, rl, hok⟩
    rw [List.take_of_length_le (Nat.le_refl _)] at rl
    have ll := rl.1
    have hin : ∀ r ∈ rs, 1 ≤ r.1 ∧ 0 ≤ r.2 ∧ r.2 ≤ 15 := fun r hr => by
      have := List.all_eq_true.mp hok r hr
      unfold okRun at this
      simp only [Bool.and_eq_true, decide_eq_true_eq] at this
      exact this
    have kN' : okRs rs = false → ∀ H', Same H H' → Q (.bl false) H' := fun ho => kN fun qs ⟨b, ys, ev, eb, r, o⟩ => by
      cases ev
      rw [ea] at eb; cases eb
      rw [r.uniq rl, ho] at o; cases o
    have e3 := s3 _ _ ea
    have r3 := rl.mono s3
    refine ⟨_, rfl, a, _, rfl, .inl (SqL.of e3), 1, (xs.length : Int), rfl, ⟨by decide, by decide, by omega, by omega⟩, fun D2 hD2' => ?_⟩
    rw [show ((xs.length : Int) - 1).toNat = rs.length - 1 by omega]
    refine comp_fm (k := 0) (fun v => v) (fun v => match v with | .int j => decide ((rs.getD (j.toNat - 1) (0, 0)).2 = (rs.getD j.toNat (0, 0)).2) | _ => false) (src_range (lo := 1) (n := rs.length - 1)) (by rw [List.length_map, List.length_range]; exact Nat.le_trans (by omega : _ ≤ 1000000) (by decide)) hD2' (fun x hx2 H' Qb sm kk => ?_) (fun x _ _ H' Q' _ kk => ⟨_, rfl, kk H' (Same.refl _)⟩) fun H4 s4 hD4 => ?_
    · obtain ⟨i, hi, rfl⟩ := List.mem_map.mp hx2
      have hi := List.mem_range.mp hi
      have tt : Qb (decide ((rs.getD ((1 + (i : Int)).toNat - 1) (0, 0)).2 = (rs.getD (1 + (i : Int)).toNat (0, 0)).2)) H' := kk H' (Same.refl _)
      rw [show (1 + (i : Int)).toNat = i + 1 by omega, Nat.add_sub_cancel] at tt
      have g1 : rs[i]? = some (rs.getD i (0, 0)) := by rw [List.getD_eq_getElem?_getD, List.getElem?_eq_getElem (by omega)]; rfl
      have g2 : rs[i + 1]? = some (rs.getD (i + 1) (0, 0)) := by rw [List.getD_eq_getElem?_getD, List.getElem?_eq_getElem (by omega)]; rfl
      obtain ⟨p, p1, p2⟩ := (r3.mono sm).2 _ _ g1
      obtain ⟨q, q1, q2⟩ := (r3.mono sm).2 _ _ g2
      have a1 : atI xs (1 + (i : Int) - 1) = some (.ref p) := by rw [show 1 + (i : Int) - 1 = (i : Int) by omega]; exact atI_nat p1
      have a2 : atI xs (1 + (i : Int)) = some (.ref q) := by rw [show 1 + (i : Int) = ((i + 1 : Nat) : Int) by omega]; exact atI_nat q1
      refine ⟨_, rfl, _, rfl, _, _, rfl, rfl, a, _, _, _, rfl, rfl, SqL.of (sm _ _ e3), a1, p, _, _, _, rfl, rfl, SqT.of p2, atI_nat (j := 1) rfl, _, rfl, _, rfl, a, _, _, _, rfl, rfl, SqL.of (sm _ _ e3), a2, q, _, _, _, rfl, rfl, SqT.of q2, atI_nat (j := 1) rfl, rfl, _, rfl, ?_⟩
      show Qb (decide (V.int (rs.getD i (0, 0)).2 = V.int (rs.getD (i + 1) (0, 0)).2)) H'
      rw [show decide (V.int (rs.getD i (0, 0)).2 = V.int (rs.getD (i + 1) (0, 0)).2) = decide ((rs.getD i (0, 0)).2 = (rs.getD (i + 1) (0, 0)).2) from by rw [decide_eq_decide, V.int.injEq]]
      exact tt
    have e4 : H4 D2 = some (.lst (((List.range (rs.length - 1)).filter (fun i => decide ((rs.getD i (0, 0)).2 = (rs.getD (i + 1) (0, 0)).2))).map fun i : Nat => V.int (1 + (i : Int)))) := by
      rw [hD4, List.map_id', List.filter_map]
      congr 3
      refine List.filter_congr fun i _ => ?_
      show decide ((rs.getD ((1 + (i : Int)).toNat - 1) (0, 0)).2 = (rs.getD (1 + (i : Int)).toNat (0, 0)).2) = _
      rw [show (1 + (i : Int)).toNat = i + 1 by omega, Nat.add_sub_cancel]
    have s34 := s3.trans s4
    refine ⟨Nat.zero_le _, fun w0 hw0 => ?_⟩
    have zw := same_new (o := HO.lst []) hw0
    have hf := aprt_filter rs
    generalize (List.range (rs.length - 1)).filter (fun i => decide ((rs.getD i (0, 0)).2 = (rs.getD (i + 1) (0, 0)).2)) = fl at e4 hf
    refine ⟨0, D2, w0, _, by decide, rfl, rfl, EqL.nil (SqL.of (zw _ _ e4)) (SqL.of upd_same), _, rfl, ?_⟩
    cases fl with
    | cons i fl =>
      refine kN' ?_ _ (s34.trans zw)
      cases ho : okRs rs with
      | false => rfl
      | true => have := hf.mpr (okRs_of ho).2.2; cases this
    | nil =>
      have ha := hf.mp rfl
      have e5 := zw _ _ (s4 _ _ e3)
      have r5 := (r3.mono s4).mono zw
      refine ⟨_, rfl, a, rfl, ⟨_, SqL.of e5⟩, fun D hD => ?_⟩
      refine comp_fm (k := 0) (fun v => match tupOf H v with | some [p, _] => p | _ => .non) (fun _ => true) (src_list (SqL.of e5)) (Nat.le_trans lx (by decide)) hD (fun x _ H' Qb _ kk => kk H' (Same.refl _)) (fun x hx2 _ H' Q' sm kk => ?_) fun H6 s6 hD6 => ?_
      · obtain ⟨p, r, rfl, _, ep⟩ := rl.mem hx2
        have tt : Q' (match tupOf H (.ref p) with | some [p, _] => p | _ => .non) H' := kk H' (Same.refl _)
        rw [tupOf_tup ep] at tt
        exact ⟨_, rfl, p, _, _, _, rfl, rfl, SqT.of (sm _ _ (zw _ _ (s34 _ _ ep))), atI_nat (j := 0) rfl, tt⟩
      have e6 : H6 D = some (.lst ((rs.map (·.1)).map V.int)) := by
        rw [hD6, filter_t]
        congr 2
        rw [List.map_map]
        exact rl.map _ _ fun p r ep => by rw [tupOf_tup ep]; rfl
      have ss := (s34.trans zw).trans s6
      refine ⟨D, _, rfl, SqL.of e6, _, _, rfl, rfl, ?_⟩
      show Q (.bl (decide (totl rs < 577))) H6
      by_cases hs : totl rs < 577
      · rw [decide_eq_true hs]
        exact kY rs ⟨a, xs, rfl, ea, rl, okRs_mk hin (by omega) ha⟩ H6 ss
      · rw [decide_eq_false hs]
        refine kN' ?_ H6 ss
        cases ho : okRs rs with
        | false => rfl
        | true => have := (okRs_of ho).2.1; omega
theorem sc_law_text : FnScope ["_law_runs_here", "_law_text_here", "_law_many", "_law_cell"] ["_law_runs_here"] (defScope s_law_text) := ⟨rfl, rfl, rfl, by decide +kernel, rfl, by decide +kernel, by decide +kernel⟩
theorem ok_law_text {f : Addr} {fd : FuncData} (F : FunD K "_law_text" "_law_text" s_law_text .none f fd) (T : Txt K mg cFE cC cP tC tL tG tB) : FnOk P w K mg base CX0 1 f fd ["_law_runs_here"] (spLTx K) := by
  refine F.ok sc_law_text (fun vs H Q E h => ?_) (fun cdv A outer s H vs Q E hr h => ?_)
  · obtain ⟨v, rs, rfl, _⟩ := h; rfl
  · obtain ⟨v, rs, rfl, ⟨a, xs, rfl, ea, rl, o⟩, k⟩ := h
    have lr := okRs_len o
    refine ⟨_, (pss_cons (ps_set (i := 1) sc_law_text.nd rfl (by first | exact Or.inl rfl | exact Or.inr rfl) pe_str)
        (pss_cons (ps_for PassesOwn.never rfl (piK K rfl (pv 0)) (pg_tup rfl (pgs_cons (pg_name (i := 2) sc_law_text.nd rfl (by first | exact Or.inl rfl | exact Or.inr rfl)) (pgs_cons (pg_name (i := 3) sc_law_text.nd rfl (by first | exact Or.inl rfl | exact Or.inr rfl)) pgs_nil))) (pss_one (ps_set (i := 1) sc_law_text.nd rfl (by first | exact Or.inl rfl | exact Or.inr rfl) (pe_op op_add_str (pe_op op_add_str (pv 1) (pe_ix (ixK K rfl) (pe_lst (pa_cons pe_str (pa_cons (pe_callTy call_str_int rfl T.str PyProof.Rows.boot_str (pa_cons (pv 2) pa_nil)) pa_nil))) (pe_callTy call_int1 rfl T.int PyProof.Rows.boot_int (pa_cons (pe_cmpR op_gt (pv 2) pe_int (nomark _)) pa_nil)) (fun _ _ => rfl))) (pe_ix ix_str pe_str (pv 3) (fun _ _ => rfl))))))
        (pss_one (ps_ret (pv 1))))), ?_⟩
    refine ⟨_, rfl, a, rfl, ⟨_, SqL.of ea⟩, ?_⟩
    refine for_list (xs := xs) (fun i σ H3 => Same H H3 ∧ i ≤ rs.length ∧ ∃ v2 v3 : Option V, σ = [some (.ref a), some (.str (txS (rs.take i))), v2, v3]) ⟨Same.refl _, Nat.zero_le _, none, none, rfl⟩ (fun i σ H3 _ p => SqL.of (p.1 _ _ ea)) ?_ ?_
    · rintro i x σ H3 hx ⟨s3, _, v2, v3, rfl⟩
      have hi : i < rs.length := by
        have := List.getElem?_eq_some_iff.mp hx |>.1
        have := rl.1; omega
      obtain ⟨p, p1, p2⟩ := rl.2 i rs[i] (List.getElem?_eq_getElem hi)
      rw [hx] at p1; cases p1
      have qq := run_in o (List.getElem_mem hi)
      have ex : txS (rs.take (i + 1)) = txS (rs.take i) ++ segS rs[i] := by
        rw [List.take_succ, List.getElem?_eq_getElem hi]
        exact txS_app _ _
      have lt : (txS (rs.take i)).length ≤ 3000 := by
        rw [str_len]
        show (txL (rs.take i)).length ≤ 3000
        have := txL_len (rs := rs.take i) fun r hr => (run_in o (List.mem_of_mem_take hr)).2.1
        have := List.length_take_le i rs
        omega
      generalize rs[i] = r at p2 qq ex
      obtain ⟨n, c⟩ := r
      obtain ⟨h1, h2, h3, h4⟩ := qq
      have h1 : 1 ≤ n := h1
      have h2 : n ≤ 576 := h2
      have lg : n.natAbs.log2 < 1920 := Nat.lt_of_le_of_lt (Nat.log2_le_self _) (by omega)
      refine ⟨p, _, rfl, SqT.of (s3 _ _ p2), rfl, _, _, rfl, _, _, rfl, rfl, ?_⟩
      refine ⟨_, rfl, _, rfl, n, rfl, lg, (by show 2 ≤ sizeLine; decide), fun q1 g1 => ?_⟩
      have z1 := same_new (o := HO.lst [V.str "", .str (toString n : String)]) g1
      refine ⟨_, rfl, _, _, rfl, rfl, .inr ⟨_, rfl, q1, _, _, _, rfl, rfl, SqL.of upd_same, at2 _ _ _, ?_⟩⟩
      by_cases hn : n > 1
      · rw [if_pos (decide_eq_true hn)]
        obtain ⟨m, rfl⟩ : ∃ m : Nat, n = (m : Int) := ⟨n.toNat, by omega⟩
        have ln : (Str.ofString (toString (m : Int))).length ≤ 3 := by
          rw [str_len, num_cps (by omega)]
          unfold digs
          split
          · show 1 ≤ 3; decide
          · split
            · show 2 ≤ 3; decide
            · show 3 ≤ 3; decide
        refine ⟨_, _, rfl, rfl, Nat.le_trans (by omega : _ ≤ 4000) (by decide), _, rfl, LT, c, _, rfl, rfl, (by show 16 ≤ sizeLine; decide), LT_at h3 h4, _, _, rfl, rfl, ?_, ?_⟩
        · rw [app_len]
          show _ + _ + 1 ≤ _
          exact Nat.le_trans (by omega : _ ≤ 4000) (by decide)
        · refine ⟨s3.trans z1, by omega, some (.int (m : Int)), some (.int c), ?_⟩
          rw [ex, ← seg_more (by omega) h2, ← str_assoc]; rfl
      · have : n = 1 := by omega
        subst this
        rw [if_neg (show ¬ decide ((1 : Int) > 1) = true by decide)]
        refine ⟨_, _, rfl, rfl, Nat.le_trans (by show _ + 0 ≤ 4000; omega) (by decide), _, rfl, LT, c, _, rfl, rfl, (by show 16 ≤ sizeLine; decide), LT_at h3 h4, _, _, rfl, rfl, ?_, ?_⟩
        · rw [app_len]
          show _ + 0 + 1 ≤ _
          exact Nat.le_trans (by omega : _ ≤ 4000) (by decide)
        · refine ⟨s3.trans z1, by omega, some (.int 1), some (.int c), ?_⟩
          rw [ex, ← seg_one, ← str_assoc]; rfl
    · rintro σ H3 ⟨s3, _, v2, v3, rfl⟩
      have := k H3 s3
      rw [← List.take_of_length_le (l := rs) (i := xs.length) (by rw [rl.1]; exact Nat.le_refl _)] at this
      exact ⟨_, rfl, this⟩
end
end K20
set_option Elab.async false
set_option linter.all false
set_option maxRecDepth 100000
set_option maxHeartbeats 1600000
namespace K20
open PySem L2 M4
theorem vmap_inj : ∀ {cs ds : List Int}, cs.map V.int = ds.map V.int → cs = ds
  | [], [], _ => rfl
  | [], _ :: _, h => nomatch h
  | _ :: _, [], h => nomatch h
  | c :: cs, d :: ds, h => by
    rw [List.map_cons, List.map_cons] at h
    injection h with h1 h2
    injection h1 with h1
    rw [h1, vmap_inj h2]
theorem lst_inj {H : Hp} {a : Addr} {cs ds : List Int} (h : H a = some (.lst (cs.map V.int))) (h' : H a = some (.lst (ds.map V.int))) : cs = ds := by
  rw [h] at h'
  injection h' with h'
  injection h' with h'
  exact vmap_inj h'
theorem eqI {K : PySem.W.Frag} {H : Hp} {p q : Addr} {ns : List Int} (h1 : SqL K H p (ns.map V.int)) (h2 : SqL K H q (ns.map V.int)) : EqL K H (EqD K H 0) p q true := by
  have := EqL.ints h1 h2
  rw [decide_eq_true rfl] at this
  exact this
theorem EqL.runs {K : PySem.W.Frag} {H : Hp} {p q : Addr} {xs ys : List V} {rs : Rs} (e1 : H p = some (.lst xs)) (e2 : H q = some (.lst ys)) (h1 : RunL H xs rs) (h2 : RunL H ys rs) : EqL K H (EqD K H 1) p q true := by
  refine ⟨xs, ys, .inr ⟨.inl ⟨SqL.of e1, SqL.of e2⟩, by rw [h1.1, h2.1], fun _ => true, fun i x y hx hy => ?_, (range_all fun _ _ => rfl).symm⟩⟩
  have hi : i < rs.length := by
    have := List.getElem?_eq_some_iff.mp hx |>.1
    have := h1.1; omega
  obtain ⟨a, a1, a2⟩ := h1.2 i rs[i] (List.getElem?_eq_getElem hi)
  obtain ⟨b, b1, b2⟩ := h2.2 i rs[i] (List.getElem?_eq_getElem hi)
  rw [hx] at a1; cases a1
  rw [hy] at b1; cases b1
  by_cases e : a = b
  · subst e; exact .inl (.inl ⟨a, rfl, rfl, rfl⟩)
  · refine .inr ⟨a, b, rfl, rfl, e, EqL.same (.inr ⟨SqT.of a2, SqT.of b2⟩) fun z hz => ?_⟩
    simp only [List.mem_cons, List.not_mem_nil, or_false] at hz
    rcases hz with rfl | rfl <;> exact .inl rfl
theorem okS_cond {f : List Nat} {c : Nat} : okS f c = false ↔ (isLt c = false ∨ f.take 1 = [48] ∨ f = [49] ∨ ¬ f.length ≤ 3) := by
  unfold okS
  cases h : isLt c with
  | false => simp
  | true =>
    by_cases h1 : f.take 1 = [48]
    · rw [decide_eq_true h1]; simp [h1]
    · by_cases h2 : f = [49]
      · rw [decide_eq_true h2]; simp [h2]
      · rw [decide_eq_false h1, decide_eq_false h2]
        simp [h1, h2]
noncomputable def spKinds (K : PySem.W.Frag) : Sp := fun vs H Q _ => ∃ a b : Addr, vs = [.ref a, .ref b] ∧ ((∃ cs : List Int, H a = some (.lst (cs.map V.int)) ∧ H b = some (.lst (cs.map V.int)) ∧ cs.length ≤ 100000) ∨ (∃ xs ys rs, H a = some (.lst xs) ∧ H b = some (.lst ys) ∧ RunL H xs rs ∧ RunL H ys rs ∧ rs.length ≤ 100000)) ∧ ∀ H', Same H H' → Q (.bl true) H'
section
variable {P : Program} {w : World} {K : PySem.W.Frag} {mg : Str → Option Value} {base : Heap} {cFE cC cP : Addr} {tC tL tG tB : Tok}
theorem sc_law_by_text : FnScope ["_law_text_here", "_law_runs_here", "_law_figures", "_law_sign"] ["_law_text_here"] (defScope s_law_by_text) := ⟨rfl, rfl, rfl, by decide +kernel, rfl, by decide +kernel, by decide +kernel⟩
theorem ok_law_by_text {f : Addr} {fd : FuncData} (F : FunD K "_law_by_text" "_law_by_text" s_law_by_text .none f fd) (T : Txt K mg cFE cC cP tC tL tG tB) (g__law_is_runs : Def P w K mg base 2 "_law_is_runs" ["_law_thing"] [] (spAre K)) : FnOk P w K mg base CX0 3 f fd ["_law_text_here"] (spLBT K) := by
  refine F.ok sc_law_by_text (fun vs H Q E h => ?_) (fun cdv A outer s H vs Q E hr h => ?_)
  · obtain ⟨t, rfl, _⟩ := h; rfl
  · obtain ⟨t, rfl, hl, kY, kN⟩ := h
    refine ⟨_, (pss_cons (ps_set (i := 1) sc_law_by_text.nd rfl (by first | exact Or.inl rfl | exact Or.inr rfl) (pe_lst pa_nil))
        (pss_cons (ps_set (i := 2) sc_law_by_text.nd rfl (by first | exact Or.inl rfl | exact Or.inr rfl) pe_str)
        (pss_cons (ps_for PassesOwn.never rfl (pi_str (pv 0)) (pg_name (i := 3) sc_law_by_text.nd rfl (by first | exact Or.inl rfl | exact Or.inr rfl)) (pss_one (ps_if (pt_cmpR op_in_str (pv 3) pe_str (by with_unfolding_all rfl)) (pss_one (ps_set (i := 2) sc_law_by_text.nd rfl (by first | exact Or.inl rfl | exact Or.inr rfl) (pe_op op_add_str (pv 2) (pv 3)))) (pss_one (ps_if (PW.pt (pw_or (pt_cmpR op_notIn_str (pv 3) pe_str (by with_unfolding_all rfl)) (pw_or (pt_cmpR op_eq (pe_slice sl_str (pv 2) po_none (po_some pe_int)) pe_str (nomark _)) (pw_or (pt_cmpR op_eq (pv 2) pe_str (nomark _)) (pw_or1 (pt_cmpR op_gt (pe_callB call_len_str rfl T.len PySem.boot_len (pa_cons (pv 2) pa_nil)) pe_int (nomark _))))))) (pss_one (ps_ret pe_non)) (pss_cons (ps_expr (pe_bm PySem.F.plainAttrs_list PySem.F.slot_list_append PySem.F.type_list_append mt_append (pv 1) (pa_cons (pe_tup (pa_cons (pe_op op_add (pe_callTy call_intT rfl T.int PyProof.Rows.boot_int (pa_cons (pe_op op_add_str pe_str (pv 2)) pa_nil)) (pe_callTy call_int1 rfl T.int PyProof.Rows.boot_int (pa_cons (pe_cmpR op_eq (pv 2) pe_str (nomark _)) pa_nil))) (pa_cons (pe_bmK K rfl PySem.F.plainAttrs_str PySem.F.slot_str_index PySem.F.type_str_index mt_indexS pe_str (pa_cons (pv 3) pa_nil)) pa_nil))) pa_nil)))
        (pss_one (ps_set (i := 2) sc_law_by_text.nd rfl (by first | exact Or.inl rfl | exact Or.inr rfl) pe_str))))))))
        (pss_cons (ps_if (PW.pt (pw_or (pt_cmpR op_ne (pv 2) pe_str (nomark _)) (pw_or1 (pt_not (pt_val (pe_callD g__law_is_runs (hr.mono (by decide)) rfl (pa_cons (pv 1) pa_nil))))))) (pss_one (ps_ret pe_non)) pss_nil)
        (pss_one (ps_ret (pv 1))))))), ?_⟩
    refine ⟨Nat.zero_le _, fun R0 hR0 => ?_⟩
    have z1 := same_new (o := HO.lst []) hR0
    refine ⟨_, rfl, t, rfl, ?_⟩
    have tl : t.cps.toList.length = t.cps.size := Array.length_toList
    have hl : t.cps.size ≤ 5000 := hl
    refine for_str (x := t) (fun i σ H3 => Same H H3 ∧ ∃ (xs : List V) (rs : Rs) (f : List Nat) (v3 : Option V), σ = [some (.str t), some (.ref R0), some (.str ⟨f.toArray⟩), v3] ∧ H3 R0 = some (.lst xs) ∧ RunL H3 xs rs ∧ xs.length ≤ i ∧ f.length ≤ i ∧ (∀ d ∈ f, isDg d = true) ∧ (lpgo f (t.cps.toList.drop i)).map (rs ++ ·) = lpgo [] t.cps.toList) ⟨z1, [], [], [], none, (by rw [← cE]; rfl), upd_same, RunL.nil, Nat.le_refl _, Nat.le_refl _, (fun _ h => nomatch h), (by show (lpgo [] t.cps.toList).map (fun x => [] ++ x) = _; rw [show (fun x : Rs => [] ++ x) = id from rfl, Option.map_id]; rfl)⟩ ?_ ?_
    · rintro i c σ H3 hc ⟨s3, xs, rs, f, v3, rfl, eR, rl, lx, lf, hf, hg⟩
      have hi := List.getElem?_eq_some_iff.mp hc |>.1
      have edr : t.cps.toList.drop i = c :: t.cps.toList.drop (i + 1) := by
        rw [List.drop_eq_getElem_cons hi]
        rw [List.getElem?_eq_getElem hi] at hc
        injection hc with hc
        rw [hc]
      rw [edr] at hg
      have lfs : (⟨f.toArray⟩ : Str).length = f.length := by show f.toArray.size = _; rw [List.size_toArray]
      refine ⟨_, rfl, _, _, rfl, rfl, _, rfl, iteB (fun h => ?_) (fun h => ?_)⟩
      · have h : isDg c = true := (in_FG c).symm.trans h
        rw [lp_d h] at hg
        refine ⟨_, rfl, _, rfl, _, _, rfl, rfl, Nat.le_trans (by rw [lfs]; show _ + 1 ≤ 6000; omega) (by decide), ?_⟩
        refine ⟨s3, xs, rs, f ++ [c], some (.str ⟨#[c]⟩), ?_, eR, rl, by omega, by rw [List.length_append, List.length_singleton]; omega, fun d hd => ?_, hg⟩
        · have : (⟨f.toArray⟩ ++ ⟨#[c]⟩ : Str) = ⟨(f ++ [c]).toArray⟩ := cps_inj (by rw [app_cps])
          rw [← this]; rfl
        · rcases List.mem_append.mp hd with hd | hd
          · exact hf d hd
          · rw [List.mem_singleton.mp hd]; exact h
      have h : isDg c = false := (in_FG c).symm.trans h
      have bad : okS f c = false → Q .non H3 := fun hk => by
        rw [lp_n h hk] at hg
        refine kN ?_ H3 s3
        unfold lawT
        rw [← hg]; rfl
      refine ⟨_, rfl, _, _, rfl, rfl, _, rfl, iteN (fun h1 => ?_) (fun h1 => ?_)⟩
      · exact bad (okS_cond.mpr (.inl ((in_LT c).symm.trans h1)))
      have h1 : isLt c = true := (in_LT c).symm.trans h1
      have hz : (⟨f.toArray⟩ : Str).length ≤ sizeLine := Nat.le_trans (by rw [lfs]; omega : _ ≤ 6000) (by decide)
      refine ⟨_, rfl, _, rfl, _, rfl, hz, rfl, _, rfl, iteB (fun h2 => ?_) (fun h2 => ?_)⟩
      · have h2 : decide (V.str (Txt.slice ⟨f.toArray⟩ none (some 1)) = V.str "0") = true := h2
        rw [slice1, c0, str_eq] at h2
        exact bad (okS_cond.mpr (.inr (.inl (of_decide_eq_true h2))))
      have h2 : ¬ f.take 1 = [48] := by
        have h2 : decide (V.str (Txt.slice ⟨f.toArray⟩ none (some 1)) = V.str "0") = false := h2
        rw [slice1, c0, str_eq] at h2
        exact of_decide_eq_false h2
      refine ⟨_, rfl, rfl, _, rfl, iteB (fun h3 => ?_) (fun h3 => ?_)⟩
      · have h3 : decide (V.str ⟨f.toArray⟩ = V.str "1") = true := h3
        rw [c1, str_eq] at h3
        exact bad (okS_cond.mpr (.inr (.inr (.inl (of_decide_eq_true h3)))))
      have h3 : ¬ f = [49] := by
        have h3 : decide (V.str ⟨f.toArray⟩ = V.str "1") = false := h3
        rw [c1, str_eq] at h3
        exact of_decide_eq_false h3
      refine ⟨_, rfl, _, rfl, hz, _, _, rfl, rfl, _, rfl, iteB (fun h4 => ?_) (fun h4 => ?_)⟩
      · have h4 : (((⟨f.toArray⟩ : Str).length : Nat) : Int) > 3 := of_decide_eq_true h4
        rw [lfs] at h4
        exact bad (okS_cond.mpr (.inr (.inr (.inr (by omega)))))
      have h4 : f.length ≤ 3 := by
        have h4 : ¬ (((⟨f.toArray⟩ : Str).length : Nat) : Int) > 3 := of_decide_eq_false h4
        rw [lfs] at h4
        omega
      have hk : okS f c = true := okS_mk h1 h2 h3 h4
      rw [lp_y h hk] at hg
      have lz : (("0" : Str) ++ ⟨f.toArray⟩ : Str).length ≤ 640 := by
        rw [str_len, app_cps, c0]
        show ([48] ++ f).length ≤ 640
        rw [List.length_append, List.length_singleton]; omega
      refine ⟨_, rfl, .inl ⟨rfl, _, SqL.of eR⟩, _, rfl, _, _, rfl, rfl, Nat.le_trans (by rw [lfs]; show 1 + _ ≤ 6000; omega) (by decide), _, _, rfl, fig_int hf h4, lz, _, rfl, rfl, .inr ⟨_, rfl, _, _, rfl, rfl, rfl, _, rfl, _, _, rfl, rfl, ?_, (by show 2 ≤ sizeLine; decide), fun q gq => ?_⟩⟩
      · have := in_LT c
        rw [h1] at this
        exact Bool.not_eq_true' _ |>.mp this
      dsimp only [tNil]
      show rAppend _ [.ref q] (upd H3 q (.tup [.int (((dvl (48 :: f) : Nat) : Int) + (if decide (V.str ⟨f.toArray⟩ = V.str "") = true then 1 else 0)), .int (Txt.find LT ⟨#[c]⟩)])) _
      have ev : ((dvl (48 :: f) : Nat) : Int) + (if decide (V.str ⟨f.toArray⟩ = V.str "") = true then 1 else 0) = ((valF f : Nat) : Int) := by
        rw [cE, str_eq]
        unfold valF
        by_cases z : f = []
        · rw [if_pos (decide_eq_true z), if_pos z]; omega
        · rw [if_neg (by rw [decide_eq_false z]; decide), if_neg z]; omega
      rw [ev, find_LT, show ixL c = (c : Int) - 97 from if_pos h1]
      have zq := same_new (o := HO.tup [V.int ((valF f : Nat) : Int), .int ((c : Int) - 97)]) gq
      refine ⟨R0, _, _, rfl, rfl, zq _ _ eR, Nat.lt_of_lt_of_le (by omega : _ < 6000) (by decide), ?_⟩
      refine ⟨same_upd (s3.trans zq) hR0, xs ++ [.ref q], rs ++ [(((valF f : Nat) : Int), (c : Int) - 97)], [], some (.str ⟨#[c]⟩), (by rw [← cE]; rfl), upd_same, ((rl.mono zq).append (RunL.one upd_same)).upd (zq _ _ eR), by rw [List.length_append, List.length_singleton]; omega, Nat.zero_le _, (fun _ h => nomatch h), ?_⟩
      rw [← hg, Option.map_map]
      congr 1
      funext x
      show (rs ++ [_]) ++ x = rs ++ (_ :: x)
      rw [List.append_assoc]; rfl
    · rintro σ H3 ⟨s3, xs, rs, f, v3, rfl, eR, rl, lx, lf, hf, hg⟩
      rw [List.drop_eq_nil_of_le (by omega)] at hg
      refine ⟨_, rfl, rfl, _, rfl, iteN (fun hne => ?_) (fun heq => ?_)⟩
      · have hne : decide (V.str ⟨f.toArray⟩ = V.str "") = false := hne
        rw [cE, str_eq] at hne
        have hne := of_decide_eq_false hne
        refine kN ?_ H3 s3
        unfold lawT
        rw [← hg, show lpgo f [] = none from if_neg hne]; rfl
      have heq : f = [] := by
        have heq : decide (V.str ⟨f.toArray⟩ = V.str "") = true := heq
        rw [cE, str_eq] at heq
        exact of_decide_eq_true heq
      subst heq
      have hg : lpgo [] t.cps.toList = some rs := by rw [← hg]; show some (rs ++ []) = _; rw [List.append_nil]
      refine ⟨_, rfl, .ref R0, rfl, trs_of eR rl (by omega), fun qs h H4 s4 => ⟨_, rfl, ?_⟩, fun hno H4 s4 => ⟨_, rfl, kN ?_ H4 (s3.trans s4)⟩⟩
      · obtain ⟨b, ys, e, eb, r, o⟩ := h
        cases e
        rw [eR] at eb; cases eb
        have er := r.uniq rl
        subst er
        refine ⟨_, rfl, kY qs ?_ R0 xs H4 (s3.trans s4) hR0 (s4 _ _ eR) (rl.mono s4)⟩
        unfold lawT
        rw [hg]
        show (if okRs qs = true then some qs else none) = _
        rw [if_pos o]
      · unfold lawT
        rw [hg]
        show (if okRs rs = true then some rs else none) = _
        rw [if_neg]
        intro z
        exact hno rs ⟨R0, xs, rfl, eR, rl, z⟩
theorem sc_law_kinds : FnScope ["_law_found", "_law_due", "_law_one"] ["_law_found", "_law_due"] (defScope s_law_kinds) := ⟨rfl, rfl, rfl, by decide +kernel, rfl, by decide +kernel, by decide +kernel⟩
theorem ok_law_kinds {f : Addr} {fd : FuncData} (F : FunD K "_law_kinds" "_law_kinds" s_law_kinds .none f fd) (T : Txt K mg cFE cC cP tC tL tG tB) (g__law_whole : Def P w K mg base 1 "_law_whole" ["_law_found"] [] (spWhN K)) : FnOk P w K mg base CX0 2 f fd ["_law_found", "_law_due"] (spKinds K) := by
  refine F.ok sc_law_kinds (fun vs H Q E h => ?_) (fun cdv A outer s H vs Q E hr h => ?_)
  · obtain ⟨a, b, rfl, _⟩ := h; rfl
  · obtain ⟨a, b, rfl, hcase, k⟩ := h
    have hu : _ + 64 < cLine := hr.units
    refine ⟨_, (pss_cons (ps_if (PW.pt (pw_or (pt_not (pt_val (isiK K rfl (pv 0) rfl T.isinstance rfl T.list PyProof.Rows.boot_list))) (pw_or1 (pt_cmpR (neDK K rfl hu) (pv 0) (pv 1) (nomark _))))) (pss_one (ps_ret pe_bl)) pss_nil)
        (pss_cons (ps_for PassesOwn.never rfl (piK K rfl (pv 0)) (pg_name (i := 2) sc_law_kinds.nd rfl (by first | exact Or.inl rfl | exact Or.inr rfl)) (pss_cons (ps_if (PW.pt (pw_and (pt_val (isiK K rfl (pv 2) rfl T.isinstance rfl T.tuple PyProof.Rows.boot_tuple)) (pw_and1 (pt_not (pt_val (pe_callB (allK K rfl rfl) rfl T.all PyProof.Rows.boot_all (pa_cons (pe_comp (N := ["_law_part"]) (src := [none]) rfl ⟨rfl, rfl, rfl, rfl, rfl, by decide +kernel⟩ (piTK K rfl (pv 2)) (fun s H C fp => pg_name (i := 0) (show (["_law_part"] : List Str).Nodup by decide +kernel) rfl (by first | exact Or.inl rfl | exact Or.inr rfl)) (fun s H C fp => pts_nil) (fun s H C fp => (pe_callD g__law_whole (hr.mono (by decide)) rfl (pa_cons (pv 0) pa_nil)))) pa_nil))))))) (pss_one (ps_ret pe_bl)) pss_nil)
        (pss_one (ps_if (PW.pt (pw_and (pt_not (pt_val (isiK K rfl (pv 2) rfl T.isinstance rfl T.tuple PyProof.Rows.boot_tuple))) (pw_and1 (pt_not (pt_val (pe_callD g__law_whole (hr.mono (by decide)) rfl (pa_cons (pv 2) pa_nil))))))) (pss_one (ps_ret pe_bl)) pss_nil))))
        (pss_one (ps_ret pe_bl)))), ?_⟩
    rcases hcase with ⟨cs, ea, eb, lc⟩ | ⟨xs, ys, rs, ea, eb, ra, rb, lc⟩
    · refine ⟨_, rfl, true, isList_lst ea, _, rfl, ?_⟩
      refine ⟨_, rfl, _, rfl, 0, a, b, true, by decide, rfl, rfl, eqI (SqL.of ea) (SqL.of eb), _, rfl, ?_⟩
      refine ⟨_, rfl, a, rfl, ⟨_, SqL.of ea⟩, ?_⟩
      refine for_list (xs := cs.map V.int) (fun i σ H3 => Same H H3 ∧ ∃ v2 : Option V, σ = [some (.ref a), some (.ref b), v2]) ⟨Same.refl _, none, rfl⟩ (fun i σ H3 _ p => SqL.of (p.1 _ _ ea)) ?_ ?_
      · rintro i x σ H3 hx ⟨s3, v2, rfl⟩
        obtain ⟨n, _, rfl⟩ := List.mem_map.mp (List.mem_of_getElem? hx)
        have kn : Kd K H3 (.int n) := .int n
        refine ⟨_, rfl, _, kn.isTuple, _, rfl, ?_⟩
        refine ⟨_, rfl, _, kn.isTuple, _, rfl, ?_⟩
        exact ⟨_, rfl, .int n, rfl, kn, _, rfl, s3, _, rfl⟩
      · rintro σ H3 ⟨s3, v2, rfl⟩
        exact k H3 s3
    · refine ⟨_, rfl, true, isList_lst ea, _, rfl, ?_⟩
      refine ⟨_, rfl, _, rfl, 1, a, b, true, by decide, rfl, rfl, EqL.runs ea eb ra rb, _, rfl, ?_⟩
      refine ⟨_, rfl, a, rfl, ⟨_, SqL.of ea⟩, ?_⟩
      refine for_list (xs := xs) (fun i σ H3 => Same H H3 ∧ ∃ v2 : Option V, σ = [some (.ref a), some (.ref b), v2]) ⟨Same.refl _, none, rfl⟩ (fun i σ H3 _ p => SqL.of (p.1 _ _ ea)) ?_ ?_
      · rintro i x σ H3 hx ⟨s3, v2, rfl⟩
        obtain ⟨p, r, rfl, _, ep⟩ := ra.mem (List.mem_of_getElem? hx)
        have ep3 := s3 _ _ ep
        have kp : Kd K H3 (.ref p) := .tup ep3
        have tp : isT H3 (.ref p) = true := by rw [isT_tup kp, tupOf_tup ep3]; rfl
        refine ⟨_, rfl, _, kp.isTuple, _, rfl, ?_⟩
        rw [tp]
        refine ⟨_, rfl, p, rfl, ⟨_, SqT.of ep3⟩, fun D hD => ?_⟩
        refine comp_fm (k := 0) (fun _ => .bl true) (fun _ => true) (src_tup (SqT.of ep3)) (by show 2 ≤ sizeLine; decide) hD (fun x _ H' Qb _ kk => kk H' (Same.refl _)) (fun x hx2 _ H' Q' sm kk => ?_) fun H4 s4 hD4 => ?_
        · simp only [List.mem_cons, List.not_mem_nil, or_false] at hx2
          rcases hx2 with rfl | rfl
          · exact ⟨_, rfl, .int r.1, rfl, .int r.1, kk H' (Same.refl _)⟩
          · exact ⟨_, rfl, .int r.2, rfl, .int r.2, kk H' (Same.refl _)⟩
        have e4 : H4 D = some (.lst (([true, true] : List Bool).map V.bl)) := by rw [hD4]; rfl
        refine ⟨D, _, rfl, SqL.of e4, _, rfl, ?_⟩
        have s34 := s3.trans s4
        have kp4 : Kd K H4 (.ref p) := .tup (s4 _ _ ep3)
        have tp4 : isT H4 (.ref p) = true := by rw [isT_tup kp4, tupOf_tup (s4 _ _ ep3)]; rfl
        refine ⟨_, rfl, _, kp4.isTuple, _, rfl, ?_⟩
        rw [tp4]
        exact ⟨s34, _, rfl⟩
      · rintro σ H3 ⟨s3, v2, rfl⟩
        exact k H3 s3
end
end K20
set_option Elab.async false
set_option linter.all false
set_option maxRecDepth 100000
set_option maxHeartbeats 1600000
namespace K20
open PySem L2 M4
noncomputable def Elt (H : Hp) (x : V) : Prop := ∃ d, ShV H 1 x d ∧ d.shown.length ≤ 100
theorem Elt.mono {H H' : Hp} {x : V} (s : Same H H') (e : Elt H x) : Elt H' x := let ⟨d, h, l⟩ := e; ⟨d, h.mono s, l⟩
theorem elts_sh {H : Hp} : ∀ {xs : List V}, (∀ x ∈ xs, Elt H x) → ∃ ds, ShVs H 1 xs ds ∧ ((PyData.shownAll ds).map (·.length)).sum ≤ 100 * xs.length ∧ (PyData.shownAll ds).length = xs.length
  | [], _ => ⟨[], .nil, Nat.le_refl _, rfl⟩
  | x :: xs, h => by
    obtain ⟨d, hd, ld⟩ := h x List.mem_cons_self
    obtain ⟨ds, hs, l1, l2⟩ := elts_sh (xs := xs) fun y hy => h y (List.mem_cons_of_mem _ hy)
    refine ⟨d :: ds, .cons hd hs, ?_, ?_⟩
    · simp only [PyData.shownAll, List.map_cons, List.sum_cons, List.length_cons]; omega
    · simp only [PyData.shownAll, List.length_cons]; omega
theorem str_list {H : Hp} {a : Addr} {xs : List V} (e : H a = some (.lst xs)) (h : ∀ x ∈ xs, Elt H x) (hl : xs.length ≤ 5000) : ∃ t, StrV H (.ref a) t := by
  obtain ⟨ds, hs, l1, l2⟩ := elts_sh h
  refine ⟨_, .dat (n := 2) (by decide) (.lst e hs) ?_⟩
  have := listText_len_le (PyData.shownAll ds)
  simp only [PyData.shown]
  refine Nat.le_trans (by omega : _ ≤ 1000000) (by decide)
theorem str_tup {H : Hp} {a : Addr} {xs : List V} (e : H a = some (.tup xs)) (h : ∀ x ∈ xs, Elt H x) (hl : xs.length ≤ 5000) : ∃ t, StrV H (.ref a) t := by
  obtain ⟨ds, hs, l1, l2⟩ := elts_sh h
  refine ⟨_, .dat (n := 2) (by decide) (.tup e hs) ?_⟩
  have := tupleText_len_le (PyData.shownAll ds)
  simp only [PyData.shown]
  refine Nat.le_trans (by omega : _ ≤ 1000000) (by decide)
theorem log_small {n : Nat} (h : n < 10 ^ 30) : n.log2 < 1920 := by
  by_cases h0 : n = 0
  · subst h0; decide
  · exact (Nat.log2_lt h0).mpr (Nat.lt_of_lt_of_le h (by decide))
theorem elt_int {H : Hp} {i : Int} (h : i.natAbs < 10 ^ 30) : Elt H (.int i) := by
  refine ⟨.int i, .int i (log_small h), ?_⟩
  have := int_text_length_le10 (k := 30) (by decide) h
  simp only [PyData.shown]
  rw [ofString_length]; omega
theorem elt_non {H : Hp} : Elt H .non := ⟨.none, .non, by simp only [PyData.shown]; decide⟩
theorem cut_lo (xs : List V) (k : Nat) : cutV xs (some (k : Int)) none = xs.drop k := by
  unfold cutV
  rw [HT.sIx_none, HT.sIx_nat]
  by_cases h : k ≤ xs.length
  · rw [Nat.min_eq_left h]
    exact List.take_of_length_le (by rw [List.length_drop]; omega)
  · rw [List.drop_eq_nil_of_le (by omega), List.drop_eq_nil_of_le (by omega), List.take_nil]
theorem elt_tup {H : Hp} {p : Addr} {xs : List V} {ds : List PyData} (e : H p = some (.tup xs)) (h : ShVs H 0 xs ds) (hl : ((PyData.shownAll ds).map (·.length)).sum + 2 * (PyData.shownAll ds).length ≤ 97) : Elt H (.ref p) := by
  refine ⟨.tuple ds, .tup e h, ?_⟩
  simp only [PyData.shown]
  have := tupleText_len_le (PyData.shownAll ds)
  omega
theorem int_shown {i : Int} (h : i.natAbs < 10 ^ 10) : (PyData.shown (.int i)).length ≤ 11 := by
  have := int_text_length_le10 (k := 10) (by decide) h
  simp only [PyData.shown]
  rw [ofString_length]; omega
theorem elt_pair {H : Hp} {p : Addr} {a b : Int} (e : H p = some (.tup [.int a, .int b])) (ha : a.natAbs < 10 ^ 10) (hb : b.natAbs < 10 ^ 10) : Elt H (.ref p) := by
  refine elt_tup e (ds := [.int a, .int b]) (.cons (.int a (log_small (Nat.lt_of_lt_of_le ha (by decide)))) (.cons (.int b (log_small (Nat.lt_of_lt_of_le hb (by decide)))) .nil)) ?_
  have h1 := int_shown ha
  have h2 := int_shown hb
  simp only [PyData.shownAll, List.map_cons, List.map_nil, List.sum_cons, List.sum_nil, List.length_cons, List.length_nil]
  omega
noncomputable def El2 (K : PySem.W.Frag) (H : Hp) (x : V) : Prop := TC K H x ∧ Elt H x
theorem El2.mono {K : PySem.W.Frag} {H H' : Hp} {x : V} (s : Same H H') (h : El2 K H x) : El2 K H' x := ⟨h.1.mono s, h.2.mono s⟩
theorem el2_int {K : PySem.W.Frag} {H : Hp} {i : Int} (h : i.natAbs < 10 ^ 10) : El2 K H (.int i) := ⟨TC.other (.int i) rfl, elt_int (Nat.lt_of_lt_of_le h (by decide))⟩
theorem el2_non {K : PySem.W.Frag} {H : Hp} : El2 K H .non := ⟨TC.other .non rfl, elt_non⟩
theorem el2_lst {K : PySem.W.Frag} {H : Hp} {p : Addr} (e : H p = some (.lst [.int 2, .int 3])) : El2 K H (.ref p) := ⟨TC.other (.lst e) (by simp only [tupOf, e]), ⟨.list [.int 2, .int 3], .lst e (.cons (.int 2 (by decide)) (.cons (.int 3 (by decide)) .nil)), by simp only [PyData.shown, PyData.shownAll]; decide +kernel⟩⟩
theorem el2_tup {K : PySem.W.Frag} {H : Hp} {p : Addr} {xs : List V} {ds : List PyData} (e : H p = some (.tup xs)) (hk : ∀ x ∈ xs, Kd K H x) (hn : xs.length ≤ 1000) (h : ShVs H 0 xs ds) (hl : ((PyData.shownAll ds).map (·.length)).sum + 2 * (PyData.shownAll ds).length ≤ 97) : El2 K H (.ref p) := ⟨TC.tup e hn hk, elt_tup e h hl⟩
theorem ev_kd {K : PySem.W.Frag} {H : Hp} : ∀ {xs : List V} {ds : List PyData}, ShVs H 0 xs ds → ∀ x ∈ xs, Kd K H x
  | _, _, .nil, x, hx => nomatch hx
  | _, _, .cons h t, x, hx => by
    rcases List.mem_cons.mp hx with rfl | hx
    · cases h with
      | non => exact .non
      | bl b => exact .bl b
      | int i _ => exact .int i
      | str x => exact .str x
    · exact ev_kd t x hx
theorem el2_t {K : PySem.W.Frag} {H : Hp} {p : Addr} {xs : List V} (ds : List PyData) (e : H p = some (.tup xs)) (h : ShVs H 0 xs ds) (hn : xs.length ≤ 1000) (hl : ((PyData.shownAll ds).map (·.length)).sum + 2 * (PyData.shownAll ds).length ≤ 97) : El2 K H (.ref p) := el2_tup e (ev_kd h) hn h hl
theorem el2_run {K : PySem.W.Frag} {H : Hp} {p : Addr} {r : Int × Int} (e : H p = some (.tup [.int r.1, .int r.2])) (h : 1 ≤ r.1 ∧ r.1 ≤ 576 ∧ 0 ≤ r.2 ∧ r.2 ≤ 15) : El2 K H (.ref p) :=
  ⟨TC.tup e (by show 2 ≤ 1000; decide) (fun z hz => by simp only [List.mem_cons, List.not_mem_nil, or_false] at hz; rcases hz with rfl | rfl <;> exact .int _), elt_pair e (Nat.lt_of_lt_of_le (by omega : r.1.natAbs < 1000) (by decide)) (Nat.lt_of_lt_of_le (by omega : r.2.natAbs < 1000) (by decide))⟩
theorem el2_pair {K : PySem.W.Frag} {H : Hp} {p : Addr} {a b : Int} (e : H p = some (.tup [.int a, .int b])) (ha : a.natAbs < 10 ^ 10) (hb : b.natAbs < 10 ^ 10) : El2 K H (.ref p) :=
  ⟨TC.tup e (by show 2 ≤ 1000; decide) (fun z hz => by simp only [List.mem_cons, List.not_mem_nil, or_false] at hz; rcases hz with rfl | rfl <;> exact .int _), elt_pair e ha hb⟩
noncomputable def TO (K : PySem.W.Frag) (H : Hp) (v : V) : Prop := TRs K H v ∧ ∃ t, StrV H v t
theorem to_list {K : PySem.W.Frag} {H : Hp} {a : Addr} {xs : List V} (e : H a = some (.lst xs)) (h : ∀ x ∈ xs, El2 K H x) (hl : xs.length ≤ 5000) : TO K H (.ref a) := by
  refine ⟨⟨.lst e, fun ys hy => ?_, fun ys hy y hm => ?_⟩, str_list e (fun x hx => (h x hx).2) hl⟩
  · rw [rowOf_lst e] at hy; cases hy; omega
  · rw [rowOf_lst e] at hy; cases hy; exact (h y hm).1
theorem to_none {K : PySem.W.Frag} {H : Hp} {v : V} (k : Kd K H v) (h : rowOf H v = none) (s : ∃ t, StrV H v t) : TO K H v := by
  refine ⟨⟨k, fun ys hy => ?_, fun ys hy => ?_⟩, s⟩
  · rw [h] at hy; cases hy
  · rw [h] at hy; cases hy
theorem runs_el2 {K : PySem.W.Frag} {H : Hp} {xs : List V} {rs : Rs} (r : RunL H xs rs) (o : okRs rs = true) : ∀ x ∈ xs, El2 K H x := fun x hx => by
  obtain ⟨p, q, rfl, hq, ep⟩ := r.mem hx
  exact el2_run ep (run_in o hq)
theorem el2_app {K : PySem.W.Frag} {H : Hp} {xs ys : List V} (h : ∀ x ∈ xs, El2 K H x) (h' : ∀ x ∈ ys, El2 K H x) : ∀ x ∈ xs ++ ys, El2 K H x := fun x hx => (List.mem_append.mp hx).elim (h x) (h' x)
theorem el2_one {K : PySem.W.Frag} {H : Hp} {z : V} (h : El2 K H z) : ∀ x ∈ [z], El2 K H x := fun x hx => by rw [List.mem_singleton.mp hx]; exact h
noncomputable def spOddR (K : PySem.W.Frag) : Sp := fun vs H Q _ => ∃ (a : Addr) (xs : List V) (rs : Rs) (n : Nat), vs = [.ref a, .int (n : Int)] ∧ H a = some (.lst xs) ∧ RunL H xs rs ∧ okRs rs = true ∧ ∀ v H', Same H H' → TO K H' v → Q v H'
section
variable {P : Program} {w : World} {K : PySem.W.Frag} {mg : Str → Option Value} {base : Heap} {cFE cC cP : Addr} {tC tL tG tB : Tok}
theorem sc_law_cells : FnScope ["_law_script", "_law_first", "_law_number", "_law_most", "_law_longest", "_law_cells_here", "_law_k", "_law_more"] ["_law_script", "_law_first"] (defScope s_law_cells) := ⟨rfl, rfl, rfl, by decide +kernel, rfl, by decide +kernel, by decide +kernel⟩
theorem ok_law_cells {f : Addr} {fd : FuncData} (F : FunD K "_law_cells" "_law_cells" s_law_cells .none f fd) (T : Txt K mg cFE cC cP tC tL tG tB) (g__law_draw : Def P w K mg base 1 "_law_draw" ["_law_script", "_law_k"] [] (spDraw K)) : FnOk P w K mg base CX0 2 f fd ["_law_script", "_law_first"] (spCells K) := by
  refine F.ok sc_law_cells (fun vs H Q E h => ?_) (fun cdv A outer s H vs Q E hr h => ?_)
  · obtain ⟨a, ns, f, rfl, _⟩ := h; rfl
  · obtain ⟨a, ns, f', rfl, hS, hf, k⟩ := h
    obtain ⟨t3, r3, k3⟩ : ∃ tr, PSs ((cxOf CX0 P w K mg base ["_law_script", "_law_first", "_law_number", "_law_most", "_law_longest", "_law_cells_here", "_law_k", "_law_more"] "_law_cells" (defScope s_law_cells) f cdv A outer s H E).nox) ((defBody s_law_cells).drop 2) tr ∧
        ∀ (n m : Nat) (H1 : Hp), Same H H1 → m ≤ 576 → tr { nx := fun _ H' => Q .non H', rt := Q } [some (.ref a), some (.int (f' : Int)), some (.int (n : Int)), some (.int ((m + 1 : Nat) : Int)), none, none, none, none] H1 := by
      refine ⟨_, (pss_cons (ps_set (i := 4) sc_law_cells.nd rfl (by first | exact Or.inl rfl | exact Or.inr rfl) (pe_ix (ixK K rfl) (pe_lst (pa_cons pe_int (pa_cons pe_int (pa_cons pe_int (pa_cons pe_int (pa_cons pe_int pa_nil)))))) (pe_op op_mod (pe_op op_fdiv (pv 2) pe_int) pe_int) (fun _ _ => rfl)))
        (pss_cons (ps_set (i := 5) sc_law_cells.nd rfl (by first | exact Or.inl rfl | exact Or.inr rfl) (pe_lst pa_nil))
        (pss_cons (ps_set (i := 6) sc_law_cells.nd rfl (by first | exact Or.inl rfl | exact Or.inr rfl) pe_int)
        (pss_cons (ps_while PassesOwn.never (pt_cmpR op_lt (pe_callB (lenK K rfl) rfl T.len PySem.boot_len (pa_cons (pv 5) pa_nil)) (pe_op op_sub (pv 3) pe_int) (nomark _)) (pss_cons (ps_set (i := 7) sc_law_cells.nd rfl (by first | exact Or.inl rfl | exact Or.inr rfl) (pe_callD g__law_draw (hr.mono (by decide)) rfl (pa_cons (pv 0) (pa_cons (pe_op op_add (pe_op op_add (pv 1) pe_int) (pv 6)) pa_nil))))
        (pss_cons (ps_set (i := 5) sc_law_cells.nd rfl (by first | exact Or.inl rfl | exact Or.inr rfl) (pe_op op_cat (pv 5) (pe_op op_rep (pe_lst (pa_cons (pe_op op_mod (pe_op op_fdiv (pv 7) pe_int) pe_int) pa_nil)) (pe_op op_add pe_int (pe_op op_mod (pv 7) (pv 4))))))
        (pss_one (ps_set (i := 6) sc_law_cells.nd rfl (by first | exact Or.inl rfl | exact Or.inr rfl) (pe_op op_add (pv 6) pe_int))))))
        (pss_one (ps_ret (pe_slice (slK K rfl) (pv 5) po_none (po_some (pe_op op_sub (pv 3) pe_int))))))))), ?_⟩
      intro n m H1 s1 hm
      refine ⟨(by show 5 ≤ sizeLine; decide), fun q1 g1 => ?_⟩
      have z1 := same_new (o := HO.lst [V.int 1, .int 9, .int 9, .int 60, .int 400]) g1
      obtain ⟨x, hx, ax⟩ := at_mod (xs := [V.int 1, .int 9, .int 9, .int 60, .int 400]) (m := (n : Int) / 1024) 5 rfl (by decide)
      obtain ⟨lg, rfl, lg1, lg2⟩ : ∃ lg : Nat, x = .int (lg : Int) ∧ 1 ≤ lg ∧ lg ≤ 400 := by
        simp only [List.mem_cons, List.not_mem_nil, or_false] at hx
        rcases hx with rfl | rfl | rfl | rfl | rfl
        · exact ⟨1, rfl, by decide, by decide⟩
        · exact ⟨9, rfl, by decide, by decide⟩
        · exact ⟨9, rfl, by decide, by decide⟩
        · exact ⟨60, rfl, by decide, by decide⟩
        · exact ⟨400, rfl, by decide, by decide⟩
      refine ⟨_, rfl, _, _, rfl, rfl, ⟨by decide, by decide⟩, _, _, rfl, rfl, (by show (0 : Int) < 5; decide), q1, _, _, _, rfl, rfl, SqL.of upd_same, ax, ?_⟩
      refine ⟨Nat.zero_le _, fun L0 gL => ?_⟩
      have zL := same_new (o := HO.lst []) gL
      have sL := s1.trans (z1.trans zL)
      have fL := (s1.trans z1).free gL
      refine while_by (fun σ H3 => Same H H3 ∧ ∃ (L : Addr) (cs : List Int) (j : Nat) (v8 : Option V), σ = [some (.ref a), some (.int (f' : Int)), some (.int (n : Int)), some (.int ((m + 1 : Nat) : Int)), some (.int (lg : Int)), some (.ref L), some (.int (j : Int)), v8] ∧ H L = none ∧ H3 L = some (.lst (cs.map V.int)) ∧ Cells cs ∧ j ≤ cs.length ∧ cs.length < m + 500) (fun σ _ => match σ with | [_, _, _, _, _, _, some (.int j), _] => (2000 - j).toNat | _ => 0) ⟨sL, L0, [], 0, none, rfl, fL, upd_same, (fun c hc => nomatch hc), Nat.le_refl _, by show 0 < m + 500; omega⟩ ?_ ?_
      · rintro σ H3 ⟨s3, L, cs, j, v8, rfl, gH, eL, hc, hj, hlen⟩
        refine ⟨_, rfl, L, _, rfl, .inl (SqL.of eL), _, rfl, _, _, rfl, rfl, _, _, rfl, rfl, _, rfl, iteB (fun hlt => ?_) (fun hlt => ?_)⟩
        · have hlt := of_decide_eq_true hlt
          rw [List.length_map] at hlt
          refine ⟨_, rfl, _, rfl, _, _, rfl, rfl, _, rfl, _, _, rfl, rfl, a, ns, f' + 1 + j, (by show [V.ref a, V.int ((f' : Int) + 1 + (j : Int))] = _; rw [show (f' : Int) + 1 + (j : Int) = ((f' + 1 + j : Nat) : Int) by omega]), s3.seq hS, by omega, fun mo H4 hmo s4 => ?_⟩
          obtain ⟨r, er, r1, r2⟩ : ∃ r : Nat, 1 + (mo : Int) % (lg : Int) = (r : Int) ∧ 1 ≤ r ∧ r ≤ 400 := by
            have := Nat.mod_lt mo (show 0 < lg by omega)
            exact ⟨1 + mo % lg, by push_cast; rfl, by omega, by omega⟩
          have f0 := Int.emod_nonneg ((mo : Int) / 64) (show (16 : Int) ≠ 0 by decide)
          have f1 := Int.emod_lt_of_pos ((mo : Int) / 64) (show (0 : Int) < 16 by decide)
          have eL4 := s4 _ _ eL
          refine ⟨_, rfl, _, rfl, _, _, rfl, rfl, ⟨by decide, by decide⟩, _, _, rfl, rfl, (by show (0 : Int) < 16; decide), (by show 1 ≤ sizeLine; decide), fun q2 g2 => ?_⟩
          show tOp _ _ _ _ (upd H4 q2 (.lst [.int ((mo : Int) / 64 % 16)])) _
          generalize (mo : Int) / 64 % 16 = c at f0 f1 ⊢
          have z2 := same_new (o := HO.lst [V.int c]) g2
          refine ⟨_, rfl, _, rfl, _, _, rfl, rfl, (by show (0 : Int) < (lg : Int); omega), _, _, rfl, rfl, q2, (r : Int), [V.int c], rfl, (by show V.int (1 + (mo : Int) % (lg : Int)) = _; rw [er]), upd_same, by omega, by omega, (by show 1 * r ≤ _; exact Nat.le_trans (by omega : _ ≤ 600) (by decide)), fun q3 g3 => ?_⟩
          have z3 := same_new (o := HO.lst (List.replicate ((r : Int)).toNat [V.int c]).flatten) g3
          have z23 := z2.trans z3
          refine ⟨L, q3, _, _, rfl, rfl, z23 _ _ eL4, upd_same, Nat.le_trans (by rw [List.length_map, len_rep]; show _ + r * 1 ≤ 2000; omega) (by decide), fun q4 g4 => ?_⟩
          have z4 := same_new (o := HO.lst (cs.map V.int ++ (List.replicate ((r : Int)).toNat [V.int c]).flatten)) g4
          have s34 := s3.trans (s4.trans z23)
          refine ⟨_, rfl, _, _, rfl, rfl, ⟨s34.trans z4, q4, cs ++ List.replicate r c, j + 1, some (.int (mo : Int)), ?_, s34.free g4, ?_, ?_, ?_, ?_⟩, ?_⟩
          · rw [show ((j + 1 : Nat) : Int) = (j : Int) + 1 by omega]; rfl
          · rw [upd_same, List.map_append, rep_map]; rfl
          · intro x hx
            rcases List.mem_append.mp hx with hx | hx
            · exact hc x hx
            · rw [(List.mem_replicate.mp hx).2]; omega
          · rw [List.length_append, List.length_replicate]; omega
          · rw [List.length_append, List.length_replicate]; omega
          · show (2000 - ((j : Int) + 1)).toNat < (2000 - (j : Int)).toNat
            omega
        · refine ⟨_, rfl, _, rfl, _, _, rfl, rfl, _, rfl, L, _, rfl, SqL.of eL, fun p gp => ?_⟩
          rw [show ((m + 1 : Nat) : Int) - 1 = (m : Int) by omega, cut_hi, ← List.map_take]
          exact k p _ _ (s3.trans (same_new gp)) (s3.free gp) upd_same (fun c h => hc c (List.mem_of_mem_take h)) (Nat.le_trans (List.length_take_le _ _) hm)
      · exact mn_test (mn_op (mn_i0 _) (mn_call lenMn (mn_cons (mn_var _) mn_nil)) (mn_op (mn_i0 _) (mn_var _) (mn_c _)))
    refine ⟨_, (pss_cons (ps_set (i := 2) sc_law_cells.nd rfl (by first | exact Or.inl rfl | exact Or.inr rfl) (pe_callD g__law_draw (hr.mono (by decide)) rfl (pa_cons (pv 0) (pa_cons (pv 1) pa_nil))))
        (pss_cons (ps_set (i := 3) sc_law_cells.nd rfl (by first | exact Or.inl rfl | exact Or.inr rfl) (pe_ix (ixK K rfl) (pe_lst (pa_cons (pe_op op_add pe_int (pe_op op_mod (pe_op op_fdiv (pv 2) pe_int) pe_int)) (pa_cons pe_int pa_nil))) (pe_callTy call_int1 rfl T.int PyProof.Rows.boot_int (pa_cons (pe_cmpR op_eq (pe_op op_mod (pv 2) pe_int) pe_int (nomark _)) pa_nil)) (fun _ _ => rfl)))
        (@r3))), ?_⟩
    refine ⟨_, rfl, _, rfl, a, ns, f', rfl, hS, by omega, fun n H1 hn s1 => ?_⟩
    refine ⟨_, rfl, _, _, rfl, rfl, ⟨by decide, by decide⟩, _, _, rfl, rfl, (by show (0 : Int) < 41; decide), _, _, rfl, rfl, (by show 2 ≤ sizeLine; decide), fun q1 g1 => ?_⟩
    have z1 := same_new (o := HO.lst [V.int (1 + (n : Int) / 16 % 41), .int 577]) g1
    refine ⟨_, rfl, _, _, rfl, rfl, (by show (0 : Int) < 16; decide), rfl, .inr ⟨_, rfl, q1, _, _, _, rfl, rfl, SqL.of upd_same, at2 _ _ _, ?_⟩⟩
    obtain ⟨m, em, m1⟩ : ∃ m : Nat, (if decide (V.int ((n : Int) % 16) = V.int 1) = true then V.int 577 else V.int (1 + (n : Int) / 16 % 41)) = .int ((m + 1 : Nat) : Int) ∧ m ≤ 576 := by
      by_cases h : decide (V.int ((n : Int) % 16) = V.int 1) = true
      · rw [if_pos h]; exact ⟨576, rfl, by decide⟩
      · rw [if_neg h]; exact ⟨n / 16 % 41, by congr 1; omega, by omega⟩
    show gName 3 (if decide (V.int ((n : Int) % 16) = V.int 1) = true then V.int 577 else V.int (1 + (n : Int) / 16 % 41)) _ _ _
    rw [em]
    exact k3 n m _ (s1.trans z1) m1
end
end K20
set_option Elab.async false
set_option linter.all false
set_option maxRecDepth 100000
set_option maxHeartbeats 1600000
namespace K20
open PySem L2 M4
theorem lit_pow {a b : Int} {k k2 : Nat} {p p2 p3 : Pos} : LitE (.BinOp (.Constant (.int a) k p) .Pow (.Constant (.int b) k2 p2) p3) (tOp (rI CPow fun i j => .int (i ^ j.toNat)) (L2.tC (.int a)) (L2.tC (.int b))) := ⟨fun _ => pe_op op_pow pe_int pe_int, fun _ _ => rfl⟩
theorem lit_neg {n : Int} {k : Nat} {p p2 : Pos} : LitE (.UnaryOp .USub (.Constant (.int n) k p) p2) (tUn (rU fun i => V.int (-i)) (L2.tC (.int n))) := ⟨fun _ => pe_un un_neg pe_int, fun _ _ => rfl⟩
theorem EqL.nilB {K : PySem.W.Frag} {H : Hp} {p q : Addr} {xs : List V} {b : Bool} (h1 : SqL K H p xs) (h2 : SqL K H q []) (hb : decide (xs = []) = b) : EqL K H (EqD K H 0) p q b := by
  subst hb; exact EqL.nil h1 h2
theorem six_to {K : PySem.W.Frag} {H : Hp} {p d e : Addr} {xs : List V} {v : V} (ep : H p = some (.tup xs)) (hx : ∀ x ∈ xs, El2 K H x) (hl : xs.length ≤ 1000) (ed : H d = some (DictO d)) (ee : H e = some (.tup [.int 2, .int 3])) (hm : v ∈ [V.ref p, .non, .ref d, .str "2a", .ref e, .int 5]) : TO K H v := by
  simp only [List.mem_cons, List.not_mem_nil, or_false] at hm
  rcases hm with rfl | rfl | rfl | rfl | rfl | rfl
  · exact to_none (.tup ep) (by simp only [rowOf, ep]) (str_tup ep (fun x h => (hx x h).2) (by omega))
  · exact to_none .non rfl ⟨_, .non⟩
  · exact to_none (.dict ed) (by simp only [rowOf, ed, DictO]) ⟨_, .dict ed⟩
  · exact to_none (.str _) rfl ⟨_, .str _⟩
  · exact to_none (.tup ee) (by simp only [rowOf, ee]) (str_tup ee (fun x h => by simp only [List.mem_cons, List.not_mem_nil, or_false] at h; rcases h with rfl | rfl <;> exact elt_int (by decide)) (by decide))
  · exact to_none (.int _) rfl ⟨_, .int 5 (by decide)⟩
section
variable {P : Program} {w : World} {K : PySem.W.Frag} {mg : Str → Option Value} {base : Heap} {cFE cC cP : Addr} {tC tL tG tB : Tok}
theorem sc_law_odd_runs : FnScope ["_law_runs_here", "_law_number", "_law_at", "_law_some"] ["_law_runs_here", "_law_number"] (defScope s_law_odd_runs) := ⟨rfl, rfl, rfl, by decide +kernel, rfl, by decide +kernel, by decide +kernel⟩
theorem ok_law_odd_runs {f : Addr} {fd : FuncData} (F : FunD K "_law_odd_runs" "_law_odd_runs" s_law_odd_runs .none f fd) (T : Txt K mg cFE cC cP tC tL tG tB) : FnOk P w K mg base CX0 1 f fd ["_law_runs_here", "_law_number"] (spOddR K) := by
  refine F.ok sc_law_odd_runs (fun vs H Q E h => ?_) (fun cdv A outer s H vs Q E hr h => ?_)
  · obtain ⟨a, xs, rs, n, rfl, _⟩ := h; rfl
  · obtain ⟨a, xs, rs, n, rfl, ea, rl, o, k⟩ := h
    have hu : _ + 64 < cLine := hr.units
    have hel := runs_el2 (K := K) rl o
    have lr := okRs_len o
    have lx : xs.length ≤ 576 := by have := rl.1; omega
    obtain ⟨t7, r7, k7⟩ : ∃ tr, PSs ((cxOf CX0 P w K mg base ["_law_runs_here", "_law_number", "_law_at", "_law_some"] "_law_odd_runs" (defScope s_law_odd_runs) f cdv A outer s H E).nox) ((defBody s_law_odd_runs).drop 7) tr ∧
        ∀ (m : Nat) (L : Addr) (S : List V) (H1 : Hp), Same H H1 → H1 a = some (.lst xs) → H1 L = some (.lst S) → (∀ x ∈ S, El2 K H1 x) → S.length = 16 → m ≤ xs.length → tr { nx := fun _ H' => Q .non H', rt := Q } [some (.ref a), some (.int (n : Int)), some (.int (m : Int)), some (.ref L)] H1 := by
      refine ⟨_, (pss_one (ps_ret (pe_op op_cat (pe_op op_cat (pe_slice (slK K rfl) (pv 0) po_none (po_some (pv 2))) (pe_lst (pa_cons (pe_ix (ixK K rfl) (pv 3) (pe_op op_mod (pe_op op_fdiv (pv 1) pe_int) pe_int) (fun _ _ => rfl)) pa_nil))) (pe_slice (slK K rfl) (pv 0) (po_some (pv 2)) po_none)))), ?_⟩
      intro m L S H1 s1 eA eL hS lS hm
      obtain ⟨v, hv, av⟩ := at_mod (xs := S) (m := (n : Int) / 512) 16 lS (by decide)
      refine ⟨_, rfl, _, rfl, _, rfl, a, _, rfl, SqL.of eA, fun q1 g1 => ?_⟩
      rw [cut_hi]
      have z1 := same_new (o := HO.lst (xs.take m)) g1
      refine ⟨_, rfl, _, rfl, _, _, rfl, rfl, ⟨by decide, by decide⟩, _, _, rfl, rfl, (by show (0 : Int) < 16; decide), L, _, _, v, rfl, rfl, SqL.of (z1 _ _ eL), av, (by show 1 ≤ sizeLine; decide), fun q2 g2 => ?_⟩
      have z2 := same_new (o := HO.lst [v]) g2
      have z12 := z1.trans z2
      refine ⟨q1, q2, _, _, rfl, rfl, z2 _ _ upd_same, upd_same, Nat.le_trans (by rw [List.length_take, List.length_singleton]; omega : _ ≤ 2000) (by decide), fun q3 g3 => ?_⟩
      have z3 := same_new (o := HO.lst (xs.take m ++ [v])) g3
      have z13 := z12.trans z3
      refine ⟨_, rfl, _, rfl, _, rfl, a, _, rfl, SqL.of (z13 _ _ eA), fun q4 g4 => ?_⟩
      rw [cut_lo]
      have z4 := same_new (o := HO.lst (xs.drop m)) g4
      refine ⟨q3, q4, _, _, rfl, rfl, z4 _ _ upd_same, upd_same, Nat.le_trans (by rw [List.length_append, List.length_take, List.length_drop, List.length_singleton]; omega : _ ≤ 5000) (by decide), fun q5 g5 => ?_⟩
      have zz := z13.trans (z4.trans (same_new (o := HO.lst ((xs.take m ++ [v]) ++ xs.drop m)) g5))
      refine k (.ref q5) _ (s1.trans zz) (to_list upd_same (el2_app (el2_app (fun x hx => (hel x (List.mem_of_mem_take hx)).mono (s1.trans zz)) (el2_one ((hS v hv).mono zz))) (fun x hx => (hel x (List.mem_of_mem_drop hx)).mono (s1.trans zz))) ?_)
      rw [List.length_append, List.length_append, List.length_take, List.length_drop, List.length_singleton]; omega
    obtain ⟨t5, r5, k5⟩ : ∃ tr, PSs ((cxOf CX0 P w K mg base ["_law_runs_here", "_law_number", "_law_at", "_law_some"] "_law_odd_runs" (defScope s_law_odd_runs) f cdv A outer s H E).nox) ((defBody s_law_odd_runs).drop 5) tr ∧
        ∀ (m : Nat) (L : Addr) (S : List V) (H1 : Hp), Same H H1 → H1 a = some (.lst xs) → H1 L = some (.lst S) → (∀ x ∈ S, El2 K H1 x) → S.length = 16 → m ≤ xs.length → tr { nx := fun _ H' => Q .non H', rt := Q } [some (.ref a), some (.int (n : Int)), some (.int (m : Int)), some (.ref L)] H1 := by
      refine ⟨_, (pss_cons (ps_if (pt_cmpR op_eq (pe_op op_mod (pv 1) pe_int) pe_int (nomark _)) (pss_one (ps_ret (pe_op op_cat (pv 0) (pe_lst (pa_cons (pe_tup (pa_cons pe_int (pa_cons pe_int pa_nil))) (pa_cons (pe_tup (pa_cons pe_int (pa_cons pe_int pa_nil))) pa_nil)))))) pss_nil)
        (pss_cons (ps_if (PW.pt (pw_and (pt_cmpR op_eq (pe_op op_mod (pv 1) pe_int) pe_int (nomark _)) (pw_and1 (pt_cmpR (neDK K rfl hu) (pv 0) (pe_lst pa_nil) (nomark _))))) (pss_one (ps_ret (pe_op op_cat (pe_slice (slK K rfl) (pv 0) po_none (po_some (pv 2))) (pe_slice (slK K rfl) (pv 0) (po_some (pe_op op_add (pv 2) pe_int)) po_none)))) pss_nil)
        (@r7))), ?_⟩
      intro m L S H1 s1 eA eL hS lS hm
      refine ⟨_, rfl, _, _, rfl, rfl, (by show (0 : Int) < 16; decide), rfl, _, rfl, iteB (fun _ => ?_) (fun _ => ?_)⟩
      · refine ⟨_, rfl, (by show 2 ≤ sizeLine; decide), fun p1 g1 => ⟨(by show 2 ≤ sizeLine; decide), fun p2 g2 => ⟨(by show 2 ≤ sizeLine; decide), fun q3 g3 => ?_⟩⟩⟩
        have z1 := same_new (o := HO.tup [V.int 576, .int 7]) g1
        have z2 := same_new (o := HO.tup [V.int 1, .int 8]) g2
        have z3 := same_new (o := HO.lst [V.ref p1, .ref p2]) g3
        have z23 := z2.trans z3
        have z13 := z1.trans z23
        refine ⟨a, q3, _, _, rfl, rfl, z13 _ _ eA, upd_same, Nat.le_trans (by show _ + 2 ≤ 2000; omega) (by decide), fun q5 g5 => ?_⟩
        have z5 := same_new (o := HO.lst (xs ++ [V.ref p1, .ref p2])) g5
        have zz := z13.trans z5
        refine k (.ref q5) _ (s1.trans zz) (to_list upd_same (el2_app (fun x hx => (hel x hx).mono (s1.trans zz)) (fun x hx => ?_)) (by rw [List.length_append]; show _ + 2 ≤ 5000; omega))
        simp only [List.mem_cons, List.not_mem_nil, or_false] at hx
        rcases hx with rfl | rfl
        · exact el2_pair ((z23.trans z5) _ _ upd_same) (by decide) (by decide)
        · exact el2_pair ((z3.trans z5) _ _ upd_same) (by decide) (by decide)
      refine ⟨_, rfl, _, _, rfl, rfl, (by show (0 : Int) < 16; decide), rfl, _, rfl, iteB (fun _ => ?_) (fun _ => ?_)⟩
      · refine ⟨_, rfl, Nat.zero_le _, fun w0 gw => ?_⟩
        have zw := same_new (o := HO.lst []) gw
        by_cases hx0 : xs = []
        · exact ⟨0, a, w0, true, by decide, rfl, rfl, EqL.nilB (SqL.of (zw _ _ eA)) (SqL.of upd_same) (decide_eq_true hx0), _, rfl, k7 m L S _ (s1.trans zw) (zw _ _ eA) (zw _ _ eL) (fun x hx => (hS x hx).mono zw) lS hm⟩
        · refine ⟨0, a, w0, false, by decide, rfl, rfl, EqL.nilB (SqL.of (zw _ _ eA)) (SqL.of upd_same) (decide_eq_false hx0), _, rfl, ?_⟩
          refine ⟨_, rfl, _, rfl, _, rfl, a, _, rfl, SqL.of (zw _ _ eA), fun q1 g1 => ?_⟩
          rw [cut_hi]
          have z1 := same_new (o := HO.lst (xs.take m)) g1
          have zw1 := zw.trans z1
          refine ⟨_, rfl, _, rfl, _, _, rfl, rfl, _, rfl, a, _, rfl, SqL.of (zw1 _ _ eA), fun q4 g4 => ?_⟩
          rw [show (m : Int) + 1 = ((m + 1 : Nat) : Int) by omega, cut_lo]
          have z4 := same_new (o := HO.lst (xs.drop (m + 1))) g4
          refine ⟨q1, q4, _, _, rfl, rfl, z4 _ _ upd_same, upd_same, Nat.le_trans (by rw [List.length_take, List.length_drop]; omega : _ ≤ 5000) (by decide), fun q5 g5 => ?_⟩
          have zz := zw1.trans (z4.trans (same_new (o := HO.lst (xs.take m ++ xs.drop (m + 1))) g5))
          refine k (.ref q5) _ (s1.trans zz) (to_list upd_same (el2_app (fun x hx => (hel x (List.mem_of_mem_take hx)).mono (s1.trans zz)) (fun x hx => (hel x (List.mem_of_mem_drop hx)).mono (s1.trans zz))) ?_)
          rw [List.length_append, List.length_take, List.length_drop]; omega
      · exact k7 m L S H1 s1 eA eL hS lS hm
    obtain ⟨t4, r4, k4⟩ : ∃ tr, PSs ((cxOf CX0 P w K mg base ["_law_runs_here", "_law_number", "_law_at", "_law_some"] "_law_odd_runs" (defScope s_law_odd_runs) f cdv A outer s H E).nox) ((defBody s_law_odd_runs).drop 4) tr ∧
        ∀ (m : Nat) (L : Addr) (S : List V) (H1 : Hp), Same H H1 → H1 a = some (.lst xs) → H1 L = some (.lst S) → (∀ x ∈ S, El2 K H1 x) → S.length = 16 → m ≤ xs.length → tr { nx := fun _ H' => Q .non H', rt := Q } [some (.ref a), some (.int (n : Int)), some (.int (m : Int)), some (.ref L)] H1 := by
      refine ⟨_, (pss_cons (ps_if (pt_cmpR op_eq (pe_op op_mod (pv 1) pe_int) pe_int (nomark _)) (pss_one (ps_ret (pe_ix (ixK K rfl) (pe_lst (pa_cons (pe_callTy (tupleK K rfl) rfl T.tuple PyProof.Rows.boot_tuple (pa_cons (pv 0) pa_nil)) (pa_cons pe_non (pa_cons pe_dict0 (pa_cons pe_str (pa_cons (pe_tup (pa_cons pe_int (pa_cons pe_int pa_nil))) (pa_cons pe_int pa_nil))))))) (pe_op op_mod (pe_op op_fdiv (pv 1) pe_int) pe_int) (fun _ _ => rfl)))) pss_nil)
        (@r5)), ?_⟩
      intro m L S H1 s1 eA eL hS lS hm
      refine ⟨_, rfl, _, _, rfl, rfl, (by show (0 : Int) < 16; decide), rfl, _, rfl, iteB (fun _ => ?_) (fun _ => ?_)⟩
      · refine ⟨_, rfl, a, _, rfl, .inl ⟨SqL.of eA, fun q1 g1 => ?_⟩⟩
        have z1 := same_new (o := HO.tup xs) g1
        refine fun d hd => ?_
        have z2 := same_new (o := DictO d) hd
        refine ⟨(by show 2 ≤ sizeLine; decide), fun q3 g3 => ?_⟩
        have z3 := same_new (o := HO.tup [V.int 2, .int 3]) g3
        refine ⟨(by show 6 ≤ sizeLine; decide), fun L2 hL => ?_⟩
        have z4 := same_new (o := HO.lst [V.ref q1, .non, .ref d, .str "2a", .ref q3, .int 5]) hL
        obtain ⟨v, hv, av⟩ := at_mod (xs := [V.ref q1, .non, .ref d, .str "2a", .ref q3, .int 5]) (m := (n : Int) / 512) 6 rfl (by decide)
        have z34 := z3.trans z4
        have z24 := z2.trans z34
        have z14 := z1.trans z24
        refine ⟨_, rfl, _, _, rfl, rfl, ⟨by decide, by decide⟩, _, _, rfl, rfl, (by show (0 : Int) < 6; decide), L2, _, _, v, rfl, rfl, SqL.of upd_same, av, ?_⟩
        exact k v _ (s1.trans z14) (six_to (z24 _ _ upd_same) (fun x hx => (hel x hx).mono (s1.trans z14)) (by omega) (z34 _ _ upd_same) (z4 _ _ upd_same) hv)
      · exact k5 m L S H1 s1 eA eL hS lS hm
    obtain ⟨t3, r3, k3⟩ : ∃ tr, PSs ((cxOf CX0 P w K mg base ["_law_runs_here", "_law_number", "_law_at", "_law_some"] "_law_odd_runs" (defScope s_law_odd_runs) f cdv A outer s H E).nox) ((defBody s_law_odd_runs).drop 3) tr ∧
        ∀ (m : Nat) (L : Addr) (S : List V) (H1 : Hp), Same H H1 → H1 a = some (.lst xs) → H1 L = some (.lst S) → (∀ x ∈ S, El2 K H1 x) → S.length = 16 → m ≤ xs.length → tr { nx := fun _ H' => Q .non H', rt := Q } [some (.ref a), some (.int (n : Int)), some (.int (m : Int)), some (.ref L)] H1 := by
      refine ⟨_, (pss_cons (ps_if (PW.pt (pw_and (pt_cmpR op_eq (pe_op op_mod (pv 1) pe_int) pe_int (nomark _)) (pw_and1 (pt_cmpR (neDK K rfl hu) (pv 0) (pe_lst pa_nil) (nomark _))))) (pss_one (ps_ret (pe_op op_cat (pe_op op_cat (pe_slice (slK K rfl) (pv 0) po_none (po_some (pv 2))) (pe_lst (pa_cons (pe_ix (ixK K rfl) (pv 0) (pe_callB (call_max2 rfl) rfl T.max PyProof.Rows.boot_max (pa_cons pe_int (pa_cons (pe_op op_sub (pv 2) pe_int) pa_nil))) (fun _ _ => rfl)) pa_nil))) (pe_slice (slK K rfl) (pv 0) (po_some (pv 2)) po_none)))) pss_nil)
        (@r4)), ?_⟩
      intro m L S H0 s0 eA0 eL hS lS hm
      refine ⟨_, rfl, _, _, rfl, rfl, (by show (0 : Int) < 16; decide), rfl, _, rfl, iteB (fun _ => ?_) (fun _ => ?_)⟩
      · refine ⟨_, rfl, Nat.zero_le _, fun w0 gw => ?_⟩
        have zw := same_new (o := HO.lst []) gw
        have eA := zw _ _ eA0
        have s1 := s0.trans zw
        by_cases hx0 : xs = []
        · exact ⟨0, a, w0, true, by decide, rfl, rfl, EqL.nilB (SqL.of eA) (SqL.of upd_same) (decide_eq_true hx0), _, rfl, k4 m L S _ s1 eA (zw _ _ eL) (fun x hx => (hS x hx).mono zw) lS hm⟩
        · refine ⟨0, a, w0, false, by decide, rfl, rfl, EqL.nilB (SqL.of eA) (SqL.of upd_same) (decide_eq_false hx0), _, rfl, ?_⟩
          have l1 : 1 ≤ xs.length := by
            cases xs with
            | nil => exact absurd rfl hx0
            | cons _ _ => exact Nat.succ_le_succ (Nat.zero_le _)
          obtain ⟨v, hv⟩ : ∃ v, xs[m - 1]? = some v := ⟨_, List.getElem?_eq_getElem (by omega)⟩
          have av : atI xs (if (m : Int) - 1 > 0 then (m : Int) - 1 else 0) = some v := by
            rw [show (if (m : Int) - 1 > 0 then (m : Int) - 1 else 0) = ((m - 1 : Nat) : Int) from by split <;> omega]
            exact atI_nat hv
          refine ⟨_, rfl, _, rfl, _, rfl, a, _, rfl, SqL.of eA, fun q1 g1 => ?_⟩
          rw [cut_hi]
          have z1 := same_new (o := HO.lst (xs.take m)) g1
          refine ⟨_, rfl, _, rfl, _, _, rfl, rfl, _, _, rfl, a, _, _, v, rfl, rfl, SqL.of (z1 _ _ eA), av, (by show 1 ≤ sizeLine; decide), fun q2 g2 => ?_⟩
          have z2 := same_new (o := HO.lst [v]) g2
          have z12 := z1.trans z2
          refine ⟨q1, q2, _, _, rfl, rfl, z2 _ _ upd_same, upd_same, Nat.le_trans (by rw [List.length_take, List.length_singleton]; omega : _ ≤ 2000) (by decide), fun q3 g3 => ?_⟩
          have z3 := same_new (o := HO.lst (xs.take m ++ [v])) g3
          have z13 := z12.trans z3
          refine ⟨_, rfl, _, rfl, _, rfl, a, _, rfl, SqL.of (z13 _ _ eA), fun q4 g4 => ?_⟩
          rw [cut_lo]
          have z4 := same_new (o := HO.lst (xs.drop m)) g4
          refine ⟨q3, q4, _, _, rfl, rfl, z4 _ _ upd_same, upd_same, Nat.le_trans (by rw [List.length_append, List.length_take, List.length_drop, List.length_singleton]; omega : _ ≤ 5000) (by decide), fun q5 g5 => ?_⟩
          have zz := z13.trans (z4.trans (same_new (o := HO.lst ((xs.take m ++ [v]) ++ xs.drop m)) g5))
          refine k (.ref q5) _ (s1.trans zz) (to_list upd_same (el2_app (el2_app (fun x hx => (hel x (List.mem_of_mem_take hx)).mono (s1.trans zz)) (el2_one ((hel v (List.mem_of_getElem? hv)).mono (s1.trans zz)))) (fun x hx => (hel x (List.mem_of_mem_drop hx)).mono (s1.trans zz))) ?_)
          rw [List.length_append, List.length_append, List.length_take, List.length_drop, List.length_singleton]; omega
      · exact k4 m L S H0 s0 eA0 eL hS lS hm
    obtain ⟨t2, r2, k2⟩ : ∃ tr, PSs ((cxOf CX0 P w K mg base ["_law_runs_here", "_law_number", "_law_at", "_law_some"] "_law_odd_runs" (defScope s_law_odd_runs) f cdv A outer s H E).nox) ((defBody s_law_odd_runs).drop 2) tr ∧
        ∀ (m : Nat) (L : Addr) (S : List V) (H1 : Hp), Same H H1 → H1 a = some (.lst xs) → H1 L = some (.lst S) → (∀ x ∈ S, El2 K H1 x) → S.length = 11 → m ≤ xs.length → tr { nx := fun _ H' => Q .non H', rt := Q } [some (.ref a), some (.int (n : Int)), some (.int (m : Int)), some (.ref L)] H1 := by
      obtain ⟨px, pn, p4, q3, e, hsh, le⟩ : ∃ (px pn p4 q3 : Pos) (e : PySem.Expr), (defBody s_law_odd_runs)[2]? = some (.Assign [.Name "_law_some" px] (.BinOp (.Name "_law_some" pn) .Add e p4) q3) ∧ LitE e (tLst (tCons (tLst (tCons (L2.tC (.int 2)) (tCons (L2.tC (.int 3)) tNil))) (tCons (L2.tC .non) (tCons (L2.tC (.int 5)) (tCons (tTup (tCons (L2.tC (.int 577)) (tCons (L2.tC (.int 3)) tNil))) (tCons (tTup (tCons (tOp (rI CPow fun i j => .int (i ^ j.toNat)) (L2.tC (.int 10)) (L2.tC (.int 6))) (tCons (L2.tC (.int 3)) tNil))) tNil)))))) := ⟨_, _, _, _, _, rfl, (lit_lst (la_cons (lit_lst (la_cons lit_int (la_cons lit_int la_nil))) (la_cons lit_non (la_cons lit_int (la_cons (lit_tup (la_cons lit_int (la_cons lit_int la_nil))) (la_cons (lit_tup (la_cons lit_pow (la_cons lit_int la_nil))) la_nil))))))⟩
      have h1 := ps_set (X := (cxOf CX0 P w K mg base ["_law_runs_here", "_law_number", "_law_at", "_law_some"] "_law_odd_runs" (defScope s_law_odd_runs) f cdv A outer s H E).nox) (i := 3) (x := "_law_some") (pos' := px) (pos := q3) sc_law_odd_runs.nd rfl (by first | exact Or.inl rfl | exact Or.inr rfl) (pe_op (pos := p4) op_cat (pv 3 (pos := pn)) (le.pe _))
      obtain ⟨bd, hbd⟩ : ∃ bd, bd = defBody s_law_odd_runs := ⟨_, rfl⟩
      rw [← hbd] at hsh r3 ⊢
      have hh := pss_at 3 hsh rfl (@h1) (@r3)
      refine ⟨_, @hh, ?_⟩
      clear hh h1 hsh le hbd
      intro m L S H1 s1 eA eL hS lS hm
      refine ⟨_, rfl, (by show 2 ≤ sizeLine; decide), fun p1 g1 => ?_⟩
      have z1 := same_new (o := HO.lst [V.int 2, .int 3]) g1
      refine ⟨(by show 2 ≤ sizeLine; decide), fun p2 g2 => ?_⟩
      have z2 := same_new (o := HO.tup [V.int 577, .int 3]) g2
      refine ⟨_, _, rfl, rfl, ⟨by decide, by decide, by decide⟩, (by show 2 ≤ sizeLine; decide), fun p3 g3 => ?_⟩
      have z3 := same_new (o := HO.tup [V.int (10 ^ 6), .int 3]) g3
      refine ⟨(by show 5 ≤ sizeLine; decide), fun p4 g4 => ?_⟩
      have z4 := same_new (o := HO.lst [V.ref p1, .non, .int 5, .ref p2, .ref p3]) g4
      have z34 := z3.trans z4
      have z24 := z2.trans z34
      have z14 := z1.trans z24
      refine ⟨L, p4, _, _, rfl, rfl, z14 _ _ eL, upd_same, Nat.le_trans (by rw [lS]; show 11 + 5 ≤ 2000; decide) (by decide), fun p5 g5 => ?_⟩
      have z5 := same_new (o := HO.lst (S ++ [V.ref p1, .non, .int 5, .ref p2, .ref p3])) g5
      have zz := z14.trans z5
      refine k3 m p5 _ _ (s1.trans zz) (zz _ _ eA) upd_same (el2_app (fun x hx => (hS x hx).mono zz) (fun x hx => ?_)) (by rw [List.length_append, lS]; rfl) hm
      simp only [List.mem_cons, List.not_mem_nil, or_false] at hx
      rcases hx with rfl | rfl | rfl | rfl | rfl
      · exact el2_lst ((z24.trans z5) _ _ upd_same)
      · exact el2_non
      · exact el2_int (by decide)
      · exact el2_pair ((z34.trans z5) _ _ upd_same) (by decide) (by decide)
      · exact el2_pair ((z4.trans z5) _ _ upd_same) (by decide) (by decide)
    obtain ⟨t1, r1, k1⟩ : ∃ tr, PSs ((cxOf CX0 P w K mg base ["_law_runs_here", "_law_number", "_law_at", "_law_some"] "_law_odd_runs" (defScope s_law_odd_runs) f cdv A outer s H E).nox) ((defBody s_law_odd_runs).drop 1) tr ∧
        ∀ (m : Nat) (H1 : Hp), Same H H1 → H1 a = some (.lst xs) → m ≤ xs.length → tr { nx := fun _ H' => Q .non H', rt := Q } [some (.ref a), some (.int (n : Int)), some (.int (m : Int)), none] H1 := by
      obtain ⟨px, q1, q3, e, hsh, le⟩ : ∃ (px q1 q3 : Pos) (e : List PySem.Expr), (defBody s_law_odd_runs)[1]? = some (.Assign [.Name "_law_some" px] (.List e q1) q3) ∧ LitA e (tCons (tTup (tCons (L2.tC (.int 0)) (tCons (L2.tC (.int 3)) tNil))) (tCons (tTup (tCons (tUn (rU fun i => V.int (-i)) (L2.tC (.int 1))) (tCons (L2.tC (.int 3)) tNil))) (tCons (tTup (tCons (L2.tC (.bl true)) (tCons (L2.tC (.int 3)) tNil))) (tCons (tTup (tCons (L2.tC .non) (tCons (L2.tC (.int 3)) tNil))) (tCons (tTup (tCons (L2.tC (.str "2")) (tCons (L2.tC (.int 3)) tNil))) (tCons (tTup (tCons (L2.tC (.int 2)) (tCons (L2.tC (.int 16)) tNil))) (tCons (tTup (tCons (L2.tC (.int 2)) (tCons (tUn (rU fun i => V.int (-i)) (L2.tC (.int 1))) tNil))) (tCons (tTup (tCons (L2.tC (.int 2)) (tCons (L2.tC (.bl true)) tNil))) (tCons (tTup (tCons (L2.tC (.int 2)) (tCons (L2.tC .non) tNil))) (tCons (tTup (tCons (L2.tC (.int 2)) tNil)) (tCons (tTup (tCons (L2.tC (.int 2)) (tCons (L2.tC (.int 3)) (tCons (L2.tC (.int 4)) tNil)))) tNil))))))))))) := ⟨_, _, _, _, rfl, (la_cons (lit_tup (la_cons lit_int (la_cons lit_int la_nil))) (la_cons (lit_tup (la_cons lit_neg (la_cons lit_int la_nil))) (la_cons (lit_tup (la_cons lit_bl (la_cons lit_int la_nil))) (la_cons (lit_tup (la_cons lit_non (la_cons lit_int la_nil))) (la_cons (lit_tup (la_cons lit_str (la_cons lit_int la_nil))) (la_cons (lit_tup (la_cons lit_int (la_cons lit_int la_nil))) (la_cons (lit_tup (la_cons lit_int (la_cons lit_neg la_nil))) (la_cons (lit_tup (la_cons lit_int (la_cons lit_bl la_nil))) (la_cons (lit_tup (la_cons lit_int (la_cons lit_non la_nil))) (la_cons (lit_tup (la_cons lit_int la_nil)) (la_cons (lit_tup (la_cons lit_int (la_cons lit_int (la_cons lit_int la_nil)))) la_nil)))))))))))⟩
      have h1 := ps_set (X := (cxOf CX0 P w K mg base ["_law_runs_here", "_law_number", "_law_at", "_law_some"] "_law_odd_runs" (defScope s_law_odd_runs) f cdv A outer s H E).nox) (i := 3) (x := "_law_some") (pos' := px) (pos := q3) sc_law_odd_runs.nd rfl (by first | exact Or.inl rfl | exact Or.inr rfl) (pe_lst (pos := q1) (le.pa _))
      obtain ⟨bd, hbd⟩ : ∃ bd, bd = defBody s_law_odd_runs := ⟨_, rfl⟩
      rw [← hbd] at hsh r2 ⊢
      have hh := pss_at 2 hsh rfl (@h1) (@r2)
      refine ⟨_, @hh, ?_⟩
      clear hh h1 hsh le hbd
      intro m H1 s1 eA hm
      refine ⟨(by show 2 ≤ sizeLine; decide), fun p0 g0 => ?_⟩
      have z0 := same_new (o := HO.tup [V.int 0, .int 3]) g0
      refine ⟨_, rfl, (by show 2 ≤ sizeLine; decide), fun p1 g1 => ?_⟩
      have z1 := same_new (o := HO.tup [V.int (-1), .int 3]) g1
      refine ⟨(by show 2 ≤ sizeLine; decide), fun p2 g2 => ?_⟩
      have z2 := same_new (o := HO.tup [V.bl true, .int 3]) g2
      refine ⟨(by show 2 ≤ sizeLine; decide), fun p3 g3 => ?_⟩
      have z3 := same_new (o := HO.tup [V.non, .int 3]) g3
      refine ⟨(by show 2 ≤ sizeLine; decide), fun p4 g4 => ?_⟩
      have z4 := same_new (o := HO.tup [V.str "2", .int 3]) g4
      refine ⟨(by show 2 ≤ sizeLine; decide), fun p5 g5 => ?_⟩
      have z5 := same_new (o := HO.tup [V.int 2, .int 16]) g5
      refine ⟨_, rfl, (by show 2 ≤ sizeLine; decide), fun p6 g6 => ?_⟩
      have z6 := same_new (o := HO.tup [V.int 2, .int (-1)]) g6
      refine ⟨(by show 2 ≤ sizeLine; decide), fun p7 g7 => ?_⟩
      have z7 := same_new (o := HO.tup [V.int 2, .bl true]) g7
      refine ⟨(by show 2 ≤ sizeLine; decide), fun p8 g8 => ?_⟩
      have z8 := same_new (o := HO.tup [V.int 2, .non]) g8
      refine ⟨(by show 1 ≤ sizeLine; decide), fun p9 g9 => ?_⟩
      have z9 := same_new (o := HO.tup [V.int 2]) g9
      refine ⟨(by show 3 ≤ sizeLine; decide), fun p10 g10 => ?_⟩
      have z10 := same_new (o := HO.tup [V.int 2, .int 3, .int 4]) g10
      refine ⟨(by show 11 ≤ sizeLine; decide), fun L gL => ?_⟩
      have zL := same_new (o := HO.lst [V.ref p0, .ref p1, .ref p2, .ref p3, .ref p4, .ref p5, .ref p6, .ref p7, .ref p8, .ref p9, .ref p10]) gL
      have y11 := zL
      have y10 := z10.trans y11
      have y9 := z9.trans y10
      have y8 := z8.trans y9
      have y7 := z7.trans y8
      have y6 := z6.trans y7
      have y5 := z5.trans y6
      have y4 := z4.trans y5
      have y3 := z3.trans y4
      have y2 := z2.trans y3
      have y1 := z1.trans y2
      have y0 := z0.trans y1
      have e0 : El2 K _ (.ref p0) := el2_t [.int (0), .int (3)] (y1 _ _ upd_same) (.cons (.int (0) (by decide)) (.cons (.int (3) (by decide)) (.nil))) (by decide) (by simp only [PyData.shownAll, PyData.shown]; decide +kernel)
      have e1 : El2 K _ (.ref p1) := el2_t [.int (-1), .int (3)] (y2 _ _ upd_same) (.cons (.int (-1) (by decide)) (.cons (.int (3) (by decide)) (.nil))) (by decide) (by simp only [PyData.shownAll, PyData.shown]; decide +kernel)
      have e2 : El2 K _ (.ref p2) := el2_t [.bool true, .int (3)] (y3 _ _ upd_same) (.cons (.bl true) (.cons (.int (3) (by decide)) (.nil))) (by decide) (by simp only [PyData.shownAll, PyData.shown]; decide +kernel)
      have e3 : El2 K _ (.ref p3) := el2_t [.none, .int (3)] (y4 _ _ upd_same) (.cons (.non) (.cons (.int (3) (by decide)) (.nil))) (by decide) (by simp only [PyData.shownAll, PyData.shown]; decide +kernel)
      have e4 : El2 K _ (.ref p4) := el2_t [.str "2", .int (3)] (y5 _ _ upd_same) (.cons (.str "2") (.cons (.int (3) (by decide)) (.nil))) (by decide) (by simp only [PyData.shownAll, PyData.shown]; decide +kernel)
      have e5 : El2 K _ (.ref p5) := el2_t [.int (2), .int (16)] (y6 _ _ upd_same) (.cons (.int (2) (by decide)) (.cons (.int (16) (by decide)) (.nil))) (by decide) (by simp only [PyData.shownAll, PyData.shown]; decide +kernel)
      have e6 : El2 K _ (.ref p6) := el2_t [.int (2), .int (-1)] (y7 _ _ upd_same) (.cons (.int (2) (by decide)) (.cons (.int (-1) (by decide)) (.nil))) (by decide) (by simp only [PyData.shownAll, PyData.shown]; decide +kernel)
      have e7 : El2 K _ (.ref p7) := el2_t [.int (2), .bool true] (y8 _ _ upd_same) (.cons (.int (2) (by decide)) (.cons (.bl true) (.nil))) (by decide) (by simp only [PyData.shownAll, PyData.shown]; decide +kernel)
      have e8 : El2 K _ (.ref p8) := el2_t [.int (2), .none] (y9 _ _ upd_same) (.cons (.int (2) (by decide)) (.cons (.non) (.nil))) (by decide) (by simp only [PyData.shownAll, PyData.shown]; decide +kernel)
      have e9 : El2 K _ (.ref p9) := el2_t [.int (2)] (y10 _ _ upd_same) (.cons (.int (2) (by decide)) (.nil)) (by decide) (by simp only [PyData.shownAll, PyData.shown]; decide +kernel)
      have e10 : El2 K _ (.ref p10) := el2_t [.int (2), .int (3), .int (4)] (y11 _ _ upd_same) (.cons (.int (2) (by decide)) (.cons (.int (3) (by decide)) (.cons (.int (4) (by decide)) (.nil)))) (by decide) (by simp only [PyData.shownAll, PyData.shown]; decide +kernel)
      refine k2 m L _ _ (s1.trans y0) (y0 _ _ eA) upd_same ?_ rfl hm
      intro x hx
      simp only [List.mem_cons, List.not_mem_nil, or_false] at hx
      rcases hx with rfl | rfl | rfl | rfl | rfl | rfl | rfl | rfl | rfl | rfl | rfl
      · exact e0
      · exact e1
      · exact e2
      · exact e3
      · exact e4
      · exact e5
      · exact e6
      · exact e7
      · exact e8
      · exact e9
      · exact e10
    refine ⟨_, (pss_cons (ps_set (i := 2) sc_law_odd_runs.nd rfl (by first | exact Or.inl rfl | exact Or.inr rfl) (pe_op op_mod (pe_op op_fdiv (pv 1) pe_int) (pe_op op_add (pe_callB (lenK K rfl) rfl T.len PySem.boot_len (pa_cons (pv 0) pa_nil)) pe_int)))
        (@r1)), ?_⟩
    refine ⟨_, rfl, _, _, rfl, rfl, ⟨by decide, by decide⟩, _, rfl, a, _, rfl, .inl (SqL.of ea), _, _, rfl, rfl, _, _, rfl, rfl, (by show (0 : Int) < ((xs.length : Nat) : Int) + 1; omega), ?_⟩
    obtain ⟨m, em, hm⟩ : ∃ m : Nat, (n : Int) / 16 % (((xs.length : Nat) : Int) + 1) = (m : Int) ∧ m ≤ xs.length := by
      have f0 := Int.emod_nonneg ((n : Int) / 16) (show ((xs.length : Nat) : Int) + 1 ≠ 0 by omega)
      have f1 := Int.emod_lt_of_pos ((n : Int) / 16) (show (0 : Int) < ((xs.length : Nat) : Int) + 1 by omega)
      exact ⟨((n : Int) / 16 % ((xs.length : Int) + 1)).toNat, by omega, by omega⟩
    show gName 2 (.int ((n : Int) / 16 % (((xs.length : Nat) : Int) + 1))) _ _ _
    rw [em]
    exact k1 m H (Same.refl _) ea hm
end
end K20
set_option Elab.async false
set_option linter.all false
set_option maxRecDepth 100000
set_option maxHeartbeats 1600000
namespace K20
open PySem L2 M4
theorem wordB {P : Program} {w : World} {K : PySem.W.Frag} {mg : Str → Option Value} {base : Heap} {k : Nat} {f : Addr} {fd : FuncData} {ps : List Str} {s1 s2 : Addr → Sp} (a : FnOkM P w K mg base k f fd ps s1) (b : FnOkM P w K mg base k f fd ps s2) : FnOkM P w K mg base k f fd ps (fun ea vs H Q E => s1 ea vs H Q E ∨ s2 ea vs H Q E) :=
  ⟨fun ea vs H Q E h => h.elim (a.len ea vs H Q E) (b.len ea vs H Q E), fun A ea outer s H args us vs Q E r e bn v h => h.elim (a.run A ea outer s H args us vs Q E r e bn v) (b.run A ea outer s H args us vs Q E r e bn v)⟩
noncomputable abbrev spWordB (cC cP ea : Addr) : Sp := fun vs H Q E => spWord cC ea vs H Q E ∨ spWordR cP ea vs H Q E
noncomputable def spBent : Sp := fun vs H Q _ => ∃ (tx : Str) (n : Nat), vs = [.str tx, .int (n : Int)] ∧ tx.length ≤ 2400 ∧ ∀ t H', t.length ≤ 5000 → Same H H' → Q (.str t) H'
noncomputable def lstR (H : Hp) (L : Addr) : Prop := H L = some (.lst [.str "runs"])
inductive Ask (K : PySem.W.Frag) (H : Hp) (v : V) (Q : VK) : Int → Prop
  | w0 : TRs K H v → (∀ rs, IsRs H v rs → ∀ L l H', Same H H' → H' L = some (.lst [.str "told", .ref l]) → H' l = some (.lst ((xp rs).map V.int)) → Q (.ref L) H') → ((∀ rs, ¬ IsRs H v rs) → ∀ L H', Same H H' → lstR H' L → Q (.ref L) H') → Ask K H v Q 0
  | w1 : Kd K H v → (∀ t, v = .str t → t.length ≤ 5000) → (∀ (t : Str) (rs : Rs), v = .str t → progT t.cps.toList = some rs → ∀ L l xs H', Same H H' → H' L = some (.lst [.str "told", .ref l]) → H' l = some (.lst xs) → RunL H' xs rs → Q (.ref L) H') → ((∀ t : Str, v = .str t → progT t.cps.toList = none) → ∀ L H', Same H H' → lstR H' L → Q (.ref L) H') → Ask K H v Q 1
  | w2 : TRs K H v → (∀ rs, IsRs H v rs → ∀ L H', Same H H' → H' L = some (.lst [.str "told", .str (txS rs)]) → Q (.ref L) H') → ((∀ rs, ¬ IsRs H v rs) → ∀ L H', Same H H' → lstR H' L → Q (.ref L) H') → Ask K H v Q 2
  | w3 : TCs K H v → cellsB H v 576 = false → (∀ L H', Same H H' → H' L = some (.lst [.str "cell"]) → Q (.ref L) H') → Ask K H v Q 3
noncomputable def spAsk (K : PySem.W.Frag) : Sp := fun vs H Q _ => ∃ (w : Int) (v : V), vs = [.int w, v] ∧ Ask K H v Q w
theorem cells_yes {H : Hp} {a : Addr} {cs : List Int} (e : H a = some (.lst (cs.map V.int))) (h : Cells cs) (hl : cs.length ≤ 576) : cellsB H (.ref a) 576 = true := by
  unfold cellsB
  rw [rowOf_lst e]
  show ((cs.map V.int).all (isWh 0 15) && decide ((((cs.map V.int).length : Nat) : Int) ≤ 576)) = true
  have : (cs.map V.int).all (isWh 0 15) = true := by
    rw [List.all_eq_true]
    intro x hx
    obtain ⟨i, hi, rfl⟩ := List.mem_map.mp hx
    have := h i hi
    simp only [isWh, Bool.and_eq_true, decide_eq_true_eq]; omega
  rw [this, List.length_map, decide_eq_true (by omega)]; rfl
section
variable {P : Program} {w : World} {K : PySem.W.Frag} {mg : Str → Option Value} {base : Heap} {cFE cC cP : Addr} {tC tL tG tB : Tok}
theorem sc_law_bent : FnScope ["_law_text_here", "_law_number", "_law_some", "_law_table", "_law_sign", "_law_at", "_law_odd"] ["_law_text_here", "_law_number"] (defScope s_law_bent) := ⟨rfl, rfl, rfl, by decide +kernel, rfl, by decide +kernel, by decide +kernel⟩
theorem ok_law_bent {f : Addr} {fd : FuncData} (F : FunD K "_law_bent" "_law_bent" s_law_bent .none f fd) (T : Txt K mg cFE cC cP tC tL tG tB) : FnOk P w K mg base CX0 1 f fd ["_law_text_here", "_law_number"] (spBent) := by
  refine F.ok sc_law_bent (fun vs H Q E h => ?_) (fun cdv A outer s H vs Q E hr h => ?_)
  · obtain ⟨t, n, rfl, _⟩ := h; rfl
  · obtain ⟨tx, n, rfl, hl, k⟩ := h
    have hz : tx.length ≤ sizeLine := Nat.le_trans hl (by decide)
    obtain ⟨t5, r5, k5⟩ : ∃ tr, PSs ((cxOf CX0 P w K mg base ["_law_text_here", "_law_number", "_law_some", "_law_table", "_law_sign", "_law_at", "_law_odd"] "_law_bent" (defScope s_law_bent) f cdv A outer s H E).nox) ((defBody s_law_bent).drop 5) tr ∧
        ∀ (S Tb : Str) (c : Nat) (at_ : Int) (H1 : Hp), Same H H1 → tr { nx := fun _ H' => Q .non H', rt := Q } [some (.str tx), some (.int (n : Int)), some (.str S), some (.str Tb), some (.str ⟨#[c]⟩), some (.int at_), none] H1 := by
      have r6 : PSs ((cxOf CX0 P w K mg base ["_law_text_here", "_law_number", "_law_some", "_law_table", "_law_sign", "_law_at", "_law_odd"] "_law_bent" (defScope s_law_bent) f cdv A outer s H E).nox) ((defBody s_law_bent).drop 6) _ := (pss_cons (ps_expr (pe_bm PySem.F.plainAttrs_list PySem.F.slot_list_append PySem.F.type_list_append mt_append (pv 6) (pa_cons (pe_op op_add_str (pe_op op_mulS pe_str pe_int) pe_str) pa_nil)))
        (pss_cons (ps_if (pt_cmpR op_eq (pe_op op_mod (pe_op op_fdiv (pv 1) pe_int) pe_int) pe_int (nomark _)) (pss_one (ps_ret (pe_ix (ixK K rfl) (pv 6) (pe_op op_mod (pe_op op_fdiv (pv 1) pe_int) pe_int) (fun _ _ => rfl)))) pss_nil)
        (pss_cons (ps_if (pt_cmpR op_eq (pe_op op_mod (pe_op op_fdiv (pv 1) pe_int) pe_int) pe_int (nomark _)) (pss_one (ps_ret (pe_op op_add_str (pe_slice sl_str (pv 0) po_none (po_some (pv 5))) (pe_slice sl_str (pv 0) (po_some (pe_op op_add (pv 5) pe_int)) po_none)))) pss_nil)
        (pss_cons (ps_if (pt_cmpR op_eq (pe_op op_mod (pe_op op_fdiv (pv 1) pe_int) pe_int) pe_int (nomark _)) (pss_one (ps_ret (pe_op op_add_str (pe_op op_add_str (pe_slice sl_str (pv 0) po_none (po_some (pv 5))) (pv 4)) (pe_slice sl_str (pv 0) (po_some (pe_op op_add (pv 5) pe_int)) po_none)))) pss_nil)
        (pss_one (ps_ret (pe_op op_add_str (pe_op op_add_str (pe_slice sl_str (pv 0) po_none (po_some (pv 5))) (pv 4)) (pe_slice sl_str (pv 0) (po_some (pv 5)) po_none))))))))
      obtain ⟨px, q1, q3, e, hsh, le⟩ : ∃ (px q1 q3 : Pos) (e : List PySem.Expr), (defBody s_law_bent)[5]? = some (.Assign [.Name "_law_odd" px] (.List e q1) q3) ∧ LitA e (tCons (L2.tC (.str "1a")) (tCons (L2.tC (.str "0a")) (tCons (L2.tC (.str "02a")) (tCons (L2.tC (.str "aa")) (tCons (L2.tC (.str "2a3a")) (tCons (L2.tC (.str "577a")) (tCons (L2.tC (.str "2")) (tCons (L2.tC (.str "a2")) (tCons (L2.tC (.str "2 a")) (tCons (L2.tC (.str "")) (tCons (L2.tC (.str "576p")) (tCons (L2.tC (.str "1000000b")) (tCons (L2.tC (.str "3aA")) tNil))))))))))))) := ⟨_, _, _, _, rfl, (la_cons lit_str (la_cons lit_str (la_cons lit_str (la_cons lit_str (la_cons lit_str (la_cons lit_str (la_cons lit_str (la_cons lit_str (la_cons lit_str (la_cons lit_str (la_cons lit_str (la_cons lit_str (la_cons lit_str la_nil)))))))))))))⟩
      have h1 := ps_set (X := (cxOf CX0 P w K mg base ["_law_text_here", "_law_number", "_law_some", "_law_table", "_law_sign", "_law_at", "_law_odd"] "_law_bent" (defScope s_law_bent) f cdv A outer s H E).nox) (i := 6) (x := "_law_odd") (pos' := px) (pos := q3) sc_law_bent.nd rfl (by first | exact Or.inl rfl | exact Or.inr rfl) (pe_lst (pos := q1) (le.pa _))
      obtain ⟨bd, hbd⟩ : ∃ bd, bd = defBody s_law_bent := ⟨_, rfl⟩
      rw [← hbd] at hsh r6 ⊢
      have hh := pss_at 6 hsh rfl (@h1) (@r6)
      refine ⟨_, @hh, ?_⟩
      clear hh h1 hsh le hbd r6
      intro S Tb c at_ H1 s1
      refine ⟨(by show 13 ≤ sizeLine; decide), fun O gO => ?_⟩
      have zO := same_new (o := HO.lst [V.str "1a", .str "0a", .str "02a", .str "aa", .str "2a3a", .str "577a", .str "2", .str "a2", .str "2 a", .str "", .str "576p", .str "1000000b", .str "3aA"]) gO
      have eO : upd H1 O (HO.lst [V.str "1a", .str "0a", .str "02a", .str "aa", .str "2a3a", .str "577a", .str "2", .str "a2", .str "2 a", .str "", .str "576p", .str "1000000b", .str "3aA"]) O = some (.lst [V.str "1a", .str "0a", .str "02a", .str "aa", .str "2a3a", .str "577a", .str "2", .str "a2", .str "2 a", .str "", .str "576p", .str "1000000b", .str "3aA"]) := upd_same
      have fO : H O = none := s1.free gO
      have sO := s1.trans zO
      show tSeq _ _ _ _ (upd H1 O (HO.lst [V.str "1a", .str "0a", .str "02a", .str "aa", .str "2a3a", .str "577a", .str "2", .str "a2", .str "2 a", .str "", .str "576p", .str "1000000b", .str "3aA"]))
      generalize upd H1 O (HO.lst [V.str "1a", .str "0a", .str "02a", .str "aa", .str "2a3a", .str "577a", .str "2", .str "a2", .str "2 a", .str "", .str "576p", .str "1000000b", .str "3aA"]) = H2 at eO sO ⊢
      refine ⟨_, rfl, .inl ⟨rfl, _, SqL.of eO⟩, _, _, rfl, rfl, rfl, ⟨by decide, by decide⟩, fun z hz7 => ?_⟩
      have hz7 : z.length = 4000 := hz7
      refine ⟨_, _, rfl, rfl, Nat.le_trans (by rw [hz7]; show 4000 + 1 ≤ 30000; decide) (by decide), O, _, _, rfl, rfl, eO, (by show 13 < sizeLine; decide), ?_⟩
      have s3 := same_upd (o := HO.lst ([V.str "1a", .str "0a", .str "02a", .str "aa", .str "2a3a", .str "577a", .str "2", .str "a2", .str "2 a", .str "", .str "576p", .str "1000000b", .str "3aA"] ++ [.str (z ++ "c")])) sO fO
      have e3 : upd H2 O (HO.lst ([V.str "1a", .str "0a", .str "02a", .str "aa", .str "2a3a", .str "577a", .str "2", .str "a2", .str "2 a", .str "", .str "576p", .str "1000000b", .str "3aA"] ++ [.str (z ++ "c")])) O = some (.lst ([V.str "1a", .str "0a", .str "02a", .str "aa", .str "2a3a", .str "577a", .str "2", .str "a2", .str "2 a", .str "", .str "576p", .str "1000000b", .str "3aA"] ++ [.str (z ++ "c")])) := upd_same
      show tSeq _ _ _ _ (upd H2 O (HO.lst ([V.str "1a", .str "0a", .str "02a", .str "aa", .str "2a3a", .str "577a", .str "2", .str "a2", .str "2 a", .str "", .str "576p", .str "1000000b", .str "3aA"] ++ [.str (z ++ "c")])))
      generalize upd H2 O (HO.lst ([V.str "1a", .str "0a", .str "02a", .str "aa", .str "2a3a", .str "577a", .str "2", .str "a2", .str "2 a", .str "", .str "576p", .str "1000000b", .str "3aA"] ++ [.str (z ++ "c")])) = H3 at e3 s3 ⊢
      have q1 := Txt.slice_le tx none (some at_)
      have q2 := Txt.slice_le tx (some at_) none
      have q3 := Txt.slice_le tx (some (at_ + 1)) none
      have one : (⟨#[c]⟩ : Str).length = 1 := rfl
      refine ⟨_, rfl, _, _, rfl, rfl, ⟨by decide, by decide⟩, _, _, rfl, rfl, (by show (0 : Int) < 5; decide), rfl, _, rfl, iteB (fun _ => ?_) (fun _ => ?_)⟩
      · obtain ⟨x, hx, ax⟩ := at_mod (xs := [V.str "1a", .str "0a", .str "02a", .str "aa", .str "2a3a", .str "577a", .str "2", .str "a2", .str "2 a", .str "", .str "576p", .str "1000000b", .str "3aA"] ++ [.str (z ++ "c")]) (m := (n : Int) / 64) 14 rfl (by decide)
        have hx2 : ∃ t : Str, x = .str t ∧ t.length ≤ 5000 := by
          simp only [List.cons_append, List.nil_append, List.mem_cons, List.not_mem_nil, or_false] at hx
          rcases hx with rfl | rfl | rfl | rfl | rfl | rfl | rfl | rfl | rfl | rfl | rfl | rfl | rfl | rfl
          · exact ⟨_, rfl, by decide +kernel⟩
          · exact ⟨_, rfl, by decide +kernel⟩
          · exact ⟨_, rfl, by decide +kernel⟩
          · exact ⟨_, rfl, by decide +kernel⟩
          · exact ⟨_, rfl, by decide +kernel⟩
          · exact ⟨_, rfl, by decide +kernel⟩
          · exact ⟨_, rfl, by decide +kernel⟩
          · exact ⟨_, rfl, by decide +kernel⟩
          · exact ⟨_, rfl, by decide +kernel⟩
          · exact ⟨_, rfl, by decide +kernel⟩
          · exact ⟨_, rfl, by decide +kernel⟩
          · exact ⟨_, rfl, by decide +kernel⟩
          · exact ⟨_, rfl, by decide +kernel⟩
          · exact ⟨_, rfl, by rw [app_len, hz7]; show 4000 + 1 ≤ 5000; decide⟩
        obtain ⟨t, rfl, ht⟩ := hx2
        exact ⟨_, rfl, _, rfl, _, _, rfl, rfl, ⟨by decide, by decide⟩, _, _, rfl, rfl, (by show (0 : Int) < 14; decide), O, _, _, _, rfl, rfl, SqL.of e3, ax, k t H3 ht s3⟩
      refine ⟨_, rfl, _, _, rfl, rfl, ⟨by decide, by decide⟩, _, _, rfl, rfl, (by show (0 : Int) < 5; decide), rfl, _, rfl, iteB (fun _ => ?_) (fun _ => ?_)⟩
      · exact ⟨_, rfl, _, rfl, _, rfl, tx, rfl, hz, _, rfl, _, rfl, _, _, rfl, rfl, _, rfl, tx, rfl, hz, _, _, rfl, rfl, Nat.le_trans (by omega : _ ≤ 30000) (by decide), k _ H3 (by rw [app_len]; omega) s3⟩
      refine ⟨_, rfl, _, _, rfl, rfl, ⟨by decide, by decide⟩, _, _, rfl, rfl, (by show (0 : Int) < 5; decide), rfl, _, rfl, iteB (fun _ => ?_) (fun _ => ?_)⟩
      · exact ⟨_, rfl, _, rfl, _, rfl, tx, rfl, hz, _, rfl, _, _, rfl, rfl, Nat.le_trans (by omega : _ ≤ 30000) (by decide), _, rfl, _, rfl, _, _, rfl, rfl, _, rfl, tx, rfl, hz, _, _, rfl, rfl, (by rw [app_len]; exact Nat.le_trans (by omega : _ ≤ 30000) (by decide)), k _ H3 (by rw [app_len, app_len]; omega) s3⟩
      · exact ⟨_, rfl, _, rfl, _, rfl, tx, rfl, hz, _, rfl, _, _, rfl, rfl, Nat.le_trans (by omega : _ ≤ 30000) (by decide), _, rfl, _, rfl, _, rfl, tx, rfl, hz, _, _, rfl, rfl, (by rw [app_len]; exact Nat.le_trans (by omega : _ ≤ 30000) (by decide)), k _ H3 (by rw [app_len, app_len]; omega) s3⟩
    obtain ⟨t2, r2, k2⟩ : ∃ tr, PSs ((cxOf CX0 P w K mg base ["_law_text_here", "_law_number", "_law_some", "_law_table", "_law_sign", "_law_at", "_law_odd"] "_law_bent" (defScope s_law_bent) f cdv A outer s H E).nox) ((defBody s_law_bent).drop 2) tr ∧
        ∀ S : Str, 0 < S.length → S.length ≤ 1000 → tr { nx := fun _ H' => Q .non H', rt := Q } [some (.str tx), some (.int (n : Int)), some (.str S), none, none, none, none] H := by
      refine ⟨_, (pss_cons (ps_set (i := 3) sc_law_bent.nd rfl (by first | exact Or.inl rfl | exact Or.inr rfl) (pe_ix (ixK K rfl) (pe_lst (pa_cons (pv 2) (pa_cons pe_str (pa_cons pe_str pa_nil)))) (pe_op op_mod (pv 1) pe_int) (fun _ _ => rfl)))
        (pss_cons (ps_set (i := 4) sc_law_bent.nd rfl (by first | exact Or.inl rfl | exact Or.inr rfl) (pe_ix ix_str (pv 3) (pe_op op_mod (pe_op op_fdiv (pv 1) pe_int) (pe_callB call_len_str rfl T.len PySem.boot_len (pa_cons (pv 3) pa_nil))) (fun _ _ => rfl)))
        (pss_cons (ps_set (i := 5) sc_law_bent.nd rfl (by first | exact Or.inl rfl | exact Or.inr rfl) (pe_op op_mod (pe_op op_fdiv (pv 1) pe_int) (pe_op op_add (pe_callB call_len_str rfl T.len PySem.boot_len (pa_cons (pv 0) pa_nil)) pe_int)))
        (@r5)))), ?_⟩
      intro S S0 S1
      obtain ⟨Tb, hT, T0, T1⟩ : ∃ T : Str, atI [V.str S, .str "0123456789abcdefghijklmnop", .str "0123456789"] ((n : Int) % 3) = some (.str T) ∧ 0 < T.length ∧ T.length ≤ 1000 := by
        have e : (n : Int) % 3 = ((0 : Nat) : Int) ∨ (n : Int) % 3 = ((1 : Nat) : Int) ∨ (n : Int) % 3 = ((2 : Nat) : Int) := by omega
        rcases e with e | e | e <;> rw [e]
        · exact ⟨S, atI_nat rfl, S0, S1⟩
        · exact ⟨_, atI_nat rfl, by decide +kernel, by decide +kernel⟩
        · exact ⟨_, atI_nat rfl, by decide +kernel, by decide +kernel⟩
      obtain ⟨c, hc⟩ : ∃ c, atI Tb.cps.toList ((n : Int) / 64 % (Tb.length : Int)) = some c := by
        obtain ⟨j, ej⟩ : ∃ j : Nat, (n : Int) / 64 % (Tb.length : Int) = (j : Int) := ⟨n / 64 % Tb.length, by push_cast; rfl⟩
        have hj := Int.emod_lt_of_pos ((n : Int) / 64) (show (0 : Int) < (Tb.length : Int) by omega)
        rw [ej] at hj ⊢
        have hj : j < Tb.cps.toList.length := by
          show j < Tb.cps.size
          exact Int.ofNat_lt.mp hj
        exact ⟨_, atI_nat (List.getElem?_eq_getElem hj)⟩
      refine ⟨_, rfl, (by show 3 ≤ sizeLine; decide), fun p hp => ?_⟩
      have z := same_new (o := HO.lst [V.str S, .str "0123456789abcdefghijklmnop", .str "0123456789"]) hp
      refine ⟨_, rfl, _, _, rfl, rfl, (by show (0 : Int) < 3; decide), p, _, _, _, rfl, rfl, SqL.of upd_same, hT, ?_⟩
      have hTz : Tb.length ≤ sizeLine := Nat.le_trans T1 (by decide)
      refine ⟨_, rfl, _, rfl, _, _, rfl, rfl, ⟨by decide, by decide⟩, _, rfl, Tb, rfl, hTz, _, _, rfl, rfl, (by show (0 : Int) < (Tb.length : Int); omega), Tb, _, c, rfl, rfl, hTz, hc, ?_⟩
      refine ⟨_, rfl, _, _, rfl, rfl, ⟨by decide, by decide⟩, _, rfl, tx, rfl, hz, _, _, rfl, rfl, _, _, rfl, rfl, (by show (0 : Int) < (tx.length : Int) + 1; omega), ?_⟩
      exact k5 S Tb c _ _ z
    refine ⟨_, (pss_cons (ps_set (i := 2) sc_law_bent.nd rfl (by first | exact Or.inl rfl | exact Or.inr rfl) pe_str)
        (pss_cons (ps_set (i := 2) sc_law_bent.nd rfl (by first | exact Or.inl rfl | exact Or.inr rfl) (pe_op op_add_str (pv 2) pe_str))
        (@r2))), ?_⟩
    exact ⟨_, rfl, _, _, rfl, rfl, by decide +kernel, k2 _ (by decide +kernel) (by decide +kernel)⟩
theorem sc_law_asked : FnScope ["_law_way", "_law_thing", "_law_e"] ["_law_way", "_law_thing"] (defScope s_law_asked) := ⟨rfl, rfl, rfl, by decide +kernel, rfl, by decide +kernel, by decide +kernel⟩
theorem ok_law_asked {f : Addr} {fd : FuncData} (F : FunD K "_law_asked" "_law_asked" s_law_asked .none f fd) (T : Txt K mg cFE cC cP tC tL tG tB) (g_cells_by_runs : DefX P w K mg base 8 "cells_by_runs" ["runs"] [] (spCBR K cP)) (g_runs_by_text : DefX P w K mg base 9 "runs_by_text" ["text"] [] (spRBT K cP)) (g_runs_text : DefX P w K mg base 8 "runs_text" ["runs"] [] (spRTx K cP)) (g_runs_of : DefX P w K mg base 7 "runs_of" ["cells"] [] (spRO K cC)) (g__law_word : DefM P w K mg base 2 "_law_word" ["_law_e"] [] (spWordB cC cP)) : FnOk P w K mg base CX0 10 f fd ["_law_way", "_law_thing"] (spAsk K) := by
  refine F.ok sc_law_asked (fun vs H Q E h => ?_) (fun cdv A outer s H vs Q E hr h => ?_)
  · obtain ⟨w, v, rfl, _⟩ := h; rfl
  · obtain ⟨w, v, rfl, hask⟩ := h
    have hr1 : Room 2 _ := hr.mono (by decide)
    refine ⟨_, (pss_one (ps_tryG (i := 2) sc_law_asked.nd rfl rfl rfl T.FolioError rfl rfl (fun pn XE R hx => (pss_cons (ps_if (pt_cmpR op_eq (pv 0) pe_int (nomark _)) (pss_one (ps_ret (pe_lst (pa_cons pe_str (pa_cons (pe_callX g_cells_by_runs (hr.mono (by decide)) hx rfl (pa_cons (pv 1) pa_nil)) pa_nil))))) pss_nil)
        (pss_cons (ps_if (pt_cmpR op_eq (pv 0) pe_int (nomark _)) (pss_one (ps_ret (pe_lst (pa_cons pe_str (pa_cons (pe_callX g_runs_by_text (hr.mono (by decide)) hx rfl (pa_cons (pv 1) pa_nil)) pa_nil))))) pss_nil)
        (pss_cons (ps_if (pt_cmpR op_eq (pv 0) pe_int (nomark _)) (pss_one (ps_ret (pe_lst (pa_cons pe_str (pa_cons (pe_callX g_runs_text (hr.mono (by decide)) hx rfl (pa_cons (pv 1) pa_nil)) pa_nil))))) pss_nil)
        (pss_one (ps_ret (pe_lst (pa_cons pe_str (pa_cons (pe_callX g_runs_of (hr.mono (by decide)) hx rfl (pa_cons (pv 1) pa_nil)) pa_nil))))))))) (fun ea => (pss_one (ps_ret (pe_callTy (listK K rfl) rfl T.list PyProof.Rows.boot_list (pa_cons (pe_callM g__law_word hr1 rfl (pa_cons (pv 2) pa_nil)) pa_nil))))))), ?_⟩
    cases hask with
    | w0 t kY kN =>
      refine ⟨_, rfl, rfl, _, rfl, ?_⟩
      refine ⟨_, rfl, v, rfl, t, fun rs h l H1 s1 hl el => ⟨(by show 2 ≤ sizeLine; decide), fun L gL => ?_⟩, fun hno H3 s3 => ⟨cP, rfl, T.eP, fun ea hea => ?_⟩⟩
      · have z := same_new (o := HO.lst [V.str "told", .ref l]) gL
        exact kY rs h L l _ (s1.trans z) upd_same (z _ _ el)
      · have s4 := s3.trans (same_new (o := ExcO ea cP) hea)
        exact ⟨_, rfl, .inr ⟨rfl, upd_same, fun t5 H5 s5 ht et => ⟨t5, _, rfl, .inr (SqT.of et), fun L hL => kN hno L _ ((s4.trans s5).trans (same_new hL)) upd_same⟩⟩⟩
    | w1 kd hl kY kN =>
      refine ⟨_, rfl, rfl, _, rfl, _, rfl, rfl, _, rfl, ?_⟩
      refine ⟨_, rfl, v, rfl, kd, hl, fun t rs e hp l xs H1 s1 hl1 el rl => ⟨(by show 2 ≤ sizeLine; decide), fun L gL => ?_⟩, fun hno H3 s3 => ⟨cP, rfl, T.eP, fun ea hea => ?_⟩⟩
      · have z := same_new (o := HO.lst [V.str "told", .ref l]) gL
        exact kY t rs e hp L l xs _ (s1.trans z) upd_same (z _ _ el) (rl.mono z)
      · have s4 := s3.trans (same_new (o := ExcO ea cP) hea)
        exact ⟨_, rfl, .inr ⟨rfl, upd_same, fun t5 H5 s5 ht et => ⟨t5, _, rfl, .inr (SqT.of et), fun L hL => kN hno L _ ((s4.trans s5).trans (same_new hL)) upd_same⟩⟩⟩
    | w2 t kY kN =>
      refine ⟨_, rfl, rfl, _, rfl, _, rfl, rfl, _, rfl, _, rfl, rfl, _, rfl, ?_⟩
      refine ⟨_, rfl, v, rfl, t, fun rs h H1 s1 => ⟨(by show 2 ≤ sizeLine; decide), fun L gL => ?_⟩, fun hno H3 s3 => ⟨cP, rfl, T.eP, fun ea hea => ?_⟩⟩
      · have z := same_new (o := HO.lst [V.str "told", .str (txS rs)]) gL
        exact kY rs h L _ (s1.trans z) upd_same
      · have s4 := s3.trans (same_new (o := ExcO ea cP) hea)
        exact ⟨_, rfl, .inr ⟨rfl, upd_same, fun t5 H5 s5 ht et => ⟨t5, _, rfl, .inr (SqT.of et), fun L hL => kN hno L _ ((s4.trans s5).trans (same_new hL)) upd_same⟩⟩⟩
    | w3 t hb k =>
      refine ⟨_, rfl, rfl, _, rfl, _, rfl, rfl, _, rfl, _, rfl, rfl, _, rfl, ?_⟩
      refine ⟨_, rfl, v, rfl, t, fun a cs e ea hc hl => ?_, fun _ H3 s3 => ⟨cC, rfl, T.eC, fun ea hea => ?_⟩⟩
      · subst e; rw [cells_yes ea hc hl] at hb; cases hb
      · have s4 := s3.trans (same_new (o := ExcO ea cC) hea)
        exact ⟨_, rfl, .inl ⟨rfl, upd_same, fun t5 H5 s5 ht et => ⟨t5, _, rfl, .inr (SqT.of et), fun L hL => k L _ ((s4.trans s5).trans (same_new hL)) upd_same⟩⟩⟩
end
end K20
set_option Elab.async false
set_option linter.all false
set_option maxRecDepth 100000
set_option maxHeartbeats 1600000
namespace K20
open PySem L2 M4
theorem tcs_of {K : PySem.W.Frag} {H : Hp} {a : Addr} {cs : List Int} (e : H a = some (.lst (cs.map V.int))) (hl : cs.length ≤ 576) : TCs K H (.ref a) := by
  refine ⟨.lst e, fun xs h => ?_, fun xs h x hx => ?_⟩
  · rw [rowOf_lst e] at h; cases h
    rw [List.length_map]; omega
  · rw [rowOf_lst e] at h; cases h
    obtain ⟨i, _, rfl⟩ := List.mem_map.mp hx
    exact .int i
theorem prog_txt {rs : Rs} (o : okRs rs = true) : progT (txS rs).cps.toList = some rs := by
  show progT (txL rs) = some rs
  unfold progT
  rw [rd_txt fun r hr => run_in o hr, if_pos ⟨o, rfl⟩]
theorem txS_le {rs : Rs} (o : okRs rs = true) : (txS rs).length ≤ 2400 := by
  rw [str_len]
  show (txL rs).length ≤ 2400
  have := txL_len (rs := rs) fun r hr => (run_in o hr).2.1
  have := okRs_len o
  omega
theorem runs_cells {cs : List Int} (hc : Cells cs) (hl : cs.length ≤ 576) : okRs (runsL cs) = true := runs_ok hc hl
theorem eqOne {K : PySem.W.Frag} {H : Hp} {p q : Addr} {x : Str} (e1 : H p = some (.lst [.str x])) (e2 : H q = some (.lst [.str x])) : EqL K H (EqD K H 0) p q true :=
  EqL.same (.inl ⟨SqL.of e1, SqL.of e2⟩) fun z hz => by rw [List.mem_singleton.mp hz]; exact .inl rfl
inductive Look (K : PySem.W.Frag) (H : Hp) (v d : V) : Int → Prop
  | a0 (rs : Rs) (p : Addr) : TRs K H v → IsRs H v rs → d = .ref p → H p = some (.lst ((xp rs).map V.int)) → Look K H v d 0
  | n0 : TRs K H v → (∀ rs, ¬ IsRs H v rs) → d = .non → Look K H v d 0
  | a1 (t : Str) (rs : Rs) (p : Addr) (ys : List V) : v = .str t → t.length ≤ 5000 → progT t.cps.toList = some rs → d = .ref p → H p = some (.lst ys) → RunL H ys rs → Look K H v d 1
  | n1 (t : Str) : v = .str t → t.length ≤ 5000 → progT t.cps.toList = none → d = .non → Look K H v d 1
noncomputable def spLook (K : PySem.W.Frag) : Sp := fun vs H Q _ => ∃ (w : Int) (v d : V), vs = [.int w, v, d] ∧ Look K H v d w ∧ ∀ H', Same H H' → Q (.bl true) H'
noncomputable def spGood (K : PySem.W.Frag) : Sp := fun vs H Q _ => ∃ (a : Addr) (cs : List Int), vs = [.ref a] ∧ H a = some (.lst (cs.map V.int)) ∧ Cells cs ∧ cs.length ≤ 576 ∧ ∀ H', Same H H' → Q (.bl true) H'
theorem prog_ok {t : List Nat} {rs : Rs} (h : progT t = some rs) : okRs rs = true := by
  unfold progT at h
  split at h
  · rename_i z; cases h; exact z.1
  · cases h
section
variable {P : Program} {w : World} {K : PySem.W.Frag} {mg : Str → Option Value} {base : Heap} {cFE cC cP : Addr} {tC tL tG tB : Tok}
theorem sc_law_good : FnScope ["_law_cells_here", "_law_runs_here", "_law_text_here", "_law_handed", "_law_found"] ["_law_cells_here"] (defScope s_law_good) := ⟨rfl, rfl, rfl, by decide +kernel, rfl, by decide +kernel, by decide +kernel⟩
theorem ok_law_good {f : Addr} {fd : FuncData} (F : FunD K "_law_good" "_law_good" s_law_good .none f fd) (T : Txt K mg cFE cC cP tC tL tG tB) (g__law_runs : Def P w K mg base 1 "_law_runs" ["_law_cells_here"] [] (spLR K)) (g__law_text : Def P w K mg base 1 "_law_text" ["_law_runs_here"] [] (spLTx K)) (g_runs_of : DefX P w K mg base 7 "runs_of" ["cells"] [] (spRO K cC)) (g__law_kinds : Def P w K mg base 2 "_law_kinds" ["_law_found", "_law_due"] [] (spKinds K)) (g_cells_by_runs : DefX P w K mg base 8 "cells_by_runs" ["runs"] [] (spCBR K cP)) (g_runs_text : DefX P w K mg base 8 "runs_text" ["runs"] [] (spRTx K cP)) (g_runs_by_text : DefX P w K mg base 9 "runs_by_text" ["text"] [] (spRBT K cP)) : FnOk P w K mg base CX0 10 f fd ["_law_cells_here"] (spGood K) := by
  refine F.ok sc_law_good (fun vs H Q E h => ?_) (fun cdv A outer s H vs Q E hr h => ?_)
  · obtain ⟨a, cs, rfl, _⟩ := h; rfl
  · obtain ⟨a, cs, rfl, ea, hc, hl, k⟩ := h
    have hu : _ + 64 < cLine := hr.units
    have o := runs_cells hc hl
    have lr := okRs_len o
    refine ⟨_, (pss_cons (ps_set (i := 1) sc_law_good.nd rfl (by first | exact Or.inl rfl | exact Or.inr rfl) (pe_callD g__law_runs (hr.mono (by decide)) rfl (pa_cons (pv 0) pa_nil)))
        (pss_cons (ps_set (i := 2) sc_law_good.nd rfl (by first | exact Or.inl rfl | exact Or.inr rfl) (pe_callD g__law_text (hr.mono (by decide)) rfl (pa_cons (pv 1) pa_nil)))
        (pss_cons (ps_set (i := 3) sc_law_good.nd rfl (by first | exact Or.inl rfl | exact Or.inr rfl) (pe_callTy (listK K rfl) rfl T.list PyProof.Rows.boot_list (pa_cons (pv 0) pa_nil)))
        (pss_cons (ps_set (i := 4) sc_law_good.nd rfl (by first | exact Or.inl rfl | exact Or.inr rfl) (pe_callX g_runs_of (hr.mono (by decide)) passF rfl (pa_cons (pv 3) pa_nil)))
        (pss_cons (ps_if (PW.pt (pw_or (pt_not (pt_val (pe_callD g__law_kinds (hr.mono (by decide)) rfl (pa_cons (pv 4) (pa_cons (pv 1) pa_nil))))) (pw_or (pt_cmpR (neDK K rfl hu) (pv 3) (pv 0) (nomark _)) (pw_or1 (pt_not (pt_val (pe_callD g__law_kinds (hr.mono (by decide)) rfl (pa_cons (pe_callX g_cells_by_runs (hr.mono (by decide)) passF rfl (pa_cons (pv 4) pa_nil)) (pa_cons (pv 0) pa_nil))))))))) (pss_one (ps_ret pe_bl)) pss_nil)
        (pss_cons (ps_if (PW.pt (pw_or (pt_cmpR (neDK K rfl hu) (pv 4) (pv 1) (nomark _)) (pw_or (pt_cmpR op_ne (pe_callX g_runs_text (hr.mono (by decide)) passF rfl (pa_cons (pv 4) pa_nil)) (pv 2) (nomark _)) (pw_or1 (pt_not (pt_val (isiK K rfl (pe_callX g_runs_text (hr.mono (by decide)) passF rfl (pa_cons (pv 4) pa_nil)) rfl T.isinstance rfl T.str PyProof.Rows.boot_str))))))) (pss_one (ps_ret pe_bl)) pss_nil)
        (pss_cons (ps_if (pt_not (pt_val (pe_callD g__law_kinds (hr.mono (by decide)) rfl (pa_cons (pe_callX g_runs_by_text (hr.mono (by decide)) passF rfl (pa_cons (pv 2) pa_nil)) (pa_cons (pv 1) pa_nil))))) (pss_one (ps_ret pe_bl)) pss_nil)
        (pss_cons (ps_expr (pe_bm PySem.F.plainAttrs_list PySem.F.slot_list_append PySem.F.type_list_append mt_append (pv 4) (pa_cons (pe_tup (pa_cons pe_int (pa_cons pe_int pa_nil))) pa_nil)))
        (pss_one (ps_ret (pe_and (pe_cmpR (eqDK K rfl hu) (pe_callX g_runs_of (hr.mono (by decide)) passF rfl (pa_cons (pv 3) pa_nil)) (pv 1) (nomark _)) (pe_one (pe_cmpR (eqDK K rfl hu) (pv 3) (pv 0) (nomark _)))))))))))))), ?_⟩
    refine ⟨_, rfl, a, cs, rfl, ea, by omega, fun l1 xs1 H1 s1 hl1 e1 r1 => ?_⟩
    refine ⟨_, rfl, .ref l1, runsL cs, rfl, ⟨l1, xs1, rfl, e1, r1, o⟩, fun H2 s2 => ?_⟩
    have s02 := s1.trans s2
    have ea2 := s02 _ _ ea
    refine ⟨_, rfl, a, _, rfl, .inl (SqL.of ea2), fun C hC => ?_⟩
    have zC := same_new (o := HO.lst (cs.map V.int)) hC
    have eC : upd H2 C (HO.lst (cs.map V.int)) C = some (.lst (cs.map V.int)) := upd_same
    have s23 := s2.trans zC
    have s03 := s1.trans s23
    have ne1 : l1 ≠ C := fun z => by subst z; rw [s2 _ _ e1] at hC; cases hC
    show tSeq _ _ _ _ (upd H2 C (HO.lst (cs.map V.int)))
    generalize upd H2 C (HO.lst (cs.map V.int)) = H3 at eC s23 s03 ⊢
    refine ⟨_, rfl, .ref C, rfl, tcs_of eC hl, fun a' cs' ev e' _ _ l2 xs2 H4 s4 hl2 e2 r2 => ?_, fun hb => absurd (cells_yes eC hc hl) (by rw [hb]; decide)⟩
    cases ev
    have ecs := lst_inj eC e'
    subst ecs
    have s14 := s23.trans s4
    have e1_4 := s14 _ _ e1
    have r1_4 := r1.mono s14
    have l1x : xs1.length ≤ 600 := by have := r1.1; omega
    have l2x : xs2.length ≤ 600 := by have := r2.1; omega
    have ne2 : l1 ≠ l2 := fun z => by subst z; rw [s23 _ _ e1] at hl2; cases hl2
    have ne3 : C ≠ l2 := fun z => by subst z; rw [eC] at hl2; cases hl2
    have ne4 : a ≠ l2 := fun z => by subst z; rw [s03 _ _ ea] at hl2; cases hl2
    have f2 : H l2 = none := s03.free hl2
    have s04 := s03.trans s4
    refine ⟨_, rfl, _, rfl, l2, l1, rfl, .inr ⟨xs2, xs1, runsL cs, e2, e1_4, r2, r1_4, by omega⟩, fun H5 s5 => ⟨_, rfl, ?_⟩⟩
    refine ⟨_, rfl, _, rfl, 0, C, a, true, by decide, rfl, rfl, eqI (SqL.of (s5 _ _ (s4 _ _ eC))) (SqL.of (s5 _ _ (s04 _ _ ea))), _, rfl, ?_⟩
    have i5 : IsRs H5 (.ref l2) (runsL cs) := ⟨l2, xs2, rfl, s5 _ _ e2, r2.mono s5, o⟩
    refine ⟨_, rfl, .ref l2, rfl, trs_of (s5 _ _ e2) (r2.mono s5) (by omega), fun rs h l3 H6 s6 hl3 e3 => ?_, fun hno => absurd i5 (hno _)⟩
    have er := h.uniq i5
    subst er
    rw [xp_runs] at e3
    have s46 := s5.trans s6
    refine ⟨_, rfl, l3, a, rfl, .inl ⟨cs, e3, s46 _ _ (s04 _ _ ea), by omega⟩, fun H7 s7 => ⟨_, rfl, ?_⟩⟩
    have s47 := s46.trans s7
    refine ⟨_, rfl, _, rfl, 1, l2, l1, true, by decide, rfl, rfl, EqL.runs (s47 _ _ e2) (s47 _ _ e1_4) (r2.mono s47) (r1_4.mono s47), _, rfl, ?_⟩
    have i7 := i5.mono (s6.trans s7)
    refine ⟨_, rfl, .ref l2, rfl, trs_of (s47 _ _ e2) (r2.mono s47) (by omega), fun rs h H8 s8 => ?_, fun hno => absurd i7 (hno _)⟩
    have er := h.uniq i7
    subst er
    refine ⟨_, rfl, rfl, _, rfl, iteN (fun hn => absurd rfl (of_decide_eq_false hn)) (fun _ => ?_)⟩
    have s48 := s47.trans s8
    have i8 := i7.mono s8
    refine ⟨_, rfl, .ref l2, rfl, trs_of (s48 _ _ e2) (r2.mono s48) (by omega), fun rs h H9 s9 => ?_, fun hno => absurd i8 (hno _)⟩
    have er := h.uniq i8
    subst er
    refine ⟨_, (Kd.str (K := K) (H := H9) (txS (runsL cs))).isStr, _, rfl, ?_⟩
    have s49 := s48.trans s9
    refine ⟨_, rfl, .str (txS (runsL cs)), rfl, .str _, fun t e => (by cases e; exact Nat.le_trans (txS_le o) (by decide)), fun t rs e hp l4 xs4 H10 s10 hl4 e4 r4 => ?_, fun hno => absurd (hno _ rfl) (by rw [prog_txt o]; exact fun z => nomatch z)⟩
    cases e
    rw [prog_txt o] at hp
    cases hp
    have s410 := s49.trans s10
    refine ⟨_, rfl, l4, l1, rfl, .inr ⟨xs4, xs1, runsL cs, e4, s410 _ _ e1_4, r4, r1_4.mono s410, by omega⟩, fun H11 s11 => ⟨_, rfl, ?_⟩⟩
    have s411 := s410.trans s11
    have e2_11 := s411 _ _ e2
    refine ⟨_, rfl, .inl ⟨rfl, _, SqL.of e2_11⟩, (by show 2 ≤ sizeLine; decide), fun q gq => ?_⟩
    have zq := same_new (o := HO.tup [V.int 1, .int 99]) gq
    refine ⟨l2, _, _, rfl, rfl, zq _ _ e2_11, Nat.lt_of_lt_of_le (by omega : _ < 5000) (by decide), ?_⟩
    have s4q := s411.trans zq
    have s0q := s04.trans s4q
    have s12 := same_upd (o := HO.lst (xs2 ++ [.ref q])) s0q f2
    have c12 : upd (upd H11 q (.tup [.int 1, .int 99])) l2 (HO.lst (xs2 ++ [.ref q])) C = some (.lst (cs.map V.int)) := by rw [upd_ne ne3]; exact s4q _ _ (s4 _ _ eC)
    have a12 := s12 _ _ ea
    have e12 : upd (upd H11 q (.tup [.int 1, .int 99])) l2 (HO.lst (xs2 ++ [.ref q])) l1 = some (.lst xs1) := by rw [upd_ne ne2]; exact s4q _ _ e1_4
    have r12 : RunL (upd (upd H11 q (.tup [.int 1, .int 99])) l2 (HO.lst (xs2 ++ [.ref q]))) xs1 (runsL cs) := (r1_4.mono s4q).upd (s4q _ _ e2)
    refine ⟨_, rfl, .ref C, rfl, tcs_of c12 hl, fun a' cs' ev e' _ _ l5 xs5 H13 s13 hl5 e5 r5 => ?_, fun hb => absurd (cells_yes c12 hc hl) (by rw [hb]; decide)⟩
    cases ev
    have ecs := lst_inj c12 e'
    subst ecs
    refine ⟨_, rfl, 1, l5, l1, true, by decide, rfl, rfl, EqL.runs e5 (s13 _ _ e12) r5 (r12.mono s13), _, rfl, ?_⟩
    exact ⟨_, rfl, _, rfl, 0, C, a, true, by decide, rfl, rfl, eqI (SqL.of (s13 _ _ c12)) (SqL.of (s13 _ _ a12)), k H13 (s12.trans s13)⟩
theorem sc_law_looked : FnScope ["_law_way", "_law_thing", "_law_due", "_law_found"] ["_law_way", "_law_thing", "_law_due"] (defScope s_law_looked) := ⟨rfl, rfl, rfl, by decide +kernel, rfl, by decide +kernel, by decide +kernel⟩
theorem ok_law_looked {f : Addr} {fd : FuncData} (F : FunD K "_law_looked" "_law_looked" s_law_looked .none f fd) (T : Txt K mg cFE cC cP tC tL tG tB) (g__law_asked : Def P w K mg base 10 "_law_asked" ["_law_way", "_law_thing"] [] (spAsk K)) (g__law_kinds : Def P w K mg base 2 "_law_kinds" ["_law_found", "_law_due"] [] (spKinds K)) : FnOk P w K mg base CX0 11 f fd ["_law_way", "_law_thing", "_law_due"] (spLook K) := by
  refine F.ok sc_law_looked (fun vs H Q E h => ?_) (fun cdv A outer s H vs Q E hr h => ?_)
  · obtain ⟨w, v, d, rfl, _⟩ := h; rfl
  · obtain ⟨w, v, d, rfl, hlook, k⟩ := h
    have hu : _ + 64 < cLine := hr.units
    refine ⟨_, (pss_cons (ps_set (i := 3) sc_law_looked.nd rfl (by first | exact Or.inl rfl | exact Or.inr rfl) (pe_callD g__law_asked (hr.mono (by decide)) rfl (pa_cons (pv 0) (pa_cons (pv 1) pa_nil))))
        (pss_cons (ps_if (pt_cmp (pc_isN (pv 2))) (pss_one (ps_ret (pe_cmpR (eqDK K rfl hu) (pv 3) (pe_lst (pa_cons pe_str pa_nil)) (nomark _)))) pss_nil)
        (pss_one (ps_ret (pe_and (pe_cmpR op_eq (pe_ix (ixK K rfl) (pv 3) pe_int (fun _ _ => rfl)) pe_str (nomark _)) (pe_and (pe_cmpR op_eq (pe_callB (lenK K rfl) rfl T.len PySem.boot_len (pa_cons (pv 3) pa_nil)) pe_int (nomark _)) (pe_one (pe_callD g__law_kinds (hr.mono (by decide)) rfl (pa_cons (pe_ix (ixK K rfl) (pv 3) pe_int (fun _ _ => rfl)) (pa_cons (pv 2) pa_nil)))))))))), ?_⟩
    cases hlook with
    | a0 rs p t h ed ep =>
      subst ed
      refine ⟨_, rfl, _, rfl, 0, v, rfl, .w0 t (fun qs hq L l H1 s1 eL el => ?_) (fun hno => absurd h (hno _))⟩
      have er := hq.uniq h
      subst er
      have o : okRs qs = true := let ⟨_, _, _, _, _, o⟩ := h; o
      refine ⟨_, rfl, _, rfl, ?_⟩
      refine ⟨_, rfl, L, _, _, _, rfl, rfl, SqL.of eL, atI_nat (j := 0) rfl, rfl, _, rfl, iteB (fun _ => ?_) (fun hn => absurd rfl (of_decide_eq_false hn))⟩
      refine ⟨_, rfl, L, _, rfl, .inl (SqL.of eL), rfl, _, rfl, iteB (fun _ => ?_) (fun hn => absurd rfl (of_decide_eq_false hn))⟩
      exact ⟨_, rfl, L, _, _, _, rfl, rfl, SqL.of eL, atI_nat (j := 1) rfl, _, rfl, l, p, rfl, .inl ⟨xp qs, el, s1 _ _ ep, (by have := take_len o qs.length; rw [List.take_of_length_le (Nat.le_refl _)] at this; omega)⟩, fun H2 s2 => k H2 (s1.trans s2)⟩
    | n0 t hno ed =>
      subst ed
      refine ⟨_, rfl, _, rfl, 0, v, rfl, .w0 t (fun qs hq => absurd hq (hno _)) (fun _ L H1 s1 eL => ?_)⟩
      refine ⟨_, rfl, _, rfl, ?_⟩
      refine ⟨_, rfl, (by show 1 ≤ sizeLine; decide), fun q gq => ?_⟩
      have z := same_new (o := HO.lst [V.str "runs"]) gq
      exact ⟨0, L, q, true, by decide, rfl, rfl, eqOne (z _ _ eL) upd_same, k _ (s1.trans z)⟩
    | a1 t rs p ys ev hl hp ed ep rp =>
      subst ev
      subst ed
      have o := prog_ok hp
      refine ⟨_, rfl, _, rfl, 1, .str t, rfl, .w1 (.str t) (fun t' e => by cases e; exact hl) (fun t' qs e hq L l xs H1 s1 eL el rl => ?_) (fun hno => absurd (hno t rfl) (by rw [hp]; exact fun z => nomatch z))⟩
      cases e
      rw [hp] at hq; cases hq
      refine ⟨_, rfl, _, rfl, ?_⟩
      refine ⟨_, rfl, L, _, _, _, rfl, rfl, SqL.of eL, atI_nat (j := 0) rfl, rfl, _, rfl, iteB (fun _ => ?_) (fun hn => absurd rfl (of_decide_eq_false hn))⟩
      refine ⟨_, rfl, L, _, rfl, .inl (SqL.of eL), rfl, _, rfl, iteB (fun _ => ?_) (fun hn => absurd rfl (of_decide_eq_false hn))⟩
      exact ⟨_, rfl, L, _, _, _, rfl, rfl, SqL.of eL, atI_nat (j := 1) rfl, _, rfl, l, p, rfl, .inr ⟨xs, ys, rs, el, s1 _ _ ep, rl, rp.mono s1, (by have := okRs_len o; omega)⟩, fun H2 s2 => k H2 (s1.trans s2)⟩
    | n1 t ev hl hp ed =>
      subst ev
      subst ed
      refine ⟨_, rfl, _, rfl, 1, .str t, rfl, .w1 (.str t) (fun t' e => by cases e; exact hl) (fun t' qs e hq => ?_) (fun _ L H1 s1 eL => ?_)⟩
      · cases e; rw [hp] at hq; cases hq
      refine ⟨_, rfl, _, rfl, ?_⟩
      refine ⟨_, rfl, (by show 1 ≤ sizeLine; decide), fun q gq => ?_⟩
      have z := same_new (o := HO.lst [V.str "runs"]) gq
      exact ⟨0, L, q, true, by decide, rfl, rfl, eqOne (z _ _ eL) upd_same, k _ (s1.trans z)⟩
end
end K20
set_option Elab.async false
set_option linter.all false
set_option maxRecDepth 100000
set_option maxHeartbeats 1600000
namespace K20
open PySem L2 M4
noncomputable def spLaw (K : PySem.W.Frag) : Sp := fun vs H Q _ => ∃ (a : Addr) (ns : List Int), vs = [.ref a] ∧ SqL K H a (ns.map V.int) ∧ ∀ H', Q (.bl true) H'
theorem bad_none {K : PySem.W.Frag} {H : Hp} {v : V} (k : Kd K H v) (h : rowOf H v = none) : TCs K H v ∧ cellsB H v 576 = false := by
  refine ⟨⟨k, fun xs e => ?_, fun xs e => ?_⟩, ?_⟩
  · rw [h] at e; cases e
  · rw [h] at e; cases e
  · unfold cellsB; rw [h]
theorem odd_no {K : PySem.W.Frag} {H : Hp} {p : Addr} {v : V} (ep : H p = some (.lst [.int 0])) (hm : v ∈ [V.int 16, .int (-1), .bl true, .non, .str "0", .ref p, .int (10 ^ 20), .bl false]) : Kd K H v ∧ isWh 0 15 v = false := by
  simp only [List.mem_cons, List.not_mem_nil, or_false] at hm
  rcases hm with rfl | rfl | rfl | rfl | rfl | rfl | rfl | rfl
  · exact ⟨.int _, by decide⟩
  · exact ⟨.int _, by decide⟩
  · exact ⟨.bl _, rfl⟩
  · exact ⟨.non, rfl⟩
  · exact ⟨.str _, rfl⟩
  · exact ⟨.lst ep, rfl⟩
  · exact ⟨.int _, by decide⟩
  · exact ⟨.bl _, rfl⟩
theorem bad_in {K : PySem.W.Frag} {H : Hp} {p : Addr} {cs : List Int} {k : Nat} {x : V} (e : H p = some (.lst (((cs.map V.int).take k ++ [x]) ++ (cs.map V.int).drop k))) (kx : Kd K H x) (nx : isWh 0 15 x = false) (hl : cs.length ≤ 576) : TCs K H (.ref p) ∧ cellsB H (.ref p) 576 = false := by
  refine ⟨⟨.lst e, fun xs h => ?_, fun xs h y hy => ?_⟩, ?_⟩
  · rw [rowOf_lst e] at h; cases h
    rw [List.length_append, List.length_append, List.length_take, List.length_drop, List.length_map, List.length_singleton]; omega
  · rw [rowOf_lst e] at h; cases h
    rcases List.mem_append.mp hy with hy | hy
    · rcases List.mem_append.mp hy with hy | hy
      · obtain ⟨i, _, rfl⟩ := List.mem_map.mp (List.mem_of_mem_take hy); exact .int i
      · rw [List.mem_singleton.mp hy]; exact kx
    · obtain ⟨i, _, rfl⟩ := List.mem_map.mp (List.mem_of_mem_drop hy); exact .int i
  · unfold cellsB
    rw [rowOf_lst e]
    show ((((cs.map V.int).take k ++ [x]) ++ (cs.map V.int).drop k).all (isWh 0 15) && _) = false
    rw [List.all_append, List.all_append]
    have : [x].all (isWh 0 15) = false := by rw [List.all_cons, nx]; rfl
    rw [this, Bool.and_false, Bool.false_and, Bool.false_and]
theorem bad_all {K : PySem.W.Frag} {H : Hp} {p5 p7 p8 d : Addr} {cs : List Int} {xs : List V} {v : V} (h5 : TCs K H (.ref p5) ∧ cellsB H (.ref p5) 576 = false) (e7 : H p7 = some (.lst ((List.replicate 577 (3 : Int)).map V.int))) (e8 : H p8 = some (.tup xs)) (ed : H d = some (DictO d)) (hm : v ∈ [V.ref p5, .ref p7, .ref p8, .non, .str "0", .ref d]) : TCs K H v ∧ cellsB H v 576 = false := by
  simp only [List.mem_cons, List.not_mem_nil, or_false] at hm
  rcases hm with rfl | rfl | rfl | rfl | rfl | rfl
  · exact h5
  · refine ⟨⟨.lst e7, fun xs h => ?_, fun xs h y hy => ?_⟩, ?_⟩
    · rw [rowOf_lst e7] at h; cases h
      rw [List.length_map, List.length_replicate]; decide
    · rw [rowOf_lst e7] at h; cases h
      obtain ⟨i, _, rfl⟩ := List.mem_map.mp hy; exact .int i
    · unfold cellsB
      rw [rowOf_lst e7]
      show (_ && decide ((((List.replicate 577 (3 : Int)).map V.int).length : Int) ≤ 576)) = false
      rw [List.length_map, List.length_replicate, decide_eq_false (by decide), Bool.and_false]
  · exact bad_none (.tup e8) (by simp only [rowOf, e8])
  · exact bad_none .non rfl
  · exact bad_none (.str _) rfl
  · exact bad_none (.dict ed) (by simp only [rowOf, ed, DictO])
theorem five_kd {K : PySem.W.Frag} {H : Hp} {p q l : Addr} {v : V} {xs ys zs : List V} (ep : H p = some (.lst ys)) (eq : H q = some (.tup zs)) (el : H l = some (.lst xs)) (hm : v ∈ [V.non, .int 5, .ref p, .ref q, .ref l]) : Kd K H v ∧ ∀ t, v ≠ .str t := by
  simp only [List.mem_cons, List.not_mem_nil, or_false] at hm
  rcases hm with rfl | rfl | rfl | rfl | rfl
  · exact ⟨.non, fun t e => nomatch e⟩
  · exact ⟨.int _, fun t e => nomatch e⟩
  · exact ⟨.lst ep, fun t e => nomatch e⟩
  · exact ⟨.tup eq, fun t e => nomatch e⟩
  · exact ⟨.lst el, fun t e => nomatch e⟩
theorem eqDiff {K : PySem.W.Frag} {H : Hp} {p q : Addr} {xs ys : List V} (e1 : H p = some (.lst xs)) (e2 : H q = some (.lst ys)) (h : xs.length ≠ ys.length) : EqL K H (EqD K H 0) p q false := ⟨xs, ys, .inl ⟨SqL.of e1, SqL.of e2, h, rfl⟩⟩
noncomputable def Due (H : Hp) (v d : V) : Prop := (∃ rs p, IsRs H v rs ∧ d = .ref p ∧ H p = some (.lst ((xp rs).map V.int))) ∨ ((∀ rs, ¬ IsRs H v rs) ∧ d = .non)
theorem no_mono {K : PySem.W.Frag} {H H' : Hp} {v : V} (t : TRs K H v) (s : Same H H') (h : ∀ rs, ¬ IsRs H v rs) : ∀ rs, ¬ IsRs H' v rs := by
  rintro rs ⟨a, xs, rfl, ea, r, o⟩
  have e := rowOf_mono t.kd s
  rw [rowOf_lst ea] at e
  obtain ⟨b, eb, hb⟩ := rowOf_ref e.symm
  cases eb
  have hm := t.it xs e.symm
  refine h rs ⟨a, xs, rfl, hb, ⟨r.1, fun i q hq => ?_⟩, o⟩
  obtain ⟨p, p1, p2⟩ := r.2 i q hq
  refine ⟨p, p1, ?_⟩
  have tp := hm _ (List.mem_of_getElem? p1)
  have := tupOf_mono tp.kd s
  rw [tupOf_tup p2] at this
  obtain ⟨p', e', h'⟩ := tupOf_ref this.symm
  cases e'
  exact h'
theorem Due.mono {K : PySem.W.Frag} {H H' : Hp} {v d : V} (t : TRs K H v) (s : Same H H') (h : Due H v d) : Due H' v d := by
  rcases h with ⟨rs, p, h, e, hp⟩ | ⟨h, e⟩
  · exact .inl ⟨rs, p, h.mono s, e, s _ _ hp⟩
  · exact .inr ⟨no_mono t s h, e⟩
section
variable {P : Program} {w : World} {K : PySem.W.Frag} {mg : Str → Option Value} {base : Heap} {cFE cC cP : Addr} {tC tL tG tB : Tok}
theorem sc_law : FnScope ["_law_script", "_law_cells_here", "_law_runs_here", "_law_number", "_law_odd", "_law_kept", "_law_due", "_law_many", "_law_cell", "_law_bent_here", "_law_at", "_law_thing", "_law_bad", "_law_handed", "_law_first"] ["_law_script"] (defScope s_law) := ⟨rfl, rfl, rfl, by decide +kernel, rfl, by decide +kernel, by decide +kernel⟩
theorem ok_law {f : Addr} {fd : FuncData} (F : FunD K "law" "law" s_law .none f fd) (T : Txt K mg cFE cC cP tC tL tG tB) (g_runs_of : DefX P w K mg base 7 "runs_of" ["cells"] [] (spRO K cC)) (g_runs_text : DefX P w K mg base 8 "runs_text" ["runs"] [] (spRTx K cP)) (g__law_draw : Def P w K mg base 1 "_law_draw" ["_law_script", "_law_k"] [] (spDraw K)) (g__law_cells : Def P w K mg base 2 "_law_cells" ["_law_script", "_law_first"] [] (spCells K)) (g__law_good : Def P w K mg base 10 "_law_good" ["_law_cells_here"] [] (spGood K)) (g__law_runs : Def P w K mg base 1 "_law_runs" ["_law_cells_here"] [] (spLR K)) (g__law_odd_runs : Def P w K mg base 1 "_law_odd_runs" ["_law_runs_here", "_law_number"] [] (spOddR K)) (g__law_is_runs : Def P w K mg base 2 "_law_is_runs" ["_law_thing"] [] (spAre K)) (g__law_looked : Def P w K mg base 11 "_law_looked" ["_law_way", "_law_thing", "_law_due"] [] (spLook K)) (g__law_asked : Def P w K mg base 10 "_law_asked" ["_law_way", "_law_thing"] [] (spAsk K)) (g__law_text : Def P w K mg base 1 "_law_text" ["_law_runs_here"] [] (spLTx K)) (g__law_bent : Def P w K mg base 1 "_law_bent" ["_law_text_here", "_law_number"] [] (spBent)) (g__law_by_text : Def P w K mg base 3 "_law_by_text" ["_law_text_here"] [] (spLBT K)) (g__law_kinds : Def P w K mg base 2 "_law_kinds" ["_law_found", "_law_due"] [] (spKinds K)) : FnOk P w K mg base CX0 12 f fd ["_law_script"] (spLaw K) := by
  refine F.ok sc_law (fun vs H Q E h => ?_) (fun cdv A outer s H vs Q E hr h => ?_)
  · obtain ⟨a, ns, rfl, _⟩ := h; rfl
  · obtain ⟨a, ns, rfl, hS, k⟩ := h
    have hu : _ + 64 < cLine := hr.units
    have hgd := hr.gd
    obtain ⟨t21, r21, k21⟩ : ∃ tr, PSs ((cxOf CX0 P w K mg base ["_law_script", "_law_cells_here", "_law_runs_here", "_law_number", "_law_odd", "_law_kept", "_law_due", "_law_many", "_law_cell", "_law_bent_here", "_law_at", "_law_thing", "_law_bad", "_law_handed", "_law_first"] "law" (defScope s_law) f cdv A outer s H E).nox) ((defBody s_law).drop 21) tr ∧
        ∀ (C l : Addr) (cs : List Int) (xs : List V) (n : Nat) (G f : Addr) (ds : List Int) (ys : List V) (v4 v5 v6 v7 v8 v9 v10 v11 v12 : Option V) (H1 : Hp), H1 l = some (.lst xs) → RunL H1 xs (runsL cs) → H1 G = some (.lst (ds.map V.int)) → Cells ds → ds.length ≤ 576 → H1 f = some (.lst ys) → RunL H1 ys (runsL cs) → tr { nx := fun _ H' => Q .non H', rt := Q } [some (.ref a), some (.ref C), some (.ref l), some (.int (n : Int)), v4, v5, v6, v7, v8, v9, v10, v11, v12, some (.ref G), some (.ref f)] H1 := by
      refine ⟨_, (pss_one (ps_ret (pe_and (pe_callD g__law_kinds (hr.mono (by decide)) rfl (pa_cons (pe_callX g_runs_of (hr.mono (by decide)) passF rfl (pa_cons (pv 13) pa_nil)) (pa_cons (pe_callD g__law_runs (hr.mono (by decide)) rfl (pa_cons (pv 13) pa_nil)) pa_nil))) (pe_one (pe_cmpR (eqDK K rfl hu) (pv 14) (pv 2) (nomark _)))))), ?_⟩
      intro C l cs xs n G f ds ys v4 v5 v6 v7 v8 v9 v10 v11 v12 H1 eL rl eG hd hld ef rf
      have od := runs_cells hd hld
      have ld := okRs_len od
      refine ⟨_, rfl, .ref G, rfl, tcs_of eG hld, fun a' cs' ev e' _ _ p1 x1 H2 s2 _ e1 r1 => ?_, fun hb => absurd (cells_yes eG hd hld) (by rw [hb]; decide)⟩
      cases ev
      have ecs := lst_inj eG e'
      subst ecs
      refine ⟨_, rfl, G, ds, rfl, s2 _ _ eG, by omega, fun p2 x2 H3 s3 _ e2 r2 => ?_⟩
      refine ⟨p1, p2, rfl, .inr ⟨x1, x2, runsL ds, s3 _ _ e1, e2, r1.mono s3, r2, by omega⟩, fun H4 s4 => ⟨_, rfl, ?_⟩⟩
      have s14 := s2.trans (s3.trans s4)
      exact ⟨_, rfl, _, rfl, 1, f, l, true, by decide, rfl, rfl, EqL.runs (s14 _ _ ef) (s14 _ _ eL) (rf.mono s14) (rl.mono s14), k _⟩
    obtain ⟨t17, r17, k17⟩ : ∃ tr, PSs ((cxOf CX0 P w K mg base ["_law_script", "_law_cells_here", "_law_runs_here", "_law_number", "_law_odd", "_law_kept", "_law_due", "_law_many", "_law_cell", "_law_bent_here", "_law_at", "_law_thing", "_law_bad", "_law_handed", "_law_first"] "law" (defScope s_law) f cdv A outer s H E).nox) ((defBody s_law).drop 17) tr ∧
        ∀ (C l : Addr) (cs : List Int) (xs : List V) (n : Nat) (v4 v5 v6 v7 v8 v9 v10 v11 v12 v13 v14 : Option V) (H1 : Hp), Same H H1 → H1 C = some (.lst (cs.map V.int)) → H1 l = some (.lst xs) → RunL H1 xs (runsL cs) → Cells cs → cs.length ≤ 576 → tr { nx := fun _ H' => Q .non H', rt := Q } [some (.ref a), some (.ref C), some (.ref l), some (.int (n : Int)), v4, v5, v6, v7, v8, v9, v10, v11, v12, v13, v14] H1 := by
      refine ⟨_, (pss_cons (ps_set (i := 13) sc_law.nd rfl (by first | exact Or.inl rfl | exact Or.inr rfl) (pe_callTy (listK K rfl) rfl T.list PyProof.Rows.boot_list (pa_cons (pv 1) pa_nil)))
        (pss_cons (ps_set (i := 14) sc_law.nd rfl (by first | exact Or.inl rfl | exact Or.inr rfl) (pe_callX g_runs_of (hr.mono (by decide)) passF rfl (pa_cons (pv 13) pa_nil)))
        (pss_cons (ps_expr (pe_bm0 PySem.F.plainAttrs_list PySem.F.slot_list_reverse PySem.F.type_list_reverse mt_reverse (pv 13)))
        (pss_cons (ps_if (pt_cmpR op_lt (pe_callB (lenK K rfl) rfl T.len PySem.boot_len (pa_cons (pv 13) pa_nil)) pe_int (nomark _)) (pss_one (ps_expr (pe_bm PySem.F.plainAttrs_list PySem.F.slot_list_append PySem.F.type_list_append mt_append (pv 13) (pa_cons pe_int pa_nil)))) pss_nil)
        (@r21))))), ?_⟩
      intro C l cs xs n v4 v5 v6 v7 v8 v9 v10 v11 v12 v13 v14 H1 s1 eC eL rl hc hl
      refine ⟨_, rfl, C, _, rfl, .inl (SqL.of eC), fun G hG => ?_⟩
      have z2 := same_new (o := HO.lst (cs.map V.int)) hG
      have eG2 : upd H1 G (.lst (cs.map V.int)) G = some (.lst (cs.map V.int)) := upd_same
      have eL2 := z2 _ _ eL
      have rl2 := rl.mono z2
      have nL : l ≠ G := fun z => by subst z; rw [eL] at hG; cases hG
      show tSeq _ _ _ _ (upd H1 G (.lst (cs.map V.int)))
      generalize upd H1 G (.lst (cs.map V.int)) = H2 at eG2 eL2 rl2 ⊢
      refine ⟨_, rfl, .ref G, rfl, tcs_of eG2 hl, fun a' cs' ev e' _ _ f ys H3 s3 hf ef rf => ?_, fun hb => absurd (cells_yes eG2 hc hl) (by rw [hb]; decide)⟩
      cases ev
      have ecs := lst_inj eG2 e'
      subst ecs
      have nf : f ≠ G := fun z => by subst z; rw [eG2] at hf; cases hf
      have eG3 := s3 _ _ eG2
      refine ⟨_, rfl, .inl ⟨rfl, _, SqL.of eG3⟩, G, _, rfl, rfl, eG3, ?_⟩
      have e4 : upd H3 G (.lst (cs.map V.int).reverse) G = some (.lst (cs.reverse.map V.int)) := by rw [upd_same, List.map_reverse]
      have l4 : upd H3 G (.lst (cs.map V.int).reverse) l = some (.lst xs) := by rw [upd_ne nL]; exact s3 _ _ eL2
      have f4 : upd H3 G (.lst (cs.map V.int).reverse) f = some (.lst ys) := by rw [upd_ne nf]; exact ef
      have rl4 : RunL (upd H3 G (.lst (cs.map V.int).reverse)) xs (runsL cs) := (rl2.mono s3).upd eG3
      have rf4 : RunL (upd H3 G (.lst (cs.map V.int).reverse)) ys (runsL cs) := rf.upd eG3
      show tSeq _ _ _ _ (upd H3 G (.lst (cs.map V.int).reverse))
      generalize upd H3 G (.lst (cs.map V.int).reverse) = H4 at e4 l4 f4 rl4 rf4 ⊢
      have hcr : Cells cs.reverse := fun c h => hc c (List.mem_reverse.mp h)
      refine ⟨_, rfl, G, _, rfl, .inl (SqL.of e4), _, _, rfl, rfl, _, rfl, iteB (fun hlt => ?_) (fun hlt => ?_)⟩
      · have hlt := of_decide_eq_true hlt
        rw [List.length_map, List.length_reverse] at hlt
        refine ⟨_, rfl, .inl ⟨rfl, _, SqL.of e4⟩, G, _, _, rfl, rfl, e4, Nat.lt_of_lt_of_le (by rw [List.length_map, List.length_reverse]; omega : _ < 5000) (by decide), ?_⟩
        refine k21 C l cs xs n G f (cs.reverse ++ [7]) ys _ _ _ _ _ _ _ _ _ _ (by rw [upd_ne nL]; exact l4) (rl4.upd e4) ?_ (fun c h => ?_) (by rw [List.length_append, List.length_reverse, List.length_singleton]; omega) (by rw [upd_ne nf]; exact f4) (rf4.upd e4)
        · rw [upd_same, List.map_append]; rfl
        · rcases List.mem_append.mp h with h | h
          · exact hcr c h
          · rw [List.mem_singleton.mp h]; decide
      · exact k21 C l cs xs n G f cs.reverse ys _ _ _ _ _ _ _ _ _ H4 l4 rl4 e4 hcr (by rw [List.length_reverse]; exact hl) f4 rf4
    obtain ⟨t16, r16, k16⟩ : ∃ tr, PSs ((cxOf CX0 P w K mg base ["_law_script", "_law_cells_here", "_law_runs_here", "_law_number", "_law_odd", "_law_kept", "_law_due", "_law_many", "_law_cell", "_law_bent_here", "_law_at", "_law_thing", "_law_bad", "_law_handed", "_law_first"] "law" (defScope s_law) f cdv A outer s H E).nox) ((defBody s_law).drop 16) tr ∧
        ∀ (C l : Addr) (cs : List Int) (xs : List V) (n : Nat) (b : V) (v4 v5 v6 v7 v8 v9 v10 v11 v13 v14 : Option V) (H1 : Hp), Same H H1 → H1 C = some (.lst (cs.map V.int)) → H1 l = some (.lst xs) → RunL H1 xs (runsL cs) → Cells cs → cs.length ≤ 576 → TCs K H1 b → cellsB H1 b 576 = false → tr { nx := fun _ H' => Q .non H', rt := Q } [some (.ref a), some (.ref C), some (.ref l), some (.int (n : Int)), v4, v5, v6, v7, v8, v9, v10, v11, some b, v13, v14] H1 := by
      refine ⟨_, (pss_cons (ps_if (pt_cmpR (neDK K rfl hu) (pe_callD g__law_asked (hr.mono (by decide)) rfl (pa_cons pe_int (pa_cons (pv 12) pa_nil))) (pe_lst (pa_cons pe_str pa_nil)) (nomark _)) (pss_one (ps_ret pe_bl)) pss_nil)
        (@r17)), ?_⟩
      intro C l cs xs n b v4 v5 v6 v7 v8 v9 v10 v11 v13 v14 H1 s1 eC eL rl hc hl tc hb
      refine ⟨_, rfl, 3, b, rfl, .w3 tc hb (fun L H2 s2 eL2 => ?_)⟩
      refine ⟨(by show 1 ≤ sizeLine; decide), fun q gq => ?_⟩
      have z := same_new (o := HO.lst [V.str "cell"]) gq
      have s3 := s2.trans z
      exact ⟨0, L, q, true, by decide, rfl, rfl, eqOne (z _ _ eL2) upd_same, _, rfl, k17 C l cs xs n _ _ _ _ _ _ _ _ _ _ _ _ (s1.trans s3) (s3 _ _ eC) (s3 _ _ eL) (rl.mono s3) hc hl⟩
    obtain ⟨t15, r15, k15⟩ : ∃ tr, PSs ((cxOf CX0 P w K mg base ["_law_script", "_law_cells_here", "_law_runs_here", "_law_number", "_law_odd", "_law_kept", "_law_due", "_law_many", "_law_cell", "_law_bent_here", "_law_at", "_law_thing", "_law_bad", "_law_handed", "_law_first"] "law" (defScope s_law) f cdv A outer s H E).nox) ((defBody s_law).drop 15) tr ∧
        ∀ (C l : Addr) (cs : List Int) (xs : List V) (n : Nat) (m : Nat) (x : V) (v4 v5 v6 v7 v8 v9 v12 v13 v14 : Option V) (H1 : Hp), Same H H1 → H1 C = some (.lst (cs.map V.int)) → H1 l = some (.lst xs) → RunL H1 xs (runsL cs) → Cells cs → cs.length ≤ 576 → Kd K H1 x → isWh 0 15 x = false → tr { nx := fun _ H' => Q .non H', rt := Q } [some (.ref a), some (.ref C), some (.ref l), some (.int (n : Int)), v4, v5, v6, v7, v8, v9, some (.int (m : Int)), some x, v12, v13, v14] H1 := by
      refine ⟨_, (pss_cons (ps_set (i := 12) sc_law.nd rfl (by first | exact Or.inl rfl | exact Or.inr rfl) (pe_ix (ixK K rfl) (pe_lst (pa_cons (pe_op op_cat (pe_op op_cat (pe_slice (slK K rfl) (pv 1) po_none (po_some (pv 10))) (pe_lst (pa_cons (pv 11) pa_nil))) (pe_slice (slK K rfl) (pv 1) (po_some (pv 10)) po_none)) (pa_cons (pe_op op_rep (pe_lst (pa_cons pe_int pa_nil)) pe_int) (pa_cons (pe_callTy (tupleK K rfl) rfl T.tuple PyProof.Rows.boot_tuple (pa_cons (pv 1) pa_nil)) (pa_cons pe_non (pa_cons pe_str (pa_cons pe_dict0 pa_nil))))))) (pe_op op_mod (pe_op op_fdiv (pv 3) pe_int) pe_int) (fun _ _ => rfl)))
        (@r16)), ?_⟩
      intro C l cs xs n m x v4 v5 v6 v7 v8 v9 v12 v13 v14 H1 s1 eC eL rl hc hl kx nx
      refine ⟨_, rfl, _, rfl, _, rfl, C, _, rfl, SqL.of eC, fun q1 g1 => ?_⟩
      rw [cut_hi]
      have z1 := same_new (o := HO.lst ((cs.map V.int).take m)) g1
      refine ⟨_, rfl, (by show 1 ≤ sizeLine; decide), fun q2 g2 => ?_⟩
      have z2 := same_new (o := HO.lst [x]) g2
      refine ⟨q1, q2, _, _, rfl, rfl, z2 _ _ upd_same, upd_same, Nat.le_trans (by rw [List.length_take, List.length_map, List.length_singleton]; omega : _ ≤ 2000) (by decide), fun q3 g3 => ?_⟩
      have z3 := same_new (o := HO.lst ((cs.map V.int).take m ++ [x])) g3
      have z13 := z1.trans (z2.trans z3)
      refine ⟨_, rfl, _, rfl, _, rfl, C, _, rfl, SqL.of (z13 _ _ eC), fun q4 g4 => ?_⟩
      rw [cut_lo]
      have z4 := same_new (o := HO.lst ((cs.map V.int).drop m)) g4
      refine ⟨q3, q4, _, _, rfl, rfl, z4 _ _ upd_same, upd_same, Nat.le_trans (by rw [List.length_append, List.length_take, List.length_drop, List.length_map, List.length_singleton]; omega : _ ≤ 2000) (by decide), fun q5 g5 => ?_⟩
      have z5 := same_new (o := HO.lst (((cs.map V.int).take m ++ [x]) ++ (cs.map V.int).drop m)) g5
      have z15 := z13.trans (z4.trans z5)
      refine ⟨(by show 1 ≤ sizeLine; decide), fun q6 g6 => ?_⟩
      have z6 := same_new (o := HO.lst [V.int 3]) g6
      refine ⟨q6, 577, _, rfl, rfl, upd_same, by decide, by decide, (by show 1 * 577 ≤ sizeLine; decide), fun q7 g7 => ?_⟩
      have er : (List.replicate (577 : Int).toNat [V.int 3]).flatten = (List.replicate 577 (3 : Int)).map V.int := (rep_map 577 3).symm
      rw [er]
      have z7 := same_new (o := HO.lst ((List.replicate 577 (3 : Int)).map V.int)) g7
      have z17 := z15.trans (z6.trans z7)
      refine ⟨_, rfl, C, _, rfl, .inl ⟨SqL.of (z17 _ _ eC), fun q8 g8 => ?_⟩⟩
      have z8 := same_new (o := HO.tup (cs.map V.int)) g8
      refine fun d hd => ?_
      have z9 := same_new (o := DictO d) hd
      refine ⟨(by show 6 ≤ sizeLine; decide), fun L hL => ?_⟩
      have z0 := same_new (o := HO.lst [V.ref q5, .ref q7, .ref q8, .non, .str "0", .ref d]) hL
      obtain ⟨v, hm, hv⟩ := at_mod (xs := [V.ref q5, .ref q7, .ref q8, .non, .str "0", .ref d]) (m := (n : Int) / 4096) 6 rfl (by decide)
      have z90 := z9.trans z0
      have z80 := z8.trans z90
      have z50 := (z6.trans z7).trans z80
      have zz := z15.trans z50
      have b5 := bad_in (K := K) (z50 _ _ upd_same) (kx.mono zz) nx (by omega)
      have hb := bad_all (K := K) (cs := cs) b5 (z80 _ _ upd_same) (z90 _ _ upd_same) (z0 _ _ upd_same) hm
      refine ⟨_, rfl, _, _, rfl, rfl, ⟨by decide, by decide⟩, _, _, rfl, rfl, (by show (0 : Int) < 6; decide), L, _, _, v, rfl, rfl, SqL.of upd_same, hv, ?_⟩
      exact k16 C l cs xs n v _ _ _ _ _ _ _ _ _ _ _ (s1.trans zz) (zz _ _ eC) (zz _ _ eL) (rl.mono zz) hc hl hb.1 hb.2
    obtain ⟨t13, r13, k13⟩ : ∃ tr, PSs ((cxOf CX0 P w K mg base ["_law_script", "_law_cells_here", "_law_runs_here", "_law_number", "_law_odd", "_law_kept", "_law_due", "_law_many", "_law_cell", "_law_bent_here", "_law_at", "_law_thing", "_law_bad", "_law_handed", "_law_first"] "law" (defScope s_law) f cdv A outer s H E).nox) ((defBody s_law).drop 13) tr ∧
        ∀ (C l : Addr) (cs : List Int) (xs : List V) (n : Nat) (v4 v5 v6 v7 v8 v9 v10 v11 v12 v13 v14 : Option V) (H1 : Hp), Same H H1 → H1 C = some (.lst (cs.map V.int)) → H1 l = some (.lst xs) → RunL H1 xs (runsL cs) → Cells cs → cs.length ≤ 576 → tr { nx := fun _ H' => Q .non H', rt := Q } [some (.ref a), some (.ref C), some (.ref l), some (.int (n : Int)), v4, v5, v6, v7, v8, v9, v10, v11, v12, v13, v14] H1 := by
      refine ⟨_, (pss_cons (ps_set (i := 10) sc_law.nd rfl (by first | exact Or.inl rfl | exact Or.inr rfl) (pe_op op_mod (pe_op op_fdiv (pv 3) pe_int) (pe_op op_add (pe_callB (lenK K rfl) rfl T.len PySem.boot_len (pa_cons (pv 1) pa_nil)) pe_int)))
        (pss_cons (ps_set (i := 11) sc_law.nd rfl (by first | exact Or.inl rfl | exact Or.inr rfl) (pe_ix (ixK K rfl) (pe_lst (pa_cons pe_int (pa_cons (pe_un un_neg pe_int) (pa_cons pe_bl (pa_cons pe_non (pa_cons pe_str (pa_cons (pe_lst (pa_cons pe_int pa_nil)) (pa_cons (pe_op op_pow pe_int pe_int) (pa_cons pe_bl pa_nil))))))))) (pe_op op_mod (pe_op op_fdiv (pv 3) pe_int) pe_int) (fun _ _ => rfl)))
        (@r15))), ?_⟩
      intro C l cs xs n v4 v5 v6 v7 v8 v9 v10 v11 v12 v13 v14 H1 s1 eC eL rl hc hl
      refine ⟨_, rfl, _, _, rfl, rfl, ⟨by decide, by decide⟩, _, rfl, C, _, rfl, .inl (SqL.of eC), _, _, rfl, rfl, _, _, rfl, rfl, (by show (0 : Int) < (((cs.map V.int).length : Nat) : Int) + 1; omega), ?_⟩
      obtain ⟨m, em, hm⟩ : ∃ m : Nat, (n : Int) / 8 % ((((cs.map V.int).length : Nat) : Int) + 1) = (m : Int) ∧ m ≤ cs.length := by
        have f0 := Int.emod_nonneg ((n : Int) / 8) (show (((cs.map V.int).length : Nat) : Int) + 1 ≠ 0 by omega)
        have f1 := Int.emod_lt_of_pos ((n : Int) / 8) (show (0 : Int) < (((cs.map V.int).length : Nat) : Int) + 1 by omega)
        rw [List.length_map] at f0 f1 ⊢
        exact ⟨((n : Int) / 8 % ((cs.length : Int) + 1)).toNat, by omega, by omega⟩
      show gName 10 (.int ((n : Int) / 8 % ((((cs.map V.int).length : Nat) : Int) + 1))) _ _ _
      rw [em]
      refine ⟨_, rfl, (by show 1 ≤ sizeLine; decide), fun p hp => ?_⟩
      have z1 := same_new (o := HO.lst [V.int 0]) hp
      refine ⟨_, _, rfl, rfl, ⟨by decide, by decide, by decide⟩, (by show 8 ≤ sizeLine; decide), fun L hL => ?_⟩
      obtain ⟨x, hm, hx⟩ := at_mod (xs := [V.int 16, .int (-1), .bl true, .non, .str "0", .ref p, .int (10 ^ 20), .bl false]) (m := (n : Int) / 5) 8 rfl (by decide)
      have z2 := same_new (o := HO.lst [V.int 16, .int (-1), .bl true, .non, .str "0", .ref p, .int (10 ^ 20), .bl false]) hL
      refine ⟨_, rfl, _, _, rfl, rfl, ⟨by decide, by decide⟩, _, _, rfl, rfl, (by show (0 : Int) < 8; decide), L, _, _, x, rfl, rfl, SqL.of upd_same, hx, ?_⟩
      have ep := z2 p (.lst [.int 0]) upd_same
      have hb : Kd K _ x ∧ isWh 0 15 x = false := odd_no ep hm
      have zz := z1.trans z2
      exact k15 C l cs xs n m x _ _ _ _ _ _ _ _ _ _ (s1.trans zz) (zz _ _ eC) (zz _ _ eL) (rl.mono zz) hc hl hb.1 hb.2
    obtain ⟨t12, r12, k12⟩ : ∃ tr, PSs ((cxOf CX0 P w K mg base ["_law_script", "_law_cells_here", "_law_runs_here", "_law_number", "_law_odd", "_law_kept", "_law_due", "_law_many", "_law_cell", "_law_bent_here", "_law_at", "_law_thing", "_law_bad", "_law_handed", "_law_first"] "law" (defScope s_law) f cdv A outer s H E).nox) ((defBody s_law).drop 12) tr ∧
        ∀ (C l : Addr) (cs : List Int) (xs : List V) (n : Nat) (v4 v5 v6 v7 v8 v9 v10 v11 v12 v13 v14 : Option V) (H1 : Hp), Same H H1 → H1 C = some (.lst (cs.map V.int)) → H1 l = some (.lst xs) → RunL H1 xs (runsL cs) → Cells cs → cs.length ≤ 576 → tr { nx := fun _ H' => Q .non H', rt := Q } [some (.ref a), some (.ref C), some (.ref l), some (.int (n : Int)), v4, v5, v6, v7, v8, v9, v10, v11, v12, v13, v14] H1 := by
      refine ⟨_, (pss_cons (ps_if (pt_cmpR (neDK K rfl hu) (pe_callD g__law_asked (hr.mono (by decide)) rfl (pa_cons pe_int (pa_cons (pe_ix (ixK K rfl) (pe_lst (pa_cons pe_non (pa_cons pe_int (pa_cons (pe_lst (pa_cons pe_str pa_nil)) (pa_cons (pe_tup (pa_cons pe_str pa_nil)) (pa_cons (pv 2) pa_nil)))))) (pe_op op_mod (pv 3) pe_int) (fun _ _ => rfl)) pa_nil))) (pe_lst (pa_cons pe_str pa_nil)) (nomark _)) (pss_one (ps_ret pe_bl)) pss_nil)
        (@r13)), ?_⟩
      intro C l cs xs n v4 v5 v6 v7 v8 v9 v10 v11 v12 v13 v14 H1 s1 eC eL rl hc hl
      refine ⟨(by show 1 ≤ sizeLine; decide), fun p1 g1 => ?_⟩
      have z1 := same_new (o := HO.lst [V.str "a"]) g1
      refine ⟨(by show 1 ≤ sizeLine; decide), fun p2 g2 => ?_⟩
      have z2 := same_new (o := HO.tup [V.str "a"]) g2
      refine ⟨_, rfl, (by show 5 ≤ sizeLine; decide), fun p3 g3 => ?_⟩
      have z3 := same_new (o := HO.lst [V.non, .int 5, .ref p1, .ref p2, .ref l]) g3
      obtain ⟨v, hm, hv⟩ := at_mod (xs := [V.non, .int 5, .ref p1, .ref p2, .ref l]) (m := (n : Int)) 5 rfl (by decide)
      have z23 := z2.trans z3
      have z13 := z1.trans z23
      obtain ⟨kd, ns'⟩ := five_kd (K := K) (z23 _ _ upd_same) (z3 _ _ upd_same) (z13 _ _ eL) hm
      refine ⟨_, rfl, _, _, rfl, rfl, (by show (0 : Int) < 5; decide), p3, _, _, v, rfl, rfl, SqL.of upd_same, hv, ?_⟩
      refine ⟨1, v, rfl, .w1 kd (fun t e => absurd e (ns' t)) (fun t rs e => absurd e (ns' t)) (fun _ L H2 s2 eL2 => ?_)⟩
      refine ⟨(by show 1 ≤ sizeLine; decide), fun q gq => ?_⟩
      have z := same_new (o := HO.lst [V.str "runs"]) gq
      have s3 := z13.trans (s2.trans z)
      exact ⟨0, L, q, true, by decide, rfl, rfl, eqOne (z _ _ eL2) upd_same, _, rfl, k13 C l cs xs n _ _ _ _ _ _ _ _ _ _ _ _ (s1.trans s3) (s3 _ _ eC) (s3 _ _ eL) (rl.mono s3) hc hl⟩
    obtain ⟨t10, r10, k10⟩ : ∃ tr, PSs ((cxOf CX0 P w K mg base ["_law_script", "_law_cells_here", "_law_runs_here", "_law_number", "_law_odd", "_law_kept", "_law_due", "_law_many", "_law_cell", "_law_bent_here", "_law_at", "_law_thing", "_law_bad", "_law_handed", "_law_first"] "law" (defScope s_law) f cdv A outer s H E).nox) ((defBody s_law).drop 10) tr ∧
        ∀ (C l : Addr) (cs : List Int) (xs : List V) (n : Nat) (v4 v5 v6 v7 v8 v9 v10 v11 v12 v13 v14 : Option V) (H1 : Hp), Same H H1 → H1 C = some (.lst (cs.map V.int)) → H1 l = some (.lst xs) → RunL H1 xs (runsL cs) → Cells cs → cs.length ≤ 576 → tr { nx := fun _ H' => Q .non H', rt := Q } [some (.ref a), some (.ref C), some (.ref l), some (.int (n : Int)), v4, v5, v6, v7, v8, v9, v10, v11, v12, v13, v14] H1 := by
      refine ⟨_, (pss_cons (ps_set (i := 9) sc_law.nd rfl (by first | exact Or.inl rfl | exact Or.inr rfl) (pe_callD g__law_bent (hr.mono (by decide)) rfl (pa_cons (pe_callD g__law_text (hr.mono (by decide)) rfl (pa_cons (pv 2) pa_nil)) (pa_cons (pe_callD g__law_draw (hr.mono (by decide)) rfl (pa_cons (pv 0) (pa_cons pe_int pa_nil))) pa_nil))))
        (pss_cons (ps_if (pt_not (pt_val (pe_callD g__law_looked (hr.mono (by decide)) rfl (pa_cons pe_int (pa_cons (pv 9) (pa_cons (pe_callD g__law_by_text (hr.mono (by decide)) rfl (pa_cons (pv 9) pa_nil)) pa_nil)))))) (pss_one (ps_ret pe_bl)) pss_nil)
        (@r12))), ?_⟩
      intro C l cs xs n v4 v5 v6 v7 v8 v9 v10 v11 v12 v13 v14 H1 s1 eC eL rl hc hl
      have o := runs_cells hc hl
      refine ⟨_, rfl, .ref l, runsL cs, rfl, ⟨l, xs, rfl, eL, rl, o⟩, fun H2 s2 => ?_⟩
      refine ⟨_, rfl, a, ns, 1, rfl, (s1.trans s2).seq hS, by decide, fun n1 H3 hn1 s3 => ?_⟩
      refine ⟨txS (runsL cs), n1, rfl, txS_le o, fun t H4 ht s4 => ?_⟩
      have s14 := s2.trans (s3.trans s4)
      have go : ∀ H5, Same H4 H5 → _ := fun H5 s5 => k12 C l cs xs n v4 v5 v6 v7 v8 (some (.str t)) v10 v11 v12 v13 v14 H5 (s1.trans (s14.trans s5)) ((s14.trans s5) _ _ eC) ((s14.trans s5) _ _ eL) (rl.mono (s14.trans s5)) hc hl
      refine ⟨_, rfl, _, rfl, t, rfl, ht, fun rs hr p ys H5 s5 hp ep rp => ?_, fun hn H5 s5 => ?_⟩
      · exact ⟨1, .str t, .ref p, rfl, .a1 t rs p ys rfl ht (by rw [text_same]; exact hr) rfl ep rp, fun H6 s6 => ⟨_, rfl, go H6 (s5.trans s6)⟩⟩
      · exact ⟨1, .str t, .non, rfl, .n1 t rfl ht (by rw [text_same]; exact hn) rfl, fun H6 s6 => ⟨_, rfl, go H6 (s5.trans s6)⟩⟩
    obtain ⟨t8, r8, k8⟩ : ∃ tr, PSs ((cxOf CX0 P w K mg base ["_law_script", "_law_cells_here", "_law_runs_here", "_law_number", "_law_odd", "_law_kept", "_law_due", "_law_many", "_law_cell", "_law_bent_here", "_law_at", "_law_thing", "_law_bad", "_law_handed", "_law_first"] "law" (defScope s_law) f cdv A outer s H E).nox) ((defBody s_law).drop 8) tr ∧
        ∀ (C l : Addr) (cs : List Int) (xs : List V) (n : Nat) (v d : V) (tx : Str) (v7 v8 v9 v10 v11 v12 v13 v14 : Option V) (H1 : Hp), Same H H1 → H1 C = some (.lst (cs.map V.int)) → H1 l = some (.lst xs) → RunL H1 xs (runsL cs) → Cells cs → cs.length ≤ 576 → TRs K H1 v → StrV H1 v tx → Due H1 v d → tr { nx := fun _ H' => Q .non H', rt := Q } [some (.ref a), some (.ref C), some (.ref l), some (.int (n : Int)), some v, some (.str tx), some d, v7, v8, v9, v10, v11, v12, v13, v14] H1 := by
      refine ⟨_, (pss_cons (ps_if (PW.pt (pw_or (pt_not (pt_val (pe_callD g__law_looked (hr.mono (by decide)) rfl (pa_cons pe_int (pa_cons (pv 4) (pa_cons (pv 6) pa_nil)))))) (pw_or1 (pt_cmpR op_ne (pe_callTy (call_strV hu hgd) rfl T.str PyProof.Rows.boot_str (pa_cons (pv 4) pa_nil)) (pv 5) (nomark _))))) (pss_one (ps_ret pe_bl)) pss_nil)
        (pss_cons (ps_if (PW.pt (pw_or (pt_cmpR op_ne (pe_cmpR (eqDK K rfl hu) (pe_callD g__law_asked (hr.mono (by decide)) rfl (pa_cons pe_int (pa_cons (pv 4) pa_nil))) (pe_lst (pa_cons pe_str pa_nil)) (nomark _)) (pe_cmp (pc_isN (pv 6))) (nomark _)) (pw_or1 (PW.pt (pw_and (pt_cmp (pc_notN (pv 6))) (pw_and1 (pt_cmpR op_ne (pe_callX g_runs_text (hr.mono (by decide)) passF rfl (pa_cons (pv 4) pa_nil)) (pe_callD g__law_text (hr.mono (by decide)) rfl (pa_cons (pv 4) pa_nil)) (nomark _)))))))) (pss_one (ps_ret pe_bl)) pss_nil)
        (@r10))), ?_⟩
      intro C l cs xs n v d tx v7 v8 v9 v10 v11 v12 v13 v14 H1 s1 eC eL rl hc hl tr st du
      have lk : Look K H1 v d 0 := by
        rcases du with ⟨rs, p, h, e, hp⟩ | ⟨h, e⟩
        · exact .a0 rs p tr h e hp
        · exact .n0 tr h e
      refine ⟨_, rfl, _, rfl, 0, v, d, rfl, lk, fun H2 s2 => ⟨_, rfl, ?_⟩⟩
      refine ⟨_, rfl, v, tx, rfl, st.mono s2, _, rfl, rfl, _, rfl, iteN (fun hn => absurd rfl (of_decide_eq_false hn)) (fun _ => ?_)⟩
      have tr2 := tr.mono s2
      have du2 := du.mono tr s2
      have go : ∀ H5, Same H2 H5 → _ := fun H5 s5 => k10 C l cs xs n (some v) (some (.str tx)) (some d) v7 v8 v9 v10 v11 v12 v13 v14 H5 (s1.trans (s2.trans s5)) ((s2.trans s5) _ _ eC) ((s2.trans s5) _ _ eL) (rl.mono (s2.trans s5)) hc hl
      rcases du2 with ⟨rs, p, h, rfl, hp⟩ | ⟨hno, rfl⟩
      · refine ⟨_, rfl, 2, v, rfl, .w2 tr2 (fun qs hq L H3 s3 eL3 => ?_) (fun hno => absurd h (hno _))⟩
        refine ⟨(by show 1 ≤ sizeLine; decide), fun q gq => ?_⟩
        have z := same_new (o := HO.lst [V.str "runs"]) gq
        have s3z := s3.trans z
        refine ⟨0, L, q, false, by decide, rfl, rfl, eqDiff (z _ _ eL3) upd_same (by show 2 ≠ 1; decide), _, rfl, rfl, _, rfl, iteN (fun hn => absurd (show V.bl false = V.bl (decide (V.ref p = V.non)) by rw [decide_eq_false (fun z => nomatch z)]) (of_decide_eq_false hn)) (fun _ => ?_)⟩
        refine ⟨_, rfl, _, rfl, iteN (fun _ => ?_) (fun hn => absurd (of_decide_eq_true hn) (fun z => nomatch z))⟩
        have h3 := h.mono s3z
        refine ⟨_, rfl, v, rfl, tr2.mono s3z, fun qs2 hq2 H4 s4 => ?_, fun hno => absurd h3 (hno _)⟩
        refine ⟨_, rfl, v, qs2, rfl, hq2.mono s4, fun H5 s5 => ⟨rfl, _, rfl, iteN (fun hn => absurd rfl (of_decide_eq_false hn)) (fun _ => go H5 (s3z.trans (s4.trans s5)))⟩⟩
      · refine ⟨_, rfl, 2, v, rfl, .w2 tr2 (fun qs hq => absurd hq (hno _)) (fun _ L H3 s3 eL3 => ?_)⟩
        refine ⟨(by show 1 ≤ sizeLine; decide), fun q gq => ?_⟩
        have z := same_new (o := HO.lst [V.str "runs"]) gq
        have s3z := s3.trans z
        refine ⟨0, L, q, true, by decide, rfl, rfl, eqOne (z _ _ eL3) upd_same, _, rfl, rfl, _, rfl, iteN (fun hn => absurd rfl (of_decide_eq_false hn)) (fun _ => ?_)⟩
        exact ⟨_, rfl, _, rfl, iteN (fun hn => absurd rfl (of_decide_eq_false hn)) (fun _ => go _ s3z)⟩
    obtain ⟨t6, r6, k6⟩ : ∃ tr, PSs ((cxOf CX0 P w K mg base ["_law_script", "_law_cells_here", "_law_runs_here", "_law_number", "_law_odd", "_law_kept", "_law_due", "_law_many", "_law_cell", "_law_bent_here", "_law_at", "_law_thing", "_law_bad", "_law_handed", "_law_first"] "law" (defScope s_law) f cdv A outer s H E).nox) ((defBody s_law).drop 6) tr ∧
        ∀ (C l : Addr) (cs : List Int) (xs : List V) (n : Nat) (v : V) (tx : Str) (v6 v7 v8 v9 v10 v11 v12 v13 v14 : Option V) (H1 : Hp), Same H H1 → H1 C = some (.lst (cs.map V.int)) → H1 l = some (.lst xs) → RunL H1 xs (runsL cs) → Cells cs → cs.length ≤ 576 → TRs K H1 v → StrV H1 v tx → tr { nx := fun _ H' => Q .non H', rt := Q } [some (.ref a), some (.ref C), some (.ref l), some (.int (n : Int)), some v, some (.str tx), v6, v7, v8, v9, v10, v11, v12, v13, v14] H1 := by
      refine ⟨_, (pss_cons (ps_set (i := 6) sc_law.nd rfl (by first | exact Or.inl rfl | exact Or.inr rfl) pe_non)
        (pss_cons (ps_if (pt_val (pe_callD g__law_is_runs (hr.mono (by decide)) rfl (pa_cons (pv 4) pa_nil))) (pss_cons (ps_set (i := 6) sc_law.nd rfl (by first | exact Or.inl rfl | exact Or.inr rfl) (pe_lst pa_nil))
        (pss_one (ps_for PassesOwn.never rfl (piK K rfl (pv 4)) (pg_tup rfl (pgs_cons (pg_name (i := 7) sc_law.nd rfl (by first | exact Or.inl rfl | exact Or.inr rfl)) (pgs_cons (pg_name (i := 8) sc_law.nd rfl (by first | exact Or.inl rfl | exact Or.inr rfl)) pgs_nil))) (pss_one (ps_set (i := 6) sc_law.nd rfl (by first | exact Or.inl rfl | exact Or.inr rfl) (pe_op op_cat (pv 6) (pe_op op_rep (pe_lst (pa_cons (pv 8) pa_nil)) (pv 7)))))))) pss_nil)
        (@r8))), ?_⟩
      intro C l cs xs n v tx v6 v7 v8 v9 v10 v11 v12 v13 v14 H1 s1 eC eL rl hc hl tr st
      have go : ∀ (d : V) (w7 w8 : Option V) (H5 : Hp), Same H1 H5 → Due H5 v d → _ := fun d w7 w8 H5 s5 du => k8 C l cs xs n v d tx w7 w8 v9 v10 v11 v12 v13 v14 H5 (s1.trans s5) (s5 _ _ eC) (s5 _ _ eL) (rl.mono s5) hc hl (tr.mono s5) (st.mono s5) du
      refine ⟨_, rfl, v, rfl, tr, fun rs h H2 s2 => ⟨_, rfl, ?_⟩, fun hno H2 s2 => ⟨_, rfl, go .non v7 v8 H2 s2 (.inr ⟨no_mono tr s2 hno, rfl⟩)⟩⟩
      have h0 := h
      obtain ⟨b, ys, rfl, eb, rb, o⟩ := h
      have eb2 := s2 _ _ eb
      refine ⟨Nat.zero_le _, fun D0 g0 => ?_⟩
      have z0 := same_new (o := HO.lst []) g0
      refine ⟨_, rfl, b, rfl, ⟨_, SqL.of (z0 _ _ eb2)⟩, ?_⟩
      refine for_list (xs := ys) (fun i σ H3 => Same H1 H3 ∧ ∃ (D : Addr) (w7 w8 : Option V), σ = [some (.ref a), some (.ref C), some (.ref l), some (.int (n : Int)), some (.ref b), some (.str tx), some (.ref D), w7, w8, v9, v10, v11, v12, v13, v14] ∧ H3 D = some (.lst ((xp (rs.take i)).map V.int))) ⟨s2.trans z0, D0, v7, v8, rfl, upd_same⟩ (fun i σ H3 _ p => SqL.of (p.1 _ _ eb)) ?_ ?_
      · rintro i x σ H3 hx ⟨s3, D, w7, w8, rfl, eD⟩
        have hi : i < rs.length := by
          have := List.getElem?_eq_some_iff.mp hx |>.1
          have := rb.1; omega
        obtain ⟨p, p1, p2⟩ := rb.2 i rs[i] (List.getElem?_eq_getElem hi)
        rw [hx] at p1; cases p1
        have q := run_in o (List.getElem_mem hi)
        have lt := take_len o i
        have ex : xp (rs.take (i + 1)) = xp (rs.take i) ++ List.replicate rs[i].1.toNat rs[i].2 := by
          rw [List.take_succ, List.getElem?_eq_getElem hi, xp_app]
          show _ ++ xp [rs[i]] = _
          rw [xp_cons]
          show _ ++ (_ ++ []) = _
          rw [List.append_nil]
        refine ⟨p, _, rfl, SqT.of (s3 _ _ p2), rfl, _, _, rfl, _, _, rfl, rfl, ?_⟩
        refine ⟨_, rfl, _, rfl, (by show 1 ≤ sizeLine; decide), fun q1 g1 => ?_⟩
        have z3 := same_new (o := HO.lst [V.int rs[i].2]) g1
        refine ⟨_, rfl, q1, rs[i].1, _, rfl, rfl, upd_same, by omega, by omega, (by show 1 * _ ≤ _; exact Nat.le_trans (by omega : _ ≤ 600) (by decide)), fun q2 g2 => ?_⟩
        have z4 := same_new (o := HO.lst (List.replicate rs[i].1.toNat [V.int rs[i].2]).flatten) g2
        have z34 := z3.trans z4
        refine ⟨D, q2, _, _, rfl, rfl, z34 _ _ eD, upd_same, Nat.le_trans (by rw [List.length_map, len_rep]; show _ + _ * 1 ≤ 2000; omega) (by decide), fun q3 g3 => ?_⟩
        refine ⟨s3.trans (z34.trans (same_new g3)), q3, _, _, rfl, ?_⟩
        rw [upd_same, ex, List.map_append, rep_map]
      · rintro σ H3 ⟨s3, D, w7, w8, rfl, eD⟩
        rw [List.take_of_length_le (by rw [rb.1]; exact Nat.le_refl _)] at eD
        exact go (.ref D) w7 w8 H3 s3 (.inl ⟨rs, D, h0.mono s3, rfl, eD⟩)
    refine ⟨_, (pss_cons (ps_set (i := 1) sc_law.nd rfl (by first | exact Or.inl rfl | exact Or.inr rfl) (pe_callD g__law_cells (hr.mono (by decide)) rfl (pa_cons (pv 0) (pa_cons pe_int pa_nil))))
        (pss_cons (ps_if (pt_not (pt_val (pe_callD g__law_good (hr.mono (by decide)) rfl (pa_cons (pv 1) pa_nil)))) (pss_one (ps_ret pe_bl)) pss_nil)
        (pss_cons (ps_set (i := 2) sc_law.nd rfl (by first | exact Or.inl rfl | exact Or.inr rfl) (pe_callD g__law_runs (hr.mono (by decide)) rfl (pa_cons (pv 1) pa_nil)))
        (pss_cons (ps_set (i := 3) sc_law.nd rfl (by first | exact Or.inl rfl | exact Or.inr rfl) (pe_callD g__law_draw (hr.mono (by decide)) rfl (pa_cons (pv 0) (pa_cons pe_int pa_nil))))
        (pss_cons (ps_set (i := 4) sc_law.nd rfl (by first | exact Or.inl rfl | exact Or.inr rfl) (pe_callD g__law_odd_runs (hr.mono (by decide)) rfl (pa_cons (pv 2) (pa_cons (pv 3) pa_nil))))
        (pss_cons (ps_set (i := 5) sc_law.nd rfl (by first | exact Or.inl rfl | exact Or.inr rfl) (pe_callTy (call_strV hu hgd) rfl T.str PyProof.Rows.boot_str (pa_cons (pv 4) pa_nil)))
        (@r6))))))), ?_⟩
    refine ⟨_, rfl, a, ns, 2, rfl, hS, by decide, fun C cs H1 s1 _ eC hc hl => ?_⟩
    refine ⟨_, rfl, C, cs, rfl, eC, hc, hl, fun H2 s2 => ⟨_, rfl, ?_⟩⟩
    refine ⟨_, rfl, C, cs, rfl, s2 _ _ eC, by omega, fun l xs H3 s3 _ eL rl => ?_⟩
    have s13 := s2.trans s3
    refine ⟨_, rfl, a, ns, 0, rfl, (s1.trans s13).seq hS, by decide, fun n H4 _ s4 => ?_⟩
    refine ⟨_, rfl, _, rfl, l, xs, runsL cs, n, rfl, s4 _ _ eL, rl.mono s4, runs_cells hc hl, fun v H5 s5 ⟨tr, tx, st⟩ => ?_⟩
    refine ⟨_, rfl, v, tx, rfl, st, ?_⟩
    have s45 := s4.trans s5
    exact k6 C l cs xs n v tx _ _ _ _ _ _ _ _ _ H5 (s1.trans (s13.trans s45)) ((s13.trans s45) _ _ eC) (s45 _ _ eL) (rl.mono s45) hc hl tr st
end
end K20
set_option Elab.async false
set_option linter.all false
set_option maxRecDepth 100000
set_option maxHeartbeats 8000000
namespace K20
open PySem L2
theorem all_mk {l : PySem.W.OpenLaw} {w : World} {K : PySem.W.Frag} {h : Heap} {mg : Str → Option Value} {fa : Addr} (X : K.In h) (G : h.Ns mainGlobals mg) (hfa : mg "law" = some (.ref fa))
    {f1 f2 f3 f4 f5 f6 f7 f8 f9 f10 f11 f12 f13 f14 f15 f16 f17 f18 f19 f20 f21 f22 f23 f24 f25 f26 f27 f28 f29 f30 f31 cFE cC cP cBadColour cBadCheck cBadDeed cBadEdge cBadHead cBadMask cBadName cBadPack cBadPalette cBadPart cBadPicture cBadRule cBadSize cBadText cNoColour cNoPart cNoPicture cNothingDone cOutOfPlace cTooMany cTwice : Addr} {tC tL tG tB : Tok} {od1 an1 od2 an2 od3 an3 od4 an4 od5 an5 od6 an6 od7 an7 od8 an8 od9 an9 od10 an10 od11 an11 od12 an12 od13 an13 od14 an14 od15 an15 od16 an16 od17 an17 od18 an18 od19 an19 od20 an20 od21 an21 od22 an22 od23 an23 od24 an24 od25 an25 od26 an26 od27 an27 od28 an28 od29 an29 od30 an30 od31 an31 : Option Addr} {sl1 sl2 sl3 sl4 sl5 sl6 sl7 sl8 sl9 sl10 sl11 sl12 sl13 sl14 sl15 sl16 sl17 sl18 sl19 sl20 sl21 sl22 sl23 sl24 sl25 sl26 sl27 sl28 sl29 sl30 sl31 : Array (Option Value)} {oc1 kV1 dc1 pm1 cd1 ct1 oc2 kV2 dc2 pm2 cd2 ct2 oc3 kV3 dc3 pm3 cd3 ct3 oc4 kV4 dc4 pm4 cd4 ct4 oc5 kV5 dc5 pm5 cd5 ct5 oc6 kV6 dc6 pm6 cd6 ct6 oc7 kV7 dc7 pm7 cd7 ct7 oc8 kV8 dc8 pm8 cd8 ct8 oc9 kV9 dc9 pm9 cd9 ct9 oc10 kV10 dc10 pm10 cd10 ct10 oc11 kV11 dc11 pm11 cd11 ct11 oc12 kV12 dc12 pm12 cd12 ct12 oc13 kV13 dc13 pm13 cd13 ct13 oc14 kV14 dc14 pm14 cd14 ct14 oc15 kV15 dc15 pm15 cd15 ct15 oc16 kV16 dc16 pm16 cd16 ct16 oc17 kV17 dc17 pm17 cd17 ct17 oc18 kV18 dc18 pm18 cd18 ct18 oc19 kV19 dc19 pm19 cd19 ct19 oc20 kV20 dc20 pm20 cd20 ct20 oc21 kV21 dc21 pm21 cd21 ct21 oc22 kV22 dc22 pm22 cd22 ct22 oc23 kV23 dc23 pm23 cd23 ct23 oc24 kV24 dc24 pm24 cd24 ct24 oc25 kV25 dc25 pm25 cd25 ct25 oc26 kV26 dc26 pm26 cd26 ct26 oc27 kV27 dc27 pm27 cd27 ct27 oc28 kV28 dc28 pm28 cd28 ct28 oc29 kV29 dc29 pm29 cd29 ct29 oc30 kV30 dc30 pm30 cd30 ct30 oc31 kV31 dc31 pm31 cd31 ct31 : Value}
    (a1 : PySem.W.nsIn K mainGlobals "is_whole_from" = some (some (.ref f1))) (l1 : K.lookup f1 = some ⟨oc1, od1, .func (PySem.W.fnOf "is_whole_from" "is_whole_from" (defArgs s_is_whole_from) (defBody s_is_whole_from) (defScope s_is_whole_from) .none kV1 dc1 pm1 an1 cd1 ct1), sl1⟩) (c1 : PySem.W.codeIn K cd1 "is_whole_from" = true) (k1 : PySem.W.keepIn K (.ref f1) = true)
    (a2 : PySem.W.nsIn K mainGlobals "is_whole_within" = some (some (.ref f2))) (l2 : K.lookup f2 = some ⟨oc2, od2, .func (PySem.W.fnOf "is_whole_within" "is_whole_within" (defArgs s_is_whole_within) (defBody s_is_whole_within) (defScope s_is_whole_within) .none kV2 dc2 pm2 an2 cd2 ct2), sl2⟩) (c2 : PySem.W.codeIn K cd2 "is_whole_within" = true) (k2 : PySem.W.keepIn K (.ref f2) = true)
    (a3 : PySem.W.nsIn K mainGlobals "is_cell" = some (some (.ref f3))) (l3 : K.lookup f3 = some ⟨oc3, od3, .func (PySem.W.fnOf "is_cell" "is_cell" (defArgs s_is_cell) (defBody s_is_cell) (defScope s_is_cell) .none kV3 dc3 pm3 an3 cd3 ct3), sl3⟩) (c3 : PySem.W.codeIn K cd3 "is_cell" = true) (k3 : PySem.W.keepIn K (.ref f3) = true)
    (a4 : PySem.W.nsIn K mainGlobals "is_list_of" = some (some (.ref f4))) (l4 : K.lookup f4 = some ⟨oc4, od4, .func (PySem.W.fnOf "is_list_of" "is_list_of" (defArgs s_is_list_of) (defBody s_is_list_of) (defScope s_is_list_of) .none kV4 dc4 pm4 an4 cd4 ct4), sl4⟩) (c4 : PySem.W.codeIn K cd4 "is_list_of" = true) (k4 : PySem.W.keepIn K (.ref f4) = true)
    (a5 : PySem.W.nsIn K mainGlobals "is_list_of_cells" = some (some (.ref f5))) (l5 : K.lookup f5 = some ⟨oc5, od5, .func (PySem.W.fnOf "is_list_of_cells" "is_list_of_cells" (defArgs s_is_list_of_cells) (defBody s_is_list_of_cells) (defScope s_is_list_of_cells) .none kV5 dc5 pm5 an5 cd5 ct5), sl5⟩) (c5 : PySem.W.codeIn K cd5 "is_list_of_cells" = true) (k5 : PySem.W.keepIn K (.ref f5) = true)
    (a6 : PySem.W.nsIn K mainGlobals "need_cells" = some (some (.ref f6))) (l6 : K.lookup f6 = some ⟨oc6, od6, .func (PySem.W.fnOf "need_cells" "need_cells" (defArgs s_need_cells) (defBody s_need_cells) (defScope s_need_cells) .none kV6 dc6 pm6 an6 cd6 ct6), sl6⟩) (c6 : PySem.W.codeIn K cd6 "need_cells" = true) (k6 : PySem.W.keepIn K (.ref f6) = true)
    (a7 : PySem.W.nsIn K mainGlobals "runs_of" = some (some (.ref f7))) (l7 : K.lookup f7 = some ⟨oc7, od7, .func (PySem.W.fnOf "runs_of" "runs_of" (defArgs s_runs_of) (defBody s_runs_of) (defScope s_runs_of) .none kV7 dc7 pm7 an7 cd7 ct7), sl7⟩) (c7 : PySem.W.codeIn K cd7 "runs_of" = true) (k7 : PySem.W.keepIn K (.ref f7) = true)
    (a8 : PySem.W.nsIn K mainGlobals "is_run" = some (some (.ref f8))) (l8 : K.lookup f8 = some ⟨oc8, od8, .func (PySem.W.fnOf "is_run" "is_run" (defArgs s_is_run) (defBody s_is_run) (defScope s_is_run) .none kV8 dc8 pm8 an8 cd8 ct8), sl8⟩) (c8 : PySem.W.codeIn K cd8 "is_run" = true) (k8 : PySem.W.keepIn K (.ref f8) = true)
    (a9 : PySem.W.nsIn K mainGlobals "is_list_of" = some (some (.ref f9))) (l9 : K.lookup f9 = some ⟨oc9, od9, .func (PySem.W.fnOf "is_list_of" "is_list_of" (defArgs s_is_list_of) (defBody s_is_list_of) (defScope s_is_list_of) .none kV9 dc9 pm9 an9 cd9 ct9), sl9⟩) (c9 : PySem.W.codeIn K cd9 "is_list_of" = true) (k9 : PySem.W.keepIn K (.ref f9) = true)
    (a10 : PySem.W.nsIn K mainGlobals "are_runs" = some (some (.ref f10))) (l10 : K.lookup f10 = some ⟨oc10, od10, .func (PySem.W.fnOf "are_runs" "are_runs" (defArgs s_are_runs) (defBody s_are_runs) (defScope s_are_runs) .none kV10 dc10 pm10 an10 cd10 ct10), sl10⟩) (c10 : PySem.W.codeIn K cd10 "are_runs" = true) (k10 : PySem.W.keepIn K (.ref f10) = true)
    (a11 : PySem.W.nsIn K mainGlobals "need_runs" = some (some (.ref f11))) (l11 : K.lookup f11 = some ⟨oc11, od11, .func (PySem.W.fnOf "need_runs" "need_runs" (defArgs s_need_runs) (defBody s_need_runs) (defScope s_need_runs) .none kV11 dc11 pm11 an11 cd11 ct11), sl11⟩) (c11 : PySem.W.codeIn K cd11 "need_runs" = true) (k11 : PySem.W.keepIn K (.ref f11) = true)
    (a12 : PySem.W.nsIn K mainGlobals "cells_by_runs" = some (some (.ref f12))) (l12 : K.lookup f12 = some ⟨oc12, od12, .func (PySem.W.fnOf "cells_by_runs" "cells_by_runs" (defArgs s_cells_by_runs) (defBody s_cells_by_runs) (defScope s_cells_by_runs) .none kV12 dc12 pm12 an12 cd12 ct12), sl12⟩) (c12 : PySem.W.codeIn K cd12 "cells_by_runs" = true) (k12 : PySem.W.keepIn K (.ref f12) = true)
    (a13 : PySem.W.nsIn K mainGlobals "run_text" = some (some (.ref f13))) (l13 : K.lookup f13 = some ⟨oc13, od13, .func (PySem.W.fnOf "run_text" "run_text" (defArgs s_run_text) (defBody s_run_text) (defScope s_run_text) .none kV13 dc13 pm13 an13 cd13 ct13), sl13⟩) (c13 : PySem.W.codeIn K cd13 "run_text" = true) (k13 : PySem.W.keepIn K (.ref f13) = true)
    (a14 : PySem.W.nsIn K mainGlobals "runs_text" = some (some (.ref f14))) (l14 : K.lookup f14 = some ⟨oc14, od14, .func (PySem.W.fnOf "runs_text" "runs_text" (defArgs s_runs_text) (defBody s_runs_text) (defScope s_runs_text) .none kV14 dc14 pm14 an14 cd14 ct14), sl14⟩) (c14 : PySem.W.codeIn K cd14 "runs_text" = true) (k14 : PySem.W.keepIn K (.ref f14) = true)
    (a15 : PySem.W.nsIn K mainGlobals "runs_as_read" = some (some (.ref f15))) (l15 : K.lookup f15 = some ⟨oc15, od15, .func (PySem.W.fnOf "runs_as_read" "runs_as_read" (defArgs s_runs_as_read) (defBody s_runs_as_read) (defScope s_runs_as_read) .none kV15 dc15 pm15 an15 cd15 ct15), sl15⟩) (c15 : PySem.W.codeIn K cd15 "runs_as_read" = true) (k15 : PySem.W.keepIn K (.ref f15) = true)
    (a16 : PySem.W.nsIn K mainGlobals "runs_by_text" = some (some (.ref f16))) (l16 : K.lookup f16 = some ⟨oc16, od16, .func (PySem.W.fnOf "runs_by_text" "runs_by_text" (defArgs s_runs_by_text) (defBody s_runs_by_text) (defScope s_runs_by_text) .none kV16 dc16 pm16 an16 cd16 ct16), sl16⟩) (c16 : PySem.W.codeIn K cd16 "runs_by_text" = true) (k16 : PySem.W.keepIn K (.ref f16) = true)
    (a17 : PySem.W.nsIn K mainGlobals "_law_draw" = some (some (.ref f17))) (l17 : K.lookup f17 = some ⟨oc17, od17, .func (PySem.W.fnOf "_law_draw" "_law_draw" (defArgs s_law_draw) (defBody s_law_draw) (defScope s_law_draw) .none kV17 dc17 pm17 an17 cd17 ct17), sl17⟩) (c17 : PySem.W.codeIn K cd17 "_law_draw" = true) (k17 : PySem.W.keepIn K (.ref f17) = true)
    (a18 : PySem.W.nsIn K mainGlobals "_law_whole" = some (some (.ref f18))) (l18 : K.lookup f18 = some ⟨oc18, od18, .func (PySem.W.fnOf "_law_whole" "_law_whole" (defArgs s_law_whole) (defBody s_law_whole) (defScope s_law_whole) .none kV18 dc18 pm18 an18 cd18 ct18), sl18⟩) (c18 : PySem.W.codeIn K cd18 "_law_whole" = true) (k18 : PySem.W.keepIn K (.ref f18) = true)
    (a19 : PySem.W.nsIn K mainGlobals "_law_word" = some (some (.ref f19))) (l19 : K.lookup f19 = some ⟨oc19, od19, .func (PySem.W.fnOf "_law_word" "_law_word" (defArgs s_law_word) (defBody s_law_word) (defScope s_law_word) .none kV19 dc19 pm19 an19 cd19 ct19), sl19⟩) (c19 : PySem.W.codeIn K cd19 "_law_word" = true) (k19 : PySem.W.keepIn K (.ref f19) = true)
    (a20 : PySem.W.nsIn K mainGlobals "_law_cells" = some (some (.ref f20))) (l20 : K.lookup f20 = some ⟨oc20, od20, .func (PySem.W.fnOf "_law_cells" "_law_cells" (defArgs s_law_cells) (defBody s_law_cells) (defScope s_law_cells) .none kV20 dc20 pm20 an20 cd20 ct20), sl20⟩) (c20 : PySem.W.codeIn K cd20 "_law_cells" = true) (k20 : PySem.W.keepIn K (.ref f20) = true)
    (a21 : PySem.W.nsIn K mainGlobals "_law_runs" = some (some (.ref f21))) (l21 : K.lookup f21 = some ⟨oc21, od21, .func (PySem.W.fnOf "_law_runs" "_law_runs" (defArgs s_law_runs) (defBody s_law_runs) (defScope s_law_runs) .none kV21 dc21 pm21 an21 cd21 ct21), sl21⟩) (c21 : PySem.W.codeIn K cd21 "_law_runs" = true) (k21 : PySem.W.keepIn K (.ref f21) = true)
    (a22 : PySem.W.nsIn K mainGlobals "_law_is_runs" = some (some (.ref f22))) (l22 : K.lookup f22 = some ⟨oc22, od22, .func (PySem.W.fnOf "_law_is_runs" "_law_is_runs" (defArgs s_law_is_runs) (defBody s_law_is_runs) (defScope s_law_is_runs) .none kV22 dc22 pm22 an22 cd22 ct22), sl22⟩) (c22 : PySem.W.codeIn K cd22 "_law_is_runs" = true) (k22 : PySem.W.keepIn K (.ref f22) = true)
    (a23 : PySem.W.nsIn K mainGlobals "_law_text" = some (some (.ref f23))) (l23 : K.lookup f23 = some ⟨oc23, od23, .func (PySem.W.fnOf "_law_text" "_law_text" (defArgs s_law_text) (defBody s_law_text) (defScope s_law_text) .none kV23 dc23 pm23 an23 cd23 ct23), sl23⟩) (c23 : PySem.W.codeIn K cd23 "_law_text" = true) (k23 : PySem.W.keepIn K (.ref f23) = true)
    (a24 : PySem.W.nsIn K mainGlobals "_law_by_text" = some (some (.ref f24))) (l24 : K.lookup f24 = some ⟨oc24, od24, .func (PySem.W.fnOf "_law_by_text" "_law_by_text" (defArgs s_law_by_text) (defBody s_law_by_text) (defScope s_law_by_text) .none kV24 dc24 pm24 an24 cd24 ct24), sl24⟩) (c24 : PySem.W.codeIn K cd24 "_law_by_text" = true) (k24 : PySem.W.keepIn K (.ref f24) = true)
    (a25 : PySem.W.nsIn K mainGlobals "_law_odd_runs" = some (some (.ref f25))) (l25 : K.lookup f25 = some ⟨oc25, od25, .func (PySem.W.fnOf "_law_odd_runs" "_law_odd_runs" (defArgs s_law_odd_runs) (defBody s_law_odd_runs) (defScope s_law_odd_runs) .none kV25 dc25 pm25 an25 cd25 ct25), sl25⟩) (c25 : PySem.W.codeIn K cd25 "_law_odd_runs" = true) (k25 : PySem.W.keepIn K (.ref f25) = true)
    (a26 : PySem.W.nsIn K mainGlobals "_law_bent" = some (some (.ref f26))) (l26 : K.lookup f26 = some ⟨oc26, od26, .func (PySem.W.fnOf "_law_bent" "_law_bent" (defArgs s_law_bent) (defBody s_law_bent) (defScope s_law_bent) .none kV26 dc26 pm26 an26 cd26 ct26), sl26⟩) (c26 : PySem.W.codeIn K cd26 "_law_bent" = true) (k26 : PySem.W.keepIn K (.ref f26) = true)
    (a27 : PySem.W.nsIn K mainGlobals "_law_asked" = some (some (.ref f27))) (l27 : K.lookup f27 = some ⟨oc27, od27, .func (PySem.W.fnOf "_law_asked" "_law_asked" (defArgs s_law_asked) (defBody s_law_asked) (defScope s_law_asked) .none kV27 dc27 pm27 an27 cd27 ct27), sl27⟩) (c27 : PySem.W.codeIn K cd27 "_law_asked" = true) (k27 : PySem.W.keepIn K (.ref f27) = true)
    (a28 : PySem.W.nsIn K mainGlobals "_law_kinds" = some (some (.ref f28))) (l28 : K.lookup f28 = some ⟨oc28, od28, .func (PySem.W.fnOf "_law_kinds" "_law_kinds" (defArgs s_law_kinds) (defBody s_law_kinds) (defScope s_law_kinds) .none kV28 dc28 pm28 an28 cd28 ct28), sl28⟩) (c28 : PySem.W.codeIn K cd28 "_law_kinds" = true) (k28 : PySem.W.keepIn K (.ref f28) = true)
    (a29 : PySem.W.nsIn K mainGlobals "_law_good" = some (some (.ref f29))) (l29 : K.lookup f29 = some ⟨oc29, od29, .func (PySem.W.fnOf "_law_good" "_law_good" (defArgs s_law_good) (defBody s_law_good) (defScope s_law_good) .none kV29 dc29 pm29 an29 cd29 ct29), sl29⟩) (c29 : PySem.W.codeIn K cd29 "_law_good" = true) (k29 : PySem.W.keepIn K (.ref f29) = true)
    (a30 : PySem.W.nsIn K mainGlobals "_law_looked" = some (some (.ref f30))) (l30 : K.lookup f30 = some ⟨oc30, od30, .func (PySem.W.fnOf "_law_looked" "_law_looked" (defArgs s_law_looked) (defBody s_law_looked) (defScope s_law_looked) .none kV30 dc30 pm30 an30 cd30 ct30), sl30⟩) (c30 : PySem.W.codeIn K cd30 "_law_looked" = true) (k30 : PySem.W.keepIn K (.ref f30) = true)
    (a31 : PySem.W.nsIn K mainGlobals "law" = some (some (.ref f31))) (l31 : K.lookup f31 = some ⟨oc31, od31, .func (PySem.W.fnOf "law" "law" (defArgs s_law) (defBody s_law) (defScope s_law) .none kV31 dc31 pm31 an31 cd31 ct31), sl31⟩) (c31 : PySem.W.codeIn K cd31 "law" = true) (k31 : PySem.W.keepIn K (.ref f31) = true)
    (z1 : PySem.W.nsIn K mainGlobals "len" = some none)
    (z2 : PySem.W.nsIn K mainGlobals "range" = some none)
    (z3 : PySem.W.nsIn K mainGlobals "isinstance" = some none)
    (z4 : PySem.W.nsIn K mainGlobals "int" = some none)
    (z5 : PySem.W.nsIn K mainGlobals "bool" = some none)
    (z6 : PySem.W.nsIn K mainGlobals "list" = some none)
    (z7 : PySem.W.nsIn K mainGlobals "all" = some none)
    (z8 : PySem.W.nsIn K mainGlobals "min" = some none)
    (z9 : PySem.W.nsIn K mainGlobals "max" = some none)
    (z10 : PySem.W.nsIn K mainGlobals "sum" = some none)
    (z11 : PySem.W.nsIn K mainGlobals "tuple" = some none)
    (z12 : PySem.W.nsIn K mainGlobals "str" = some none)
    (z13 : PySem.W.nsIn K mainGlobals "ValueError" = some none)
    (y1 : PySem.W.nsIn K mainGlobals "MOST_CELL" = some (some (.int 15 tC)))
    (y2 : PySem.W.nsIn K mainGlobals "MOST_LISTED" = some (some (.int 576 tL)))
    (y3 : PySem.W.nsIn K mainGlobals "FIGURES" = some (some (.str "0123456789" tG)))
    (y4 : PySem.W.nsIn K mainGlobals "LETTERS" = some (some (.str "abcdefghijklmnop" tB)))
    (x1 : PySem.W.nsIn K mainGlobals "FolioError" = some (some (.ref cFE)))
    (x2 : PySem.W.nsIn K mainGlobals "BadCell" = some (some (.ref cC)))
    (x3 : PySem.W.nsIn K mainGlobals "BadRuns" = some (some (.ref cP)))
    (x4 : PySem.W.nsIn K mainGlobals "BadColour" = some (some (.ref cBadColour)))
    (x5 : PySem.W.nsIn K mainGlobals "BadCheck" = some (some (.ref cBadCheck)))
    (x6 : PySem.W.nsIn K mainGlobals "BadDeed" = some (some (.ref cBadDeed)))
    (x7 : PySem.W.nsIn K mainGlobals "BadEdge" = some (some (.ref cBadEdge)))
    (x8 : PySem.W.nsIn K mainGlobals "BadHead" = some (some (.ref cBadHead)))
    (x9 : PySem.W.nsIn K mainGlobals "BadMask" = some (some (.ref cBadMask)))
    (x10 : PySem.W.nsIn K mainGlobals "BadName" = some (some (.ref cBadName)))
    (x11 : PySem.W.nsIn K mainGlobals "BadPack" = some (some (.ref cBadPack)))
    (x12 : PySem.W.nsIn K mainGlobals "BadPalette" = some (some (.ref cBadPalette)))
    (x13 : PySem.W.nsIn K mainGlobals "BadPart" = some (some (.ref cBadPart)))
    (x14 : PySem.W.nsIn K mainGlobals "BadPicture" = some (some (.ref cBadPicture)))
    (x15 : PySem.W.nsIn K mainGlobals "BadRule" = some (some (.ref cBadRule)))
    (x16 : PySem.W.nsIn K mainGlobals "BadSize" = some (some (.ref cBadSize)))
    (x17 : PySem.W.nsIn K mainGlobals "BadText" = some (some (.ref cBadText)))
    (x18 : PySem.W.nsIn K mainGlobals "NoColour" = some (some (.ref cNoColour)))
    (x19 : PySem.W.nsIn K mainGlobals "NoPart" = some (some (.ref cNoPart)))
    (x20 : PySem.W.nsIn K mainGlobals "NoPicture" = some (some (.ref cNoPicture)))
    (x21 : PySem.W.nsIn K mainGlobals "NothingDone" = some (some (.ref cNothingDone)))
    (x22 : PySem.W.nsIn K mainGlobals "OutOfPlace" = some (some (.ref cOutOfPlace)))
    (x23 : PySem.W.nsIn K mainGlobals "TooMany" = some (some (.ref cTooMany)))
    (x24 : PySem.W.nsIn K mainGlobals "Twice" = some (some (.ref cTwice)))
    (q1 : PySem.W.excIn K cC mroVE "ValueError.__new__" = true)
    (q2 : PySem.W.findIn K (.ref cC) "__getattribute__" = some (some (.builtin "BaseException.__getattribute__")))
    (q3 : PySem.W.findIn K (.ref cC) "__getattr__" = some none)
    (q4 : PySem.W.findIn K (.ref cC) "__class__" = some (some (.builtin "object.__class__")))
    (q5 : PySem.W.mroIn K cC (.type "BaseException") = some true)
    (q6 : PySem.W.mroIn K cC (.type "object") = some true)
    (q7 : PySem.W.isClsIn K cC = true)
    (q8 : PySem.W.subIn K (.ref cFE) (.type "BaseException") = some true)
    (q9 : PySem.W.isClsIn K cFE = true)
    (q10 : PySem.W.typeIn K (.ref cFE) = some (.type "type"))
    (q11 : PySem.W.subIn K (.ref cC) (.ref cFE) = some true)
    (q12 : PySem.W.kitOne K (.ref cC) (.ref cC) = some true)
    (q13 : PySem.W.kitOne K (.ref cC) (.type "ValueError") = some true)
    (q14 : PySem.W.excIn K cP mroVE "ValueError.__new__" = true)
    (q15 : PySem.W.findIn K (.ref cP) "__getattribute__" = some (some (.builtin "BaseException.__getattribute__")))
    (q16 : PySem.W.findIn K (.ref cP) "__getattr__" = some none)
    (q17 : PySem.W.findIn K (.ref cP) "__class__" = some (some (.builtin "object.__class__")))
    (q18 : PySem.W.mroIn K cP (.type "BaseException") = some true)
    (q19 : PySem.W.mroIn K cP (.type "object") = some true)
    (q20 : PySem.W.isClsIn K cP = true)
    (q21 : PySem.W.subIn K (.ref cP) (.ref cFE) = some true)
    (q22 : PySem.W.kitOne K (.ref cP) (.ref cP) = some true)
    (q23 : PySem.W.kitOne K (.ref cP) (.type "ValueError") = some true)
    (q24 : PySem.W.kitOne K (.ref cC) (.ref cBadColour) = some false)
    (q25 : PySem.W.kitOne K (.ref cC) (.ref cBadCheck) = some false)
    (q26 : PySem.W.kitOne K (.ref cC) (.ref cBadDeed) = some false)
    (q27 : PySem.W.kitOne K (.ref cC) (.ref cBadEdge) = some false)
    (q28 : PySem.W.kitOne K (.ref cC) (.ref cBadHead) = some false)
    (q29 : PySem.W.kitOne K (.ref cC) (.ref cBadMask) = some false)
    (q30 : PySem.W.kitOne K (.ref cC) (.ref cBadName) = some false)
    (q31 : PySem.W.kitOne K (.ref cC) (.ref cBadPack) = some false)
    (q32 : PySem.W.kitOne K (.ref cC) (.ref cBadPalette) = some false)
    (q33 : PySem.W.kitOne K (.ref cC) (.ref cBadPart) = some false)
    (q34 : PySem.W.kitOne K (.ref cC) (.ref cBadPicture) = some false)
    (q35 : PySem.W.kitOne K (.ref cC) (.ref cBadRule) = some false)
    (q36 : PySem.W.kitOne K (.ref cC) (.ref cP) = some false)
    (q37 : PySem.W.kitOne K (.ref cC) (.ref cBadSize) = some false)
    (q38 : PySem.W.kitOne K (.ref cC) (.ref cBadText) = some false)
    (q39 : PySem.W.kitOne K (.ref cC) (.ref cNoColour) = some false)
    (q40 : PySem.W.kitOne K (.ref cC) (.ref cNoPart) = some false)
    (q41 : PySem.W.kitOne K (.ref cC) (.ref cNoPicture) = some false)
    (q42 : PySem.W.kitOne K (.ref cC) (.ref cNothingDone) = some false)
    (q43 : PySem.W.kitOne K (.ref cC) (.ref cOutOfPlace) = some false)
    (q44 : PySem.W.kitOne K (.ref cC) (.ref cTooMany) = some false)
    (q45 : PySem.W.kitOne K (.ref cC) (.ref cTwice) = some false)
    (q46 : PySem.W.kitOne K (.ref cP) (.ref cBadColour) = some false)
    (q47 : PySem.W.kitOne K (.ref cP) (.ref cBadCheck) = some false)
    (q48 : PySem.W.kitOne K (.ref cP) (.ref cBadDeed) = some false)
    (q49 : PySem.W.kitOne K (.ref cP) (.ref cBadEdge) = some false)
    (q50 : PySem.W.kitOne K (.ref cP) (.ref cBadHead) = some false)
    (q51 : PySem.W.kitOne K (.ref cP) (.ref cBadMask) = some false)
    (q52 : PySem.W.kitOne K (.ref cP) (.ref cBadName) = some false)
    (q53 : PySem.W.kitOne K (.ref cP) (.ref cBadPack) = some false)
    (q54 : PySem.W.kitOne K (.ref cP) (.ref cBadPalette) = some false)
    (q55 : PySem.W.kitOne K (.ref cP) (.ref cBadPart) = some false)
    (q56 : PySem.W.kitOne K (.ref cP) (.ref cBadPicture) = some false)
    (q57 : PySem.W.kitOne K (.ref cP) (.ref cBadRule) = some false)
    (q58 : PySem.W.kitOne K (.ref cP) (.ref cC) = some false)
    (q59 : PySem.W.kitOne K (.ref cP) (.ref cBadSize) = some false)
    (q60 : PySem.W.kitOne K (.ref cP) (.ref cBadText) = some false)
    (q61 : PySem.W.kitOne K (.ref cP) (.ref cNoColour) = some false)
    (q62 : PySem.W.kitOne K (.ref cP) (.ref cNoPart) = some false)
    (q63 : PySem.W.kitOne K (.ref cP) (.ref cNoPicture) = some false)
    (q64 : PySem.W.kitOne K (.ref cP) (.ref cNothingDone) = some false)
    (q65 : PySem.W.kitOne K (.ref cP) (.ref cOutOfPlace) = some false)
    (q66 : PySem.W.kitOne K (.ref cP) (.ref cTooMany) = some false)
    (q67 : PySem.W.kitOne K (.ref cP) (.ref cTwice) = some false)
    : ∃ fd : FuncData, (∀ (s : Shared) (v : Value), BindsTo s fd ⟨[v], []⟩ [("_law_script", v)]) ∧ ∀ base : Heap, K.In base → base.Ns mainGlobals mg → FnOk l.prog w K mg base CX0 12 fa fd ["_law_script"] (spLaw K) := by
  have e := hfa.symm.trans (PySem.W.mg_of X G a31)
  cases e
  have T : Txt K mg cFE cC cP tC tL tG tB := ⟨PySem.W.mg_none_of X G z1, PySem.W.mg_none_of X G z2, PySem.W.mg_none_of X G z3, PySem.W.mg_none_of X G z4, PySem.W.mg_none_of X G z5, PySem.W.mg_none_of X G z6, PySem.W.mg_none_of X G z7, PySem.W.mg_none_of X G z8, PySem.W.mg_none_of X G z9, PySem.W.mg_none_of X G z10, PySem.W.mg_none_of X G z11, PySem.W.mg_none_of X G z12, PySem.W.mg_none_of X G z13, PySem.W.mg_of X G y1, PySem.W.mg_of X G y2, PySem.W.mg_of X G y3, PySem.W.mg_of X G y4, PySem.W.mg_of X G x1, PySem.W.mg_of X G x2, PySem.W.mg_of X G x3, q1, ⟨q2, q3, q4, q5, q6, q7⟩, exm_mk q8 q9 q10 q11, q14, ⟨q15, q16, q17, q18, q19, q20⟩, exm_mk q8 q9 q10 q21⟩
  have TC : TxtC K mg cC := ⟨q12, q13, ⟨_, PySem.W.mg_of X G x4, q24⟩, ⟨_, PySem.W.mg_of X G x5, q25⟩, ⟨_, PySem.W.mg_of X G x6, q26⟩, ⟨_, PySem.W.mg_of X G x7, q27⟩, ⟨_, PySem.W.mg_of X G x8, q28⟩, ⟨_, PySem.W.mg_of X G x9, q29⟩, ⟨_, PySem.W.mg_of X G x10, q30⟩, ⟨_, PySem.W.mg_of X G x11, q31⟩, ⟨_, PySem.W.mg_of X G x12, q32⟩, ⟨_, PySem.W.mg_of X G x13, q33⟩, ⟨_, PySem.W.mg_of X G x14, q34⟩, ⟨_, PySem.W.mg_of X G x15, q35⟩, ⟨_, PySem.W.mg_of X G x3, q36⟩, ⟨_, PySem.W.mg_of X G x16, q37⟩, ⟨_, PySem.W.mg_of X G x17, q38⟩, ⟨_, PySem.W.mg_of X G x18, q39⟩, ⟨_, PySem.W.mg_of X G x19, q40⟩, ⟨_, PySem.W.mg_of X G x20, q41⟩, ⟨_, PySem.W.mg_of X G x21, q42⟩, ⟨_, PySem.W.mg_of X G x22, q43⟩, ⟨_, PySem.W.mg_of X G x23, q44⟩, ⟨_, PySem.W.mg_of X G x24, q45⟩⟩
  have TR : TxtR K mg cP := ⟨q22, q23, ⟨_, PySem.W.mg_of X G x4, q46⟩, ⟨_, PySem.W.mg_of X G x5, q47⟩, ⟨_, PySem.W.mg_of X G x6, q48⟩, ⟨_, PySem.W.mg_of X G x7, q49⟩, ⟨_, PySem.W.mg_of X G x8, q50⟩, ⟨_, PySem.W.mg_of X G x9, q51⟩, ⟨_, PySem.W.mg_of X G x10, q52⟩, ⟨_, PySem.W.mg_of X G x11, q53⟩, ⟨_, PySem.W.mg_of X G x12, q54⟩, ⟨_, PySem.W.mg_of X G x13, q55⟩, ⟨_, PySem.W.mg_of X G x14, q56⟩, ⟨_, PySem.W.mg_of X G x15, q57⟩, ⟨_, PySem.W.mg_of X G x2, q58⟩, ⟨_, PySem.W.mg_of X G x16, q59⟩, ⟨_, PySem.W.mg_of X G x17, q60⟩, ⟨_, PySem.W.mg_of X G x18, q61⟩, ⟨_, PySem.W.mg_of X G x19, q62⟩, ⟨_, PySem.W.mg_of X G x20, q63⟩, ⟨_, PySem.W.mg_of X G x21, q64⟩, ⟨_, PySem.W.mg_of X G x22, q65⟩, ⟨_, PySem.W.mg_of X G x23, q66⟩, ⟨_, PySem.W.mg_of X G x24, q67⟩⟩
  have F1 := funD_mk (st := s_is_whole_from) l1 c1 k1
  have F2 := funD_mk (st := s_is_whole_within) l2 c2 k2
  have F3 := funD_mk (st := s_is_cell) l3 c3 k3
  have F4 := funD_mk (st := s_is_list_of) l4 c4 k4
  have F5 := funD_mk (st := s_is_list_of_cells) l5 c5 k5
  have F6 := funD_mk (st := s_need_cells) l6 c6 k6
  have F7 := funD_mk (st := s_runs_of) l7 c7 k7
  have F8 := funD_mk (st := s_is_run) l8 c8 k8
  have F9 := funD_mk (st := s_is_list_of) l9 c9 k9
  have F10 := funD_mk (st := s_are_runs) l10 c10 k10
  have F11 := funD_mk (st := s_need_runs) l11 c11 k11
  have F12 := funD_mk (st := s_cells_by_runs) l12 c12 k12
  have F13 := funD_mk (st := s_run_text) l13 c13 k13
  have F14 := funD_mk (st := s_runs_text) l14 c14 k14
  have F15 := funD_mk (st := s_runs_as_read) l15 c15 k15
  have F16 := funD_mk (st := s_runs_by_text) l16 c16 k16
  have F17 := funD_mk (st := s_law_draw) l17 c17 k17
  have F18 := funD_mk (st := s_law_whole) l18 c18 k18
  have F19 := funD_mk (st := s_law_word) l19 c19 k19
  have F20 := funD_mk (st := s_law_cells) l20 c20 k20
  have F21 := funD_mk (st := s_law_runs) l21 c21 k21
  have F22 := funD_mk (st := s_law_is_runs) l22 c22 k22
  have F23 := funD_mk (st := s_law_text) l23 c23 k23
  have F24 := funD_mk (st := s_law_by_text) l24 c24 k24
  have F25 := funD_mk (st := s_law_odd_runs) l25 c25 k25
  have F26 := funD_mk (st := s_law_bent) l26 c26 k26
  have F27 := funD_mk (st := s_law_asked) l27 c27 k27
  have F28 := funD_mk (st := s_law_kinds) l28 c28 k28
  have F29 := funD_mk (st := s_law_good) l29 c29 k29
  have F30 := funD_mk (st := s_law_looked) l30 c30 k30
  have F31 := funD_mk (st := s_law) l31 c31 k31
  refine ⟨PySem.W.fnOf "law" "law" (defArgs s_law) (defBody s_law) (defScope s_law) .none kV31 dc31 pm31 an31 cd31 ct31, fun s v => .of_eq rfl, fun base kb nb => ?_⟩
  have g1 := F1.def (P := l.prog) (w := w) (mg := mg) (base := base) (ok_is_whole_from F1 T) (PySem.W.mg_of X G a1) (fun _ _ _ _ _ _ us hl => (by obtain ⟨u0, u1, rfl⟩ := len2 hl; rfl))
  have g2 := F2.def (P := l.prog) (w := w) (mg := mg) (base := base) (ok_is_whole_within F2 g1) (PySem.W.mg_of X G a2) (fun _ _ _ _ _ _ us hl => (by obtain ⟨u0, u1, u2, rfl⟩ := len3 hl; rfl))
  have g3A := F3.defA (P := l.prog) (w := w) (mg := mg) (base := base) (ok_is_cell F3 T g2) (fun _ _ _ _ _ _ us hl => (by obtain ⟨u0, rfl⟩ := len1 hl; rfl))
  have g3 := F3.def (P := l.prog) (w := w) (mg := mg) (base := base) (ok_is_cell F3 T g2) (PySem.W.mg_of X G a3) (fun _ _ _ _ _ _ us hl => (by obtain ⟨u0, rfl⟩ := len1 hl; rfl))
  have g4 := F4.def (P := l.prog) (w := w) (mg := mg) (base := base) (ok_is_list_of F4 T g3A) (PySem.W.mg_of X G a4) (fun _ _ _ _ _ _ us hl => (by obtain ⟨u0, u1, rfl⟩ := len2 hl; rfl))
  have g5 := F5.def (P := l.prog) (w := w) (mg := mg) (base := base) (ok_is_list_of_cells F5 (PySem.W.mg_of X G a3) g4) (PySem.W.mg_of X G a5) (fun _ _ _ _ _ _ us hl => (by obtain ⟨u0, rfl⟩ := len1 hl; rfl))
  have g6 := F6.defX (P := l.prog) (w := w) (mg := mg) (base := base) (ok_need_cells F6 T g5) (PySem.W.mg_of X G a6) (fun _ _ _ _ _ _ us hl => (by obtain ⟨u0, u1, rfl⟩ := len2 hl; rfl))
  have g7 := F7.defX (P := l.prog) (w := w) (mg := mg) (base := base) (ok_runs_of F7 T g6) (PySem.W.mg_of X G a7) (fun _ _ _ _ _ _ us hl => (by obtain ⟨u0, rfl⟩ := len1 hl; rfl))
  have g8A := F8.defA (P := l.prog) (w := w) (mg := mg) (base := base) (ok_is_run F8 T g2 g3) (fun _ _ _ _ _ _ us hl => (by obtain ⟨u0, rfl⟩ := len1 hl; rfl))
  have g8 := F8.def (P := l.prog) (w := w) (mg := mg) (base := base) (ok_is_run F8 T g2 g3) (PySem.W.mg_of X G a8) (fun _ _ _ _ _ _ us hl => (by obtain ⟨u0, rfl⟩ := len1 hl; rfl))
  have g9 := F9.def (P := l.prog) (w := w) (mg := mg) (base := base) (ok_is_list_of_run F9 T g8A) (PySem.W.mg_of X G a9) (fun _ _ _ _ _ _ us hl => (by obtain ⟨u0, u1, rfl⟩ := len2 hl; rfl))
  have g10 := F10.def (P := l.prog) (w := w) (mg := mg) (base := base) (ok_are_runs F10 T (PySem.W.mg_of X G a8) g9) (PySem.W.mg_of X G a10) (fun _ _ _ _ _ _ us hl => (by obtain ⟨u0, rfl⟩ := len1 hl; rfl))
  have g11 := F11.defX (P := l.prog) (w := w) (mg := mg) (base := base) (ok_need_runs F11 T g10) (PySem.W.mg_of X G a11) (fun _ _ _ _ _ _ us hl => (by obtain ⟨u0, rfl⟩ := len1 hl; rfl))
  have g12 := F12.defX (P := l.prog) (w := w) (mg := mg) (base := base) (ok_cells_by_runs F12 T g11) (PySem.W.mg_of X G a12) (fun _ _ _ _ _ _ us hl => (by obtain ⟨u0, rfl⟩ := len1 hl; rfl))
  have g13 := F13.def (P := l.prog) (w := w) (mg := mg) (base := base) (ok_run_text F13 T) (PySem.W.mg_of X G a13) (fun _ _ _ _ _ _ us hl => (by obtain ⟨u0, rfl⟩ := len1 hl; rfl))
  have g14 := F14.defX (P := l.prog) (w := w) (mg := mg) (base := base) (ok_runs_text F14 T g11 g13) (PySem.W.mg_of X G a14) (fun _ _ _ _ _ _ us hl => (by obtain ⟨u0, rfl⟩ := len1 hl; rfl))
  have g15 := F15.def (P := l.prog) (w := w) (mg := mg) (base := base) (ok_runs_as_read F15 T) (PySem.W.mg_of X G a15) (fun _ _ _ _ _ _ us hl => (by obtain ⟨u0, rfl⟩ := len1 hl; rfl))
  have g16 := F16.defX (P := l.prog) (w := w) (mg := mg) (base := base) (ok_runs_by_text F16 T g15 g14) (PySem.W.mg_of X G a16) (fun _ _ _ _ _ _ us hl => (by obtain ⟨u0, rfl⟩ := len1 hl; rfl))
  have g17 := F17.def (P := l.prog) (w := w) (mg := mg) (base := base) (ok_law_draw F17 T) (PySem.W.mg_of X G a17) (fun _ _ _ _ _ _ us hl => (by obtain ⟨u0, u1, rfl⟩ := len2 hl; rfl))
  have g18 := F18.def (P := l.prog) (w := w) (mg := mg) (base := base) (ok_law_whole F18 T) (PySem.W.mg_of X G a18) (fun _ _ _ _ _ _ us hl => (by obtain ⟨u0, rfl⟩ := len1 hl; rfl))
  have g19 := F19.defM (P := l.prog) (w := w) (mg := mg) (base := base) (wordB (ok_law_word F19 T TC) (ok_law_wordR F19 T TR)) (PySem.W.mg_of X G a19) (fun _ _ _ _ _ _ us hl => (by obtain ⟨u0, rfl⟩ := len1 hl; rfl))
  have g20 := F20.def (P := l.prog) (w := w) (mg := mg) (base := base) (ok_law_cells F20 T g17) (PySem.W.mg_of X G a20) (fun _ _ _ _ _ _ us hl => (by obtain ⟨u0, u1, rfl⟩ := len2 hl; rfl))
  have g21 := F21.def (P := l.prog) (w := w) (mg := mg) (base := base) (ok_law_runs F21 T) (PySem.W.mg_of X G a21) (fun _ _ _ _ _ _ us hl => (by obtain ⟨u0, rfl⟩ := len1 hl; rfl))
  have g22 := F22.def (P := l.prog) (w := w) (mg := mg) (base := base) (ok_law_is_runs F22 T g18) (PySem.W.mg_of X G a22) (fun _ _ _ _ _ _ us hl => (by obtain ⟨u0, rfl⟩ := len1 hl; rfl))
  have g23 := F23.def (P := l.prog) (w := w) (mg := mg) (base := base) (ok_law_text F23 T) (PySem.W.mg_of X G a23) (fun _ _ _ _ _ _ us hl => (by obtain ⟨u0, rfl⟩ := len1 hl; rfl))
  have g24 := F24.def (P := l.prog) (w := w) (mg := mg) (base := base) (ok_law_by_text F24 T g22) (PySem.W.mg_of X G a24) (fun _ _ _ _ _ _ us hl => (by obtain ⟨u0, rfl⟩ := len1 hl; rfl))
  have g25 := F25.def (P := l.prog) (w := w) (mg := mg) (base := base) (ok_law_odd_runs F25 T) (PySem.W.mg_of X G a25) (fun _ _ _ _ _ _ us hl => (by obtain ⟨u0, u1, rfl⟩ := len2 hl; rfl))
  have g26 := F26.def (P := l.prog) (w := w) (mg := mg) (base := base) (ok_law_bent F26 T) (PySem.W.mg_of X G a26) (fun _ _ _ _ _ _ us hl => (by obtain ⟨u0, u1, rfl⟩ := len2 hl; rfl))
  have g27 := F27.def (P := l.prog) (w := w) (mg := mg) (base := base) (ok_law_asked F27 T g12 g16 g14 g7 g19) (PySem.W.mg_of X G a27) (fun _ _ _ _ _ _ us hl => (by obtain ⟨u0, u1, rfl⟩ := len2 hl; rfl))
  have g28 := F28.def (P := l.prog) (w := w) (mg := mg) (base := base) (ok_law_kinds F28 T g18) (PySem.W.mg_of X G a28) (fun _ _ _ _ _ _ us hl => (by obtain ⟨u0, u1, rfl⟩ := len2 hl; rfl))
  have g29 := F29.def (P := l.prog) (w := w) (mg := mg) (base := base) (ok_law_good F29 T g21 g23 g7 g28 g12 g14 g16) (PySem.W.mg_of X G a29) (fun _ _ _ _ _ _ us hl => (by obtain ⟨u0, rfl⟩ := len1 hl; rfl))
  have g30 := F30.def (P := l.prog) (w := w) (mg := mg) (base := base) (ok_law_looked F30 T g27 g28) (PySem.W.mg_of X G a30) (fun _ _ _ _ _ _ us hl => (by obtain ⟨u0, u1, u2, rfl⟩ := len3 hl; rfl))
  exact ok_law F31 T g7 g14 g17 g20 g29 g21 g25 g22 g30 g27 g23 g26 g24 g28
theorem walk {l : PySem.W.OpenLaw} {q : Program} {loose : List Str} {XP : (Str → Option Value) → Heap → Prop} {YP : World → Heap → Prop} {d : DefRec} {K : Params → PySem.W.Frag} (hn : l.most = some 63) (hdf : d.params.defaults = [])
    (hY : ∀ (w : World) (h : Heap), YP w h → (K w.params).In h)
    (F : ∀ (w : World) (mg : Str → Option Value) (fa : Addr) (h : Heap), (K w.params).In h → h.Ns mainGlobals mg → mg d.name = some (.ref fa) →
      ∃ fd : FuncData, (∀ (s : Shared) (u : Value), BindsTo s fd ⟨[u], []⟩ [("_law_script", u)]) ∧ ∀ base : Heap, (K w.params).In base → base.Ns mainGlobals mg → FnOk l.prog w (K w.params) mg base CX0 12 fa fd ["_law_script"] (spLaw (K w.params))) :
    PySem.W.WalkO q loose XP YP l.row.toRowW d [] (fun f vs => PySem.call f vs) :=
  L2.walk_ofB (n := 63) (k := 12) (x := "_law_script") (CX := CX0) (sp := spLaw) hn (by decide) hdf ⟨rfl, by decide, by decide, rfl⟩ hY F (fun _ _ a ns _ hb _ hS => ⟨a, ns, rfl, hS, fun _ => rfl⟩) fun _ _ _ _ z => z
end K20
open PySem PySem.W PyProof.Rows
set_option Elab.async false
noncomputable def PySem.W.Fast.tw10597426539969804787 : PySem.Program := PySem.Challenge.pw_cellfolio_k20_runs
theorem PySem.W.Fast.te10597426539969804787 : PySem.Challenge.pw_cellfolio_k20_runs = PySem.W.Fast.tw10597426539969804787 := rfl
def PySem.W.Fast.tw18356545800911978592 : Nat := 0
def PySem.W.Fast.tw11869291748218878048 : Nat := 0
def PySem.W.Fast.tw1919454469176391616 : Nat := 0
def PySem.W.Fast.tw12444588468578896002 : Nat := 0
def PySem.W.Fast.tw15126540184517497378 : Nat := 0
def PySem.W.Fast.tw2806553211337099333 : Nat := 0
def PySem.W.Fast.tw9735629591407926405 : Nat := 0
def PySem.W.Fast.tw170449840606804678 : Nat := 0
def PySem.W.Fast.tw13859985960821129990 : Nat := 0
def PySem.W.Fast.tw11313942112620817447 : Nat := 0
def PySem.W.Fast.tw655416677527873031 : Nat := 0
def PySem.W.Fast.tw417153391546015655 : Nat := 0
def PySem.W.Fast.tw4089145365794284393 : Nat := 0
def PySem.W.Fast.tw8683711400121349770 : Nat := 0
def PySem.W.Fast.tw14692265545431330507 : Nat := 0
def PySem.W.Fast.tw8723292256782170477 : Nat := 0
def PySem.W.Fast.tw828666252783109298 : Nat := 0
def PySem.W.Fast.tw13464983218333387282 : Nat := 0
def PySem.W.Fast.tw1546126312637120757 : Nat := 0
def PySem.W.Fast.tw14668106862080587894 : Nat := 0
def PySem.W.Fast.tw617453016226214231 : Nat := 0
def PySem.W.Fast.tw14579746825076741591 : Nat := 0
def PySem.W.Fast.tw12784320482781955704 : Nat := 0
def PySem.W.Fast.tw6351563441674416953 : Nat := 0
def PySem.W.Fast.tw9530300093575386714 : Nat := 0
def PySem.W.Fast.tw7695978903686128251 : Nat := 0
def PySem.W.Fast.tw3173620174161045596 : Nat := 0
def PySem.W.Fast.tw3963072287223742557 : Nat := 0
def PySem.W.Fast.tw4174467047669531006 : Nat := 0
def PySem.W.Fast.tw7097072623015968158 : Nat := 0
def PySem.W.Fast.tw1033900464147445342 : Nat := 0
def PySem.W.Fast.tw14749057886776920223 : Nat := 0
set_option maxRecDepth 100000 in
set_option maxHeartbeats 0 in
theorem PySem.Challenge.cw_cellfolio_k20_runs_holds : PySem.Challenge.rw_cellfolio_k20_runs.Holds := by
  w_on; o_law; k_head; (case hw => w_witness2)
  k_fill
  refine K20.walk (l := PySem.Challenge.rw_cellfolio_k20_runs) rfl rfl (fun w h Y => PySem.W.kIn_of Y) ?F
  case F =>
    intro w mg fa h KX G hmg
    refine' K20.all_mk KX G hmg ?a1 ?l1 ?c1 ?k1 ?a2 ?l2 ?c2 ?k2 ?a3 ?l3 ?c3 ?k3 ?a4 ?l4 ?c4 ?k4 ?a5 ?l5 ?c5 ?k5 ?a6 ?l6 ?c6 ?k6 ?a7 ?l7 ?c7 ?k7 ?a8 ?l8 ?c8 ?k8 ?a9 ?l9 ?c9 ?k9 ?a10 ?l10 ?c10 ?k10 ?a11 ?l11 ?c11 ?k11 ?a12 ?l12 ?c12 ?k12 ?a13 ?l13 ?c13 ?k13 ?a14 ?l14 ?c14 ?k14 ?a15 ?l15 ?c15 ?k15 ?a16 ?l16 ?c16 ?k16 ?a17 ?l17 ?c17 ?k17 ?a18 ?l18 ?c18 ?k18 ?a19 ?l19 ?c19 ?k19 ?a20 ?l20 ?c20 ?k20 ?a21 ?l21 ?c21 ?k21 ?a22 ?l22 ?c22 ?k22 ?a23 ?l23 ?c23 ?k23 ?a24 ?l24 ?c24 ?k24 ?a25 ?l25 ?c25 ?k25 ?a26 ?l26 ?c26 ?k26 ?a27 ?l27 ?c27 ?k27 ?a28 ?l28 ?c28 ?k28 ?a29 ?l29 ?c29 ?k29 ?a30 ?l30 ?c30 ?k30 ?a31 ?l31 ?c31 ?k31 ?z1 ?z2 ?z3 ?z4 ?z5 ?z6 ?z7 ?z8 ?z9 ?z10 ?z11 ?z12 ?z13 ?y1 ?y2 ?y3 ?y4 ?x1 ?x2 ?x3 ?x4 ?x5 ?x6 ?x7 ?x8 ?x9 ?x10 ?x11 ?x12 ?x13 ?x14 ?x15 ?x16 ?x17 ?x18 ?x19 ?x20 ?x21 ?x22 ?x23 ?x24 ?q1 ?q2 ?q3 ?q4 ?q5 ?q6 ?q7 ?q8 ?q9 ?q10 ?q11 ?q12 ?q13 ?q14 ?q15 ?q16 ?q17 ?q18 ?q19 ?q20 ?q21 ?q22 ?q23 ?q24 ?q25 ?q26 ?q27 ?q28 ?q29 ?q30 ?q31 ?q32 ?q33 ?q34 ?q35 ?q36 ?q37 ?q38 ?q39 ?q40 ?q41 ?q42 ?q43 ?q44 ?q45 ?q46 ?q47 ?q48 ?q49 ?q50 ?q51 ?q52 ?q53 ?q54 ?q55 ?q56 ?q57 ?q58 ?q59 ?q60 ?q61 ?q62 ?q63 ?q64 ?q65 ?q66 ?q67
    (case a1 => k_is)
    (case l1 => k_is)
    (case c1 => k_is)
    (case k1 => k_is)
    (case a2 => k_is)
    (case l2 => k_is)
    (case c2 => k_is)
    (case k2 => k_is)
    (case a3 => k_is)
    (case l3 => k_is)
    (case c3 => k_is)
    (case k3 => k_is)
    (case a4 => k_is)
    (case l4 => k_is)
    (case c4 => k_is)
    (case k4 => k_is)
    (case a5 => k_is)
    (case l5 => k_is)
    (case c5 => k_is)
    (case k5 => k_is)
    (case a6 => k_is)
    (case l6 => k_is)
    (case c6 => k_is)
    (case k6 => k_is)
    (case a7 => k_is)
    (case l7 => k_is)
    (case c7 => k_is)
    (case k7 => k_is)
    (case a8 => k_is)
    (case l8 => k_is)
    (case c8 => k_is)
    (case k8 => k_is)
    (case a9 => k_is)
    (case l9 => k_is)
    (case c9 => k_is)
    (case k9 => k_is)
    (case a10 => k_is)
    (case l10 => k_is)
    (case c10 => k_is)
    (case k10 => k_is)
    (case a11 => k_is)
    (case l11 => k_is)
    (case c11 => k_is)
    (case k11 => k_is)
    (case a12 => k_is)
    (case l12 => k_is)
    (case c12 => k_is)
    (case k12 => k_is)
    (case a13 => k_is)
    (case l13 => k_is)
    (case c13 => k_is)
    (case k13 => k_is)
    (case a14 => k_is)
    (case l14 => k_is)
    (case c14 => k_is)
    (case k14 => k_is)
    (case a15 => k_is)
    (case l15 => k_is)
    (case c15 => k_is)
    (case k15 => k_is)
    (case a16 => k_is)
    (case l16 => k_is)
    (case c16 => k_is)
    (case k16 => k_is)
    (case a17 => k_is)
    (case l17 => k_is)
    (case c17 => k_is)
    (case k17 => k_is)
    (case a18 => k_is)
    (case l18 => k_is)
    (case c18 => k_is)
    (case k18 => k_is)
    (case a19 => k_is)
    (case l19 => k_is)
    (case c19 => k_is)
    (case k19 => k_is)
    (case a20 => k_is)
    (case l20 => k_is)
    (case c20 => k_is)
    (case k20 => k_is)
    (case a21 => k_is)
    (case l21 => k_is)
    (case c21 => k_is)
    (case k21 => k_is)
    (case a22 => k_is)
    (case l22 => k_is)
    (case c22 => k_is)
    (case k22 => k_is)
    (case a23 => k_is)
    (case l23 => k_is)
    (case c23 => k_is)
    (case k23 => k_is)
    (case a24 => k_is)
    (case l24 => k_is)
    (case c24 => k_is)
    (case k24 => k_is)
    (case a25 => k_is)
    (case l25 => k_is)
    (case c25 => k_is)
    (case k25 => k_is)
    (case a26 => k_is)
    (case l26 => k_is)
    (case c26 => k_is)
    (case k26 => k_is)
    (case a27 => k_is)
    (case l27 => k_is)
    (case c27 => k_is)
    (case k27 => k_is)
    (case a28 => k_is)
    (case l28 => k_is)
    (case c28 => k_is)
    (case k28 => k_is)
    (case a29 => k_is)
    (case l29 => k_is)
    (case c29 => k_is)
    (case k29 => k_is)
    (case a30 => k_is)
    (case l30 => k_is)
    (case c30 => k_is)
    (case k30 => k_is)
    (case a31 => k_is)
    (case l31 => k_is)
    (case c31 => k_is)
    (case k31 => k_is)
    (case z1 => k_is)
    (case z2 => k_is)
    (case z3 => k_is)
    (case z4 => k_is)
    (case z5 => k_is)
    (case z6 => k_is)
    (case z7 => k_is)
    (case z8 => k_is)
    (case z9 => k_is)
    (case z10 => k_is)
    (case z11 => k_is)
    (case z12 => k_is)
    (case z13 => k_is)
    (case y1 => k_is)
    (case y2 => k_is)
    (case y3 => k_is)
    (case y4 => k_is)
    (case x1 => k_is)
    (case x2 => k_is)
    (case x3 => k_is)
    (case x4 => k_is)
    (case x5 => k_is)
    (case x6 => k_is)
    (case x7 => k_is)
    (case x8 => k_is)
    (case x9 => k_is)
    (case x10 => k_is)
    (case x11 => k_is)
    (case x12 => k_is)
    (case x13 => k_is)
    (case x14 => k_is)
    (case x15 => k_is)
    (case x16 => k_is)
    (case x17 => k_is)
    (case x18 => k_is)
    (case x19 => k_is)
    (case x20 => k_is)
    (case x21 => k_is)
    (case x22 => k_is)
    (case x23 => k_is)
    (case x24 => k_is)
    (case q1 => k_exc)
    (case q2 => k_is)
    (case q3 => k_is)
    (case q4 => k_is)
    (case q5 => k_is)
    (case q6 => k_is)
    (case q7 => k_is)
    (case q8 => k_is)
    (case q9 => k_is)
    (case q10 => k_is)
    (case q11 => k_is)
    (case q12 => kit_is)
    (case q13 => kit_is)
    (case q14 => k_exc)
    (case q15 => k_is)
    (case q16 => k_is)
    (case q17 => k_is)
    (case q18 => k_is)
    (case q19 => k_is)
    (case q20 => k_is)
    (case q21 => k_is)
    (case q22 => kit_is)
    (case q23 => kit_is)
    (case q24 => kit_is)
    (case q25 => kit_is)
    (case q26 => kit_is)
    (case q27 => kit_is)
    (case q28 => kit_is)
    (case q29 => kit_is)
    (case q30 => kit_is)
    (case q31 => kit_is)
    (case q32 => kit_is)
    (case q33 => kit_is)
    (case q34 => kit_is)
    (case q35 => kit_is)
    (case q36 => kit_is)
    (case q37 => kit_is)
    (case q38 => kit_is)
    (case q39 => kit_is)
    (case q40 => kit_is)
    (case q41 => kit_is)
    (case q42 => kit_is)
    (case q43 => kit_is)
    (case q44 => kit_is)
    (case q45 => kit_is)
    (case q46 => kit_is)
    (case q47 => kit_is)
    (case q48 => kit_is)
    (case q49 => kit_is)
    (case q50 => kit_is)
    (case q51 => kit_is)
    (case q52 => kit_is)
    (case q53 => kit_is)
    (case q54 => kit_is)
    (case q55 => kit_is)
    (case q56 => kit_is)
    (case q57 => kit_is)
    (case q58 => kit_is)
    (case q59 => kit_is)
    (case q60 => kit_is)
    (case q61 => kit_is)
    (case q62 => kit_is)
    (case q63 => kit_is)
    (case q64 => kit_is)
    (case q65 => kit_is)
    (case q66 => kit_is)
    (case q67 => kit_is)
#print axioms PySem.Challenge.cw_cellfolio_k20_runs_holds
