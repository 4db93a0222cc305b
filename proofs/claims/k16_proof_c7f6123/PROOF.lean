import PyProof.Rows.All
import Wide.All
import OpenK.AllK
import Wide.FinOn
import Lean
import PyProof.EqAt
import PyProof.EqKinds
import PyProof.NeKinds
import PyProof.ZipIter
import PyProof.Rows.ZipGen
import PyProof.ExcArgs
import PyProof.CompUse
import PyProof.TupleCall
import PyProof.CompFree
import PyProof.Cells
import OpenK.KEqL
import KE.KEqDict
import PyProof.EnumIter
import PyProof.EnumFor
import PyProof.EnumMake
import PyProof.EnumStmt
import PyProof.Rows.EnumRows
import KE.KRevIter
import OpenK.KRaise
import PyProof.Draws
import PyProof.StrWalks
import PyProof.StrCalls2
import PyProof.Rows.StrJoin2
import PyProof.StrLawsTight
import PyProof.StrLawsIn
import PyProof.SliceStr2
import PyProof.StrBlockI
import PyProof.StrLawsOcc
import PyProof.StrCalls3
import KE.KIntText
import PySem.SetOps
import PyProof.TupleKey
import PyProof.SetRoads
import PyProof.Rows.SetFrom
import PyProof.ConsumeS
import PyProof.MinMaxWalk
import PyProof.StrOps2
import PyProof.WalkInts
import PyProof.LongRange
import KE.KUnpack
import PyProof.Rows.IntBool
import KE.KRevSl
import KE.KLam
import KE.KNestM
import KE.KBits
import KE.RegKIsAll
import PySem.Challenge.RW_cellfolio_k16_a_palette_kept
set_option Elab.async false
set_option linter.all false
set_option maxRecDepth 100000
namespace L2
open PySem PySem.Spec PyProof.Rows
noncomputable abbrev Key := Sum Int Str
noncomputable def keyIs : Key → Value → Bool
  | .inl k, v => Value.isInt k v
  | .inr x, v => Value.isStrOf x v
noncomputable def keyH (w : World) : Key → Int
  | .inl k => hashInt k
  | .inr x => hashStr w x
theorem keyIs_shape : ∀ {k : Key} {v : Value}, keyIs k v = true → (∃ i t, k = Sum.inl i ∧ v = Value.int i t) ∨ (∃ x t, k = Sum.inr x ∧ v = Value.str x t)
  | .inl i, v, h => by
    obtain ⟨t, e⟩ := Value.isInt_shape (k := i) (v := v) h
    exact .inl ⟨i, t, rfl, e⟩
  | .inr x, v, h => by
    obtain ⟨t, e⟩ := Value.isStrOf_shape (x := x) (v := v) h
    exact .inr ⟨x, t, rfl, e⟩
theorem key_ll (a b : Int) : decide ((Sum.inl a : Key) = Sum.inl b) = (a == b) := by
  by_cases e : a = b
  · subst e; simp
  · have h : ¬ (Sum.inl a : Key) = Sum.inl b := fun q => e (Sum.inl.inj q)
    rw [decide_eq_false h]
    exact (beq_eq_false_iff_ne.mpr e).symm
theorem key_rr (a b : Str) : decide ((Sum.inr a : Key) = Sum.inr b) = decide (a = b) := by
  by_cases e : a = b
  · subst e; simp
  · have h : ¬ (Sum.inr a : Key) = Sum.inr b := fun q => e (Sum.inr.inj q)
    rw [decide_eq_false h, decide_eq_false e]
theorem key_lr (a : Int) (b : Str) : decide ((Sum.inl a : Key) = Sum.inr b) = false := decide_eq_false (fun q => nomatch q)
theorem key_rl (a : Str) (b : Int) : decide ((Sum.inr a : Key) = Sum.inl b) = false := decide_eq_false (fun q => nomatch q)
noncomputable def mixKind (prog : Program) (w : World) : PySem.KeyKind prog w Key where
  is := keyIs
  hash := keyH w
  inj := fun v a b ha hb => by
    rcases keyIs_shape ha with ⟨i, t, rfl, rfl⟩ | ⟨x, t, rfl, rfl⟩
    · rcases keyIs_shape hb with ⟨j, u, rfl, e⟩ | ⟨y, u, rfl, e⟩
      · injection e with e1 _; rw [e1]
      · exact nomatch e
    · rcases keyIs_shape hb with ⟨j, u, rfl, e⟩ | ⟨y, u, rfl, e⟩
      · exact nomatch e
      · injection e with e1 _; rw [e1]
  byValue := fun k v h => by
    rcases keyIs_shape h with ⟨i, t, rfl, rfl⟩ | ⟨x, t, rfl, rfl⟩ <;> rfl
  pyHash := fun hv h => by
    rcases keyIs_shape hv with ⟨i, t, rfl, rfl⟩ | ⟨x, t, rfl, rfl⟩
    · exact wpAny_pyHash_int h
    · exact wpAny_pyHash_str h
  eqBool := fun hu hv h => by
    rcases keyIs_shape hu with ⟨i, t, rfl, rfl⟩ | ⟨x, t, rfl, rfl⟩
    · rcases keyIs_shape hv with ⟨j, u, rfl, rfl⟩ | ⟨y, u, rfl, rfl⟩
      · rw [key_ll] at h; exact wpAny_eqBool_int h
      · rw [key_lr] at h; exact SeqAt.EqAt.int_str i t y u _ _ _ _ h
    · rcases keyIs_shape hv with ⟨j, u, rfl, rfl⟩ | ⟨y, u, rfl, rfl⟩
      · rw [key_rl] at h; exact SeqAt.EqAt.str_int x t j u _ _ _ _ h
      · rw [key_rr] at h; exact wpAny_eqBool_str h
  «strs» := fun k x t v h => by
    rcases keyIs_shape h with ⟨i, u, rfl, e⟩ | ⟨y, u, rfl, e⟩
    · exact nomatch e
    · injection e with e1 _
      subst e1
      cases v <;> rfl
end L2
namespace L2
open PySem PySem.Spec PyProof.Rows
inductive V where
  | non | bl (b : Bool) | int (i : Int) | str (x : Str) | byt (b : Array UInt8) | flt (b : UInt64) | ref (a : Addr) | ty (n : String)
  deriving DecidableEq
noncomputable def RelV : V → Value → Prop
  | .non, u => u = Value.none
  | .bl b, u => u = Value.bool b
  | .int i, u => ∃ t, u = Value.int i t
  | .str x, u => ∃ t, u = Value.str x t
  | .byt b, u => ∃ t, u = Value.bytes b t
  | .flt b, u => ∃ t, u = Value.float b t
  | .ref a, u => u = Value.ref a
  | .ty n, u => u = Value.type n
noncomputable abbrev Vals : List V → List Value → Prop := Paired RelV
theorem Vals.length {xs : List V} {us : List Value} (r : Vals xs us) : xs.length = us.length := Paired.length r
theorem Vals.get : ∀ {xs : List V} {us : List Value} {i : Nat} {x : V}, Vals xs us → xs[i]? = some x → ∃ u, us[i]? = some u ∧ RelV x u
  | _, _, _, _, .nil, e => by simp at e
  | _, _, 0, _, .cons r _, e => by simp at e; subst e; exact ⟨_, rfl, r⟩
  | _, _, i + 1, x, .cons _ t, e => by
    obtain ⟨u, h1, h2⟩ := Vals.get (i := i) (x := x) t (by simpa using e)
    exact ⟨u, by simpa using h1, h2⟩
theorem Vals.append : ∀ {xs ys : List V} {us ws : List Value}, Vals xs us → Vals ys ws → Vals (xs ++ ys) (us ++ ws)
  | _, _, _, _, .nil, s => s
  | _, _, _, _, .cons r t, s => .cons r (Vals.append t s)
theorem Vals.take : ∀ {xs : List V} {us : List Value} (n : Nat), Vals xs us → Vals (xs.take n) (us.take n)
  | _, _, 0, _ => .nil
  | _, _, _ + 1, .nil => .nil
  | _, _, n + 1, .cons r t => .cons r (Vals.take n t)
theorem Vals.drop : ∀ {xs : List V} {us : List Value} (n : Nat), Vals xs us → Vals (xs.drop n) (us.drop n)
  | _, _, 0, r => r
  | _, _, _ + 1, .nil => .nil
  | _, _, n + 1, .cons _ t => Vals.drop n t
theorem Vals.none_of : ∀ {xs : List V} {us : List Value} {i : Nat}, Vals xs us → xs[i]? = none → us[i]? = none := fun {xs us i} r e => by
  have h1 := r.length
  have h2 : xs.length ≤ i := List.getElem?_eq_none_iff.mp e
  exact List.getElem?_eq_none_iff.mpr (by omega)
noncomputable def RelO : Option V → Option Value → Prop
  | some v, some u => RelV v u
  | none, none => True
  | _, _ => False
noncomputable def KV {κ : Type} : List (κ × V) → List (κ × Value) → Prop := Paired fun (p : κ × V) (q : κ × Value) => p.1 = q.1 ∧ RelV p.2 q.2
noncomputable def kV : Key → V
  | .inl i => .int i
  | .inr x => .str x
inductive HO where
  | lst (xs : List V)
  | tup (xs : List V)
  | dK (kvs : List (Key × V)) | dT (kvs : List (List Key × V))
  | set (S : Int → Bool) (n : Nat)
  | ins (C dx : Addr) (fs : List (Str × V))
  | own (x : Addr)
  | xd (fs : List (Str × V))
  | met (f x : Addr)
  | rng (lo hi : Int)
  | frz (o : Obj) (u : HO)
  | tbl (ps : Array Value)
  | ext (φ : Heap → Prop)
noncomputable abbrev Hp := Addr → Option HO
noncomputable def upd (H : Hp) (a : Addr) (o : HO) : Hp := fun b => if b = a then some o else H b
theorem upd_same {H : Hp} {a : Addr} {o : HO} : upd H a o a = some o := by unfold upd; rw [if_pos rfl]
theorem upd_ne {H : Hp} {a b : Addr} {o : HO} (h : b ≠ a) : upd H a o b = H b := by unfold upd; rw [if_neg h]
theorem ne_of {H : Hp} {a b : Addr} {o u : HO} (h : H a = some o) (h' : H b = some u) (d : o ≠ u) : a ≠ b := by
  intro e; subst e; rw [h] at h'; exact d (Option.some.inj h')
theorem ne_of_none {H : Hp} {a b : Addr} {o : HO} (h : H a = some o) (h' : H b = none) : a ≠ b := by
  intro e; subst e; rw [h] at h'; cases h'
section
variable (P : Program) (w : World)
noncomputable def ObjOk (H : Hp) (h : Heap) (a : Addr) : HO → Prop
  | .lst xs => xs.length ≤ sizeLine ∧ ∃ (its : List Value) (n : Nat), Vals xs its ∧ h.get? a = some { cls := .type "list", data := .seq its.toArray n }
  | .tup xs => xs.length ≤ sizeLine ∧ ∃ its : List Value, Vals xs its ∧ IsTup h a its.toArray
  | .dK kvs => kvs.length ≤ sizeLine ∧ (a == sysModules) = false ∧ ∃ vs, KV kvs vs ∧ h.DictOf (mixKind P w) a vs
  | .dT kvs => kvs.length ≤ sizeLine ∧ (a == sysModules) = false ∧ ∃ xs : List (List Key × Addr × Value),
      Paired (fun (p : List Key × V) (q : List Key × Addr × Value) => p.1 = q.1 ∧ H q.2.1 = some (.tup (p.1.map kV)) ∧ RelV p.2 q.2.2) kvs xs ∧
      ∃ o es ep, h.get? a = some o ∧ o.ExactDict ∧ o.data = .dict es ep ∧ es.toList = xs.map (entryOfKey (tupleKind (mixKind P w))) ∧ (xs.map (·.1)).Nodup
  | .set S n => h.SetOf (intKind P w) a S n
  | .ins C dx fs => H dx = some (.own a) ∧ fs.length ≤ 1000 ∧ dx ≠ a ∧ h.get? a = some (PySem.W.instObj C dx) ∧
      ∃ mA, h.Ns1 dx mA ∧ (∀ f, RelO (fs.lookup f) (mA f)) ∧ PySem.Within mA (fs.map (·.1))
  | .own _ => ∃ o, h.get? a = some o
  | .xd fs => ∃ mA, h.Ns1 a mA ∧ ∀ f, RelO (fs.lookup f) (mA f)
  | .rng lo hi => ∃ t u v, h.get? a = some { cls := .type "range", data := .fields #[.int lo t, .int hi u, .int 1 v] }
  | .frz o u => h.get? a = some o ∧ ObjOk H h a u
  | .tbl ps => h.get? a = some { cls := .none, data := .fields ps }
  | .met f x => h.get? a = some (PySem.W.methodObj (.ref f) (.ref x))
  | .ext φ => φ h ∧ (∃ o, h.get? a = some o) ∧ ∀ h1 h2 : Heap, φ h1 → (∀ o, h1.get? a = some o → h2.get? a = some o) → φ h2
noncomputable def HOk (H : Hp) (h : Heap) : Prop := ∀ a o, H a = some o → ObjOk P w H h a o
end
section
variable {P : Program} {w : World} {H H' : Hp} {h h' : Heap} {a : Addr} {o : HO}
theorem ObjOk.lt (x : ObjOk P w H h a o) : a < h.objs.size := by
  cases o with
  | lst xs => obtain ⟨_, _, _, _, e⟩ := x; exact Heap.lt_size e
  | tup xs => obtain ⟨_, _, _, p⟩ := x; exact p.lt
  | dK kvs => obtain ⟨_, _, _, _, o, _, _, e, _⟩ := x; exact Heap.lt_size e
  | dT kvs => obtain ⟨_, _, _, _, o, _, _, e, _⟩ := x; exact Heap.lt_size e
  | set S n => obtain ⟨o, _, _, _, e, _⟩ := x; exact Heap.lt_size e
  | ins C dx fs => obtain ⟨_, _, _, e, _⟩ := x; exact Heap.lt_size e
  | own y => obtain ⟨_, e⟩ := x; exact Heap.lt_size e
  | xd fs => obtain ⟨_, ⟨_, _, _, e, _⟩, _⟩ := x; exact Heap.lt_size e
  | rng lo hi => obtain ⟨_, _, _, e⟩ := x; exact Heap.lt_size e
  | frz ob u => obtain ⟨e, _⟩ := x; exact Heap.lt_size e
  | tbl ps => exact Heap.lt_size (show h.get? a = some _ from x)
  | met f y => exact Heap.lt_size (show h.get? a = some _ from x)
  | ext φ => obtain ⟨_, ⟨_, e⟩, _⟩ := x; exact Heap.lt_size e
theorem Paired.mapP {α β : Type} {F G : α → β → Prop} : ∀ {l₁ : List α} {l₂ : List β}, Paired F l₁ l₂ → (∀ a b, F a b → G a b) → Paired G l₁ l₂
  | _, _, .nil, _ => .nil
  | _, _, .cons r t, f => .cons (f _ _ r) (Paired.mapP t f)
theorem ObjOk.stay (x : ObjOk P w H h a o) (k : ∀ b u, (b = a ∨ H b = some (.own a)) → h.get? b = some u → h'.get? b = some u)
    (ho : ∀ b, H b = some (.own a) → H' b = some (.own a)) (ht : ∀ b xs, H b = some (.tup xs) → H' b = some (.tup xs)) : ObjOk P w H' h' a o := by
  induction o with
  | lst xs => obtain ⟨z, its, n, r, e⟩ := x; exact ⟨z, its, n, r, k _ _ (.inl rfl) e⟩
  | tup xs => obtain ⟨z, its, r, ob, e, c⟩ := x; exact ⟨z, its, r, ob, k _ _ (.inl rfl) e, c⟩
  | dK kvs => obtain ⟨z, y, vs, r, ob, es, ep, e, c⟩ := x; exact ⟨z, y, vs, r, ob, es, ep, k _ _ (.inl rfl) e, c⟩
  | dT kvs =>
    obtain ⟨z, y, xs, r, ob, es, ep, e, c⟩ := x
    exact ⟨z, y, xs, Paired.mapP r fun p q z => ⟨z.1, ht _ _ z.2.1, z.2.2⟩, ob, es, ep, k _ _ (.inl rfl) e, c⟩
  | set S n => obtain ⟨ob, es, ep, t, e, c⟩ := x; exact ⟨ob, es, ep, t, k _ _ (.inl rfl) e, c⟩
  | ins C dx fs =>
    obtain ⟨d, z, ne, e, mA, ⟨od, es, ep, e2, c⟩, r⟩ := x
    exact ⟨ho _ d, z, ne, k _ _ (.inl rfl) e, mA, ⟨od, es, ep, k _ _ (.inr d) e2, c⟩, r⟩
  | own y => obtain ⟨ob, e⟩ := x; exact ⟨ob, k _ _ (.inl rfl) e⟩
  | xd fs => obtain ⟨mA, ⟨od, es, ep, e, c⟩, r⟩ := x; exact ⟨mA, ⟨od, es, ep, k _ _ (.inl rfl) e, c⟩, r⟩
  | rng lo hi => obtain ⟨t, u, v, e⟩ := x; exact ⟨t, u, v, k _ _ (.inl rfl) e⟩
  | frz ob u ih => obtain ⟨e, q⟩ := x; exact ⟨k _ _ (.inl rfl) e, ih q⟩
  | tbl ps =>
    have e : h.get? a = some { cls := .none, data := .fields ps } := x
    show h'.get? a = some { cls := .none, data := .fields ps }
    exact k a _ (.inl rfl) e
  | met f y =>
    have e : h.get? a = some (PySem.W.methodObj (.ref f) (.ref y)) := x
    show h'.get? a = some (PySem.W.methodObj (.ref f) (.ref y))
    exact k a _ (.inl rfl) e
  | ext φ => obtain ⟨p, ⟨o, e⟩, st⟩ := x; exact ⟨st _ _ p fun o q => k _ _ (.inl rfl) q, ⟨o, k _ _ (.inl rfl) e⟩, st⟩
theorem HOk.lt (x : HOk P w H h) (e : H a = some o) : a < h.objs.size := (x a o e).lt
theorem HOk.fresh (x : HOk P w H h) (e : h.objs.size ≤ a) : H a = none := by
  cases q : H a with
  | none => rfl
  | some u => exact absurd (Nat.lt_of_lt_of_le (x.lt q) e) (Nat.lt_irrefl _)
theorem HOk.kept (x : HOk P w H h) (k : ∀ b u, h.get? b = some u → h'.get? b = some u) : HOk P w H h' := fun a o e =>
  (x a o e).stay (fun b u _ q => k b u q) (fun _ q => q) fun _ _ q => q
theorem HOk.laid (x : HOk P w H h) (k : ∀ b u, h.get? b = some u → h'.get? b = some u) (hp : h.objs.size ≤ a) (new : ObjOk P w (upd H a o) h' a o) : HOk P w (upd H a o) h' := fun b u e => by
  have hn := x.fresh hp
  by_cases hb : b = a
  · subst hb; rw [upd_same] at e; cases e; exact new
  · rw [upd_ne hb] at e
    exact (x b u e).stay (fun c v _ q => k c v q) (fun c q => by rw [upd_ne (ne_of_none q hn)]; exact q) fun c xs q => by rw [upd_ne (ne_of_none q hn)]; exact q
end
noncomputable def Rd (H : Hp) (a : Addr) (u : HO) : Prop := H a = some u ∨ ∃ o, H a = some (.frz o u)
theorem Rd.ok {P : Program} {w : World} {H : Hp} {h : Heap} {a : Addr} {u : HO} (r : Rd H a u) (x : HOk P w H h) : ObjOk P w H h a u := by
  rcases r with r | ⟨o, r⟩
  · exact x a u r
  · obtain ⟨_, q⟩ := x a _ r
    exact q
noncomputable def Mut : Option HO → Prop
  | some (.lst _) => True
  | some (.dK _) => True
  | some (.dT _) => True
  | some (.set _ _) => True
  | some (.ins _ _ _) => True
  | some (.ext _) => True
  | _ => False
section
variable {P : Program} {w : World} {H : Hp} {h h' : Heap} {x e : Addr} {o' : HO}
theorem HOk.write (ok : HOk P w H h) (mu : Mut (H x)) (he : e = x ∨ H e = some (.own x)) (k : ∀ b u, b ≠ e → h.get? b = some u → h'.get? b = some u) (heo : ∃ u, h'.get? e = some u)
    (new : ObjOk P w (upd H x o') h' x o') : HOk P w (upd H x o') h' := fun b u q => by
  have nown : ∀ c y, H c = some (.own y) → c ≠ x := fun c y r z => by subst z; rw [r] at mu; exact mu
  have ntup : ∀ c xs, H c = some (.tup xs) → c ≠ x := fun c xs r z => by subst z; rw [r] at mu; exact mu
  by_cases hb : b = x
  · subst hb; rw [upd_same] at q; cases q; exact new
  · rw [upd_ne hb] at q
    by_cases hbe : b = e
    · have q' : H b = some (.own x) := by
        rcases he with z | z
        · exact absurd (hbe.trans z) hb
        · rw [hbe]; exact z
      rw [q] at q'; cases q'
      obtain ⟨v, hv⟩ := heo
      exact ⟨v, by rw [hbe]; exact hv⟩
    · refine (ok b u q).stay (fun c v hc r => k c v ?_ r) (fun c r => by rw [upd_ne (nown c b r)]; exact r) fun c xs r => by rw [upd_ne (ntup c xs r)]; exact r
      rcases hc with rfl | hc
      · exact hbe
      · rintro rfl
        rcases he with z | z
        · exact nown c b hc z
        · rw [hc] at z; cases z; exact hb rfl
end
structure Un (fs ex : List Addr) (H H' : Hp) (h h' : Heap) : Prop where
  keep : ∀ b o, h.get? b = some o → H b = none → b ∉ fs → b ∉ ex → h'.get? b = some o
  slot : ∀ b o, h.get? b = some o → H b = none → b ∈ fs → b ∉ ex → ∃ sl, h'.get? b = some { o with slots := sl }
  free : ∀ b o, h.get? b = some o → H b = none → b ∉ ex → H' b = none
  there : ∀ b o, h.get? b = some o → b ∉ ex → ∃ o', h'.get? b = some o'
  tups : ∀ b xs, H b = some (.tup xs) → H' b = some (.tup xs)
  frzs : ∀ b o u, H b = some (.frz o u) → H' b = some (.frz o u)
  tbls : ∀ b ps, H b = some (.tbl ps) → ∃ more, H' b = some (.tbl (ps ++ more))
section
variable {fs fs' ex ex' : List Addr} {H H1 H2 : Hp} {h h1 h2 h' : Heap} {a x e : Addr} {o : HO}
theorem Un.any (u : Un fs ex H H1 h h1) {b : Addr} {ob : Obj} (q : h.get? b = some ob) (n : H b = none) (hx : b ∉ ex) : ∃ sl, h1.get? b = some { ob with slots := sl } := by
  by_cases hb : b ∈ fs
  · exact u.slot b ob q n hb hx
  · exact ⟨ob.slots, u.keep b ob q n hb hx⟩
theorem Un.kept (k : ∀ b u, h.get? b = some u → h'.get? b = some u) : Un fs ex H H h h' :=
  ⟨fun b ob q _ _ _ => k b ob q, fun b ob q _ _ _ => ⟨ob.slots, k b ob q⟩, fun _ _ _ n _ => n, fun b ob q _ => ⟨ob, k b ob q⟩, fun _ _ q => q, fun _ _ _ q => q, fun _ ps q => ⟨#[], by rw [q]; simp⟩⟩
theorem Un.refl : Un fs ex H H h h := Un.kept fun _ _ q => q
theorem Un.laid (k : ∀ b u, h.get? b = some u → h'.get? b = some u) (hp : h.objs.size ≤ a) (hn : H a = none) : Un fs ex H (upd H a o) h h' where
  keep := fun b u q _ _ _ => k b u q
  slot := fun b u q _ _ _ => ⟨u.slots, k b u q⟩
  free := fun b u q n _ => by rw [upd_ne (Nat.ne_of_lt (Nat.lt_of_lt_of_le (Heap.lt_size q) hp))]; exact n
  there := fun b u q _ => ⟨u, k b u q⟩
  tups := fun b xs q => by rw [upd_ne (ne_of_none q hn)]; exact q
  frzs := fun b u xs q => by rw [upd_ne (ne_of_none q hn)]; exact q
  tbls := fun b ps q => ⟨#[], by rw [upd_ne (ne_of_none q hn), q]; simp⟩
theorem Un.write (mu : Mut (H x)) (he : e = x ∨ H e = some (.own x)) (k : ∀ b u, b ≠ e → h.get? b = some u → h'.get? b = some u) (heo : ∃ u, h'.get? e = some u) : Un fs ex H (upd H x o) h h' := by
  have hx : ∀ b, H b = none → b ≠ x := fun b n z => by subst z; rw [n] at mu; exact mu
  have hb : ∀ b, H b = none → b ≠ e := fun b n z => by
    subst z
    rcases he with r | r
    · exact hx b n r
    · rw [n] at r; cases r
  have hm : ∀ b u, H b = some u → ¬ Mut (some u) → b ≠ x := fun b u q nm z => by subst z; rw [q] at mu; exact nm mu
  refine ⟨fun b u q n _ _ => k b u (hb b n) q, fun b u q n _ _ => ⟨u.slots, k b u (hb b n) q⟩, fun b u q n _ => by rw [upd_ne (hx b n)]; exact n, fun b u q _ => ?_,
    fun b xs q => by rw [upd_ne (hm b _ q fun z => z)]; exact q, fun b u xs q => by rw [upd_ne (hm b _ q fun z => z)]; exact q, fun b ps q => ⟨#[], by rw [upd_ne (hm b _ q fun z => z), q]; simp⟩⟩
  by_cases hbe : b = e
  · subst hbe; exact heo
  · exact ⟨u, k b u hbe q⟩
end
noncomputable def trk (h : Heap) (H : Hp) : List Addr := (List.range h.objs.size).filter fun a => (H a).isSome
noncomputable def hidT (h : Heap) (H : Hp) : Heap := PySem.W.hideAll h (trk h H)
theorem hidT_size (h : Heap) (H : Hp) : (hidT h H).objs.size = h.objs.size := PySem.W.hideAll_size _ _
theorem hidT_get {h : Heap} {H : Hp} {b : Addr} {o : Obj} (e : h.get? b = some o) (n : H b = none) : (hidT h H).get? b = some o :=
  PySem.W.hideAll_get _ e fun hm => by
    have q : (H b).isSome = true := (List.mem_filter.mp hm).2
    rw [n] at q; simp at q
theorem of_hidT {h : Heap} {H : Hp} {b : Addr} {o : Obj} (e : (hidT h H).get? b = some o) : h.get? b = some o ∧ H b = none := by
  have e' : h.get? b = some o := PySem.W.of_hideAll (trk h H) e
  refine ⟨e', ?_⟩
  cases q : H b with
  | none => rfl
  | some x =>
    have hm : b ∈ trk h H := List.mem_filter.mpr ⟨List.mem_range.mpr (Heap.lt_size e'), by simp [q]⟩
    have z : (hidT h H).get? b = none := PySem.W.hideAll_none (trk h H) hm
    rw [z] at e; cases e
end L2
namespace L2
open PySem PySem.Spec PyProof.Rows
structure Mod (K : PySem.W.Frag) (mg : Str → Option Value) (base : Heap) : Prop where
  kin : K.In base
  glob : base.Ns mainGlobals mg
  blt : ∃ mb, base.Ns builtinsNs mb ∧ ∀ x : Str, x ≠ "__name__" → mb x = bootBuiltins x
  nolimit : base.NoLimit
structure Cx where
  prog : Program
  w : World
  K : PySem.W.Frag
  mg : Str → Option Value
  base : Heap
  A : Around
  N : List Str
  s₀ : Shared
  H₀ : Hp
  env : Env
  outer : List Env
  stack : List Env
  ex : List Addr
  fn : Str → Bool
  calm : Bool
  pn : List (Addr × Obj)
  xe : Value → Shared → Prop
noncomputable def frs (l : List Env) : List Addr := l.filterMap (·.frame)
noncomputable abbrev Cx.fs (X : Cx) : List Addr := frs X.outer
noncomputable def Vis (sc : Scope) (x : Str) : Prop := sc.names.lookup x = some .local ∨ sc.names.lookup x = some .cell ∨ sc.names.lookup x = some .free
noncomputable def Loc (sc : Scope) (x : Str) : Prop := sc.names.lookup x = some .local ∨ sc.names.lookup x = some .cell
noncomputable def Look (env : Env) (h : Heap) (m : Str → Option Value) (x : Str) (u : Value) : Prop :=
  (env.kindOf x = some .local ∧ m x = some u) ∨ ((env.kindOf x = some .cell ∨ env.kindOf x = some .free) ∧ ∃ c, env.cells.lookup x = some c ∧ h.IsCell c (some u))
structure Cx.Ok (X : Cx) : Prop where
  mod : Mod X.K X.mg X.base
  kind : X.env.scope.kind = .function
  glob : X.env.globals = mainGlobals
  blt : X.env.builtins = builtinsNs
  above : X.s₀.heap.objs.size ≤ X.env.locals
  inj : ∀ x y c, X.env.cells.lookup x = some c → X.env.cells.lookup y = some c → x = y
  has : ∀ x, (X.env.kindOf x = some .cell ∨ X.env.kindOf x = some .free) → ∃ c, X.env.cells.lookup x = some c
  cab : ∀ x c, X.fn x = true → X.env.cells.lookup x = some c → X.s₀.heap.objs.size ≤ c
  hd : X.calm = true → X.A.handled = none
  frames : X.A.frames = some X.stack
  stk : X.stack = X.outer ∨ (X.stack = X.env :: X.outer ∧ X.env.frame = some X.env.locals)
  exf : ∀ b ∈ X.ex, b ≠ X.env.locals ∧ ∀ x c, X.env.cells.lookup x = some c → c ≠ b
  bs : ∀ b o, X.base.get? b = some o → X.s₀.heap.get? b = some o ∧ X.H₀ b = none
  bsz : X.base.objs.size ≤ X.s₀.heap.objs.size
  noex : ∀ b o, X.base.get? b = some o → b ∉ X.ex
  exfs : ∀ b ∈ X.ex, b ∉ X.fs
  funs : X.s₀.heap.FunFrames X.base X.outer
  frf : ∀ b ∈ X.fs, X.H₀ b = none
structure Inv (X : Cx) (pins : List (Addr × Obj)) (σ : List (Option V)) (H : Hp) (s : Shared) : Prop where
  ok : X.Ok
  os : s.os = X.s₀.os
  bare : AllBare s.gens
  base : Un X.fs X.ex X.H₀ H X.s₀.heap s.heap
  loc : ∃ m, s.heap.Ns X.env.locals m ∧ ∀ (i : Nat) (x : Str) (v : V), X.N[i]? = some x → σ[i]? = some (some v) → Vis X.env.scope x → ∃ u, RelV v u ∧ Look X.env s.heap m x u
  cell : ∀ x c, X.env.cells.lookup x = some c → ∃ v, s.heap.IsCell c v
  free : H X.env.locals = none
  freeC : ∀ x c, X.env.cells.lookup x = some c → H c = none
  pin : ∀ p ∈ X.pn ++ pins, s.heap.get? p.1 = some p.2 ∧ H p.1 = none ∧ p.1 ≠ X.env.locals ∧ p.1 ∉ X.fs ∧ ∀ v, p.2.data ≠ .cell v
  hok : HOk X.prog X.w H s.heap
  len : σ.length = X.N.length
section
variable {X : Cx} {pins : List (Addr × Obj)} {σ : List (Option V)} {H H' : Hp} {s : Shared} {h' : Heap}
theorem Cx.Ok.nofr (ok : X.Ok) {b : Addr} {o : Obj} (e : X.base.get? b = some o) : b ∉ X.fs := fun hb => by
  have := (ok.funs.mem hb).1
  rw [e] at this; cases this
theorem Inv.bs (I : Inv X pins σ H s) : ∀ b o, X.base.get? b = some o → s.heap.get? b = some o ∧ H b = none := fun b o e =>
  ⟨I.base.keep b o (I.ok.bs b o e).1 (I.ok.bs b o e).2 (I.ok.nofr e) (I.ok.noex b o e), I.base.free b o (I.ok.bs b o e).1 (I.ok.bs b o e).2 (I.ok.noex b o e)⟩
theorem Inv.bk (I : Inv X pins σ H s) : ∀ b o, X.base.get? b = some o → s.heap.get? b = some o := fun b o e => (I.bs b o e).1
theorem Inv.mod (I : Inv X pins σ H s) : Mod X.K X.mg X.base := I.ok.mod
theorem Inv.kIn (I : Inv X pins σ H s) : X.K.In s.heap := I.ok.mod.kin.keeps I.bk
theorem Inv.lt (I : Inv X pins σ H s) : X.env.locals < s.heap.objs.size := let ⟨_, hn, _⟩ := I.loc; hn.lt
theorem Inv.sz (I : Inv X pins σ H s) : X.s₀.heap.objs.size ≤ s.heap.objs.size := Nat.le_trans I.ok.above (Nat.le_of_lt I.lt)
theorem Inv.nofs (I : Inv X pins σ H s) {a : Addr} (h : s.heap.objs.size ≤ a) : a ∉ X.fs := fun hb => by
  obtain ⟨_, o, ho, _⟩ := I.ok.funs.mem hb
  exact absurd (Nat.lt_of_lt_of_le (Heap.lt_size ho) (Nat.le_trans I.sz h)) (Nat.lt_irrefl _)
theorem Inv.cne (I : Inv X pins σ H s) : ∀ x c, X.env.cells.lookup x = some c → c ≠ X.env.locals := fun x c e z => by
  obtain ⟨v, o, ho, hd⟩ := I.cell x c e
  obtain ⟨m, ⟨o', es, ep, ho', hd', _⟩, _⟩ := I.loc
  rw [z, ho'] at ho; cases ho; rw [hd'] at hd; cases hd
theorem Inv.funs (I : Inv X pins σ H s) : s.heap.FunFrames X.base X.outer := by
  have all : ∀ (l : List Env), (∀ b ∈ frs l, b ∈ X.fs) → X.s₀.heap.FunFrames X.base l → s.heap.FunFrames X.base l := by
    intro l
    induction l with
    | nil => intro _ _; trivial
    | cons env r ih =>
      intro hs hl
      obtain ⟨hk, ⟨L, o, hf, hn, ho, hd⟩, hr⟩ := hl
      have hL : L ∈ X.fs := hs L (by unfold frs; rw [List.filterMap_cons, hf]; exact List.mem_cons_self)
      obtain ⟨sl, e⟩ := I.base.slot L o ho (I.ok.frf L hL) hL fun z => I.ok.exfs L z hL
      exact ⟨hk, ⟨L, _, hf, hn, e, hd⟩, ih (fun b hb => hs b (by unfold frs; rw [List.filterMap_cons, hf]; exact List.mem_cons_of_mem _ hb)) hr⟩
  exact all X.outer (fun _ hb => hb) I.ok.funs
theorem Inv.stack (I : Inv X pins σ H s) : s.heap.FunFrames X.base X.stack := by
  rcases I.ok.stk with e | ⟨e, hf⟩
  · rw [e]; exact I.funs
  · rw [e]
    obtain ⟨m, hn, _⟩ := I.loc
    refine .cons (by rw [I.ok.kind]; decide) hf hn ?_ I.funs
    exact Heap.get?_none_of_le (Nat.le_trans I.ok.bsz I.ok.above)
theorem Inv.stkSub (I : Inv X pins σ H s) : ∀ b ∈ frs X.stack, b ∈ X.env.locals :: X.fs := fun b hb => by
  rcases I.ok.stk with e | ⟨e, hf⟩
  · rw [e] at hb; exact List.mem_cons_of_mem _ hb
  · rw [e] at hb
    unfold frs at hb
    rw [List.filterMap_cons, hf] at hb
    exact hb
theorem Inv.stkFree (I : Inv X pins σ H s) : ∀ b ∈ frs X.stack, H b = none := fun b hb => by
  rcases List.mem_cons.mp (I.stkSub b hb) with e | hb
  · rw [e]; exact I.free
  · obtain ⟨_, o, ho, _⟩ := I.ok.funs.mem hb
    exact I.base.free b o ho (I.ok.frf b hb) fun z => I.ok.exfs b z hb
theorem Inv.step {g' : Array GenState} {t' : Nat} {d' : Drawn} {ch : List Addr} (I : Inv X pins σ H s)
    (hch : ∀ b ∈ ch, (b ∈ X.ex ∨ X.s₀.heap.objs.size ≤ b) ∧ b ≠ X.env.locals ∧ (∀ x c, X.env.cells.lookup x = some c → c ≠ b) ∧ ∀ p ∈ X.pn ++ pins, p.1 ≠ b)
    (keep : ∀ b o, b ≠ X.env.locals → b ∉ X.fs → b ∉ ch → s.heap.get? b = some o → H b = none → h'.get? b = some o)
    (slot : ∀ b o, b ≠ X.env.locals → b ∈ X.fs → b ∉ ch → s.heap.get? b = some o → H b = none → ∃ sl, h'.get? b = some { o with slots := sl }) (free : ∀ b o, b ∉ ch → s.heap.get? b = some o → H b = none → H' b = none)
    (there : ∀ b o, b ∉ ch → s.heap.get? b = some o → ∃ o', h'.get? b = some o')
    (tups : ∀ b xs, H b = some (.tup xs) → H' b = some (.tup xs)) (frzs : ∀ b o u, H b = some (.frz o u) → H' b = some (.frz o u)) (tbls : ∀ b ps, H b = some (.tbl ps) → ∃ more, H' b = some (.tbl (ps ++ more)))
    (ns : ∀ m, s.heap.Ns X.env.locals m → h'.Ns X.env.locals m) (hok : HOk X.prog X.w H' h') (hg : AllBare g') :
    Inv X pins σ H' { s with heap := h', gens := g', drawn := d', toks := t' } := by
  have neL : ∀ b o, X.s₀.heap.get? b = some o → b ≠ X.env.locals := fun b o e => Nat.ne_of_lt (Nat.lt_of_lt_of_le (Heap.lt_size e) I.ok.above)
  have neC : ∀ b o, X.s₀.heap.get? b = some o → b ∉ X.ex → b ∉ ch := fun b o e hx hb => by
    rcases (hch b hb).1 with z | z
    · exact hx z
    · exact absurd (Nat.lt_of_lt_of_le (Heap.lt_size e) z) (Nat.lt_irrefl _)
  have cellK : ∀ x c, X.env.cells.lookup x = some c → ∀ v, s.heap.IsCell c v → h'.IsCell c v := fun x c e v ⟨o, ho, hd⟩ => by
    have nch : c ∉ ch := fun z => (hch c z).2.2.1 x c e rfl
    by_cases hc : c ∈ X.fs
    · obtain ⟨sl, q⟩ := slot c o (I.cne x c e) hc nch ho (I.freeC x c e)
      exact ⟨_, q, hd⟩
    · exact ⟨o, keep c o (I.cne x c e) hc nch ho (I.freeC x c e), hd⟩
  refine ⟨I.ok, I.os, hg, ⟨fun b o e n hb hx => ?_, fun b o e n hb hx => ?_, fun b o e n hx => ?_, fun b o e hx => ?_, fun b xs e => tups b xs (I.base.tups b xs e), fun b o xs e => frzs b o xs (I.base.frzs b o xs e), fun b ps e => ?_⟩, ?_, fun x c e => ?_, ?_, fun x c e => ?_, fun p hp => ?_, hok, I.len⟩
  · exact keep b o (neL b o e) hb (neC b o e hx) (I.base.keep b o e n hb hx) (I.base.free b o e n hx)
  · obtain ⟨sl, e1⟩ := I.base.slot b o e n hb hx
    obtain ⟨sl', e2⟩ := slot b _ (neL b o e) hb (neC b o e hx) e1 (I.base.free b o e n hx)
    exact ⟨sl', e2⟩
  · obtain ⟨o', e1⟩ := I.base.there b o e hx
    exact free b o' (neC b o e hx) e1 (I.base.free b o e n hx)
  · obtain ⟨o', e1⟩ := I.base.there b o e hx
    exact there b o' (neC b o e hx) e1
  · obtain ⟨m1, e1⟩ := I.base.tbls b ps e
    obtain ⟨m2, e2⟩ := tbls b _ e1
    exact ⟨m1 ++ m2, by rw [e2, Array.append_assoc]⟩
  · obtain ⟨m, hn, hl⟩ := I.loc
    refine ⟨m, ns m hn, fun i x v e1 e2 e3 => ?_⟩
    obtain ⟨u, r, l⟩ := hl i x v e1 e2 e3
    refine ⟨u, r, ?_⟩
    rcases l with l | ⟨k, c, e, z⟩
    · exact .inl l
    · exact .inr ⟨k, c, e, cellK x c e _ z⟩
  · obtain ⟨v, z⟩ := I.cell x c e
    exact ⟨v, cellK x c e v z⟩
  · obtain ⟨m, ⟨o, _, _, ho, _⟩, _⟩ := I.loc
    exact free _ o (fun z => (hch _ z).2.1 rfl) ho I.free
  · obtain ⟨v, o, ho, hd⟩ := I.cell x c e
    exact free c o (fun z => (hch c z).2.2.1 x c e rfl) ho (I.freeC x c e)
  · obtain ⟨e, n, ne, nf, d⟩ := I.pin p hp
    have nch : p.1 ∉ ch := fun z => (hch p.1 z).2.2.2 p hp rfl
    exact ⟨keep p.1 p.2 ne nf nch e n, free p.1 p.2 nch e n, ne, nf, d⟩
theorem Inv.un {t' : Nat} (I : Inv X pins σ H s) (u : Un X.fs [] H H' s.heap h') (hok : HOk X.prog X.w H' h') : Inv X pins σ H' { s with heap := h', toks := t' } := by
  obtain ⟨m, ⟨o, es, ep, ho, r⟩, _⟩ := id I.loc
  obtain ⟨sl, hL⟩ := u.any ho I.free (by simp)
  exact I.step (g' := s.gens) (d' := s.drawn) (ch := []) (fun _ z => nomatch z) (fun b o _ hb _ e n => u.keep b o e n hb (by simp)) (fun b o _ hb _ e n => u.slot b o e n hb (by simp)) (fun b o _ e n => u.free b o e n (by simp)) (fun b o _ e => u.there b o e (by simp)) u.tups u.frzs u.tbls (fun m' hm => by
    obtain ⟨o', es', ep', ho', r'⟩ := hm
    rw [ho] at ho'; cases ho'
    exact ⟨_, es', ep', hL, r'⟩) hok I.bare
theorem Inv.call {g' : Array GenState} {t' : Nat} {d' : Drawn} {ch : List Addr} (I : Inv X pins σ H s) (u : Un (frs X.stack) ch H H' s.heap h') (hok : HOk X.prog X.w H' h') (hg : AllBare g')
    (hch : ∀ b ∈ ch, (b ∈ X.ex ∨ X.s₀.heap.objs.size ≤ b) ∧ b ≠ X.env.locals ∧ (∀ x c, X.env.cells.lookup x = some c → c ≠ b) ∧ ∀ p ∈ X.pn ++ pins, p.1 ≠ b) :
    Inv X pins σ H' { s with heap := h', gens := g', drawn := d', toks := t' } := by
  obtain ⟨m, ⟨o, es, ep, ho, r⟩, _⟩ := id I.loc
  obtain ⟨sl, hL⟩ := u.any ho I.free fun z => (hch _ z).2.1 rfl
  exact I.step (ch := ch) hch (fun b o hL hb hc e n => u.keep b o e n (fun z => (List.mem_cons.mp (I.stkSub b z)).elim hL hb) hc) (fun b o _ _ hc e n => u.any e n hc) (fun b o hc e n => u.free b o e n hc) (fun b o hc e => u.there b o e hc) u.tups u.frzs u.tbls (fun m' hm => by
    obtain ⟨o', es', ep', ho', r'⟩ := hm
    rw [ho] at ho'; cases ho'
    exact ⟨_, es', ep', hL, r'⟩) hok hg
theorem Inv.turned {t' : Nat} {it : Addr} (I : Inv X pins σ H s) (k : ∀ b o, b ≠ it → s.heap.get? b = some o → h'.get? b = some o) (hn : H it = none) (hL : it ≠ X.env.locals)
    (h1 : it ∈ X.ex ∨ X.s₀.heap.objs.size ≤ it) (h2 : ∀ x c, X.env.cells.lookup x = some c → c ≠ it) (h3 : ∀ p ∈ X.pn ++ pins, p.1 ≠ it) : Inv X pins σ H { s with heap := h', toks := t' } := by
  have nit : ∀ b u, H b = some u → b ≠ it := fun b u e z => by rw [z, hn] at e; cases e
  refine I.step (g' := s.gens) (d' := s.drawn) (ch := [it]) (fun b hb => ?_) (fun b o _ _ hc e _ => k b o (fun z => hc (by simp [z])) e) (fun b o _ _ hc e _ => ⟨o.slots, k b o (fun z => hc (by simp [z])) e⟩) (fun _ _ _ _ n => n)
    (fun b o hc e => ⟨o, k b o (fun z => hc (by simp [z])) e⟩) (fun _ _ e => e) (fun _ _ _ e => e) (fun b ps e => ⟨#[], by rw [e]; simp⟩) (fun m hm => ?_) (fun b u e => ?_) I.bare
  · have e : b = it := by simpa using hb
    subst e
    exact ⟨h1, hL, h2, h3⟩
  · obtain ⟨o, es, ep, ho, r⟩ := hm
    exact ⟨o, es, ep, k _ o (Ne.symm hL) ho, r⟩
  · refine (I.hok b u e).stay (fun c v hc q => k c v ?_ q) (fun _ q => q) fun _ _ q => q
    rcases hc with z | z
    · rw [z]; exact nit b u e
    · exact nit c _ z
theorem Inv.tok (I : Inv X pins σ H s) (t : Nat) : Inv X pins σ H { s with toks := t } := I.un (h' := s.heap) (t' := t) Un.refl I.hok
theorem Inv.kept {t' : Nat} (I : Inv X pins σ H s) (k : ∀ b u, s.heap.get? b = some u → h'.get? b = some u) : Inv X pins σ H { s with heap := h', toks := t' } := I.un (Un.kept k) (I.hok.kept k)
theorem Inv.laid {a : Addr} {o : HO} {t' : Nat} (I : Inv X pins σ H s) (k : ∀ b u, s.heap.get? b = some u → h'.get? b = some u) (hp : s.heap.objs.size ≤ a) (new : ObjOk X.prog X.w (upd H a o) h' a o) :
    Inv X pins σ (upd H a o) { s with heap := h', toks := t' } := I.un (Un.laid k hp (I.hok.fresh hp)) (I.hok.laid k hp new)
theorem Inv.write {x e : Addr} {o : HO} {t' : Nat} (I : Inv X pins σ H s) (mu : Mut (H x)) (he : e = x ∨ H e = some (.own x)) (k : ∀ b u, b ≠ e → s.heap.get? b = some u → h'.get? b = some u) (heo : ∃ u, h'.get? e = some u)
    (new : ObjOk X.prog X.w (upd H x o) h' x o) : Inv X pins σ (upd H x o) { s with heap := h', toks := t' } := I.un (Un.write mu he k heo) (I.hok.write mu he k heo new)
theorem Inv.pins_of {pins' : List (Addr × Obj)} (I : Inv X pins σ H s) (h : ∀ p ∈ pins', s.heap.get? p.1 = some p.2 ∧ H p.1 = none ∧ p.1 ≠ X.env.locals ∧ p.1 ∉ X.fs ∧ ∀ v, p.2.data ≠ .cell v) : Inv X pins' σ H s :=
  ⟨I.ok, I.os, I.bare, I.base, I.loc, I.cell, I.free, I.freeC, fun p hp => (List.mem_append.mp hp).elim (fun z => I.pin p (List.mem_append_left _ z)) (h p), I.hok, I.len⟩
theorem nodup_ix {N : List Str} (hN : N.Nodup) {i j : Nat} {x : Str} (a : N[i]? = some x) (b : N[j]? = some x) : i = j := by
  obtain ⟨h1, e1⟩ := List.getElem?_eq_some_iff.mp a
  obtain ⟨h2, e2⟩ := List.getElem?_eq_some_iff.mp b
  exact (List.getElem_inj hN).mp (e1.trans e2.symm)
theorem store_ok2 {M : Model} {A : Around} {E : Value → Shared → Prop} {i : Nat} {x : Str} {v : V} {u : Value} {Q : Unit → Shared → Prop} (I : Inv X pins σ H s) (hN : X.N.Nodup) (hi : X.N[i]? = some x) (hx : Loc X.env.scope x) (r : RelV v u)
    (h : ∀ s', Inv X pins (σ.set i (some v)) H s' → (∃ a, Heap.SameBut a s.heap s'.heap ∧ (a = X.env.locals ∨ X.env.cells.lookup x = some a)) → Q () s') (hf : X.fn x = true ∨ X.env.scope.names.lookup x = some .local := by first | exact .inl rfl | exact .inr rfl | assumption) : wpAny M A (storeName X.env x u) Q E s := by
  obtain ⟨m, hn, hl⟩ := id I.loc
  have hcls : (X.env.scope.kind == .class || (X.env.scope.kind == .module && X.env.locals != X.env.globals)) = false := by rw [I.ok.kind]; rfl
  have hiσ : i < σ.length := by rw [I.len]; exact (List.getElem?_eq_some_iff.mp hi).1
  have cne := I.cne
  have tracked : ∀ {a : Addr} {h' : Heap}, (∃ o, s.heap.get? a = some o ∧ H a = none) → Heap.SameBut a s.heap h' → HOk X.prog X.w H h' := fun {a h'} ha hs b ob e => by
    obtain ⟨_, _, hfree⟩ := ha
    refine (I.hok b ob e).stay (fun c w' hc q => (hs.2 c ?_).trans q) (fun _ q => q) fun _ _ q => q
    rintro rfl
    rcases hc with rfl | hc
    · rw [hfree] at e; cases e
    · rw [hfree] at hc; cases hc
  rcases hx with hk | hk
  · refine wpAny_storeName_local hk hn (fun h' hn' hs => ?_) hcls
    obtain ⟨oL, _, _, hoL, _⟩ := id hn
    refine h _ ⟨I.ok, I.os, I.bare, ⟨fun b o e n hb hx => ?_, fun b o e n hb hx => ?_, I.base.free, fun b o e hx => ?_, I.base.tups, I.base.frzs, I.base.tbls⟩, ⟨_, hn', fun j y v' e1 e2 e3 => ?_⟩, fun y c e => ?_, I.free, I.freeC, fun p hp => ?_, tracked ⟨oL, hoL, I.free⟩ hs, by simpa using I.len⟩ ⟨_, hs, .inl rfl⟩
    · exact (hs.2 b (Nat.ne_of_lt (Nat.lt_of_lt_of_le (Heap.lt_size e) I.ok.above))).trans (I.base.keep b o e n hb hx)
    · obtain ⟨sl, e1⟩ := I.base.slot b o e n hb hx
      exact ⟨sl, (hs.2 b (Nat.ne_of_lt (Nat.lt_of_lt_of_le (Heap.lt_size e) I.ok.above))).trans e1⟩
    · obtain ⟨o', e1⟩ := I.base.there b o e hx
      exact ⟨o', (hs.2 b (Nat.ne_of_lt (Nat.lt_of_lt_of_le (Heap.lt_size e) I.ok.above))).trans e1⟩
    · by_cases hj : j = i
      · subst hj
        rw [hi] at e1; cases e1
        rw [List.getElem?_set_self hiσ] at e2
        cases e2
        exact ⟨u, r, .inl ⟨hk, by simp⟩⟩
      · rw [List.getElem?_set_ne (Ne.symm hj)] at e2
        obtain ⟨u', r', q⟩ := hl j y v' e1 e2 e3
        refine ⟨u', r', ?_⟩
        rcases q with ⟨k, e⟩ | ⟨k, c, e, z⟩
        · refine .inl ⟨k, ?_⟩
          have : y ≠ x := fun e => hj (nodup_ix hN e1 (e ▸ hi))
          simp [this, e]
        · exact .inr ⟨k, c, e, z.sameBut hs (cne y c e)⟩
    · obtain ⟨w', z⟩ := I.cell y c e
      exact ⟨w', z.sameBut hs (cne y c e)⟩
    · obtain ⟨e, n, ne, nf, d⟩ := I.pin p hp
      exact ⟨(hs.2 p.1 ne).trans e, n, ne, nf, d⟩
  · have hfn : X.fn x = true := by
      rcases hf with z | z
      · exact z
      · rw [z] at hk; cases hk
    obtain ⟨c, hc⟩ := I.ok.has x (.inl hk)
    obtain ⟨w', z⟩ := I.cell x c hc
    refine wpAny_storeName_cell I.ok.kind hk hc z (fun h' hc' hs => ?_)
    obtain ⟨oc, hoc, hocd⟩ := id z
    refine h { s with heap := h' } ⟨I.ok, I.os, I.bare, ⟨fun b o e n hb hx => ?_, fun b o e n hb hx => ?_, I.base.free, fun b o e hx => ?_, I.base.tups, I.base.frzs, I.base.tbls⟩, ⟨m, hn.sameBut hs (Ne.symm (cne x c hc)), fun j y v' e1 e2 e3 => ?_⟩, fun y c' e => ?_, I.free, I.freeC, fun p hp => ?_, tracked ⟨oc, hoc, I.freeC x c hc⟩ hs, by simpa using I.len⟩ ⟨c, hs, .inr hc⟩
    · exact (hs.2 b (Nat.ne_of_lt (Nat.lt_of_lt_of_le (Heap.lt_size e) (I.ok.cab x c hfn hc)))).trans (I.base.keep b o e n hb hx)
    · obtain ⟨sl, e1⟩ := I.base.slot b o e n hb hx
      exact ⟨sl, (hs.2 b (Nat.ne_of_lt (Nat.lt_of_lt_of_le (Heap.lt_size e) (I.ok.cab x c hfn hc)))).trans e1⟩
    · obtain ⟨o', e1⟩ := I.base.there b o e hx
      exact ⟨o', (hs.2 b (Nat.ne_of_lt (Nat.lt_of_lt_of_le (Heap.lt_size e) (I.ok.cab x c hfn hc)))).trans e1⟩
    · by_cases hj : j = i
      · subst hj
        rw [hi] at e1; cases e1
        rw [List.getElem?_set_self hiσ] at e2
        cases e2
        exact ⟨u, r, .inr ⟨.inl hk, c, hc, hc'⟩⟩
      · rw [List.getElem?_set_ne (Ne.symm hj)] at e2
        obtain ⟨u', r', q⟩ := hl j y v' e1 e2 e3
        refine ⟨u', r', ?_⟩
        rcases q with q | ⟨k, c', e, z'⟩
        · exact .inl q
        · refine .inr ⟨k, c', e, z'.sameBut hs ?_⟩
          rintro rfl
          exact hj (nodup_ix hN e1 (I.ok.inj _ _ _ e hc ▸ hi))
    · by_cases hcc : c' = c
      · subst hcc; exact ⟨_, hc'⟩
      · obtain ⟨w2, z2⟩ := I.cell y c' e
        exact ⟨w2, z2.sameBut hs hcc⟩
    · obtain ⟨e, n, ne, nf, d⟩ := I.pin p hp
      refine ⟨(hs.2 p.1 ?_).trans e, n, ne, nf, d⟩
      intro q
      rw [q, hoc] at e
      have q' : oc = p.2 := Option.some.inj e
      exact d w' (by rw [← q']; exact hocd)
theorem store_ok {M : Model} {A : Around} {E : Value → Shared → Prop} {i : Nat} {x : Str} {v : V} {u : Value} {Q : Unit → Shared → Prop} (I : Inv X pins σ H s) (hN : X.N.Nodup) (hi : X.N[i]? = some x) (hx : Loc X.env.scope x) (r : RelV v u)
    (h : ∀ s', Inv X pins (σ.set i (some v)) H s' → Q () s') (hf : X.fn x = true ∨ X.env.scope.names.lookup x = some .local := by first | exact .inl rfl | exact .inr rfl | assumption) : wpAny M A (storeName X.env x u) Q E s :=
  store_ok2 I hN hi hx r (fun s' I' _ => h s' I') hf
theorem Inv.call' {s' : Shared} {ch : List Addr} (I : Inv X pins σ H s) (ho : s'.os = s.os) (u : Un (frs X.stack) ch H H' s.heap s'.heap) (hok : HOk X.prog X.w H' s'.heap) (hg : AllBare s'.gens)
    (hch : ∀ b ∈ ch, (b ∈ X.ex ∨ X.s₀.heap.objs.size ≤ b) ∧ b ≠ X.env.locals ∧ (∀ x c, X.env.cells.lookup x = some c → c ≠ b) ∧ ∀ p ∈ X.pn ++ pins, p.1 ≠ b) : Inv X pins σ H' s' := by
  obtain ⟨h', g', d', t', o'⟩ := s'
  have e : o' = s.os := ho
  subst e
  exact I.call (g' := g') (t' := t') (d' := d') u hok hg hch
end
noncomputable abbrev XK := Value → Option Addr → Hp → Prop
noncomputable abbrev St := List (Option V)
noncomputable abbrev VK := V → Hp → Prop
noncomputable abbrev TE := St → Hp → VK → Prop
noncomputable abbrev TT := St → Hp → (Bool → Hp → Prop) → Prop
noncomputable abbrev TA := St → Hp → (List V → Hp → Prop) → Prop
structure Ends where
  nx : St → Hp → Prop
  rt : VK
  bk : St → Hp → Prop := fun _ _ => False
  ct : St → Hp → Prop := fun _ _ => False
noncomputable abbrev TS := Ends → St → Hp → Prop
noncomputable def EP (X : Cx) (pins : List (Addr × Obj)) (σ : St) (Q : VK) (u : Value) (s' : Shared) : Prop := ∃ v H', Inv X pins σ H' s' ∧ RelV v u ∧ Q v H'
noncomputable def TP (X : Cx) (pins : List (Addr × Obj)) (σ : St) (Q : Bool → Hp → Prop) (b : Bool) (s' : Shared) : Prop := ∃ H', Inv X pins σ H' s' ∧ Q b H'
noncomputable def AP (X : Cx) (pins : List (Addr × Obj)) (σ : St) (Q : List V → Hp → Prop) (us : List Value) (s' : Shared) : Prop := ∃ vs H', Inv X pins σ H' s' ∧ Vals vs us ∧ Q vs H'
noncomputable def SP (X : Cx) (pins : List (Addr × Obj)) (D : Ends) (f : Flow) (s' : Shared) : Prop :=
  match f with
  | .next => ∃ σ' H', Inv X pins σ' H' s' ∧ D.nx σ' H'
  | .brk => ∃ σ' H', Inv X pins σ' H' s' ∧ D.bk σ' H'
  | .cont => ∃ σ' H', Inv X pins σ' H' s' ∧ D.ct σ' H'
  | .ret u => ∃ v σ' H', Inv X pins σ' H' s' ∧ RelV v u ∧ D.rt v H'
noncomputable def PE (X : Cx) (e : Expr) (t : TE) : Prop :=
  ∀ (pins : List (Addr × Obj)) (s : Shared) (σ : St) (H : Hp) (Q : VK), Inv X pins σ H s → t σ H Q → wpAny (model X.prog X.w) X.A (eval e X.env) (EP X pins σ Q) X.xe s
noncomputable def PT (X : Cx) (e : Expr) (t : TT) : Prop :=
  ∀ (pins : List (Addr × Obj)) (s : Shared) (σ : St) (H : Hp) (Q : Bool → Hp → Prop), Inv X pins σ H s → t σ H Q → wpAny (model X.prog X.w) X.A (isTrue e X.env (eval e X.env)) (TP X pins σ Q) X.xe s
noncomputable def PW (X : Cx) (e : Expr) (t : TT) : Prop :=
  ∀ (whole : Sem Value) (pins : List (Addr × Obj)) (s : Shared) (σ : St) (H : Hp) (Q : Bool → Hp → Prop), Inv X pins σ H s → t σ H Q → wpAny (model X.prog X.w) X.A (isTrue e X.env whole) (TP X pins σ Q) X.xe s
theorem PW.pt {X : Cx} {e : Expr} {t : TT} (h : PW X e t) : PT X e t := h _
noncomputable def PA (X : Cx) (es : List Expr) (t : TA) : Prop :=
  ∀ (pos : Pos) (pins : List (Addr × Obj)) (s : Shared) (σ : St) (H : Hp) (Q : List V → Hp → Prop), Inv X pins σ H s → t σ H Q → wpAny (model X.prog X.w) X.A (spliced (backTo pos (starEach es X.env))) (AP X pins σ Q) X.xe s
noncomputable def PS (X : Cx) (st : Stmt) (t : TS) : Prop :=
  ∀ (pins : List (Addr × Obj)) (s : Shared) (σ : St) (H : Hp) (D : Ends), Inv X pins σ H s → t D σ H → wpAny (model X.prog X.w) X.A (exec st X.env) (SP X pins D) X.xe s
noncomputable def PSs (X : Cx) (st : List Stmt) (t : TS) : Prop :=
  ∀ (pins : List (Addr × Obj)) (s : Shared) (σ : St) (H : Hp) (D : Ends), Inv X pins σ H s → t D σ H → wpAny (model X.prog X.w) X.A (execs st X.env) (SP X pins D) X.xe s
theorem thn {α : Type} {t : Sem α} {Q Q' : α → Shared → Prop} {M : Model} {A : Around} {E : Value → Shared → Prop} {s : Shared} (h : wpAny M A t Q E s) (hQ : ∀ a s, Q a s → Q' a s) : wpAny M A t Q' E s := wpAny_mono h hQ fun _ _ x => x
end L2
namespace L2
open PySem PySem.Spec PyProof.Rows
section
variable {X : Cx}
noncomputable def tVar (i : Nat) : TE := fun σ H Q => ∃ v, σ[i]? = some (some v) ∧ Q v H
noncomputable def tC (v : V) : TE := fun _ H Q => Q v H
theorem pe_var {i : Nat} {x : Str} {pos : Pos} (hN : X.N[i]? = some x) (hv : Vis X.env.scope x) (hd : (x == ("__debug__" : Str)) = false := by decide) (hcd : (x == ("__classdict__" : Str)) = false := by decide) : PE X (.Name x pos) (tVar i) := by
  intro pins s σ H Q I h
  obtain ⟨v, e, h⟩ := h
  obtain ⟨m, hn, hl⟩ := I.loc
  obtain ⟨u, r, l⟩ := hl i x v hN e hv
  have fin : EP X pins σ Q u s := ⟨v, H, I, r, h⟩
  rcases l with ⟨hk, hm⟩ | ⟨hk, c, hc, hcell⟩
  · exact wpAny_Name (wpAny_loadName_local I.ok.kind hk hn hm fin) hd
  · rcases hk with hk | hk
    · exact wpAny_Name (wpAny_loadName_cell I.ok.kind hk hc hcell fin) hd
    · exact wpAny_Name (wpAny_loadName_free I.ok.kind hk hc hcell fin hcd) hd
theorem pe_int {i j pos} : PE X (.Constant (.int i) j pos) (tC (.int i)) := fun _ _ _ H _ I h => wpAny_Constant_int ⟨.int i, H, I.tok _, ⟨_, rfl⟩, h⟩
theorem pe_bl {b j pos} : PE X (.Constant (.bool b) j pos) (tC (.bl b)) := fun _ _ _ H _ I h => Constant_bool ⟨.bl b, H, I, rfl, h⟩
theorem pe_non {j pos} : PE X (.Constant .none j pos) (tC .non) := fun _ _ _ H _ I h => Constant_none ⟨.non, H, I, rfl, h⟩
theorem pe_str {x j pos} : PE X (.Constant (.str x) j pos) (tC (.str x)) := fun _ _ _ H _ I h => Calls.Constant_str ⟨.str x, H, I.tok _, ⟨_, rfl⟩, h⟩
noncomputable def Gl (X : Cx) (x : Str) : Prop := X.env.kindOf x = some .globalImplicit
theorem ld_glob {E : Value → Shared → Prop} {pins : List (Addr × Obj)} {s : Shared} {σ : St} {H : Hp} {x : Str} {u : Value} {pos : Pos} {Q : Value → Shared → Prop} (I : Inv X pins σ H s) (hg : Gl X x) (hm : X.mg x = some u) (h : Q u s)
    (hd : (x == ("__debug__" : Str)) = false := by decide) : wpAny (model X.prog X.w) X.A (eval (.Name x pos) X.env) Q E s :=
  Calls.Name_function_global I.ok.kind hg (Calls.loadGlobal_global (by rw [I.ok.glob]; exact I.mod.glob.keeps I.bk) hm h) hd
theorem ld_blt {E : Value → Shared → Prop} {pins : List (Addr × Obj)} {s : Shared} {σ : St} {H : Hp} {x : Str} {u : Value} {pos : Pos} {Q : Value → Shared → Prop} (I : Inv X pins σ H s) (hg : Gl X x) (hm : X.mg x = none) (hv : bootBuiltins x = some u) (h : Q u s)
    (hn : x ≠ "__name__" := by decide) (hd : (x == ("__debug__" : Str)) = false := by decide) : wpAny (model X.prog X.w) X.A (eval (.Name x pos) X.env) Q E s := by
  obtain ⟨mb, h1, h2⟩ := I.mod.blt
  exact Calls.Name_function_global I.ok.kind hg (Calls.loadGlobal_builtin (by rw [I.ok.glob]; exact I.mod.glob.keeps I.bk) hm (by rw [I.ok.blt]; exact h1.keeps I.bk) ((h2 x hn).trans hv) h) hd
theorem pe_glob {x : Str} {v : V} {u : Value} {pos : Pos} (hg : Gl X x) (hm : X.mg x = some u) (r : RelV v u) (hd : (x == ("__debug__" : Str)) = false := by decide) : PE X (.Name x pos) (tC v) :=
  fun _ _ _ H _ I h => ld_glob I hg hm ⟨v, H, I, r, h⟩ hd
theorem pe_bltn {x : Str} {v : V} {u : Value} {pos : Pos} (hg : Gl X x) (hm : X.mg x = none) (hv : bootBuiltins x = some u) (r : RelV v u) (hn : x ≠ "__name__" := by decide) (hd : (x == ("__debug__" : Str)) = false := by decide) : PE X (.Name x pos) (tC v) :=
  fun _ _ _ H _ I h => ld_blt I hg hm hv ⟨v, H, I, r, h⟩ hn hd
variable {a b : Expr} {ta tb : TE} {pos : Pos}
noncomputable def PC (X : Cx) (op : CmpOp) (a b : Expr) (t : TE) : Prop :=
  ∀ (pins : List (Addr × Obj)) (s : Shared) (σ : St) (H : Hp) (Q : VK), Inv X pins σ H s → t σ H Q →
    wpAny (model X.prog X.w) X.A (eval a X.env) (fun v s₁ => wpAny (model X.prog X.w) X.A (eval b X.env) (fun u s₂ => wpAny (model X.prog X.w) X.A (compareOp op v u) (EP X pins σ Q) X.xe s₂) X.xe s₁) X.xe s
theorem nobehind (b : Expr) {op : CmpOp} (h : op ≠ .In) (h2 : op ≠ .NotIn) : behindInMarks op b = false := by
  have e1 : (op == CmpOp.In) = false := by cases op <;> first | rfl | exact absurd rfl h
  have e2 : (op == CmpOp.NotIn) = false := by cases op <;> first | rfl | exact absurd rfl h2
  cases b <;> simp [behindInMarks, e1, e2]
noncomputable def tNotN (ta : TE) : TE := fun σ H Q => ta σ H fun x H1 => Q (.bl (!decide (x = .non))) H1
theorem RelV.none_iff {x : V} {v : Value} (r : RelV x v) : (v == Value.none) = decide (x = .non) := by
  cases x with
  | non => cases r; rfl
  | bl _ => cases r; rfl
  | int _ => obtain ⟨t, rfl⟩ := r; rfl
  | str _ => obtain ⟨t, rfl⟩ := r; rfl
  | byt _ => obtain ⟨t, rfl⟩ := r; rfl
  | flt _ => obtain ⟨t, rfl⟩ := r; rfl
  | ref _ => cases r; rfl
  | ty _ => cases r; rfl
theorem pc_notN {j pos'} (ha : PE X a ta) : PC X .IsNot a (.Constant .none j pos') (tNotN ta) := by
  intro pins s σ H Q I h
  refine thn (ha pins s σ H _ I h) fun v s1 ⟨x, H1, I1, r1, q1⟩ => ?_
  exact Constant_none (isnot_none_gen ⟨.bl _, H1, I1, by rw [r1.none_iff]; rfl, q1⟩)
noncomputable def tB (t : TE) : TT := fun σ H Q => t σ H fun x H1 => ∃ c, x = .bl c ∧ Q c H1
theorem pt_cmp {op : CmpOp} {t : TE} (h : PC X op a b t) (h1 : behindInMarks op b = false := by first | exact nobehind _ (by decide) (by decide) | rfl) : PT X (.Compare a [op] [b] pos) (tB t) := by
  intro pins s σ H Q I hw
  refine wpAny_isTrue_Compare1 (thn (h pins s σ H _ I hw) fun v s1 h1 => thn h1 fun u s2 h2 => thn h2 fun c s3 ⟨x, H1, I1, r1, q1⟩ => ?_) h1
  obtain ⟨d, rfl, q⟩ := q1
  cases r1
  exact wpAny_truthy_bool ⟨H1, I1, q⟩
theorem pt_val {e : Expr} {t : TE} (h : PE X e t) (he : ∀ whole, isTrue e X.env whole = (do let v ← whole; standAt e.pos; holding [v] (truthy v)) := by intro _; rfl) : PT X e (tB t) := by
  intro pins s σ H Q I hw
  refine isTrue_plain (thn (h pins s σ H _ I hw) fun v s1 ⟨x, H1, I1, r1, q1⟩ => ?_) (he _)
  obtain ⟨d, rfl, q⟩ := q1
  cases r1
  exact wpAny_truthy_bool ⟨H1, I1, q⟩
variable {tA tB' : TT} {rest : List Expr}
noncomputable def tOr (t u : TT) : TT := fun σ H Q => t σ H fun c H1 => if c = true then Q true H1 else u σ H1 Q
noncomputable def tNot (t : TT) : TT := fun σ H Q => t σ H fun c H1 => Q (!c) H1
theorem pw_or1 (ha : PT X a tA) : PW X (.BoolOp .Or [a] pos) tA := by
  intro wh pins s σ H Q I h
  refine isTrue_or (thn (ha pins s σ H Q I h) fun c s1 e => ?_)
  cases c with
  | false => exact isTrue_or_nil e
  | true => exact e
theorem pw_or (ha : PT X a tA) (hb : PW X (.BoolOp .Or (b :: rest) pos) tB') : PW X (.BoolOp .Or (a :: b :: rest) pos) (tOr tA tB') := by
  intro wh pins s σ H Q I h
  refine isTrue_or (thn (ha pins s σ H _ I h) fun c s1 ⟨H1, I1, q1⟩ => ?_)
  cases c with
  | true => exact ⟨H1, I1, q1⟩
  | false => exact hb wh pins s1 σ H1 Q I1 q1
theorem pt_not (ha : PT X a tA) : PT X (.UnaryOp .Not a pos) (tNot tA) := by
  intro pins s σ H Q I h
  exact isTrue_not (ha pins s σ H (fun c H1 => Q (!c) H1) I h)
noncomputable def tAndV (ta tb : TE) : TE := fun σ H Q => ta σ H fun x H1 => ∃ c, x = .bl c ∧ if c = true then tb σ H1 Q else Q (.bl false) H1
noncomputable def tOrV (ta tb : TE) : TE := fun σ H Q => ta σ H fun x H1 => ∃ c, x = .bl c ∧ if c = true then Q (.bl true) H1 else tb σ H1 Q
noncomputable def tNotV (ta : TE) : TE := fun σ H Q => ta σ H fun x H1 => ∃ c, x = .bl c ∧ Q (.bl (!c)) H1
theorem pe_one {op} {t : TE} (h : PE X a t) : PE X (.BoolOp op [a] pos) t := fun pins s σ H Q I hw => BoolOp_one (h pins s σ H Q I hw)
theorem pe_and (ha : PE X a ta) (hb : PE X (.BoolOp .And (b :: rest) pos) tb) : PE X (.BoolOp .And (a :: b :: rest) pos) (tAndV ta tb) := by
  intro pins s σ H Q I h
  refine BoolOp_and (thn (ha pins s σ H _ I h) fun v s1 ⟨x, H1, I1, r1, q1⟩ => ?_)
  obtain ⟨c, rfl, q1⟩ := q1
  cases r1
  refine wpAny_truthy_bool ?_
  cases c with
  | true => exact hb pins s1 σ H1 Q I1 q1
  | false => exact ⟨.bl false, H1, I1, rfl, q1⟩
theorem pe_or (ha : PE X a ta) (hb : PE X (.BoolOp .Or (b :: rest) pos) tb) : PE X (.BoolOp .Or (a :: b :: rest) pos) (tOrV ta tb) := by
  intro pins s σ H Q I h
  refine BoolOp_or (thn (ha pins s σ H _ I h) fun v s1 ⟨x, H1, I1, r1, q1⟩ => ?_)
  obtain ⟨c, rfl, q1⟩ := q1
  cases r1
  refine wpAny_truthy_bool ?_
  cases c with
  | false => exact hb pins s1 σ H1 Q I1 q1
  | true => exact ⟨.bl true, H1, I1, rfl, q1⟩
theorem pe_not (ha : PE X a ta) : PE X (.UnaryOp .Not a pos) (tNotV ta) := by
  intro pins s σ H Q I h
  refine UnaryOp_ (thn (ha pins s σ H _ I h) fun v s1 ⟨x, H1, I1, r1, q1⟩ => ?_)
  obtain ⟨c, rfl, q1⟩ := q1
  cases r1
  exact not_of (wpAny_truthy_bool ⟨.bl (!c), H1, I1, rfl, q1⟩)
noncomputable def tIf (t : TT) (ta tb : TE) : TE := fun σ H Q => t σ H fun c H1 => if c = true then ta σ H1 Q else tb σ H1 Q
theorem pe_ifExp {c : Expr} (hc : PT X c tA) (ha : PE X a ta) (hb : PE X b tb) : PE X (.IfExp c a b pos) (tIf tA ta tb) := by
  intro pins s σ H Q I h
  refine wpAny_IfExp (thn (hc pins s σ H _ I h) fun d s1 ⟨H1, I1, q1⟩ => ?_)
  cases d with
  | true => exact ha pins s1 σ H1 Q I1 q1
  | false => exact hb pins s1 σ H1 Q I1 q1
end
end L2
namespace L2
open PySem PySem.Spec PyProof.Rows
noncomputable def SqL (K : PySem.W.Frag) (H : Hp) (a : Addr) (xs : List V) : Prop :=
  Rd H a (.lst xs) ∨
    ∃ (o : Obj) (its : Array Value) (n : Nat), K.lookup a = some o ∧ o.cls = .type "list" ∧ o.dict = none ∧ o.data = .seq its n ∧ its.size ≤ sizeLine ∧ Vals xs its.toList
noncomputable def SqT (K : PySem.W.Frag) (H : Hp) (a : Addr) (xs : List V) : Prop :=
  Rd H a (.tup xs) ∨
    ∃ (o : Obj) (its : Array Value) (n : Nat), K.lookup a = some o ∧ o.cls = .type "tuple" ∧ o.data = .seq its n ∧ its.size ≤ sizeLine ∧ Vals xs its.toList
noncomputable def absV : Value → Option V
  | .none => some .non
  | .bool b => some (.bl b)
  | .int i _ => some (.int i)
  | .str x _ => some (.str x)
  | .bytes b _ => some (.byt b)
  | .float b _ => some (.flt b)
  | .ref a => some (.ref a)
  | .type n => some (.ty n)
  | _ => none
theorem RelV.abs {x : V} {u : Value} (r : RelV x u) : absV u = some x := by
  cases x with
  | non => cases r; rfl
  | bl _ => cases r; rfl
  | int _ => obtain ⟨t, rfl⟩ := r; rfl
  | str _ => obtain ⟨t, rfl⟩ := r; rfl
  | byt _ => obtain ⟨t, rfl⟩ := r; rfl
  | flt _ => obtain ⟨t, rfl⟩ := r; rfl
  | ref _ => cases r; rfl
  | ty _ => cases r; rfl
theorem RelV.inj {x y : V} {u : Value} (r : RelV x u) (q : RelV y u) : x = y := Option.some.inj (r.abs.symm.trans q.abs)
theorem Vals.inj : ∀ {xs ys : List V} {us : List Value}, Vals xs us → Vals ys us → xs = ys
  | _, _, _, .nil, .nil => rfl
  | _, _, _, .cons r t, .cons r' t' => by rw [r.inj r', Vals.inj t t']
section
variable {X : Cx} {pins : List (Addr × Obj)} {σ : St} {H : Hp} {s : Shared} {a : Addr} {xs ys : List V}
theorem SqL.of {K : PySem.W.Frag} (h : H a = some (.lst xs)) : SqL K H a xs := .inl (.inl h)
theorem SqT.of {K : PySem.W.Frag} (h : H a = some (.tup xs)) : SqT K H a xs := .inl (.inl h)
theorem Inv.list (I : Inv X pins σ H s) (h : SqL X.K H a xs) : ∃ its : List Value, Vals xs its ∧ PlainL s.heap a its.toArray ∧ xs.length ≤ sizeLine := by
  rcases h with h | ⟨o, its, n, hk, hc, hd, hs, hz, r⟩
  · obtain ⟨z, its, n, r, e⟩ := h.ok I.hok
    exact ⟨its, r, ⟨_, n, e, rfl, rfl, rfl⟩, z⟩
  · refine ⟨its.toList, r, ⟨o, n, I.kIn a o hk, hc, hd, by simpa using hs⟩, ?_⟩
    have e := r.length
    simp only [Array.length_toList] at e
    omega
theorem Inv.tuple (I : Inv X pins σ H s) (h : SqT X.K H a xs) : ∃ its : List Value, Vals xs its ∧ IsTup s.heap a its.toArray ∧ xs.length ≤ sizeLine := by
  rcases h with h | ⟨o, its, n, hk, hc, hs, hz, r⟩
  · obtain ⟨z, its, r, p⟩ := h.ok I.hok
    exact ⟨its, r, p, z⟩
  · refine ⟨its.toList, r, ⟨o, I.kIn a o hk, hc, n, by simpa using hs⟩, ?_⟩
    have e := r.length
    simp only [Array.length_toList] at e
    omega
theorem Inv.list_inj (I : Inv X pins σ H s) (h : SqL X.K H a xs) (h' : SqL X.K H a ys) : xs = ys := by
  obtain ⟨its, r, ⟨o, n, e, _, _, d⟩, _⟩ := I.list h
  obtain ⟨its', r', ⟨o', n', e', _, _, d'⟩, _⟩ := I.list h'
  rw [e] at e'; cases e'
  rw [d] at d'
  injection d' with d1 _
  have : its = its' := by simpa using congrArg Array.toList d1
  subst this
  exact r.inj r'
theorem Inv.tuple_inj (I : Inv X pins σ H s) (h : SqT X.K H a xs) (h' : SqT X.K H a ys) : xs = ys := by
  obtain ⟨its, r, ⟨o, e, _, n, d⟩, _⟩ := I.tuple h
  obtain ⟨its', r', ⟨o', e', _, n', d'⟩, _⟩ := I.tuple h'
  rw [e] at e'; cases e'
  rw [d] at d'
  injection d' with d1 _
  have : its = its' := by simpa using congrArg Array.toList d1
  subst this
  exact r.inj r'
end
noncomputable abbrev Cx.wish (X : Cx) (E : Value → Shared → Prop) : Cx := { X with xe := E }
noncomputable abbrev Cx.nox (X : Cx) : Cx := X.wish fun _ _ => False
theorem Cx.Ok.wish {X : Cx} (ok : X.Ok) (E : Value → Shared → Prop) : (X.wish E).Ok :=
  ⟨ok.mod, ok.kind, ok.glob, ok.blt, ok.above, ok.inj, ok.has, ok.cab, ok.hd, ok.frames, ok.stk, ok.exf, ok.bs, ok.bsz, ok.noex, ok.exfs, ok.funs, ok.frf⟩
theorem Cx.Ok.unwish {X : Cx} {E : Value → Shared → Prop} (ok : (X.wish E).Ok) : X.Ok :=
  ⟨ok.mod, ok.kind, ok.glob, ok.blt, ok.above, ok.inj, ok.has, ok.cab, ok.hd, ok.frames, ok.stk, ok.exf, ok.bs, ok.bsz, ok.noex, ok.exfs, ok.funs, ok.frf⟩
section
variable {X : Cx} {pins : List (Addr × Obj)} {σ : St} {H : Hp} {s : Shared} {E : Value → Shared → Prop}
theorem Inv.wish (I : Inv X pins σ H s) (E : Value → Shared → Prop) : Inv (X.wish E) pins σ H s := ⟨I.ok.wish E, I.os, I.bare, I.base, I.loc, I.cell, I.free, I.freeC, I.pin, I.hok, I.len⟩
theorem Inv.unwish (I : Inv (X.wish E) pins σ H s) : Inv X pins σ H s := ⟨I.ok.unwish, I.os, I.bare, I.base, I.loc, I.cell, I.free, I.freeC, I.pin, I.hok, I.len⟩
theorem SP.unwish {D : Ends} {f : Flow} {s' : Shared} (h : SP (X.wish E) pins D f s') : SP X pins D f s' := by
  cases f with
  | next => obtain ⟨σ', H', I, q⟩ := h; exact ⟨σ', H', I.unwish, q⟩
  | brk => obtain ⟨σ', H', I, q⟩ := h; exact ⟨σ', H', I.unwish, q⟩
  | cont => obtain ⟨σ', H', I, q⟩ := h; exact ⟨σ', H', I.unwish, q⟩
  | ret u => obtain ⟨v, σ', H', I, r, q⟩ := h; exact ⟨v, σ', H', I.unwish, r, q⟩
theorem PSs.nox {st : List Stmt} {t : TS} (h : PSs X.nox st t) : PSs X st t := fun pins s σ H D I hw =>
  wpAny_mono (h pins s σ H D (I.wish _) hw) (fun _ _ q => q.unwish) fun _ _ z => False.elim z
end
section
variable {X : Cx} {st : Stmt} {rest : List Stmt} {t u : TS} {e : Expr} {te : TE} {pos : Pos}
noncomputable def tNext : TS := fun D σ H => D.nx σ H
noncomputable def tSeq (t u : TS) : TS := fun D σ H => t { D with nx := u D } σ H
theorem pss_nil : PSs X [] tNext := fun _ _ σ H _ I h => wpAny_execs_nil ⟨σ, H, I, h⟩
theorem pss_cons (h1 : PS X st t) (h2 : PSs X rest u) : PSs X (st :: rest) (tSeq t u) := by
  intro pins s σ H D I h
  refine wpAny_execs_cons (thn (h1 pins s σ H { D with nx := u D } I h) fun f s1 q => ?_)
  cases f with
  | next =>
    obtain ⟨σ', H', I', q⟩ := q
    exact h2 pins s1 σ' H' D I' q
  | ret v => exact q
  | brk => exact q
  | cont => exact q
theorem pss_one (h1 : PS X st t) : PSs X [st] t := by
  intro pins s σ H D I h
  refine wpAny_execs_cons (thn (h1 pins s σ H D I h) fun f s1 q => ?_)
  cases f with
  | next => exact wpAny_execs_nil q
  | ret v => exact q
  | brk => exact q
  | cont => exact q
theorem Inv.quiet {pins : List (Addr × Obj)} {σ : St} {H : Hp} {s : Shared} (I : Inv X pins σ H s) : interactive X.env = false := by simp [interactive, I.ok.kind]
noncomputable def tDrop (te : TE) : TS := fun D σ H => te σ H fun _ H1 => D.nx σ H1
theorem ps_expr (he : PE X e te) (hs : swapsWith e none pos.line X.env = pure false := by rfl) : PS X (.Expr e pos) (tDrop te) := by
  intro pins s σ H D I h
  exact wpAny_Expr_any (thn (he pins s σ H _ I h) fun v s1 ⟨x, H1, I1, r1, q1⟩ => ⟨σ, H1, I1, q1⟩) I.quiet hs
noncomputable def tRet (te : TE) : TS := fun D σ H => te σ H D.rt
theorem ps_ret (he : PE X e te) : PS X (.Return (some e) pos) (tRet te) := by
  intro pins s σ H D I h
  exact wpAny_Return_some (thn (he pins s σ H _ I h) fun v s1 ⟨x, H1, I1, r1, q1⟩ => ⟨x, σ, H1, I1, r1, q1⟩)
noncomputable def tIfS (c : TT) (t u : TS) : TS := fun D σ H => c σ H fun b H1 => if b = true then t D σ H1 else u D σ H1
theorem ps_if {c : Expr} {a b : List Stmt} {tc : TT} (hc : PT X c tc) (ha : PSs X a t) (hb : PSs X b u) : PS X (.If c a b pos) (tIfS tc t u) := by
  intro pins s σ H D I h
  refine wpAny_If (thn (hc pins s σ H _ I h) fun d s1 ⟨H1, I1, q1⟩ => ?_)
  cases d with
  | true => exact ha pins s1 σ H1 D I1 q1
  | false => exact hb pins s1 σ H1 D I1 q1
end
noncomputable abbrev TG := V → St → Hp → (St → Hp → Prop) → Prop
noncomputable abbrev TGs := List V → St → Hp → (St → Hp → Prop) → Prop
noncomputable def PG (X : Cx) (target : Expr) (t : TG) : Prop :=
  ∀ (pins : List (Addr × Obj)) (s : Shared) (σ : St) (H : Hp) (v : V) (u : Value) (Q : St → Hp → Prop), Inv X pins σ H s → RelV v u → t v σ H Q →
    wpAny (model X.prog X.w) X.A (assign target X.env u) (fun _ s' => ∃ σ' H', Inv X pins σ' H' s' ∧ Q σ' H') X.xe s
noncomputable def PGs (X : Cx) (ts : List Expr) (t : TGs) : Prop :=
  ∀ (pins : List (Addr × Obj)) (s : Shared) (σ : St) (H : Hp) (vs : List V) (us : List Value) (Q : St → Hp → Prop), Inv X pins σ H s → Vals vs us → t vs σ H Q →
    wpAny (model X.prog X.w) X.A (assignInOrder ((assignEach ts X.env).map (·.2)) us) (fun _ s' => ∃ σ' H', Inv X pins σ' H' s' ∧ Q σ' H') X.xe s
section
variable {X : Cx} {pos : Pos}
noncomputable def gName (i : Nat) : TG := fun v σ H Q => Q (σ.set i (some v)) H
theorem pg_name {i : Nat} {x : Str} (hN : X.N.Nodup) (hi : X.N[i]? = some x) (hx : Loc X.env.scope x) (hf : X.fn x = true ∨ X.env.scope.names.lookup x = some .local := by first | exact .inl rfl | exact .inr rfl | assumption) : PG X (.Name x pos) (gName i) := by
  intro pins s σ H v u Q I r h
  exact wpAny_assign_Name (store_ok I hN hi hx r (fun s' I' => ⟨_, H, I', h⟩) hf)
noncomputable def gNil : TGs := fun vs σ H Q => vs = [] ∧ Q σ H
noncomputable def gCons (t : TG) (u : TGs) : TGs := fun vs σ H Q => ∃ v r, vs = v :: r ∧ t v σ H fun σ' H' => u r σ' H' Q
theorem pgs_nil : PGs X [] gNil := by
  intro pins s σ H vs us Q I r h
  obtain ⟨e, h⟩ := h
  subst e
  cases r
  exact assignInOrder_nil ⟨σ, H, I, h⟩
theorem pgs_cons {e : Expr} {es : List Expr} {t : TG} {u : TGs} (h1 : PG X e t) (h2 : PGs X es u)
    (hs : (assignEach (e :: es) X.env).map (·.2) = assign e X.env :: (assignEach es X.env).map (·.2) := by rfl) : PGs X (e :: es) (gCons t u) := by
  intro pins s σ H vs us Q I r h
  obtain ⟨v, vr, e1, h⟩ := h
  subst e1
  cases r with
  | cons r rr =>
    rw [hs]
    refine assignInOrder_cons (thn (h1 pins s σ H _ _ _ I r h) fun _ s1 ⟨σ1, H1, I1, q1⟩ => ?_)
    exact h2 pins s1 σ1 H1 _ _ Q I1 rr q1
noncomputable def gTup (K : PySem.W.Frag) (n : Nat) (t : TGs) : TG := fun v σ H Q => ∃ a xs, v = .ref a ∧ SqT K H a xs ∧ xs.length = n ∧ t xs σ H Q
theorem pg_tup {es : List Expr} {k : Nat} {t : TGs} {n : Nat} (hc : X.calm = true) (h : PGs X es t)
    (hn : (assignEach es X.env).length = n := by rfl) (hst : (assignEach es X.env).findIdx? (·.1) = none := by rfl) : PG X (.Tuple es k pos) (gTup X.K n t) := by
  intro pins s σ H v u Q I r hw
  obtain ⟨a, xs, e1, hq, hl, hw⟩ := hw
  subst e1
  cases r
  obtain ⟨its, rv, ht, hz⟩ := I.tuple hq
  refine assign_Tuple_tuple (I.ok.hd hc) ht (by simp [hn, ← hl, rv.length]) hst fun h' hx => ?_
  have I1 : Inv X pins σ H { s with heap := h' } := I.kept (t' := s.toks) fun b o e => hx b o (Nat.ne_of_lt (Heap.lt_size e)) e
  exact h pins _ σ H xs _ Q I1 (by simpa using rv) hw
noncomputable def tAsg (te : TE) (g : TG) : TS := fun D σ H => te σ H fun x H1 => g x σ H1 D.nx
theorem ps_set {i : Nat} {x : Str} {e : Expr} {te : TE} {pos' : Pos} (hN : X.N.Nodup) (hi : X.N[i]? = some x) (hx : Loc X.env.scope x) (he : PE X e te) (hs : swapsWith e (some (.Name x pos')) pos.line X.env = pure false := by rfl) (hf : X.fn x = true ∨ X.env.scope.names.lookup x = some .local := by first | exact .inl rfl | exact .inr rfl | assumption) :
    PS X (.Assign [.Name x pos'] e pos) (tAsg te (gName i)) := by
  intro pins s σ H D I h
  refine wpAny_Assign_Name (thn (he pins s σ H _ I h) fun v s1 ⟨y, H1, I1, r1, q1⟩ => ?_) hs
  exact store_ok I1 hN hi hx r1 (fun s2 I2 => ⟨_, H1, I2, q1⟩) hf
end
section
variable {X : Cx} {pos : Pos}
end
structure It where
  go : Nat → Hp → Prop
  yld : Nat → Hp → V → Hp → Prop
  stop : Nat → Hp → Prop
noncomputable def FpOk (X : Cx) (pins : List (Addr × Obj)) (H : Hp) (b : Addr) : Prop :=
  H b = none ∧ b ≠ X.env.locals ∧ b ∉ X.fs ∧ (b ∈ X.ex ∨ X.s₀.heap.objs.size ≤ b) ∧ (∀ x c, X.env.cells.lookup x = some c → c ≠ b) ∧ ∀ p ∈ X.pn ++ pins, p.1 ≠ b
theorem Inv.fpOk {X : Cx} {pins : List (Addr × Obj)} {σ : St} {H H' : Hp} {s : Shared} {b : Addr} (I : Inv X pins σ H s) (hb : s.heap.objs.size ≤ b) (hn : H' b = none) : FpOk X pins H' b := by
  refine ⟨hn, Nat.ne_of_gt (Nat.lt_of_lt_of_le I.lt hb), I.nofs hb, .inr (Nat.le_trans I.sz hb), fun x c e z => ?_, fun p hp z => ?_⟩
  · obtain ⟨v, q⟩ := I.cell x c e
    exact absurd (Nat.lt_of_lt_of_le q.lt (by rw [z]; exact hb)) (Nat.lt_irrefl _)
  · exact absurd (Nat.lt_of_lt_of_le (Heap.lt_size (I.pin p hp).1) (by rw [z]; exact hb)) (Nat.lt_irrefl _)
structure Turn (P : Program) (w : World) (K : PySem.W.Frag) (tg : Expr) (J : It) (fp : List Addr) (it : Addr) (tn : Nat → Heap → Prop) : Prop where
  mem : it ∈ fp
  obj : ∀ i h, tn i h → ∀ b ∈ fp, ∃ o, h.get? b = some o ∧ ∀ v, o.data ≠ .cell v
  keep : ∀ i h h', tn i h → (∀ b ∈ fp, ∀ o, h.get? b = some o → h'.get? b = some o) → tn i h'
  item : ∀ (X : Cx), X.prog = P → X.w = w → X.K = K → X.calm = true → ∀ (i : Nat) (pins : List (Addr × Obj)) (s : Shared) (σ : St) (H : Hp) (E : Value → Shared → Prop), Inv X pins σ H s → (∀ b ∈ fp, FpOk X pins H b) → tn i s.heap → J.go i H →
    wpAny (model P w) X.A (pyNext (.ref it)) (fun r s1 => ∃ u, r = some u ∧
      wpAny (model P w) X.A (letOwnedTupleGo tg (.ref it) u) (fun _ s2 => ∃ x H', Inv X pins σ H' s2 ∧ RelV x u ∧ J.yld i H x H' ∧ tn (i + 1) s2.heap ∧ ∀ b ∈ fp, H' b = none) E s1) E s
  done : ∀ (X : Cx), X.prog = P → X.w = w → X.K = K → X.calm = true → ∀ (i : Nat) (pins : List (Addr × Obj)) (s : Shared) (σ : St) (H : Hp) (E : Value → Shared → Prop), Inv X pins σ H s → (∀ b ∈ fp, FpOk X pins H b) → tn i s.heap → J.stop i H →
    wpAny (model P w) X.A (pyNext (.ref it)) (fun r s1 => r = none ∧ Inv X pins σ H s1) E s
  self : ∀ (A : Around) (i : Nat) (s : Shared) (Q : Value → Shared → Prop) (E : Value → Shared → Prop), tn i s.heap → Q (.ref it) s → wpAny (model P w) A (pyIter (.ref it)) Q E s
noncomputable abbrev TI := St → Hp → (It → Hp → Prop) → Prop
noncomputable def PIE (X : Cx) (pins : List (Addr × Obj)) (σ : St) (tg : Expr) (R : It → Hp → Prop) (itv : Value) (s2 : Shared) : Prop :=
  ∃ (it : Addr) (fp : List Addr) (tn : Nat → Heap → Prop) (J : It) (H' : Hp), itv = .ref it ∧ Inv X pins σ H' s2 ∧ Turn X.prog X.w X.K tg J fp it tn ∧ tn 0 s2.heap ∧ (∀ b ∈ fp, FpOk X pins H' b) ∧ R J H'
noncomputable def PI (X : Cx) (tg iter : Expr) (wi : TI) : Prop :=
  ∀ (pins : List (Addr × Obj)) (s : Shared) (σ : St) (H : Hp) (R : It → Hp → Prop), Inv X pins σ H s → wi σ H R →
    wpAny (model X.prog X.w) X.A (eval iter X.env) (fun v s1 => wpAny (model X.prog X.w) X.A (pyIter v) (PIE X pins σ tg R) X.xe s1) X.xe s
theorem go_of {M : Model} {A : Around} {E : Value → Shared → Prop} {s : Shared} {tg : Expr} {it : Addr} {u : Value} {o : Obj} {n : String} {vs : Array Value} {Q : Unit → Shared → Prop} (ho : s.heap.get? it = some o) (hc : o.cls = .type n) (hd : o.data = .fields vs)
    (hn : ["enumerate", "zip", "dict_itemiterator", "dict_reverseitemiterator", "odict_iterator", "itertools.zip_longest", "itertools.pairwise"].contains n = false) (hQ : Q () s) : wpAny M A (letOwnedTupleGo tg (.ref it) u) Q E s := by
  unfold letOwnedTupleGo
  cases tg <;> first
    | exact wpAny_pure hQ
    | (cases u <;> first
        | exact wpAny_pure hQ
        | (refine wpAny_bind (wpAny_load ho ?_)
           rw [hc, hd]
           show wpAny M A (if (["enumerate", "zip", "dict_itemiterator", "dict_reverseitemiterator", "odict_iterator", "itertools.zip_longest", "itertools.pairwise"].contains n && vs[0]? == some (rawInt _)) = true then _ else _) Q E s
           rw [if_neg (by intro h; rw [hn, Bool.false_and] at h; cases h)]
           exact wpAny_pure hQ))
noncomputable def Itl (K : PySem.W.Frag) (a : Addr) : It :=
  ⟨fun i H => ∃ xs x, SqL K H a xs ∧ xs[i]? = some x, fun i H x H' => H' = H ∧ ∀ xs, SqL K H a xs → xs[i]? = some x, fun i H => ∃ xs, SqL K H a xs ∧ xs.length ≤ i⟩
noncomputable def Itt (K : PySem.W.Frag) (a : Addr) : It :=
  ⟨fun i H => ∃ xs x, SqT K H a xs ∧ xs[i]? = some x, fun i H x H' => H' = H ∧ ∀ xs, SqT K H a xs → xs[i]? = some x, fun i H => ∃ xs, SqT K H a xs ∧ xs.length ≤ i⟩
noncomputable def Itr (lo : Int) (n : Nat) : It := ⟨fun i _ => i < n, fun i H x H' => H' = H ∧ x = .int (lo + i), fun i _ => n ≤ i⟩
theorem turn_list {P : Program} {w : World} {K : PySem.W.Frag} {tg : Expr} (a it : Addr) : Turn P w K tg (Itl K a) [it] it (fun i h => h.IsListIter it a i) where
  mem := by simp
  obj := fun i h st b hb => by
    have e : b = it := by simpa using hb
    subst e
    obtain ⟨o, e, c, d⟩ := st
    exact ⟨o, e, fun v z => by rw [d] at z; cases z⟩
  keep := fun i h h' st k => st.at fun o e => k it (by simp) o e
  item := by
    intro X hP hw hK hc i pins s σ H E I hf st hg
    subst hP hw hK
    obtain ⟨xs, x, hq, hx⟩ := hg
    obtain ⟨its, rv, p, hz⟩ := I.list hq
    obtain ⟨u, hu, ru⟩ := rv.get hx
    obtain ⟨f0, f1, f2, f3, f4, f5⟩ := hf it (by simp)
    refine wpAny_pyNext_list_item st p.isList (x := u) (by simpa using hu) fun h' st' sb => ?_
    have I1 : Inv X pins σ H { s with heap := h' } := I.turned (t' := s.toks) (fun b o hb e => (sb.2 b hb).trans e) f0 f1 f3 f4 f5
    obtain ⟨o, e, c, d⟩ := id st'
    exact ⟨u, rfl, go_of (s := { s with heap := h' }) e c d (by decide) ⟨x, H, I1, ru, ⟨rfl, fun ys hy => by rw [I.list_inj hy hq]; exact hx⟩, st', fun b hb => (hf b hb).1⟩⟩
  done := by
    intro X hP hw hK hc i pins s σ H E I hf st hg
    subst hP hw hK
    obtain ⟨xs, hq, hx⟩ := hg
    obtain ⟨its, rv, p, hz⟩ := I.list hq
    obtain ⟨f0, f1, f2, f3, f4, f5⟩ := hf it (by simp)
    have hl := rv.length
    exact wpAny_pyNext_list_end (I.ok.hd hc) st p.isList (by simp; omega) fun h' eb => ⟨rfl, I.turned (t' := s.toks) (fun b o hb e => eb b o hb e) f0 f1 f3 f4 f5⟩
  self := fun _ _ _ _ _ st h => wpAny_pyIter_listiter st h
theorem turn_tuple {P : Program} {w : World} {K : PySem.W.Frag} {tg : Expr} (a it : Addr) : Turn P w K tg (Itt K a) [it] it (fun i h => h.IsTupleIter it a i) where
  mem := by simp
  obj := fun i h st b hb => by
    have e : b = it := by simpa using hb
    subst e
    obtain ⟨o, e, c, d⟩ := st
    exact ⟨o, e, fun v z => by rw [d] at z; cases z⟩
  keep := fun i h h' st k => st.at fun o e => k it (by simp) o e
  item := by
    intro X hP hw hK hc i pins s σ H E I hf st hg
    subst hP hw hK
    obtain ⟨xs, x, hq, hx⟩ := hg
    obtain ⟨its, rv, p, hz⟩ := I.tuple hq
    obtain ⟨u, hu, ru⟩ := rv.get hx
    obtain ⟨f0, f1, f2, f3, f4, f5⟩ := hf it (by simp)
    refine wpAny_pyNext_tuple_item st (show s.heap.IsTuple a its.toArray from p) (x := u) (by simpa using hu) fun h' st' sb => ?_
    have I1 : Inv X pins σ H { s with heap := h' } := I.turned (t' := s.toks) (fun b o hb e => (sb.2 b hb).trans e) f0 f1 f3 f4 f5
    obtain ⟨o, e, c, d⟩ := id st'
    exact ⟨u, rfl, go_of (s := { s with heap := h' }) e c d (by decide) ⟨x, H, I1, ru, ⟨rfl, fun ys hy => by rw [I.tuple_inj hy hq]; exact hx⟩, st', fun b hb => (hf b hb).1⟩⟩
  done := by
    intro X hP hw hK hc i pins s σ H E I hf st hg
    subst hP hw hK
    obtain ⟨xs, hq, hx⟩ := hg
    obtain ⟨its, rv, p, hz⟩ := I.tuple hq
    obtain ⟨f0, f1, f2, f3, f4, f5⟩ := hf it (by simp)
    have hl := rv.length
    exact wpAny_pyNext_tuple_end (I.ok.hd hc) st (show s.heap.IsTuple a its.toArray from p) (by simp; omega) fun h' eb => ⟨rfl, I.turned (t' := s.toks) (fun b o hb e => eb b o hb e) f0 f1 f3 f4 f5⟩
  self := fun _ _ _ _ _ st h => wpAny_pyIter_tupleiter st h
theorem turn_range {P : Program} {w : World} {K : PySem.W.Frag} {tg : Expr} (it : Addr) (lo : Int) (n : Nat) : Turn P w K tg (Itr lo n) [it] it (fun i h => IsRangeIter h it (lo + (i : Nat) * 1) ((n : Int) - (i : Nat)) 1) where
  mem := by simp
  obj := fun i h st b hb => by
    have e : b = it := by simpa using hb
    subst e
    exact ⟨_, st, fun v z => by
      have z' : Data.fields _ = Data.cell v := z
      cases z'⟩
  keep := fun i h h' st k => k it (by simp) _ st
  item := by
    intro X hP hw hK hc i pins s σ H E I hf st hg
    subst hP hw hK
    obtain ⟨f0, f1, f2, f3, f4, f5⟩ := hf it (by simp)
    have W := Walks.range (prog := X.prog) (w := X.w) (I.ok.hd hc) it lo 1 n
    refine W.item i s _ _ hg st fun v h' tk hv st' kk => ?_
    obtain ⟨t, rfl⟩ := hv
    have I1 : Inv X pins σ H { s with heap := h', toks := tk } := I.turned (fun b o hb e => kk b o (by simpa using hb) e) f0 f1 f3 f4 f5
    refine ⟨_, rfl, go_of (s := { s with heap := h', toks := tk }) (n := "range_iterator") st' rfl rfl (by decide) ⟨.int (lo + i), H, I1, ⟨t, ?_⟩, ⟨rfl, rfl⟩, st', fun b hb => (hf b hb).1⟩⟩
    rw [Int.mul_one]
  done := by
    intro X hP hw hK hc i pins s σ H E I hf st hg
    subst hP hw hK
    obtain ⟨f0, f1, f2, f3, f4, f5⟩ := hf it (by simp)
    exact wpAny_pyNext_range_end (I.ok.hd hc) st (by have : n ≤ i := hg; omega) fun h' eb => ⟨rfl, I.turned (t' := s.toks) (fun b o hb e => eb b o hb e) f0 f1 f3 f4 f5⟩
  self := fun _ _ _ _ _ st h => wpAny_pyIter_rangeiter st h
end L2
namespace L2
open PySem PySem.Spec PyProof.Rows
section
variable {X : Cx} {tg : Expr}
noncomputable def iList (K : PySem.W.Frag) (tl : TE) : TI := fun σ H R => tl σ H fun x H1 => ∃ a, x = .ref a ∧ (∃ xs, SqL K H1 a xs) ∧ R (Itl K a) H1
noncomputable def iTup (K : PySem.W.Frag) (tl : TE) : TI := fun σ H R => tl σ H fun x H1 => ∃ a, x = .ref a ∧ (∃ xs, SqT K H1 a xs) ∧ R (Itt K a) H1
theorem pi_list {l : Expr} {tl : TE} (hl : PE X l tl) : PI X tg l (iList X.K tl) := by
  intro pins s σ H R I h
  refine thn (hl pins s σ H _ I h) fun v s1 ⟨x, H1, I1, r1, q1⟩ => ?_
  obtain ⟨a, e, ⟨xs, hq⟩, q⟩ := q1
  subst e
  cases r1
  obtain ⟨its, rv, p, hz⟩ := I1.list hq
  refine wpAny_pyIter_list p.isList ?_
  refine ⟨s1.heap.objs.size, [s1.heap.objs.size], _, _, H1, rfl, I1.kept (t' := s1.toks) fun b o e => Heap.get?_push_of_some _ e, turn_list a _, ⟨_, Heap.get?_push_size _ rfl, rfl, rfl⟩, fun b hb => ?_, q⟩
  have e : b = s1.heap.objs.size := by simpa using hb
  subst e
  exact I1.fpOk (Nat.le_refl _) (I1.hok.fresh (Nat.le_refl _))
theorem pi_tup {l : Expr} {tl : TE} (hl : PE X l tl) : PI X tg l (iTup X.K tl) := by
  intro pins s σ H R I h
  refine thn (hl pins s σ H _ I h) fun v s1 ⟨x, H1, I1, r1, q1⟩ => ?_
  obtain ⟨a, e, ⟨xs, hq⟩, q⟩ := q1
  subst e
  cases r1
  obtain ⟨its, rv, p, hz⟩ := I1.tuple hq
  refine wpAny_pyIter_tuple (show s1.heap.IsTuple a its.toArray from p) ?_
  refine ⟨s1.heap.objs.size, [s1.heap.objs.size], _, _, H1, rfl, I1.kept (t' := s1.toks) fun b o e => Heap.get?_push_of_some _ e, turn_tuple a _, ⟨_, Heap.get?_push_size _ rfl, rfl, rfl⟩, fun b hb => ?_, q⟩
  have e : b = s1.heap.objs.size := by simpa using hb
  subst e
  exact I1.fpOk (Nat.le_refl _) (I1.hok.fresh (Nat.le_refl _))
theorem range_it {pins : List (Addr × Obj)} {σ : St} {H : Hp} {s : Shared} {R : It → Hp → Prop} {E : Value → Shared → Prop} {lo hi : Int} {t u v : Tok} {tk : Nat} (I : Inv X pins σ H s) (h1 : -(2 ^ 62) ≤ lo) (h2 : lo < 2 ^ 62) (h3 : -(2 ^ 62) ≤ hi) (h4 : hi < 2 ^ 62)
    (q : R (Itr lo (hi - lo).toNat) H) : wpAny (model X.prog X.w) X.A (pyIter (.ref s.heap.objs.size)) (PIE X pins σ tg R) E { s with heap := s.heap.push { cls := .type "range", data := .fields #[.int lo t, .int hi u, .int 1 v] }, toks := tk } := by
  refine wpAny_pyIter_range (IsRange.new ..) (small_one h1 h2 h3 h4) ?_
  have I1 : Inv X pins σ H { s with heap := s.heap.push { cls := .type "range", data := .fields #[.int lo t, .int hi u, .int 1 v] }, toks := tk } := I.kept fun b o e => Heap.get?_push_of_some _ e
  refine ⟨(s.heap.push { cls := .type "range", data := .fields #[.int lo t, .int hi u, .int 1 v] }).objs.size, [(s.heap.push { cls := .type "range", data := .fields #[.int lo t, .int hi u, .int 1 v] }).objs.size], _, _, H, rfl,
    I1.kept (t' := tk) fun b o e => Heap.get?_push_of_some _ e, turn_range _ lo (hi - lo).toNat, ?_, fun b hb => ?_, q⟩
  · have e1 : lo + ((0 : Nat) : Int) * 1 = lo := by simp
    have e2 : (((hi - lo).toNat : Nat) : Int) - ((0 : Nat) : Int) = Builtin.Range.rangeSize lo hi 1 := by rw [rangeSize_one]; split <;> omega
    show IsRangeIter _ _ (lo + ((0 : Nat) : Int) * 1) ((((hi - lo).toNat : Nat) : Int) - ((0 : Nat) : Int)) 1
    rw [e1, e2]
    exact Heap.get?_push_size _ rfl
  · have e : b = (s.heap.push { cls := .type "range", data := .fields #[.int lo t, .int hi u, .int 1 v] }).objs.size := by simpa using hb
    subst e
    exact I1.fpOk (Nat.le_refl _) (I1.hok.fresh (Nat.le_refl _))
noncomputable def iRng1 (ta : TA) : TI := fun σ H R => ta σ H fun vs H1 => ∃ j : Int, vs = [.int j] ∧ -(2 ^ 62) ≤ j ∧ j < 2 ^ 62 ∧ R (Itr 0 j.toNat) H1
theorem pi_range1 {a : Expr} {ta : TA} {p pos : Pos} (hg : Gl X "range") (hm : X.mg "range" = none) (ha : PA X [a] ta) (hs : starEach [a] X.env = [(false, eval a X.env)] := by rfl) : PI X tg (.Call (.Name "range" p) [a] [] pos) (iRng1 ta) := by
  intro pins s σ H R I h
  refine Call_ (ld_blt I hg hm boot_range (PyProof.Rows.callWith_type1 (thn (ha pos pins s σ H _ I h) fun us s1 ⟨vs, H1, I1, r1, q1⟩ => ?_) hs rfl))
  obtain ⟨j, e, q1, q2, q⟩ := q1
  subst e
  cases r1 with
  | cons r rr =>
    cases rr
    obtain ⟨t, rfl⟩ := r
    exact call_range_1 (range_it I1 (by omega) (by omega) q1 q2 (by simpa using q))
noncomputable def tFor (wi : TI) (g : TG) (tb : TS) : TS := fun D σ H => wi σ H fun J H1 => ∃ W : Nat → Nat → St → Hp → Prop, (∃ m, W 0 m σ H1) ∧ ∀ i m σ H, W i m σ H →
  (J.stop i H ∧ D.nx σ H) ∨ (J.go i H ∧ ∃ N : St → Hp → Prop, (∀ σ' H', N σ' H' → ∃ m', m' < m ∧ W (i + 1) m' σ' H') ∧ ∀ x H', J.yld i H x H' → g x σ H' fun σ2 H2 => tb { D with nx := N, ct := N, bk := D.nx } σ2 H2)
noncomputable def pinsAt (fp : List Addr) (h : Heap) : List (Addr × Obj) := fp.filterMap fun b => (h.get? b).map fun o => (b, o)
theorem mem_pinsAt {fp : List Addr} {h : Heap} {b : Addr} {o : Obj} (hb : b ∈ fp) (e : h.get? b = some o) : (b, o) ∈ pinsAt fp h := List.mem_filterMap.mpr ⟨b, hb, by rw [e]; rfl⟩
theorem of_pinsAt {fp : List Addr} {h : Heap} {p : Addr × Obj} (hp : p ∈ pinsAt fp h) : p.1 ∈ fp ∧ h.get? p.1 = some p.2 := by
  obtain ⟨b, hb, e⟩ := List.mem_filterMap.mp hp
  cases q : h.get? b with
  | none => rw [q] at e; cases e
  | some o =>
    rw [q] at e
    have e' : (b, o) = p := Option.some.inj e
    subst e'
    exact ⟨hb, q⟩
theorem Inv.pinned {pins : List (Addr × Obj)} {σ : St} {H : Hp} {s : Shared} {fp : List Addr} (I : Inv X pins σ H s) (hf : ∀ b ∈ fp, FpOk X pins H b) (ho : ∀ b ∈ fp, ∃ o, s.heap.get? b = some o ∧ ∀ v, o.data ≠ .cell v) : Inv X (pins ++ pinsAt fp s.heap) σ H s :=
  I.pins_of fun p hp => (List.mem_append.mp hp).elim (fun z => I.pin p (List.mem_append_right _ z)) fun z => by
    obtain ⟨hb, e⟩ := of_pinsAt z
    obtain ⟨f0, f1, f2, _⟩ := hf p.1 hb
    obtain ⟨o, e', d⟩ := ho p.1 hb
    rw [e] at e'; cases e'
    exact ⟨e, f0, f1, f2, d⟩
theorem Inv.unpinned {pins pl : List (Addr × Obj)} {σ : St} {H : Hp} {s : Shared} (I : Inv X (pins ++ pl) σ H s) : Inv X pins σ H s := I.pins_of fun p hp => I.pin p (List.mem_append_right _ (List.mem_append_left _ hp))
theorem ps_for {iter : Expr} {body : List Stmt} {wi : TI} {g : TG} {tb : TS} {pos : Pos} (hp : PassesOwn (model X.prog X.w) X.A X.env X.xe) (hc : X.calm = true) (hi : PI X tg iter wi) (hg : PG X tg g) (hb : PSs X body tb)
    (hs : ∀ x, foldedSetIterable iter X.env x = pure x := by intro _; rfl) : PS X (.For tg iter body [] pos) (tFor wi g tb) := by
  intro pins s σ H D I h
  refine wpAny_For (thn (hi pins s σ H _ I h) fun v s1 h1 => thn h1 fun itv s2 h2 => ?_) hs
  obtain ⟨it, fp, tn, J, H2, e, I2, T, st2, f2, W, ⟨m0, w0⟩, turn⟩ := h2
  subst e
  have stat : ∀ {H' : Hp}, (∀ b ∈ fp, H' b = none) → ∀ b ∈ fp, FpOk X pins H' b := fun hn b hb => ⟨hn b hb, (f2 b hb).2⟩
  refine codeAny_forLoop_any (fun n s' => ∃ i σ' H', Inv X pins σ' H' s' ∧ tn i s'.heap ∧ (∀ b ∈ fp, H' b = none) ∧ W i n σ' H') ?_ m0 ⟨0, σ, H2, I2, st2, fun b hb => (f2 b hb).1, w0⟩
  rintro n s3 ⟨i, σ3, H3, I3, st3, fr3, w3⟩
  rcases turn i n σ3 H3 w3 with ⟨stop, qn⟩ | ⟨go, N, hN, step⟩
  · refine wpAny_passesOwn hp (thn (T.done X rfl rfl rfl hc i pins s3 σ3 H3 X.xe I3 (stat fr3) st3 stop) fun r s4 ⟨hr, I4⟩ => ?_)
    subst hr
    exact wpAny_execs_nil ⟨σ3, H3, I4, qn⟩
  · refine wpAny_passesOwn hp (thn (T.item X rfl rfl rfl hc i pins s3 σ3 H3 X.xe I3 (stat fr3) st3 go) fun r s4 ⟨u, hr, h4⟩ => ?_)
    subst hr
    refine wpAny_passesOwn hp (thn h4 fun _ s5 ⟨x, H5, I5, r5, y5, st5, fr5⟩ => ?_)
    have I5' := I5.pinned (stat fr5) (T.obj _ _ st5)
    refine wpAny_passesOwn hp (thn (hg _ s5 σ3 H5 x u _ I5' r5 (step x H5 y5)) fun _ s6 ⟨σ6, H6, I6, q6⟩ => ?_)
    refine wpAny_passesOwn hp (thn (hb _ s6 σ6 H6 _ I6 q6) fun f s7 q7 => ?_)
    have again : ∀ {σ7 : St} {H7 : Hp}, Inv X (pins ++ pinsAt fp s5.heap) σ7 H7 s7 → N σ7 H7 → ∃ m, m < n ∧ ∃ i σ' H', Inv X pins σ' H' s7 ∧ tn i s7.heap ∧ (∀ b ∈ fp, H' b = none) ∧ W i m σ' H' := fun {σ7 H7} I7 n7 => by
      obtain ⟨m', hm, w7⟩ := hN σ7 H7 n7
      refine ⟨m', hm, i + 1, σ7, H7, I7.unpinned, T.keep _ _ _ st5 fun b hb o e => (I7.pin (b, o) (List.mem_append_right _ (List.mem_append_right _ (mem_pinsAt hb e)))).1, fun b hb => ?_, w7⟩
      obtain ⟨o, e, d⟩ := T.obj _ _ st5 b hb
      exact (I7.pin (b, o) (List.mem_append_right _ (List.mem_append_right _ (mem_pinsAt hb e)))).2.1
    cases f with
    | next => obtain ⟨σ7, H7, I7, n7⟩ := q7; exact again I7 n7
    | cont => obtain ⟨σ7, H7, I7, n7⟩ := q7; exact again I7 n7
    | brk => obtain ⟨σ7, H7, I7, q7⟩ := q7; exact ⟨σ7, H7, I7.unpinned, q7⟩
    | ret v => obtain ⟨x7, σ7, H7, I7, r7, q7⟩ := q7; exact ⟨x7, σ7, H7, I7.unpinned, r7, q7⟩
end
theorem for_tup {K : PySem.W.Frag} {a : Addr} {xs : List V} {g : TG} {tb : TS} {D : Ends} {σ : St} {H : Hp} (Pv : Nat → St → Hp → Prop) (h0 : Pv 0 σ H) (hl : ∀ i σ H, i ≤ xs.length → Pv i σ H → SqT K H a xs)
    (hs : ∀ i x σ H, xs[i]? = some x → Pv i σ H → g x σ H fun σ2 H2 => tb { D with nx := Pv (i + 1), ct := Pv (i + 1), bk := D.nx } σ2 H2) (hd : ∀ σ H, Pv xs.length σ H → D.nx σ H) :
    ∃ W : Nat → Nat → St → Hp → Prop, (∃ m, W 0 m σ H) ∧ ∀ i m σ H, W i m σ H →
      ((Itt K a).stop i H ∧ D.nx σ H) ∨ ((Itt K a).go i H ∧ ∃ N : St → Hp → Prop, (∀ σ' H', N σ' H' → ∃ m', m' < m ∧ W (i + 1) m' σ' H') ∧ ∀ x H', (Itt K a).yld i H x H' → g x σ H' fun σ2 H2 => tb { D with nx := N, ct := N, bk := D.nx } σ2 H2) := by
  refine ⟨fun i m σ H => m = xs.length - i ∧ i ≤ xs.length ∧ Pv i σ H, ⟨xs.length, by simp, Nat.zero_le _, h0⟩, ?_⟩
  rintro i m σ H ⟨rfl, hi, p⟩
  have q := hl i σ H hi p
  by_cases hlt : i < xs.length
  · refine .inr ⟨⟨xs, xs[i], q, by simp [hlt]⟩, Pv (i + 1), fun σ' H' p' => ⟨xs.length - (i + 1), by omega, rfl, hlt, p'⟩, fun x H' y => ?_⟩
    obtain ⟨e, y⟩ := y
    subst e
    exact hs i x σ _ (y xs q) p
  · have e : i = xs.length := by omega
    subst e
    exact .inl ⟨⟨xs, q, Nat.le_refl _⟩, hd σ H p⟩
theorem for_range {lo : Int} {n : Nat} {g : TG} {tb : TS} {D : Ends} {σ : St} {H : Hp} (Pv : Nat → St → Hp → Prop) (h0 : Pv 0 σ H)
    (hs : ∀ i σ H, i < n → Pv i σ H → g (.int (lo + i)) σ H fun σ2 H2 => tb { D with nx := Pv (i + 1), ct := Pv (i + 1), bk := D.nx } σ2 H2) (hd : ∀ σ H, Pv n σ H → D.nx σ H) :
    ∃ W : Nat → Nat → St → Hp → Prop, (∃ m, W 0 m σ H) ∧ ∀ i m σ H, W i m σ H →
      ((Itr lo n).stop i H ∧ D.nx σ H) ∨ ((Itr lo n).go i H ∧ ∃ N : St → Hp → Prop, (∀ σ' H', N σ' H' → ∃ m', m' < m ∧ W (i + 1) m' σ' H') ∧ ∀ x H', (Itr lo n).yld i H x H' → g x σ H' fun σ2 H2 => tb { D with nx := N, ct := N, bk := D.nx } σ2 H2) := by
  refine ⟨fun i m σ H => m = n - i ∧ i ≤ n ∧ Pv i σ H, ⟨n, by simp, Nat.zero_le _, h0⟩, ?_⟩
  rintro i m σ H ⟨rfl, hi, p⟩
  by_cases hlt : i < n
  · refine .inr ⟨hlt, Pv (i + 1), fun σ' H' p' => ⟨n - (i + 1), by omega, rfl, hlt, p'⟩, fun x H' y => ?_⟩
    obtain ⟨e, y⟩ := y
    subst e y
    exact hs i σ _ hlt p
  · have e : i = n := by omega
    subst e
    exact .inl ⟨Nat.le_refl _, hd σ H p⟩
end L2
namespace L2
open PySem PySem.Spec PyProof.Rows
noncomputable abbrev R2 := V → V → Hp → VK → Prop
noncomputable def OpR (X : Cx) (f : Value → Value → Sem Value) (r : R2) : Prop :=
  ∀ (pins : List (Addr × Obj)) (s : Shared) (σ : St) (H : Hp) (x y : V) (v u : Value) (Q : VK), Inv X pins σ H s → RelV x v → RelV y u → r x y H Q →
    wpAny (model X.prog X.w) X.A (f v u) (EP X pins σ Q) X.xe s
noncomputable def UnR (X : Cx) (f : Value → Sem Value) (r : V → Hp → VK → Prop) : Prop :=
  ∀ (pins : List (Addr × Obj)) (s : Shared) (σ : St) (H : Hp) (x : V) (v : Value) (Q : VK), Inv X pins σ H s → RelV x v → r x H Q →
    wpAny (model X.prog X.w) X.A (f v) (EP X pins σ Q) X.xe s
noncomputable def CallR (X : Cx) (f : Value) (r : List V → Hp → VK → Prop) : Prop :=
  ∀ (pins : List (Addr × Obj)) (s : Shared) (σ : St) (H : Hp) (xs : List V) (us : List Value) (Q : VK), Inv X pins σ H s → Vals xs us → r xs H Q →
    wpAny (model X.prog X.w) X.A (call f us) (EP X pins σ Q) X.xe s
noncomputable def tOp (r : R2) (ta tb : TE) : TE := fun σ H Q => ta σ H fun x H1 => tb σ H1 fun y H2 => r x y H2 Q
noncomputable def tUn (r : V → Hp → VK → Prop) (ta : TE) : TE := fun σ H Q => ta σ H fun x H1 => r x H1 Q
noncomputable def rI (C : Int → Int → Prop) (g : Int → Int → V) : R2 := fun x y H Q => ∃ i j, x = .int i ∧ y = .int j ∧ C i j ∧ Q (g i j) H
noncomputable def rI0 (g : Int → Int → V) : R2 := fun x y H Q => ∃ i j, x = .int i ∧ y = .int j ∧ Q (g i j) H
noncomputable def rU (g : Int → V) : V → Hp → VK → Prop := fun x H Q => ∃ i, x = .int i ∧ Q (g i) H
section
variable {X : Cx} {a b c : Expr} {ta tb tc : TE} {pos : Pos}
theorem binT (ha : PE X a ta) (hb : PE X b tb) {pins : List (Addr × Obj)} {s : Shared} {σ : St} {H : Hp} {R : V → V → Hp → Prop} (I : Inv X pins σ H s)
    (h : ta σ H fun x H1 => tb σ H1 fun y H2 => R x y H2) {Q : Value → Shared → Prop} {f : Value → Value → Sem Value}
    (hf : ∀ v u s2 x y H2, Inv X pins σ H2 s2 → RelV x v → RelV y u → R x y H2 → wpAny (model X.prog X.w) X.A (f v u) Q X.xe s2) :
    wpAny (model X.prog X.w) X.A (eval a X.env) (fun v s₁ => wpAny (model X.prog X.w) X.A (eval b X.env) (fun u s₂ => wpAny (model X.prog X.w) X.A (f v u) Q X.xe s₂) X.xe s₁) X.xe s := by
  refine thn (ha pins s σ H _ I h) fun v s1 ⟨x, H1, I1, r1, q1⟩ => ?_
  refine thn (hb pins s1 σ H1 _ I1 q1) fun u s2 ⟨y, H2, I2, r2, q2⟩ => ?_
  exact hf v u s2 x y H2 I2 r1 r2 q2
theorem pe_op {op : Operator} {r : R2} (ho : OpR X (binaryOp op) r) (ha : PE X a ta) (hb : PE X b tb) : PE X (.BinOp a op b pos) (tOp r ta tb) := by
  intro pins s σ H Q I h
  exact wpAny_BinOp (binT ha hb I h fun v u s2 x y H2 I2 rx ry q => ho pins s2 σ H2 x y v u Q I2 rx ry q)
theorem pe_un {op : UnaryOp} {r : V → Hp → VK → Prop} (ho : UnR X (unaryOp op) r) (ha : PE X a ta) : PE X (.UnaryOp op a pos) (tUn r ta) := by
  intro pins s σ H Q I h
  exact UnaryOp_ (thn (ha pins s σ H _ I h) fun v s1 ⟨x, H1, I1, r1, q1⟩ => ho pins s1 σ H1 x v Q I1 r1 q1)
theorem opI {f : Value → Value → Sem Value} {C : Int → Int → Prop} {g : Int → Int → Int}
    (rule : ∀ (i j : Int) (t u : Tok) (s : Shared) (Q : Value → Shared → Prop) (E : Value → Shared → Prop), C i j → Q (.int (g i j) s.toks) { s with toks := s.toks + 1 } → wpAny (model X.prog X.w) X.A (f (.int i t) (.int j u)) Q E s) :
    OpR X f (rI C fun i j => .int (g i j)) := by
  intro pins s σ H x y v u Q I rx ry h
  obtain ⟨i, j, rfl, rfl, hc, q⟩ := h
  obtain ⟨t, rfl⟩ := rx
  obtain ⟨t', rfl⟩ := ry
  exact rule i j t t' s _ _ hc ⟨.int (g i j), H, I.tok _, ⟨_, rfl⟩, q⟩
theorem opI0 {f : Value → Value → Sem Value} {g : Int → Int → Int}
    (rule : ∀ (i j : Int) (t u : Tok) (s : Shared) (Q : Value → Shared → Prop) (E : Value → Shared → Prop), Q (.int (g i j) s.toks) { s with toks := s.toks + 1 } → wpAny (model X.prog X.w) X.A (f (.int i t) (.int j u)) Q E s) :
    OpR X f (rI0 fun i j => .int (g i j)) := by
  intro pins s σ H x y v u Q I rx ry h
  obtain ⟨i, j, rfl, rfl, q⟩ := h
  obtain ⟨t, rfl⟩ := rx
  obtain ⟨t', rfl⟩ := ry
  exact rule i j t t' s _ _ ⟨.int (g i j), H, I.tok _, ⟨_, rfl⟩, q⟩
theorem opB0 {f : Value → Value → Sem Value} {g : Int → Int → Bool}
    (rule : ∀ (i j : Int) (t u : Tok) (s : Shared) (Q : Value → Shared → Prop) (E : Value → Shared → Prop), Q (.bool (g i j)) s → wpAny (model X.prog X.w) X.A (f (.int i t) (.int j u)) Q E s) :
    OpR X f (rI0 fun i j => .bl (g i j)) := by
  intro pins s σ H x y v u Q I rx ry h
  obtain ⟨i, j, rfl, rfl, q⟩ := h
  obtain ⟨t, rfl⟩ := rx
  obtain ⟨t', rfl⟩ := ry
  exact rule i j t t' s _ _ ⟨.bl (g i j), H, I, rfl, q⟩
noncomputable def CDiv (i j : Int) : Prop := 0 < j ∧ j < 1073741824
noncomputable def CPow (i j : Int) : Prop := 0 ≤ j ∧ j ≤ 1000000 ∧ i.natAbs < 2 ^ 64
noncomputable def CMul (i j : Int) : Prop := (-(2 ^ 64) < i ∧ i < 2 ^ 64) ∨ (-(2 ^ 64) < j ∧ j < 2 ^ 64)
theorem CMul.ok {i j : Int} (h : CMul i j) : IntMulOk i j := by
  rcases h with ⟨h1, h2⟩ | ⟨h1, h2⟩
  · exact .of_left (intBits_le_64 h1 h2)
  · exact .of_right (intBits_le_64 h1 h2)
theorem op_add : OpR X (binaryOp .Add) (rI0 fun i j => .int (i + j)) := opI0 fun _ _ _ _ _ _ _ q => add_int q
theorem op_sub : OpR X (binaryOp .Sub) (rI0 fun i j => .int (i - j)) := opI0 fun _ _ _ _ _ _ _ q => sub_int q
theorem op_mul : OpR X (binaryOp .Mult) (rI CMul fun i j => .int (i * j)) := opI fun _ _ _ _ _ _ _ hc q => mul_int q hc.ok
theorem op_fdiv : OpR X (binaryOp .FloorDiv) (rI CDiv fun i j => .int (i / j)) := opI fun i j _ _ _ _ _ hc q => by
  have h1 : (0 : Int) < j := hc.1
  have h2 : j < 1073741824 := hc.2
  exact floordiv_int (by omega) (by rw [Int.fdiv_eq_ediv_of_nonneg i (by omega)]; exact q) (.inl (PyProof.noPylong_small (by omega)))
theorem op_mod : OpR X (binaryOp .Mod) (rI (fun _ j => 0 < j) fun i j => .int (i % j)) := opI fun i j _ _ _ _ _ hc q => by
  have h1 : (0 : Int) < j := hc
  exact mod_int' (by omega) (by rw [Int.fmod_eq_emod_of_nonneg i (by omega)]; exact q)
theorem op_pow : OpR X (binaryOp .Pow) (rI CPow fun i j => .int (i ^ j.toNat)) := opI fun _ _ _ _ _ _ _ hc q => pow_int_small hc.1 hc.2.1 hc.2.2 q
theorem unI {f : Value → Sem Value} {g : Int → Int}
    (rule : ∀ (i : Int) (t : Tok) (s : Shared) (Q : Value → Shared → Prop) (E : Value → Shared → Prop), Q (.int (g i) s.toks) { s with toks := s.toks + 1 } → wpAny (model X.prog X.w) X.A (f (.int i t)) Q E s) :
    UnR X f (rU fun i => .int (g i)) := by
  intro pins s σ H x v Q I rx h
  obtain ⟨i, rfl, q⟩ := h
  obtain ⟨t, rfl⟩ := rx
  exact rule i t s _ _ ⟨.int (g i), H, I.tok _, ⟨_, rfl⟩, q⟩
theorem un_neg : UnR X (unaryOp .USub) (rU fun i => .int (-i)) := unI fun _ _ _ _ _ q => neg_int q
end
noncomputable def scal : V → V → Bool
  | .non, .non => true | .non, .int _ => true | .int _, .non => true | .non, .bl _ => true | .bl _, .non => true | .non, .str _ => true | .str _, .non => true
  | .int _, .int _ => true | .bl _, .bl _ => true | .str _, .str _ => true | .byt _, .byt _ => true
  | .int _, .str _ => true | .str _, .int _ => true | .bl _, .str _ => true | .str _, .bl _ => true
  | _, _ => false
noncomputable def rEq : R2 := fun x y H Q => scal x y = true ∧ Q (.bl (decide (x = y))) H
noncomputable def rNe : R2 := fun x y H Q => scal x y = true ∧ Q (.bl (!decide (x = y))) H
theorem dec_int {i j : Int} : decide (V.int i = V.int j) = (i == j) := by
  rw [Bool.eq_iff_iff]
  simp
theorem dec_bl {i j : Bool} : decide (V.bl i = V.bl j) = (i == j) := by
  rw [Bool.eq_iff_iff]
  simp
theorem dec_str {i j : Str} : decide (V.str i = V.str j) = (i == j) := by
  rw [Bool.eq_iff_iff]
  simp
theorem dec_byt {i j : Array UInt8} : decide (V.byt i = V.byt j) = (i.toList == j.toList) := by
  rw [Bool.eq_iff_iff]
  cases i
  cases j
  simp
section
variable {X : Cx} {a b c : Expr} {ta tb tc : TE} {pos : Pos}
theorem fin_bl {pins : List (Addr × Obj)} {σ : St} {H : Hp} {s : Shared} {Q : VK} {k k' : Bool} (I : Inv X pins σ H s) (q : Q (.bl k) H) (e : k = k') : EP X pins σ Q (.bool k') s := by
  subst e
  exact ⟨.bl k, H, I, rfl, q⟩
theorem op_eq : OpR X (compareOp .Eq) rEq := by
  intro pins s σ H x y v u Q I rx ry h
  obtain ⟨hs, q⟩ := h
  cases x with
  | non =>
    cases rx
    cases y with
    | non => cases ry; exact PySem.EqNone.eq_none_none (fin_bl I q (by simp))
    | bl j => cases ry; exact PySem.EqNone.eq_none_bool (fin_bl I q (by simp))
    | int j => obtain ⟨t', rfl⟩ := ry; exact PySem.EqNone.eq_none_int (fin_bl I q (by simp))
    | str j => obtain ⟨t', rfl⟩ := ry; exact PySem.EqNone.eq_none_str (fin_bl I q (by simp))
    | _ => exact absurd (show false = true from hs) Bool.false_ne_true
  | bl i =>
    cases rx
    cases y with
    | non => cases ry; exact PySem.EqNone.eq_bool_none (fin_bl I q (by simp))
    | bl j => cases ry; exact eq_bool (fin_bl I q dec_bl)
    | str j => obtain ⟨t', rfl⟩ := ry; exact PySem.EqMixed.eq_bool_str (fin_bl I q (by simp))
    | _ => exact absurd (show false = true from hs) Bool.false_ne_true
  | int i =>
    obtain ⟨t, rfl⟩ := rx
    cases y with
    | non => cases ry; exact PySem.EqNone.eq_int_none (fin_bl I q (by simp))
    | int j => obtain ⟨t', rfl⟩ := ry; exact eq_int (fin_bl I q dec_int)
    | str j => obtain ⟨t', rfl⟩ := ry; exact PySem.EqMixed.eq_int_str (fin_bl I q (by simp))
    | _ => exact absurd (show false = true from hs) Bool.false_ne_true
  | str i =>
    obtain ⟨t, rfl⟩ := rx
    cases y with
    | non => cases ry; exact PySem.EqNone.eq_str_none (fin_bl I q (by simp))
    | bl j => cases ry; exact PySem.EqMixed.eq_str_bool (fin_bl I q (by simp))
    | int j => obtain ⟨t', rfl⟩ := ry; exact PySem.EqMixed.eq_str_int (fin_bl I q (by simp))
    | str j => obtain ⟨t', rfl⟩ := ry; exact eq_str (fin_bl I q dec_str)
    | _ => exact absurd (show false = true from hs) Bool.false_ne_true
  | byt i =>
    obtain ⟨t, rfl⟩ := rx
    cases y with
    | byt j => obtain ⟨t', rfl⟩ := ry; exact PySem.W.eq_bytes (fin_bl I q dec_byt)
    | _ => exact absurd (show false = true from hs) Bool.false_ne_true
  | _ => cases y <;> exact absurd (show false = true from hs) Bool.false_ne_true
theorem op_ne : OpR X (compareOp .NotEq) rNe := by
  intro pins s σ H x y v u Q I rx ry h
  obtain ⟨hs, q⟩ := h
  cases x with
  | non =>
    cases rx
    cases y with
    | non => cases ry; exact PySem.EqNone.ne_none_none (fin_bl I q (by simp))
    | bl j => cases ry; exact PySem.EqNone.ne_none_bool (fin_bl I q (by simp))
    | int j => obtain ⟨t', rfl⟩ := ry; exact PySem.EqNone.ne_none_int (fin_bl I q (by simp))
    | str j => obtain ⟨t', rfl⟩ := ry; exact PySem.EqNone.ne_none_str (fin_bl I q (by simp))
    | _ => exact absurd (show false = true from hs) Bool.false_ne_true
  | bl i =>
    cases rx
    cases y with
    | non => cases ry; exact PySem.EqNone.ne_bool_none (fin_bl I q (by simp))
    | bl j => cases ry; exact ne_bool (fin_bl I q (congrArg not dec_bl))
    | str j => obtain ⟨t', rfl⟩ := ry; exact PySem.EqMixed.ne_bool_str (fin_bl I q (by simp))
    | _ => exact absurd (show false = true from hs) Bool.false_ne_true
  | int i =>
    obtain ⟨t, rfl⟩ := rx
    cases y with
    | non => cases ry; exact PySem.EqNone.ne_int_none (fin_bl I q (by simp))
    | int j => obtain ⟨t', rfl⟩ := ry; exact ne_int (fin_bl I q (congrArg not dec_int))
    | str j => obtain ⟨t', rfl⟩ := ry; exact PySem.EqMixed.ne_int_str (fin_bl I q (by simp))
    | _ => exact absurd (show false = true from hs) Bool.false_ne_true
  | str i =>
    obtain ⟨t, rfl⟩ := rx
    cases y with
    | non => cases ry; exact PySem.EqNone.ne_str_none (fin_bl I q (by simp))
    | bl j => cases ry; exact PySem.EqMixed.ne_str_bool (fin_bl I q (by simp))
    | int j => obtain ⟨t', rfl⟩ := ry; exact PySem.EqMixed.ne_str_int (fin_bl I q (by simp))
    | str j => obtain ⟨t', rfl⟩ := ry; exact ne_str (fin_bl I q (congrArg not dec_str))
    | _ => exact absurd (show false = true from hs) Bool.false_ne_true
  | byt i =>
    obtain ⟨t, rfl⟩ := rx
    cases y with
    | byt j => obtain ⟨t', rfl⟩ := ry; exact PySem.W.ne_bytes (fin_bl I q (congrArg not dec_byt))
    | _ => exact absurd (show false = true from hs) Bool.false_ne_true
  | _ => cases y <;> exact absurd (show false = true from hs) Bool.false_ne_true
theorem op_lt : OpR X (compareOp .Lt) (rI0 fun i j => .bl (decide (i < j))) := opB0 fun _ _ _ _ _ _ _ q => lt_int q
theorem op_le : OpR X (compareOp .LtE) (rI0 fun i j => .bl (decide (i ≤ j))) := opB0 fun _ _ _ _ _ _ _ q => le_int q
theorem nomark (b : Expr) {op : CmpOp} (h : op ≠ .In := by decide) (h2 : op ≠ .NotIn := by decide) : behindInMarks op b = false := by
  have e1 : (op == CmpOp.In) = false := by cases op <;> first | rfl | exact absurd rfl h
  have e2 : (op == CmpOp.NotIn) = false := by cases op <;> first | rfl | exact absurd rfl h2
  cases b <;> simp [behindInMarks, e1, e2]
theorem pe_cmpR {op : CmpOp} {r : R2} (ho : OpR X (compareOp op) r) (ha : PE X a ta) (hb : PE X b tb) (hm : behindInMarks op b = false) : PE X (.Compare a [op] [b] pos) (tOp r ta tb) := by
  intro pins s σ H Q I h
  exact wpAny_Compare1 (binT ha hb I h fun v u s2 x y H2 I2 rx ry q => ho pins s2 σ H2 x y v u Q I2 rx ry q) hm
noncomputable def tTest (t : TE) : TT := fun σ H Q => t σ H fun x H' => ∃ k, x = .bl k ∧ Q k H'
theorem pt_cmpR {op : CmpOp} {r : R2} (ho : OpR X (compareOp op) r) (ha : PE X a ta) (hb : PE X b tb) (hm : behindInMarks op b = false) : PT X (.Compare a [op] [b] pos) (tTest (tOp r ta tb)) := by
  intro pins s σ H Q I h
  refine wpAny_isTrue_Compare1 (thn (ha pins s σ H _ I h) fun v s1 ⟨x, H1, I1, r1, q1⟩ => thn (hb pins s1 σ H1 _ I1 q1) fun u s2 ⟨y, H2, I2, r2, q2⟩ =>
    thn (ho pins s2 σ H2 x y v u _ I2 r1 r2 q2) fun c s3 ⟨z, H3, I3, r3, k, e, q3⟩ => ?_) hm
  subst e
  cases r3
  exact wpAny_truthy_bool ⟨H3, I3, q3⟩
theorem line63 : (sizeLine : Nat) < 2 ^ 63 := by rw [sizeLine_eq]; decide
theorem vals1 {x : V} {us : List Value} (r : Vals [x] us) : ∃ u, us = [u] ∧ RelV x u := by
  cases r with
  | cons r1 r2 => cases r2; exact ⟨_, rfl, r1⟩
theorem vals2 {x y : V} {us : List Value} (r : Vals [x, y] us) : ∃ u w', us = [u, w'] ∧ RelV x u ∧ RelV y w' := by
  cases r with
  | cons r1 r2 =>
    cases r2 with
    | cons r3 r4 => cases r4; exact ⟨_, _, rfl, r1, r3⟩
theorem call_min2 (hc : X.calm = true) : CallR X (.builtin "min") (fun xs H Q => ∃ i j, xs = [.int i, .int j] ∧ Q (.int (if j < i then j else i)) H) := by
  intro pins s σ H xs us Q I r h
  obtain ⟨i, j, rfl, q⟩ := h
  obtain ⟨u, w', rfl, ⟨t, rfl⟩, ⟨t', rfl⟩⟩ := vals2 r
  refine min_two_ints (I.ok.hd hc) fun h' tk k => ⟨_, H, I.kept k, ?_, q⟩
  by_cases hj : j < i
  · rw [if_pos hj, if_pos hj]; exact ⟨_, rfl⟩
  · rw [if_neg hj, if_neg hj]; exact ⟨_, rfl⟩
end
end L2
namespace L2
open PySem PySem.Spec PyProof.Rows
structure ObjM (h : Heap) (x dx C : Addr) (mA : Str → Option Value) : Prop where
  obj : h.get? x = some (PySem.W.instObj C dx)
  ns : h.Ns1 dx mA
  ne : dx ≠ x
theorem lookIn_ns {h : Heap} {dx : Addr} {mA : Str → Option Value} (n : h.Ns1 dx mA) : ∃ od, h.get? dx = some od ∧ ∀ name, PySem.W.lookIn name od = some (mA name) := by
  obtain ⟨o, es, ep, ho, hd, hk, _, hm⟩ := n
  refine ⟨o, ho, fun name => ?_⟩
  have e := hm name
  unfold nsFind findBy at e
  rw [← Array.find?_toList] at e
  unfold PySem.W.lookIn
  rw [hd]
  dsimp only
  split
  · rename_i y q
    rw [q] at e
    exact congrArg some e
  · rename_i q
    rw [q] at e
    have a : es.toList.any (·.refKey) = false := by
      rw [List.any_eq_false]
      intro y hy
      obtain ⟨z, t, hkey⟩ := hk y (Array.mem_toList_iff.mp hy)
      simp [DictEntry.refKey, hkey]
    have a' : ¬ es.toList.any (·.refKey) = true := by rw [a]; exact Bool.false_ne_true
    rw [if_neg a']
    exact congrArg some e
theorem ObjM.look {h : Heap} {x dx C : Addr} {mA : Str → Option Value} (I : ObjM h x dx C mA) : ∃ od, PySem.W.InstAt h x (PySem.W.instObj C dx) C (some od) ∧ ∀ name, PySem.W.lookIn name od = some (mA name) :=
  let ⟨od, ho, hl⟩ := lookIn_ns I.ns
  ⟨od, ⟨I.obj, rfl, rfl, ho⟩, hl⟩
section
variable {prog : Program} {w : World} {A : Around} {E : Value → Shared → Prop} {s : Shared} {K : PySem.W.Frag} {x dx C f : Addr} {mA : Str → Option Value} {name : Str} {v : Value}
theorem get_map {expr : Bool} {Q : Value → Shared → Prop} (X : K.In s.heap) (I : ObjM s.heap x dx C mA) (hg : PySem.W.plainGet K C name = true) (hh : PySem.W.hasDictIn K C = true)
    (ha : PySem.W.findIn K (.ref C) name = some none) (hv : mA name = some v) (hv' : PySem.W.handedIn v = true) (h : Q v { s with toks := s.toks + 1 }) :
    wpAny (model prog w) A (getAttr (.ref x) name expr) Q E s := by
  obtain ⟨od, J, hl⟩ := I.look
  exact PySem.W.get_value X J (PySem.W.plainGet_of hg).1 (PySem.W.findObj_own hh ha rfl (by rw [hl, hv])) hv' h
theorem get_meth {pl : Sem Bool} {Q : Value × List Value → Shared → Prop} (X : K.In s.heap) (I : ObjM s.heap x dx C mA) (hg : PySem.W.plainGet K C name = true)
    (hf : PySem.W.findIn K (.ref C) name = some (some (.ref f))) (ht : PySem.W.isFn K (.ref f) = true) (hv : mA name = none) (h : Q (.ref f, [.ref x]) s) :
    wpAny (model prog w) A (getMethod (.ref x) name pl) Q E s := by
  obtain ⟨od, J, hl⟩ := I.look
  exact PySem.W.method_fn X J (PySem.W.plainGet_of hg).1 (PySem.W.plainGet_of hg).2 hf (beq_iff_eq.mp ht) (by show (PySem.W.lookIn name od).map (·.isSome) = some false; rw [hl, hv]; rfl) h
theorem set_map {ns : List Str} {Q : Unit → Shared → Prop} (X : K.In s.heap) (I : ObjM s.heap x dx C mA)
    (hs : PySem.W.findIn K (.ref C) "__setattr__" = some (some (.builtin "object.__setattr__"))) (hp : PySem.W.plainOver K C = true) (ht : PySem.W.takerIn K C name = some none) (hh : PySem.W.hasDictIn K C = true)
    (hw : PySem.Within mA ns) (hsz : ns.length ≤ sizeLine)
    (h : ∀ h', ObjM h' x dx C (fun y => if y = name then some v else mA y) → Heap.SameBut dx s.heap h' → Q () { s with heap := h', toks := s.toks + 2 }) :
    wpAny (model prog w) A (setAttr (.ref x) name v) Q E s := by
  obtain ⟨od, J, hl⟩ := I.look
  refine PySem.W.set_plain X J hs (PySem.W.osa_open (s := { s with toks := s.toks + 1 }) (r := none) X J hp ht fun b => ?_)
  obtain ⟨cd, hc, hd'⟩ := PySem.W.any_some hh
  have hx : s.heap.get? x = some ⟨.ref C, some dx, .plain, #[]⟩ := I.obj
  refine wpAny_bind (wpAny_pure (wpAny_bind (wpAny_bind (wpAny_loadPart hx (wpAny_bind (PySem.W.Looks.here (s := { s with toks := s.toks + 1 }) (PySem.W.looks_clsIn X hc) ?_))))))
  rw [hd']
  refine wpAny_pure (a := some dx) (wpAny_bind (wpAny_pure (wpAny_bind ?_)))
  refine wpAny_nsSet1 (s := { s with toks := s.toks + 1 }) I.ns fun h' hn2 hs2 => ?_
  obtain ⟨oD, esD, epD, hoD, hdD, hcD⟩ := hn2.count (PySem.Within.cons name v hw)
  refine wpAny_bind (wpAny_lookBehind hoD (by rw [hdD]; exact pastItsLine_dict (Nat.le_trans hcD (by rw [List.length_cons]; omega))) ?_)
  exact wpAny_pure (h _ ⟨(hs2.2 _ (Ne.symm I.ne)).trans I.obj, hn2, I.ne⟩ hs2)
theorem make_map {R : Result → Shared → Prop} {vs : List Value} {kw : List (Str × Value)} (X : K.In s.heap) (hm : PySem.W.makesIn K C = true)
    (hi : PySem.W.findIn K (.ref C) "__init__" = some (some (.ref f))) (hf : PySem.W.typeIn K (.ref f) = some (.type "function"))
    (h : codeAny (model prog w) (A.under (.builtin "type.__call__" ⟨.ref C :: vs, kw⟩)) (.call (.ref f) ⟨.ref (s.heap.objs.size + 1) :: vs, kw⟩) (PySem.W.InitBack (s.heap.objs.size + 1) R)
      { s with heap := (s.heap.push PySem.W.emptyDict).push (PySem.W.instObj C s.heap.objs.size) }) :
    codeAny (model prog w) A (.call (.ref C) ⟨vs, kw⟩) R s := by
  obtain ⟨hh, g, d, t, os⟩ := s
  exact PySem.W.make_core (PySem.W.makes_of X hm) (PySem.W.looks_findIn X hi) (fun self => PySem.W.bind_fn X self hf) (.inl rfl) h
end
noncomputable def putF (f : Str) (v : V) : List (Str × V) → List (Str × V)
  | [] => [(f, v)]
  | (g, x) :: r => if g = f then (g, v) :: r else (g, x) :: putF f v r
theorem lookup_putF (f g : Str) (v : V) : ∀ fs : List (Str × V), (putF f v fs).lookup g = if g = f then some v else fs.lookup g
  | [] => by
    show List.lookup g [(f, v)] = _
    by_cases h : g = f
    · have hb : (g == f) = true := beq_iff_eq.mpr h
      simp only [List.lookup, hb, if_pos h]
    · have hb : (g == f) = false := beq_eq_false_iff_ne.mpr h
      simp only [List.lookup, hb, if_neg h]
  | (k, x) :: r => by
    have ih := lookup_putF f g v r
    rw [show putF f v ((k, x) :: r) = (if k = f then (k, v) :: r else (k, x) :: putF f v r) from rfl]
    by_cases hk : k = f
    · rw [if_pos hk]
      by_cases h : g = k
      · have hb : (g == k) = true := beq_iff_eq.mpr h
        simp only [List.lookup, hb, if_pos (h.trans hk)]
      · have hb : (g == k) = false := beq_eq_false_iff_ne.mpr h
        simp only [List.lookup, hb, if_neg (fun e : g = f => h (e.trans hk.symm))]
    · rw [if_neg hk]
      by_cases h : g = k
      · have hb : (g == k) = true := beq_iff_eq.mpr h
        simp only [List.lookup, hb, if_neg (fun e : g = f => hk (h.symm.trans e))]
      · have hb : (g == k) = false := beq_eq_false_iff_ne.mpr h
        simp only [List.lookup, hb]
        exact ih
theorem keys_putF (f : Str) (v : V) : ∀ fs : List (Str × V), f ∈ (putF f v fs).map (·.1) ∧ ∀ g, g ∈ fs.map (·.1) → g ∈ (putF f v fs).map (·.1)
  | [] => ⟨by simp [putF], fun g h => by simp at h⟩
  | (k, x) :: r => by
    obtain ⟨i1, i2⟩ := keys_putF f v r
    rw [show putF f v ((k, x) :: r) = (if k = f then (k, v) :: r else (k, x) :: putF f v r) from rfl]
    by_cases hk : k = f
    · rw [if_pos hk]
      subst hk
      exact ⟨by simp, fun g h => by simpa using h⟩
    · rw [if_neg hk]
      refine ⟨?_, fun g h => ?_⟩
      · rw [List.map_cons]
        exact List.mem_cons_of_mem _ i1
      · rw [List.map_cons] at h ⊢
        rcases List.mem_cons.mp h with e | e
        · exact List.mem_cons.mpr (.inl e)
        · exact List.mem_cons_of_mem _ (i2 g e)
theorem length_putF (f : Str) (v : V) : ∀ fs : List (Str × V), (putF f v fs).length ≤ fs.length + 1
  | [] => by simp [putF]
  | (k, x) :: r => by
    have ih := length_putF f v r
    rw [show putF f v ((k, x) :: r) = (if k = f then (k, v) :: r else (k, x) :: putF f v r) from rfl]
    by_cases hk : k = f
    · rw [if_pos hk, List.length_cons, List.length_cons]; omega
    · rw [if_neg hk, List.length_cons, List.length_cons]; omega
theorem RelO.some_of {v : V} {o : Option Value} (r : RelO (some v) o) : ∃ u, o = some u ∧ RelV v u := by
  cases o with
  | none => exact (show False from r).elim
  | some u => exact ⟨u, rfl, r⟩
theorem RelO.none_of {o : Option Value} (r : RelO none o) : o = none := by
  cases o with
  | none => rfl
  | some u => exact (show False from r).elim
theorem handed_of {v : V} {u : Value} (r : RelV v u) : PySem.W.handedIn u = true := by
  cases v with
  | non => cases (show u = Value.none from r); rfl
  | bl b => cases (show u = Value.bool b from r); rfl
  | int i => obtain ⟨t, e⟩ := (show ∃ t, u = Value.int i t from r); cases e; rfl
  | str x => obtain ⟨t, e⟩ := (show ∃ t, u = Value.str x t from r); cases e; rfl
  | byt b => obtain ⟨t, e⟩ := (show ∃ t, u = Value.bytes b t from r); cases e; rfl
  | flt b => obtain ⟨t, e⟩ := (show ∃ t, u = Value.float b t from r); cases e; rfl
  | ref a => cases (show u = Value.ref a from r); rfl
  | ty n => cases (show u = Value.type n from r); rfl
section
variable {P : Program} {w : World} {H H' : Hp} {h h' : Heap} {a C dx : Addr} {fs fs' : List (Str × V)}
theorem ins_get (hok : HOk P w H h) (e : H a = some (.ins C dx fs)) : ∃ mA, ObjM h a dx C mA ∧ (∀ f, RelO (fs.lookup f) (mA f)) ∧ PySem.Within mA (fs.map (·.1)) ∧ fs.length ≤ 1000 ∧ H dx = some (.own a) := by
  obtain ⟨d, z, ne, ob, mA, n, r, q⟩ := (show ObjOk P w H h a (.ins C dx fs) from hok a _ e)
  exact ⟨mA, ⟨ob, n, ne⟩, r, q, z, d⟩
end
structure Cls (K : PySem.W.Frag) (C : Addr) : Prop where
  pg : PySem.W.plainGet K C Str.empty = true
  hd : PySem.W.hasDictIn K C = true
  po : PySem.W.plainOver K C = true
  sa : PySem.W.findIn K (.ref C) "__setattr__" = some (some (.builtin "object.__setattr__"))
theorem Cls.get {K : PySem.W.Frag} {C : Addr} (c : Cls K C) (f : Str) : PySem.W.plainGet K C f = true := c.pg
noncomputable def NoAttr (K : PySem.W.Frag) (C : Addr) (f : Str) : Prop := PySem.W.findIn K (.ref C) f = some none
theorem NoAttr.taker {K : PySem.W.Frag} {C : Addr} {f : Str} (n : NoAttr K C f) : PySem.W.takerIn K C f = some none := by
  unfold PySem.W.takerIn
  rw [show PySem.W.findIn K (.ref C) f = some none from n]
  rfl
structure Meth (K : PySem.W.Frag) (C : Addr) (m : Str) (f : Addr) : Prop where
  at_ : PySem.W.findIn K (.ref C) m = some (some (.ref f))
  fn : PySem.W.isFn K (.ref f) = true
  kp : PySem.W.keepIn K (.ref f) = true
section
variable {X : Cx} {pins : List (Addr × Obj)} {σ : St} {H : Hp} {s : Shared} {a C dx : Addr} {fs : List (Str × V)} {f : Str} {v : V} {A : Around} {E : Value → Shared → Prop}
theorem getattr_ok {b : Bool} {Q : Value → Shared → Prop} (I : Inv X pins σ H s) (e : H a = some (.ins C dx fs)) (c : Cls X.K C) (n : NoAttr X.K C f) (l : fs.lookup f = some v)
    (h : ∀ u s', Inv X pins σ H s' → RelV v u → Q u s') : wpAny (model X.prog X.w) A (getAttr (.ref a) f b) Q E s := by
  obtain ⟨mA, O, r, _, _, _⟩ := ins_get I.hok e
  obtain ⟨u, hu, ru⟩ := RelO.some_of (v := v) (o := mA f) (by rw [← l]; exact r f)
  exact get_map I.kIn O (c.get f) c.hd n hu (handed_of ru) (h u _ (I.tok _) ru)
theorem getmeth_ok {m : Str} {g : Addr} {pl : Sem Bool} {Q : Value × List Value → Shared → Prop} (I : Inv X pins σ H s) (e : H a = some (.ins C dx fs)) (c : Cls X.K C) (k : Meth X.K C m g) (l : fs.lookup m = none)
    (h : Q (.ref g, [.ref a]) s) : wpAny (model X.prog X.w) A (getMethod (.ref a) m pl) Q E s := by
  obtain ⟨mA, O, r, _, _, _⟩ := ins_get I.hok e
  have hn : mA m = none := RelO.none_of (by rw [← l]; exact r m)
  exact get_meth I.kIn O (c.get m) k.at_ k.fn hn h
theorem setattr_ok {y : V} {u : Value} {Q : Unit → Shared → Prop} (I : Inv X pins σ H s) (e : H a = some (.ins C dx fs)) (c : Cls X.K C) (n : NoAttr X.K C f) (hl : fs.length < 1000) (ry : RelV y u)
    (h : ∀ s', Inv X pins σ (upd H a (.ins C dx (putF f y fs))) s' → Q () s') : wpAny (model X.prog X.w) A (setAttr (.ref a) f u) Q E s := by
  obtain ⟨mA, O, r, wi, _, ho⟩ := ins_get I.hok e
  have hz : (fs.map (·.1)).length ≤ sizeLine := by rw [List.length_map, sizeLine_eq]; omega
  refine set_map I.kIn O c.sa c.po n.taker c.hd wi hz fun h' O' sb => h _ ?_
  have hd : ∃ o, h'.get? dx = some o := let ⟨o, _, _, e', _⟩ := O'.ns; ⟨o, e'⟩
  refine I.write (x := a) (e := dx) (by rw [e]; exact True.intro) (.inr ho) (fun b q hb z => (sb.2 b hb).trans z) hd ?_
  refine ⟨by rw [upd_ne O.ne]; exact ho, ?_, O.ne, O'.obj, _, O'.ns, fun g => ?_, fun g hg => ?_⟩
  · have := length_putF f y fs; omega
  · show RelO ((putF f y fs).lookup g) (if g = f then some u else mA g)
    rw [lookup_putF]
    by_cases q : g = f
    · rw [if_pos q, if_pos q]; exact ry
    · rw [if_neg q, if_neg q]; exact r g
  · by_cases q : g = f
    · rw [q]; exact (keys_putF f y fs).1
    · refine (keys_putF f y fs).2 g (wi g fun z => hg ?_)
      show (if g = f then some u else mA g) = none
      rw [if_neg q]; exact z
theorem Inv.made (I : Inv X pins σ H s) : Inv X pins σ (upd (upd H s.heap.objs.size (.own (s.heap.objs.size + 1))) (s.heap.objs.size + 1) (.ins C s.heap.objs.size []))
    { s with heap := (s.heap.push PySem.W.emptyDict).push (PySem.W.instObj C s.heap.objs.size) } := by
  have e1 : (s.heap.push PySem.W.emptyDict).get? s.heap.objs.size = some PySem.W.emptyDict := Heap.get?_push_size s.heap rfl
  have e2 : ((s.heap.push PySem.W.emptyDict).push (PySem.W.instObj C s.heap.objs.size)).get? (s.heap.objs.size + 1) = some (PySem.W.instObj C s.heap.objs.size) := by
    have := Heap.get?_push_size (s.heap.push PySem.W.emptyDict) (o := PySem.W.instObj C s.heap.objs.size) rfl
    rwa [Heap.size_push] at this
  have e3 : (s.heap.push PySem.W.emptyDict).Ns s.heap.objs.size (fun _ => none) := ⟨PySem.W.emptyDict, #[], _, e1, rfl, (fun e he => absurd he (by simp)), fun _ => rfl⟩
  have I1 := I.laid (a := s.heap.objs.size) (o := .own (s.heap.objs.size + 1)) (h' := s.heap.push PySem.W.emptyDict) (t' := s.toks) (fun b u q => Heap.get?_push_of_some _ q) (Nat.le_refl _) ⟨_, e1⟩
  refine I1.laid (a := s.heap.objs.size + 1) (o := .ins C s.heap.objs.size []) (t' := s.toks) (fun b u q => Heap.get?_push_of_some _ q) (Nat.le_of_eq (Heap.size_push _ _)) ?_
  have ne : s.heap.objs.size ≠ s.heap.objs.size + 1 := Nat.ne_of_lt (Nat.lt_succ_self _)
  refine ⟨by rw [upd_ne ne, upd_same], Nat.zero_le _, ne, e2, fun _ => none, (Heap.Ns1.of_empty e3).at fun o q => Heap.get?_push_of_some _ q, fun _ => True.intro, fun y hy => absurd rfl hy⟩
theorem attr_of {prog : Program} {w : World} {env : Env} {e : Expr} {f : Str} {pos : Pos} {s : Shared} {Q : Value → Shared → Prop} (hb : attributeBase e f env (eval e env) = eval e env)
    (h : wpAny (model prog w) A (eval e env) (fun o s₁ => wpAny (model prog w) A (getAttr o f true) Q E s₁) E s) : wpAny (model prog w) A (eval (.Attribute e f pos) env) Q E s :=
  Attribute_any_ h (by rw [arm_eval_Attribute, hb])
end
noncomputable def tFld (K : PySem.W.Frag) (ta : TE) (f : Str) : TE := fun σ H Q => ta σ H fun x H1 => ∃ a C dx fs v, x = .ref a ∧ H1 a = some (.ins C dx fs) ∧ Cls K C ∧ NoAttr K C f ∧ fs.lookup f = some v ∧ Q v H1
noncomputable def sFld (K : PySem.W.Frag) (ta tv : TE) (f : Str) : TS := fun D σ H => tv σ H fun y H1 => ta σ H1 fun x H2 => ∃ a C dx fs, x = .ref a ∧ H2 a = some (.ins C dx fs) ∧ Cls K C ∧ NoAttr K C f ∧ fs.length < 1000 ∧
  D.nx σ (upd H2 a (.ins C dx (putF f y fs)))
section
variable {X : Cx} {o e value : Expr} {f : Str} {pos pos' tpos : Pos} {ta tv : TE}
theorem pe_fld (he : PE X e ta) (hb : attributeBase e f X.env (eval e X.env) = eval e X.env) : PE X (.Attribute e f pos) (tFld X.K ta f) := by
  intro pins s σ H Q I h
  refine attr_of hb (thn (he pins s σ H _ I h) fun u s1 ⟨x, H1, I1, rx, a, C, dx, fs, v, ex, ea, c, n, l, q⟩ => ?_)
  subst ex
  obtain rfl : u = Value.ref a := rx
  exact getattr_ok I1 ea c n l fun u' s2 I2 ru => ⟨v, H1, I2, ru, q⟩
theorem ps_fld (ha : PE X o ta) (hv : PE X value tv) (hs : swapsWith value (some (.Attribute o f pos')) pos.line X.env = pure false) : PS X (.Assign [.Attribute o f pos'] value pos) (sFld X.K ta tv f) := by
  intro pins s σ H D I h
  refine plainObj_wpAny_Assign_Attribute (thn (hv pins s σ H _ I h) fun u s1 ⟨y, H1, I1, ry, q⟩ => thn (ha pins s1 σ H1 _ I1 q) fun ov s2 ⟨x, H2, I2, rx, a, C, dx, fs, ex, ea, c, n, l, q2⟩ => ?_) hs
  subst ex
  obtain rfl : ov = Value.ref a := rx
  exact setattr_ok I2 ea c n l ry fun s3 I3 => ⟨σ, _, I3, q2⟩
end
section
variable {X : Cx} {pins : List (Addr × Obj)} {σ : St} {H : Hp} {s : Shared} {A : Around} {E : Value → Shared → Prop} {Q : Value → Shared → Prop} {c : Value} {b : Bool}
inductive TyOf (K : PySem.W.Frag) (H : Hp) : V → Value → Prop where
  | non : TyOf K H .non (.type "NoneType")
  | bl (x : Bool) : TyOf K H (.bl x) (.type "bool")
  | int (i : Int) : TyOf K H (.int i) (.type "int")
  | str (x : Str) : TyOf K H (.str x) (.type "str")
  | flt (x : UInt64) : TyOf K H (.flt x) (.type "float")
  | lst {a : Addr} {xs : List V} (e : H a = some (.lst xs)) : TyOf K H (.ref a) (.type "list")
  | frz {a : Addr} {o : Obj} {xs : List V} (e : H a = some (.frz o (.lst xs))) : TyOf K H (.ref a) (.type "list")
  | tup {a : Addr} {xs : List V} (e : H a = some (.tup xs)) : TyOf K H (.ref a) (.type "tuple")
  | dK {a : Addr} {kvs : List (Key × V)} (e : H a = some (.dK kvs)) : TyOf K H (.ref a) (.type "dict")
  | dT {a : Addr} {kvs : List (List Key × V)} (e : H a = some (.dT kvs)) : TyOf K H (.ref a) (.type "dict")
  | ins {a C dx : Addr} {fs : List (Str × V)} (e : H a = some (.ins C dx fs)) (cl : Cls K C) (ha : PySem.W.findIn K (.ref C) "__class__" = some (some (.builtin "object.__class__")))
      (hn : PySem.W.specialIn K (.builtin "object.__class__") "__get__" = some (some (.builtin "getset_descriptor.__get__"))) (htk : PySem.W.takesIn K (.builtin "object.__class__") = some true)
      (hm : PySem.W.mroIn K C (.type "object") = some true) : TyOf K H (.ref a) (.ref C)
theorem isinst_ok {x : V} {u t : Value} (I : Inv X pins σ H s) (rx : RelV x u) (ty : TyOf X.K H x t) (e : PySem.W.kitOne X.K t c = some b) (h : ∀ tk, Q (.bool b) { s with toks := tk }) :
    wpAny (model X.prog X.w) A (call (.builtin "isinstance") [u, c]) Q E s := by
  cases ty with
  | non => cases (show u = Value.none from rx); exact PySem.W.kia_one PySem.W.kitx_none I.kIn True.intro e (fun z => nomatch z) h
  | bl y => cases (show u = Value.bool y from rx); exact PySem.W.kia_one PySem.W.kitx_bool I.kIn True.intro e (fun z => nomatch z) h
  | int i => obtain ⟨t, q⟩ := (show ∃ t, u = Value.int i t from rx); cases q; exact PySem.W.kia_one PySem.W.kitx_int I.kIn True.intro e (fun z => nomatch z) h
  | str y => obtain ⟨t, q⟩ := (show ∃ t, u = Value.str y t from rx); cases q; exact PySem.W.kia_one PySem.W.kitx_str I.kIn True.intro e (fun z => nomatch z) h
  | flt y => obtain ⟨t, q⟩ := (show ∃ t, u = Value.float y t from rx); cases q; exact PySem.W.kia_one PySem.W.kitx_float I.kIn True.intro e (fun z => nomatch z) h
  | @lst a xs ea =>
    cases (show u = Value.ref a from rx)
    obtain ⟨_, _, n, _, h1⟩ := (show ObjOk X.prog X.w H s.heap a (.lst xs) from I.hok a _ ea)
    exact PySem.W.kia_one PySem.W.kitx_list I.kIn ⟨_, h1, rfl⟩ e (fun z => nomatch z) h
  | @frz a ob xs ea =>
    cases (show u = Value.ref a from rx)
    obtain ⟨_, _, _, n, _, h1⟩ := (show ObjOk X.prog X.w H s.heap a (.frz ob (.lst xs)) from I.hok a _ ea)
    exact PySem.W.kia_one PySem.W.kitx_list I.kIn ⟨_, h1, rfl⟩ e (fun z => nomatch z) h
  | @tup a xs ea =>
    cases (show u = Value.ref a from rx)
    obtain ⟨_, _, _, p⟩ := (show ObjOk X.prog X.w H s.heap a (.tup xs) from I.hok a _ ea)
    obtain ⟨o, h1, h2, _⟩ := p
    exact PySem.W.kia_one PySem.W.kitx_tuple I.kIn ⟨o, h1, h2⟩ e (fun z => nomatch z) h
  | @dK a kvs ea =>
    cases (show u = Value.ref a from rx)
    obtain ⟨_, _, vs, _, p⟩ := (show ObjOk X.prog X.w H s.heap a (.dK kvs) from I.hok a _ ea)
    obtain ⟨o, es, ep, h1, h2, _⟩ := p
    exact PySem.W.kia_one PySem.W.kitx_dict I.kIn ⟨o, h1, h2.1⟩ e (fun z => nomatch z) h
  | @dT a kvs ea =>
    cases (show u = Value.ref a from rx)
    obtain ⟨_, _, xs, _, o, es, ep, h1, h2, _⟩ := (show ObjOk X.prog X.w H s.heap a (.dT kvs) from I.hok a _ ea)
    exact PySem.W.kia_one PySem.W.kitx_dict I.kIn ⟨o, h1, h2.1⟩ e (fun z => nomatch z) h
  | @ins a C dx fs ea cl ha hn htk hm =>
    cases (show u = Value.ref a from rx)
    obtain ⟨mA, O, _⟩ := ins_get I.hok ea
    obtain ⟨od, J, _⟩ := O.look
    exact PySem.W.kia_one (PySem.W.kitx_own (cl.get _) cl.hd ha hn htk hm) I.kIn J e (fun z => nomatch z) h
end
end L2
namespace L2
open PySem PySem.Spec PyProof.Rows
structure Room (k : Nat) (A : Around) : Prop where
  hd : A.handled = none
  dp : A.depth + 3 * k + 5 < recursionLimit
  un : A.units + 16 * k + 200 < cLine
  gd : A.guards = some []
theorem Room.mono {j k : Nat} {A : Around} (r : Room k A) (h : j ≤ k) : Room j A := ⟨r.hd, by have := r.dp; omega, by have := r.un; omega, r.gd⟩
theorem Room.deeper {k : Nat} {A : Around} (r : Room (k + 1) A) (env : Env) : Room k (A.deeper env) :=
  ⟨r.hd, by have := r.dp; show A.depth + 1 + 3 * k + 5 < _; omega, by have := r.un; show A.units + 3 + 16 * k + 200 < _; omega, r.gd⟩
theorem make_depth {A : Around} {C : Addr} {us : List Value} {kw : List (Str × Value)} : (A.under (.builtin "type.__call__" ⟨.ref C :: us, kw⟩)).depth = A.depth + 1 := by
  first | rfl | simp [Around.under, Code.weight, Code.isCreation, Code.isGuard, Code.isCaller, Code.frames, Code.isFrame, guardIds]
theorem make_units {A : Around} {C : Addr} {us : List Value} {kw : List (Str × Value)} : (A.under (.builtin "type.__call__" ⟨.ref C :: us, kw⟩)).units = A.units + 1 := by
  first | rfl | simp [Around.under, Code.cUnits, Code.frames, Code.isFrame]
theorem Room.make {k : Nat} {A : Around} (r : Room (k + 1) A) (C : Addr) (us : List Value) (kw : List (Str × Value)) : Room k (A.under (.builtin "type.__call__" ⟨.ref C :: us, kw⟩)) :=
  ⟨r.hd, by have := r.dp; rw [make_depth]; omega, by have := r.un; rw [make_units]; omega, by first | exact r.gd | simp [Around.under, pushGuards, Code.guards, Code.isGuard, guardIds, r.gd]⟩
theorem Room.depth {k : Nat} {A : Around} (r : Room k A) : A.depth < recursionLimit := by have := r.dp; omega
theorem Room.units {k : Nat} {A : Around} (r : Room k A) : A.units + 64 < cLine := by have := r.un; omega
noncomputable def tNil : TA := fun _ H Q => Q [] H
noncomputable def tCons (ta : TE) (tr : TA) : TA := fun σ H Q => ta σ H fun x H1 => tr σ H1 fun xs H2 => Q (x :: xs) H2
section
variable {X : Cx} {e : Expr} {es : List Expr} {te : TE} {t : TA} {pos : Pos}
theorem pa_nil : PA X [] tNil := fun _ _ _ _ H Q I h => Calls.spliced_nil ⟨[], H, I, .nil, h⟩
theorem pa_cons (ha : PE X e te) (hr : PA X es t) (hs : starEach (e :: es) X.env = (false, eval e X.env) :: starEach es X.env := by rfl) : PA X (e :: es) (tCons te t) := by
  intro pos pins s σ H Q I h
  rw [hs]
  show wpAny _ _ (spliced ((false, eval e X.env) :: backTo pos (starEach es X.env))) _ _ s
  refine Calls.spliced_cons (thn (ha pins s σ H _ I h) fun u s1 ⟨x, H1, I1, r1, q1⟩ => ?_)
  exact thn (hr pos pins s1 σ H1 _ I1 q1) fun us s2 ⟨xs, H2, I2, r2, q2⟩ => ⟨x :: xs, H2, I2, .cons r1 r2, q2⟩
noncomputable def tTup (t : TA) : TE := fun σ H Q => t σ H fun xs H1 => xs.length ≤ sizeLine ∧ ∀ p, H1 p = none → Q (.ref p) (upd H1 p (.tup xs))
noncomputable def tLst (t : TA) : TE := fun σ H Q => t σ H fun xs H1 => xs.length ≤ sizeLine ∧ ∀ p, H1 p = none → Q (.ref p) (upd H1 p (.lst xs))
theorem pe_tup {x1} (h : PA X es t) : PE X (.Tuple es x1 pos) (tTup t) := by
  intro pins s σ H Q I hq
  refine wpAny_Tuple_spliced (thn (h pos pins s σ H _ I hq) fun us s1 ⟨xs, H1, I1, r, z, q⟩ => ⟨by rw [← r.length]; exact z, ?_⟩)
  have hf : H1 s1.heap.objs.size = none := I1.hok.fresh (Nat.le_refl _)
  refine ⟨.ref s1.heap.objs.size, upd H1 s1.heap.objs.size (.tup xs), I1.laid (t' := s1.toks) (fun b u e => Heap.get?_push_of_some _ e) (Nat.le_refl _) ?_, rfl, q _ hf⟩
  exact ⟨z, us, r, ⟨_, Heap.get?_push_size _ rfl, rfl, _, rfl⟩⟩
theorem pe_lst (h : PA X es t) : PE X (.List es pos) (tLst t) := by
  intro pins s σ H Q I hq
  refine wpAny_List_spliced (thn (h pos pins s σ H _ I hq) fun us s1 ⟨xs, H1, I1, r, z, q⟩ => ⟨by rw [← r.length]; exact z, ?_⟩)
  have hf : H1 s1.heap.objs.size = none := I1.hok.fresh (Nat.le_refl _)
  refine ⟨.ref s1.heap.objs.size, upd H1 s1.heap.objs.size (.lst xs), I1.laid (t' := s1.toks) (fun b u e => Heap.get?_push_of_some _ e) (Nat.le_refl _) ?_, rfl, q _ hf⟩
  exact ⟨z, us, 0, r, Heap.get?_push_size _ rfl⟩
end
noncomputable abbrev Sp := List V → Hp → VK → XK → Prop
noncomputable abbrev CXT := List Env → Hp → Shared → XK → Value → Shared → Prop
structure Env0 (P : Program) (w : World) (K : PySem.W.Frag) (mg : Str → Option Value) (base : Heap) (A : Around) (outer : List Env) (s : Shared) (H : Hp) : Prop where
  frames : A.frames = some outer
  mod : Mod K mg base
  bs : ∀ b o, base.get? b = some o → s.heap.get? b = some o ∧ H b = none
  bsz : base.objs.size ≤ s.heap.objs.size
  funs : s.heap.FunFrames base outer
  frf : ∀ b ∈ frs outer, H b = none
  hok : HOk P w H s.heap
  bare : AllBare s.gens
noncomputable def CE (outer : List Env) (P : Program) (w : World) (H : Hp) (s : Shared) (Q : VK) (u : Value) (s' : Shared) : Prop :=
  ∃ v H', s'.os = s.os ∧ AllBare s'.gens ∧ Un (frs outer) [] H H' s.heap s'.heap ∧ HOk P w H' s'.heap ∧ RelV v u ∧ Q v H'
noncomputable def CR (CX : CXT) (outer : List Env) (P : Program) (w : World) (H : Hp) (s : Shared) (Q : VK) (E : XK) (r : Result) (s' : Shared) : Prop :=
  match r with
  | .ok (.ret u) => CE outer P w H s Q u s'
  | .ok _ => False
  | .error e => CX outer H s E e s'
structure FnOk (P : Program) (w : World) (K : PySem.W.Frag) (mg : Str → Option Value) (base : Heap) (CX : CXT) (k : Nat) (f : Addr) (fd : FuncData) (ps : List Str) (sp : Sp) : Prop where
  len : ∀ vs H Q E, sp vs H Q E → vs.length = ps.length
  run : ∀ (A : Around) (outer : List Env) (s : Shared) (H : Hp) (args : Args) (us : List Value) (vs : List V) (Q : VK) (E : XK), Room k A → Env0 P w K mg base A outer s H → BindsTo s fd args (ps.zip us) → Vals vs us → sp vs H Q E →
    codeAny (model P w) A (.call (.ref f) args) (CR CX outer P w H s Q E) s
theorem Env0.make {P : Program} {w : World} {K : PySem.W.Frag} {mg : Str → Option Value} {base : Heap} {A : Around} {outer : List Env} {s : Shared} {H : Hp} (e : Env0 P w K mg base A outer s H) (C : Addr) (us : List Value) (kw : List (Str × Value)) :
    Env0 P w K mg base (A.under (.builtin "type.__call__" ⟨.ref C :: us, kw⟩)) outer s H := ⟨by first | exact e.frames | (simpa [Around.under, Code.envs, Code.isFrame, pushEnvs] using e.frames), e.mod, e.bs, e.bsz, e.funs, e.frf, e.hok, e.bare⟩
section
variable {X : Cx} {pins : List (Addr × Obj)} {σ : St} {H : Hp} {s s' : Shared}
theorem Inv.env0 (I : Inv X pins σ H s) : Env0 X.prog X.w X.K X.mg X.base X.A X.stack s H :=
  ⟨I.ok.frames, I.ok.mod, I.bs, Nat.le_trans I.ok.bsz I.sz, I.stack, I.stkFree, I.hok, I.bare⟩
theorem Inv.after {Q : VK} {u : Value} (I : Inv X pins σ H s) (h : CE X.stack X.prog X.w H s Q u s') : EP X pins σ Q u s' := by
  obtain ⟨v, H', os, bare, un, hok, r, q⟩ := h
  obtain ⟨hh, g, d, t, os'⟩ := s'
  obtain rfl : os' = s.os := os
  exact ⟨v, H', I.call (h' := hh) (g' := g) (d' := d) (t' := t) (ch := []) un hok bare (fun b z => absurd z (by simp)), r, q⟩
end
noncomputable def tCall (sp : Sp) (dvs : List V) (E : XK) (t : TA) : TE := fun σ H Q => t σ H fun vs H1 => sp (vs ++ dvs) H1 Q E
noncomputable def tMeth (C : Addr) (m : Str) (sp : Sp) (dvs : List V) (E : XK) (ta : TE) (t : TA) : TE := fun σ H Q => ta σ H fun x H1 => ∃ a dx fs, x = .ref a ∧ H1 a = some (.ins C dx fs) ∧ fs.lookup m = none ∧
  t σ H1 fun vs H2 => sp (x :: (vs ++ dvs)) H2 Q E
noncomputable def Binds (K : PySem.W.Frag) (fd : FuncData) (ps : List Str) (ds : List Value) : Prop :=
  ∀ (s : Shared) (us : List Value), K.In s.heap → (us ++ ds).length = ps.length → BindsTo s fd ⟨us, []⟩ (ps.zip (us ++ ds))
theorem Binds.all {K : PySem.W.Frag} {fd : FuncData} {ps : List Str} (h : ∀ us : List Value, us.length = ps.length → bindArgs fd ⟨us, []⟩ = pure (ps.zip us)) : Binds K fd ps [] := fun s us _ hl => by
  rw [List.append_nil] at hl ⊢
  exact .of_eq (h us hl)
noncomputable def Passes (CX : CXT) (X : Cx) (E : XK) : Prop := ∀ (pins : List (Addr × Obj)) (σ : St) (H : Hp) (s : Shared) (e : Value) (s' : Shared), Inv X pins σ H s → CX X.stack H s E e s' → X.xe e s'
section
variable {X : Cx} {CX : CXT} {k : Nat} {f C : Addr} {fd : FuncData} {ps : List Str} {sp : Sp} {dvs : List V} {ds : List Value} {E : XK} {x m : Str} {p pos apos : Pos} {e o : Expr} {es : List Expr} {ta : TE} {t : TA}
theorem run_fn {pins : List (Addr × Obj)} {σ : St} {H : Hp} {s : Shared} {Q : VK} {us : List Value} {vs : List V} (F : FnOk X.prog X.w X.K X.mg X.base CX k f fd ps sp) (hr : Room k X.A) (hb : Binds X.K fd ps ds) (hd : Vals dvs ds) (hx : Passes CX X E)
    (I : Inv X pins σ H s) (r : Vals vs us) (h : sp (vs ++ dvs) H Q E) : wpAny (model X.prog X.w) X.A (call (.ref f) us) (EP X pins σ Q) X.xe s := by
  have r2 : Vals (vs ++ dvs) (us ++ ds) := r.append hd
  have hl : (us ++ ds).length = ps.length := by rw [← r2.length]; exact F.len _ _ _ _ h
  refine wpAny_call (codeAny_mono (F.run X.A X.stack s H ⟨us, []⟩ (us ++ ds) (vs ++ dvs) Q E hr I.env0 (hb s us I.kIn hl) r2 h) fun r s' hq => ?_)
  cases r with
  | error e => exact hx pins σ H s e s' I hq
  | ok fl =>
    cases fl with
    | ret u => exact I.after hq
    | next => exact False.elim hq
    | brk => exact False.elim hq
    | cont => exact False.elim hq
theorem pe_call (F : FnOk X.prog X.w X.K X.mg X.base CX k f fd ps sp) (hr : Room k X.A) (hg : Gl X x) (hm : X.mg x = some (.ref f)) (hk : PySem.W.keepIn X.K (.ref f) = true) (hb : Binds X.K fd ps ds) (hd : Vals dvs ds) (hx : Passes CX X E)
    (ha : PA X (e :: es) t) (hdb : (x == ("__debug__" : Str)) = false := by decide) (he : starEach (e :: es) X.env = (false, eval e X.env) :: starEach es X.env := by rfl) (hpl : (backTo pos (starEach es X.env)).any (·.1) = false := by rfl) :
    PE X (.Call (.Name x p) (e :: es) [] pos) (tCall sp dvs E t) := by
  intro pins s σ H Q I h
  refine wpAny_Call_Name_kw (ld_glob I hg hm ?_ hdb)
  refine PySem.W.callWith_K (h₀ := X.base) I.ok.mod.kin hk (thn (ha pos pins s σ H _ I h) fun us s1 ⟨vs, H1, I1, r, q⟩ => ⟨I1.kIn, ?_⟩) he hpl
  exact run_fn F hr hb hd hx I1 r q
theorem pe_meth0 {pl : Sem Bool} (he : PE X o ta) (c : Cls X.K C) (hm : Meth X.K C m f) (F : FnOk X.prog X.w X.K X.mg X.base CX k f fd ps sp) (hr : Room k X.A) (hb : Binds X.K fd ps ds) (hd : Vals dvs ds) (hx : Passes CX X E)
    (ht : eval (.Call (.Attribute o m apos) [] [] pos) X.env = (do
      let ov ← eval o X.env
      standAt apos.atName
      let (f, first) ← holding [ov] (getMethod ov m pl)
      callWith pos f first (backTo pos (starEach [] X.env)) (backToKw pos (keywordEach [] X.env))) := by rfl) :
    PE X (.Call (.Attribute o m apos) [] [] pos) (tMeth C m sp dvs E ta tNil) := by
  intro pins s σ H Q I h
  refine PySem.W.methodCall_KW (pl := pl) (thn (he pins s σ H _ I h) fun u s1 ⟨x, H1, I1, rx, a, dx, fs, ex, ea, l, q⟩ => ?_) ht
  subst ex
  obtain rfl : u = Value.ref a := rx
  refine getmeth_ok I1 ea c hm l ?_
  exact PySem.W.callWith_K0 (first := [.ref a]) I1.kIn hm.kp (run_fn (us := [.ref a]) (vs := [.ref a]) F hr hb hd hx I1 (.cons rfl .nil) q)
structure Mk (K : PySem.W.Frag) (C f : Addr) : Prop where
  makes : PySem.W.makesIn K C = true
  init : PySem.W.findIn K (.ref C) "__init__" = some (some (.ref f))
  fn : PySem.W.isFn K (.ref f) = true
  kp : PySem.W.keepIn K (.ref C) = true
end
section
variable {X : Cx} {CX : CXT} {k : Nat} {f C : Addr} {fd : FuncData} {ps ks : List Str} {sp : Sp} {E : XK} {x m : Str} {p pos apos kpos : Pos} {e o : Expr} {es : List Expr} {kws : List Keyword} {te ta : TE} {t tk : TA} {nm : Option Str}
variable {g : List Value → List Value → List Value} {gV : List V → List V → List V}
end
structure FnScope (N P : List Str) (sc : Scope) : Prop where
  kind : sc.kind = .function
  co : sc.isCoroutine = false
  gen : sc.isGenerator = false
  nd : N.Nodup
  pre : N.take P.length = P
  par : ∀ x ∈ P, sc.names.lookup x = some .local ∨ sc.names.lookup x = some .cell
  nofree : ∀ y ∈ sc.names, y.2 ≠ .free
theorem bindL_out {kindOf : Str → Option NameKind} {x : Str} : ∀ {binds : List (Str × Value)} {m : Str → Option Value}, (∀ v, (x, v) ∉ binds) → bindL kindOf binds m x = m x
  | [], _, _ => rfl
  | (n, v) :: r, m, h => by
    unfold bindL
    rw [bindL_out fun w hw => h w (List.mem_cons_of_mem _ hw)]
    split
    · have : x ≠ n := by rintro rfl; exact h v List.mem_cons_self
      simp [this]
    · rfl
theorem bindC_out {kindOf : Str → Option NameKind} {x : Str} : ∀ {binds : List (Str × Value)} {m : Str → Option Value}, (∀ v, (x, v) ∉ binds) → bindC kindOf binds m x = m x
  | [], _, _ => rfl
  | (n, v) :: r, m, h => by
    unfold bindC
    rw [bindC_out fun w hw => h w (List.mem_cons_of_mem _ hw)]
    split
    · rfl
    · have : x ≠ n := by rintro rfl; exact h v List.mem_cons_self
      simp [this]
theorem bindL_get {kindOf : Str → Option NameKind} {x : Str} {v : Value} : ∀ {P : List Str} {vs : List Value} {i : Nat} {m : Str → Option Value}, P.Nodup → P[i]? = some x → vs[i]? = some v → kindOf x = some .local →
    bindL kindOf (P.zip vs) m x = some v
  | [], _, _, _, _, h, _, _ => by simp at h
  | _ :: _, [], _, _, _, _, h, _ => by simp at h
  | p :: P, w :: vs, 0, m, nd, h1, h2, hk => by
    simp at h1 h2; subst h1; subst h2
    show bindL kindOf ((p, w) :: P.zip vs) m p = _
    unfold bindL
    rw [bindL_out fun v hv => (List.nodup_cons.mp nd).1 (List.of_mem_zip hv).1, if_pos hk]
    simp
  | p :: P, w :: vs, i + 1, m, nd, h1, h2, hk => by
    show bindL kindOf ((p, w) :: P.zip vs) m x = _
    unfold bindL
    exact bindL_get (i := i) (List.nodup_cons.mp nd).2 (by simpa using h1) (by simpa using h2) hk
theorem bindC_get {kindOf : Str → Option NameKind} {x : Str} {v : Value} : ∀ {P : List Str} {vs : List Value} {i : Nat} {m : Str → Option Value}, P.Nodup → P[i]? = some x → vs[i]? = some v → kindOf x ≠ some .local →
    bindC kindOf (P.zip vs) m x = some v
  | [], _, _, _, _, h, _, _ => by simp at h
  | _ :: _, [], _, _, _, _, h, _ => by simp at h
  | p :: P, w :: vs, 0, m, nd, h1, h2, hk => by
    simp at h1 h2; subst h1; subst h2
    show bindC kindOf ((p, w) :: P.zip vs) m p = _
    unfold bindC
    rw [bindC_out fun v hv => (List.nodup_cons.mp nd).1 (List.of_mem_zip hv).1, if_neg hk]
    simp
  | p :: P, w :: vs, i + 1, m, nd, h1, h2, hk => by
    show bindC kindOf ((p, w) :: P.zip vs) m x = _
    unfold bindC
    exact bindC_get (i := i) (List.nodup_cons.mp nd).2 (by simpa using h1) (by simpa using h2) hk
noncomputable def start (N : List Str) (vs : List V) : St := vs.map some ++ List.replicate (N.length - vs.length) none
noncomputable def cxOf (CX : CXT) (P : Program) (w : World) (K : PySem.W.Frag) (mg : Str → Option Value) (base : Heap) (N : List Str) (qual : Str) (scope : Scope) (f : Addr) (cd : Value) (A : Around) (outer : List Env) (s : Shared) (H : Hp) (E : XK) : Cx where
  prog := P
  w := w
  K := K
  mg := mg
  base := base
  A := A.deeper (envOfC qual scope s.heap.objs.size f cd)
  N := N
  s₀ := s
  H₀ := H
  env := envOfC qual scope s.heap.objs.size f cd
  outer := outer
  stack := envOfC qual scope s.heap.objs.size f cd :: outer
  ex := []
  calm := true
  fn := fun _ => true
  pn := []
  xe := fun e s' => wpAny (model P w) (A.deeper (envOfC qual scope s.heap.objs.size f cd)) (leaving (envOfC qual scope s.heap.objs.size f cd) e) (fun _ s'' => CX outer H s E e s'') (fun e' s'' => CX outer H s E e' s'') s'
theorem cell_has {sc : Scope} {n : Nat} {x : Str} (h : sc.names.lookup x = some .cell) : ∃ c, (cellsFrom n sc.names []).lookup x = some c := by
  have q := PySem.W.cellsFrom_some sc.names n [] (.inl h)
  exact Option.isSome_iff_exists.mp q
theorem inv_start {CX : CXT} {P : Program} {w : World} {K : PySem.W.Frag} {mg : Str → Option Value} {base : Heap} {N ps : List Str} {qual : Str} {scope : Scope} {f : Addr} {cd : Value} {A : Around} {outer : List Env} {s s1 : Shared} {H : Hp} {E : XK} {us : List Value} {vs : List V}
    (S : FnScope N ps scope) (hd : A.handled = none) (e0 : Env0 P w K mg base A outer s H) (hl : vs.length = ps.length) (r : Vals vs us)
    (x : InCallC s s.heap.objs.size (bindL (envOfC qual scope s.heap.objs.size f cd).kindOf (ps.zip us) fun _ => none) (cellsFrom (s.heap.objs.size + 1) scope.names []) (bindC (envOfC qual scope s.heap.objs.size f cd).kindOf (ps.zip us) fun _ => none) s1) :
    Inv (cxOf CX P w K mg base N qual scope f cd A outer s H E) [] (start N vs) H s1 := by
  have hpl : ps.length ≤ N.length := by have := congrArg List.length S.pre; rw [List.length_take] at this; omega
  obtain ⟨h1, tk, rfl, hk⟩ := x.done
  have noA : ∀ b : Addr, b ∉ (cxOf CX P w K mg base N qual scope f cd A outer s H E).ex := fun b z => absurd (show b ∈ ([] : List Addr) from z) (by simp)
  refine ⟨⟨e0.mod, S.kind, rfl, rfl, Nat.le_refl _, fun y z c h1 h2 => ?_, fun y hy => ?_, fun y c _ h => ?_, fun _ => hd, Around.frames_deeper e0.frames, .inr ⟨rfl, rfl⟩, fun b z => absurd z (noA b), e0.bs, e0.bsz, fun b _ _ => noA b, fun b z => absurd z (noA b), e0.funs, e0.frf⟩,
    rfl, e0.bare, Un.kept hk, ⟨_, x.toInCall.ns, fun i y v h1 h2 h3 => ?_⟩, fun y c h => ⟨_, x.cell y c h⟩, e0.hok.fresh (Nat.le_refl _), fun y c h => ?_, fun p hp => absurd (show p ∈ ([] : List (Addr × Obj)) from hp) (by simp), e0.hok.kept hk, ?_⟩
  · exact name_of_addr x.apart (PySem.mem_of_lookup h1) (PySem.mem_of_lookup h2)
  · have hy : scope.names.lookup y = some .cell ∨ scope.names.lookup y = some .free := hy
    rcases hy with hy | hy
    · exact cell_has hy
    · exact absurd rfl (S.nofree _ (PySem.mem_of_lookup hy))
  · exact Nat.le_of_lt (x.above y c (PySem.mem_of_lookup h))
  · have hi : i < vs.length := by
      unfold start at h2
      by_cases hi : i < vs.length
      · exact hi
      · rw [List.getElem?_append_right (by simpa using hi)] at h2
        rw [List.getElem?_replicate] at h2
        split at h2 <;> cases h2
    have ha : vs[i]? = some v := by
      unfold start at h2
      rw [List.getElem?_append_left (by simpa using hi), List.getElem?_map] at h2
      cases e : vs[i]? with
      | none => rw [e] at h2; cases h2
      | some a => rw [e] at h2; cases h2; rfl
    obtain ⟨u, hu, rv⟩ := r.get ha
    have hp : ps[i]? = some y := by
      rw [← S.pre, List.getElem?_take_of_lt (by omega)]; exact h1
    have ndP : ps.Nodup := by rw [← S.pre]; exact S.nd.sublist (List.take_sublist _ _)
    refine ⟨u, rv, ?_⟩
    rcases S.par y (List.mem_of_getElem? hp) with k | k
    · exact .inl ⟨k, bindL_get ndP hp hu k⟩
    · obtain ⟨c, e⟩ := cell_has (n := s.heap.objs.size + 1) k
      refine .inr ⟨.inl k, c, e, ?_⟩
      have q := x.cell y c e
      rw [bindC_get ndP hp hu (by show scope.names.lookup y ≠ _; rw [k]; decide)] at q
      exact q
  · exact e0.hok.fresh (Nat.le_of_lt (x.above y c (PySem.mem_of_lookup h)))
  · unfold start
    show _ = N.length
    rw [List.length_append, List.length_map, List.length_replicate]
    omega
theorem fn_of {CX : CXT} {P : Program} {w : World} {K : PySem.W.Frag} {mg : Str → Option Value} {base : Heap} {k : Nat} {f : Addr} {name qual : Str} {params : Arguments} {body : List Stmt} {scope : Scope} {dV kV doc pm cdv ct oc : Value} {an od : Option Addr}
    {osl : Array (Option Value)} {N ps : List Str} {sp : Sp} (lk : K.lookup f = some ⟨oc, od, .func (PySem.W.fnOf name qual params body scope dV kV doc pm an cdv ct), osl⟩) (hcd : PySem.W.codeIn K cdv qual = true) (S : FnScope N ps scope)
    (len : ∀ vs H Q E, sp vs H Q E → vs.length = ps.length)
    (hbody : ∀ (A : Around) (outer : List Env) (s : Shared) (H : Hp) (vs : List V) (Q : VK) (E : XK), Room k (A.deeper (envOfC qual scope s.heap.objs.size f cdv)) → sp vs H Q E →
      ∃ t, PSs (cxOf CX P w K mg base N qual scope f cdv A outer s H E) body t ∧ t { nx := fun _ H' => Q .non H', rt := Q } (start N vs) H) :
    FnOk P w K mg base CX (k + 1) f (PySem.W.fnOf name qual params body scope dV kV doc pm an cdv ct) ps sp := by
  refine ⟨len, fun A outer s H args us vs Q E hr e0 hb r hsp => ?_⟩
  have hl := len _ _ _ _ hsp
  have KX : K.In s.heap := e0.mod.kin.keeps fun b o e => (e0.bs b o e).1
  have lim : s.heap.NoLimit := e0.mod.nolimit.keeps fun b o e => (e0.bs b o e).1
  have hkind : ∀ y ∈ ps.zip us, scope.names.lookup y.1 = some .local ∨ (scope.names.lookup y.1 = some .cell ∧ ((cellsFrom (s.heap.objs.size + 1) scope.names []).lookup y.1).isSome = true) := fun ⟨n, v⟩ hy => by
    rcases S.par n (List.of_mem_zip hy).1 with q | q
    · exact .inl q
    · exact .inr ⟨q, PySem.W.cellsFrom_some _ _ _ (.inl q)⟩
  refine codeAny_call_function hr.depth (KX _ _ lk) rfl S.co S.gen rfl (PySem.W.codeRec_of KX hcd) (hb _ _ _ _ ?_)
  refine wpAny_newFunctionEnv_cells S.kind hkind fun env he s1 x => ?_
  subst he
  refine ⟨lim.keeps x.toInCall.keep, codeAny_func ?_⟩
  obtain ⟨t, ht, hq⟩ := hbody A outer s H vs Q E (hr.deeper _) hsp
  have I : Inv (cxOf CX P w K mg base N qual scope f cdv A outer s H E) [] (start N vs) H s1 := inv_start S hr.hd e0 hl r x
  refine wpAny_mono (ht [] s1 (start N vs) H _ I hq) (fun fl s' hs => ?_) fun e s' hs => hs
  have fin : ∀ {σ' : St} {H' : Hp} {v : V} {u : Value}, Inv (cxOf CX P w K mg base N qual scope f cdv A outer s H E) [] σ' H' s' → RelV v u → Q v H' → CE outer P w H s Q u s' :=
    fun {σ' H' v u} J rv q => ⟨v, H', J.os, J.bare, J.base, J.hok, rv, q⟩
  cases fl with
  | ret u =>
    obtain ⟨v, σ', H', J, rv, q⟩ := hs
    exact fin J rv q
  | next =>
    obtain ⟨σ', H', J, q⟩ := hs
    exact fin (v := V.non) (u := Value.none) J rfl q
  | brk =>
    obtain ⟨_, _, _, q⟩ := hs
    exact False.elim q
  | cont =>
    obtain ⟨_, _, _, q⟩ := hs
    exact False.elim q
end L2
namespace L2
open PySem PySem.Spec PyProof.Rows
section
variable {X : Cx} {x : Str} {p pos : Pos} {e : Expr} {es : List Expr} {t : TA} {id T : String} {r : List V → Hp → VK → Prop}
noncomputable def tCB (r : List V → Hp → VK → Prop) (t : TA) : TE := fun σ H Q => t σ H fun vs H1 => r vs H1 Q
theorem pe_callB (hc : CallR X (.builtin id) r) (hg : Gl X x) (hm : X.mg x = none) (hv : bootBuiltins x = some (.builtin id)) (ha : PA X (e :: es) t) (hn : x ≠ "__name__" := by decide) (hdb : (x == ("__debug__" : Str)) = false := by decide)
    (he : starEach (e :: es) X.env = (false, eval e X.env) :: starEach es X.env := by rfl) (hpl : (backTo pos (starEach es X.env)).any (·.1) = false := by rfl) : PE X (.Call (.Name x p) (e :: es) [] pos) (tCB r t) := by
  intro pins s σ H Q I h
  refine wpAny_Call_Name_kw (ld_blt I hg hm hv ?_ hn hdb)
  exact PyProof.Rows.callWith_builtin1 (thn (ha pos pins s σ H _ I h) fun us s1 ⟨vs, H1, I1, r1, q1⟩ => hc pins s1 σ H1 vs us Q I1 r1 q1) he hpl
theorem pe_callTy (hc : CallR X (.type T) r) (hg : Gl X x) (hm : X.mg x = none) (hv : bootBuiltins x = some (.type T)) (ha : PA X (e :: es) t) (hn : x ≠ "__name__" := by decide) (hdb : (x == ("__debug__" : Str)) = false := by decide)
    (he : starEach (e :: es) X.env = (false, eval e X.env) :: starEach es X.env := by rfl) (hpl : (backTo pos (starEach es X.env)).any (·.1) = false := by rfl) : PE X (.Call (.Name x p) (e :: es) [] pos) (tCB r t) := by
  intro pins s σ H Q I h
  refine wpAny_Call_Name_kw (ld_blt I hg hm hv ?_ hn hdb)
  exact PyProof.Rows.callWith_type1 (thn (ha pos pins s σ H _ I h) fun us s1 ⟨vs, H1, I1, r1, q1⟩ => hc pins s1 σ H1 vs us Q I1 r1 q1) he hpl
end
end L2
namespace HT
open PySem PyProof.Rows
section
open PySem.SeqAt
open PySem.AutoSeq1 (wpAny_loadPart')
open PySem.MeetsSeq PySem.MeetsSeq2 PySem.MeetsSeq3
end
section
variable {prog : Program} {w : World} {A : Around} {E : Value → Shared → Prop} {s : Shared}
theorem cat_tup {t b : Addr} {vs ws : List Value} {Q : Value → Shared → Prop} (ht : IsTup s.heap t vs.toArray) (hb : IsTup s.heap b ws.toArray) (hv : vs ≠ [])
    (h1 : ws = [] → Q (.ref t) s) (h2 : ws ≠ [] → Q (.ref s.heap.objs.size) { s with heap := s.heap.push { cls := .type "tuple", data := .seq (vs ++ ws).toArray } })
    (hsz : vs.length + ws.length ≤ sizeLine) : wpAny (model prog w) A (binaryOp .Add (.ref t) (.ref b)) Q E s := by
  obtain ⟨⟨cls, dd, data, sl⟩, ho, hc, n, hd⟩ := id ht
  obtain ⟨⟨cls2, dd2, data2, sl2⟩, ho2, hc2, n2, hd2⟩ := id hb
  simp only at hc hd hc2 hd2
  subst hc hd hc2 hd2
  have e : vs.toArray ++ ws.toArray = (vs ++ ws).toArray := by simp
  by_cases hw : ws = []
  · exact concat_meets ⟨_, ho, rfl⟩ ⟨_, ho2, rfl⟩ noFill_tuple_add seq_tuple_add PySem.F.slot_tuple_add PySem.F.entry_tuple_add (PySem.F.args_tuple_add_2 _ _)
      (tuple_addW1 t b vs.toArray ws.toArray n n2 dd dd2 sl sl2 (by simpa using hv) (by simp [hw])) ⟨ho, ho2, h1 hw⟩
  · refine concat_meets ⟨_, ho, rfl⟩ ⟨_, ho2, rfl⟩ noFill_tuple_add seq_tuple_add PySem.F.slot_tuple_add PySem.F.entry_tuple_add (PySem.F.args_tuple_add_2 _ _)
      (tuple_addW2 t b vs.toArray ws.toArray n n2 dd dd2 sl sl2 (by simpa using hv) (by simpa using hw) (by rw [List.size_toArray, List.size_toArray]; exact hsz)) ⟨ho, ho2, ?_⟩
    rw [e]
    exact h2 hw
noncomputable def sIx (n d : Nat) : Option Int → Nat
  | none => d
  | some v => if v < 0 then (v + (n : Int)).toNat else min v.toNat n
theorem sIx_none (n d : Nat) : sIx n d none = d := rfl
theorem sIx_nat (n d k : Nat) : sIx n d (some (k : Int)) = min k n := by
  show (if (k : Int) < 0 then ((k : Int) + (n : Int)).toNat else min (k : Int).toNat n) = min k n
  rw [if_neg (by omega), Int.toNat_natCast]
theorem sIx_le (n d : Nat) (hd : d ≤ n) (o : Option Int) : sIx n d o ≤ n := by
  cases o with
  | none => exact hd
  | some v =>
    show (if v < 0 then (v + (n : Int)).toNat else min v.toNat n) ≤ n
    by_cases hv : v < 0
    · rw [if_pos hv]; omega
    · rw [if_neg hv]; exact Nat.min_le_right _ _
theorem clip_eq (v : Int) (n d : Nat) : (if v < 0 then max (v + (n : Int)) 0 else min v (n : Int)) = ((sIx n d (some v) : Nat) : Int) := by
  show (if v < 0 then max (v + (n : Int)) 0 else min v (n : Int)) = (((if v < 0 then (v + (n : Int)).toNat else min v.toNat n) : Nat) : Int)
  by_cases hv : v < 0
  · simp only [if_pos hv]; omega
  · simp only [if_neg hv]; omega
theorem adjust_gen (lo hi : Option Int) (n : Nat) : Builtin.Slice.sliceAdjust lo hi 1 (n : Int) = (((sIx n 0 lo : Nat) : Int), ((sIx n n hi : Nat) : Int)) := by
  have h1 : ¬ ((1 : Int) < 0) := by omega
  unfold Builtin.Slice.sliceAdjust
  simp only [h1, if_false]
  refine Prod.ext ?_ ?_
  · cases lo with
    | none => rfl
    | some v => exact clip_eq v n 0
  · cases hi with
    | none => rfl
    | some v => exact clip_eq v n n
theorem places_gen (i j : Nat) : Builtin.Slice.slicePlaces (i : Int) (j : Int) 1 = j - i := by
  unfold Builtin.Slice.slicePlaces
  have h1 : (1 : Int) > 0 := by omega
  simp only [h1, if_true, Int.ediv_one]
  split <;> omega
theorem slicePart_ {v : Value} {o : Option Int} {Q : Option Int → Shared → Prop} (p : IsPart v o) (h : Q o s) : wpAny (model prog w) A (Builtin.Slice.slicePartIndex v) Q E s := by
  cases p with
  | none => exact slicePart_none h
  | int i t => exact slicePart_int h
theorem sliceApplied_gen {sl : Addr} {vl vu : Value} {lo hi : Option Int} {n : Nat} {Q : Int × Int × Nat → Shared → Prop} (hs : s.heap.IsSliceOf sl vl vu .none) (pl : IsPart vl lo) (pu : IsPart vu hi)
    (h : Q (((sIx n 0 lo : Nat) : Int), 1, sIx n n hi - sIx n 0 lo) s) : wpAny (model prog w) A (Builtin.Slice.sliceApplied (.ref sl) (pure (n : Int))) Q E s := by
  obtain ⟨os, hos, hcs, hds⟩ := id hs
  unfold Builtin.Slice.sliceApplied Builtin.Slice.sliceFields
  refine wpAny_bind (wpAny_bind (wpAny_field hos hds (x := vl) rfl (wpAny_bind (wpAny_field hos hds (x := vu) rfl (wpAny_bind (wpAny_field hos hds (x := .none) rfl (wpAny_pure ?_)))))))
  refine wpAny_bind (slicePart_none ?_)
  show wpAny _ _ (if ((1 : Int) == 0) = true then _ else _) _ _ s
  rw [if_neg (by decide)]
  refine wpAny_bind (slicePart_ pl (wpAny_bind (slicePart_ pu (wpAny_bind (wpAny_pure ?_)))))
  show wpAny _ _ (match Builtin.Slice.sliceAdjust lo hi 1 (n : Int) with | (lo, hi) => pure (lo, (1 : Int), Builtin.Slice.slicePlaces lo hi 1)) _ _ s
  rw [adjust_gen lo hi n]
  show wpAny _ _ (pure (((sIx n 0 lo : Nat) : Int), (1 : Int), Builtin.Slice.slicePlaces ((sIx n 0 lo : Nat) : Int) ((sIx n n hi : Nat) : Int) 1)) _ _ s
  rw [places_gen]
  exact wpAny_pure h
theorem pick_gen (xs : Array Value) (i k : Nat) : ((List.range k).filterMap fun (m : Nat) => xs[((i : Int) + (m : Int) * 1).toNat]?).toArray = ((xs.toList.drop i).take k).toArray := by
  have e : (fun (m : Nat) => xs[((i : Int) + (m : Int) * 1).toNat]?) = fun m => xs[i + m]? := by
    funext m
    have : ((i : Int) + (m : Int) * 1).toNat = i + m := by omega
    rw [this]
  rw [e]
  have := pick_run xs i k
  rw [List.filterMap_map] at this
  have e2 : ((fun x => xs[x]?) ∘ fun x => i + x) = fun m => xs[i + m]? := rfl
  rw [e2] at this
  rw [this]
theorem getItem_tuple_cut {t sl : Addr} {items : Array Value} {vl vu : Value} {lo hi : Option Int} {Q : Value → Shared → Prop} (ht : IsTup s.heap t items) (hs : s.heap.IsSliceOf sl vl vu .none) (pl : IsPart vl lo) (pu : IsPart vu hi)
    (hw : ¬ (sIx items.size 0 lo = 0 ∧ sIx items.size items.size hi = items.size))
    (h : Q (.ref s.heap.objs.size) { s with heap := s.heap.push { cls := .type "tuple", data := .seq ((items.toList.drop (sIx items.size 0 lo)).take (sIx items.size items.size hi - sIx items.size 0 lo)).toArray } })
    (hsz : items.size ≤ sizeLine) : wpAny (model prog w) A (getItem (.ref t) (.ref sl)) Q E s := by
  have htake : sizeOk (.seq ((items.toList.drop (sIx items.size 0 lo)).take (sIx items.size items.size hi - sIx items.size 0 lo)).toArray) := by
    show ((items.toList.drop (sIx items.size 0 lo)).take (sIx items.size items.size hi - sIx items.size 0 lo)).toArray.size ≤ sizeLine
    rw [List.size_toArray, List.length_take, List.length_drop, Array.length_toList]
    omega
  have hj : sIx items.size items.size hi ≤ items.size := sIx_le _ _ (Nat.le_refl _) hi
  obtain ⟨os, hos, hcs, hds⟩ := id hs
  have hTs : s.TypeIs (.ref sl) "slice" := ⟨os, hos, hcs⟩
  unfold getItem
  try with_reducible refine wpAny_holding ?_
  first | refine wpAny_bind (wpAny_pure ?_) | skip
  refine wpAny_bind (wpAny_sequenceKey ht.typeIs (by decide) ?_)
  refine wpAny_bind (wpAny_callSpecial?_slot (name := Str.ofString "__getitem__") ht.typeIs PyProof.Rows.slot_tuple_getitem
    (wpAny_call_entry PyProof.Rows.slot_tuple_getitem ht.typeIs entry_tuple_getitem ?_ (args_tuple_getitem _ _)))
  show wpAny _ _ (Builtin.Tuple.tupleItemsOf (.ref t) >>= _) _ _ s
  refine wpAny_bind (tupleItemsOf_ ht ?_)
  refine wpAny_bind (wpAny_typeOf hTs ?_)
  rw [if_pos (by decide)]
  refine wpAny_bind (sliceApplied_gen hs pl pu ?_)
  have hno : ¬ ((((sIx items.size 0 lo : Nat) : Int) == 0 && (1 : Int) == 1 && (sIx items.size items.size hi - sIx items.size 0 lo) == items.size) = true) := by
    intro q
    rw [Bool.and_eq_true, Bool.and_eq_true] at q
    have q1 : ((sIx items.size 0 lo : Nat) : Int) = 0 := eq_of_beq q.1.1
    have q2 : sIx items.size items.size hi - sIx items.size 0 lo = items.size := eq_of_beq q.2
    exact hw ⟨by omega, by omega⟩
  show wpAny _ _ (if (((sIx items.size 0 lo : Nat) : Int) == 0 && (1 : Int) == 1 && (sIx items.size items.size hi - sIx items.size 0 lo) == items.size) = true then _ else _) _ _ s
  rw [if_neg hno, pick_gen]
  first
    | exact wpAny_bind (m := Builtin.Tuple.tupleExact _) (wpAny_newObj_type (wpAny_pure ⟨_, rfl, wpAny_pure h⟩) htake)
    | exact wpAny_bind (m := Builtin.Tuple.tupleExact _) (wpAny_newObj_type (wpAny_bind (wpAny_pure (wpAny_pure ⟨_, rfl, wpAny_pure h⟩))) htake)
    | exact wpAny_bind (wpAny_bind (m := Builtin.Tuple.tupleExact _) (wpAny_newObj_type (wpAny_pure (wpAny_pure ⟨_, rfl, wpAny_pure h⟩)) htake))
    | exact wpAny_bind (wpAny_bind (m := Builtin.Tuple.tupleExact _) (wpAny_newObj_type (wpAny_pure ⟨_, rfl, wpAny_pure h⟩) htake))
end
end HT
namespace L2
open PySem PySem.Spec PyProof.Rows
noncomputable abbrev TO := St → Hp → (Option Int → Hp → Prop) → Prop
noncomputable def PO (X : Cx) (e : Option Expr) (t : TO) : Prop :=
  ∀ (pins : List (Addr × Obj)) (s : Shared) (σ : St) (H : Hp) (Q : Option Int → Hp → Prop), Inv X pins σ H s → t σ H Q →
    wpAny (model X.prog X.w) X.A (evalPart e X.env) (fun u s' => ∃ o H', Inv X pins σ H' s' ∧ IsPart u o ∧ Q o H') X.xe s
noncomputable def tNoPart : TO := fun _ H Q => Q none H
noncomputable def tPart (t : TE) : TO := fun σ H Q => t σ H fun x H1 => ∃ i, x = .int i ∧ Q (some i) H1
theorem intsAre_of {ns : List Int} : ∀ {us : List Value}, Vals (ns.map V.int) us → IntsAre us ns := by
  induction ns with
  | nil => intro us r; rw [List.map_nil] at r; cases r; exact .nil
  | cons n ns ih =>
    intro us r
    rw [List.map_cons] at r
    cases r with
    | cons r1 r2 =>
      obtain ⟨t, e⟩ := r1
      subst e
      exact .cons n t (ih r2)
section
variable {X : Cx} {e : Expr} {te : TE} {lo hi : Option Expr} {tl th : TO} {pos p2 : Pos}
theorem po_none : PO X none tNoPart := by
  intro pins s σ H Q I h
  rw [evalPart_none]
  exact wpAny_pure ⟨none, H, I, .none, h⟩
theorem po_some (h : PE X e te) : PO X (some e) (tPart te) := by
  intro pins s σ H Q I hw
  rw [evalPart_some]
  refine thn (h pins s σ H _ I hw) fun u s1 ⟨x, H1, I1, r1, q1⟩ => ?_
  obtain ⟨i, rfl, q⟩ := q1
  obtain ⟨t, rfl⟩ := r1
  exact ⟨some i, H1, I1, .int i t, q⟩
noncomputable def SlR (X : Cx) (r : V → Option Int → Option Int → Hp → VK → Prop) : Prop :=
  ∀ (pins : List (Addr × Obj)) (s : Shared) (σ : St) (H : Hp) (x : V) (v vl vu : Value) (lo hi : Option Int) (sl : Addr) (Q : VK), Inv X pins σ H s → RelV x v → s.heap.IsSliceOf sl vl vu .none → IsPart vl lo → IsPart vu hi → r x lo hi H Q →
    ∃ T id, typeLookup (.type T) "__getitem__" = pure (some (.builtin id)) ∧ s.TypeIs v T ∧ wpAny (model X.prog X.w) X.A (getItem v (.ref sl)) (EP X pins σ Q) X.xe s
noncomputable def tSl (r : V → Option Int → Option Int → Hp → VK → Prop) (te : TE) (tl th : TO) : TE := fun σ H Q => te σ H fun x H1 => tl σ H1 fun l H2 => th σ H2 fun u H3 => r x l u H3 Q
theorem pe_slice {r : V → Option Int → Option Int → Hp → VK → Prop} (hr : SlR X r) (he : PE X e te) (hl : PO X lo tl) (hu : PO X hi th) : PE X (.Subscript e (.Slice lo hi none p2) pos) (tSl r te tl th) := by
  intro pins s σ H Q I h
  refine Subscript_ (thn (he pins s σ H _ I h) fun v s1 ⟨x, H1, I1, r1, q1⟩ => ?_)
  refine wpAny_Slice (thn (hl pins s1 σ H1 _ I1 q1) fun vl s2 ⟨l, H2, I2, pl, q2⟩ => thn (hu pins s2 σ H2 _ I2 q2) fun vu s3 ⟨u, H3, I3, pu, q3⟩ => ?_)
  rw [evalPart_none]
  refine wpAny_pure ?_
  have I4 : Inv X pins σ H3 { s3 with heap := s3.heap.push { cls := .type "slice", data := .fields #[vl, vu, .none] } } := I3.kept (t' := s3.toks) fun b ob q => Heap.get?_push_of_some _ q
  obtain ⟨T, id, hT, ht, hg⟩ := hr pins { s3 with heap := s3.heap.push { cls := .type "slice", data := .fields #[vl, vu, .none] } } σ H3 x v vl vu l u s3.heap.objs.size Q I4 r1 (Heap.IsSliceOf.new ..) pl pu q3
  show wpAny (model X.prog X.w) X.A (subscriptTail e (.Slice lo hi none p2) v (.ref s3.heap.objs.size)) (EP X pins σ Q) X.xe { s3 with heap := s3.heap.push { cls := .type "slice", data := .fields #[vl, vu, .none] } }
  exact tail_any (ops := [.ref s3.heap.objs.size, v]) ht hT hg (by with_unfolding_all rfl)
noncomputable def cutV (xs : List V) (lo hi : Option Int) : List V := (xs.drop (HT.sIx xs.length 0 lo)).take (HT.sIx xs.length xs.length hi - HT.sIx xs.length 0 lo)
theorem cutV_length (xs : List V) (lo hi : Option Int) : (cutV xs lo hi).length ≤ xs.length := by
  unfold cutV
  rw [List.length_take, List.length_drop]
  omega
noncomputable def rSlT (K : PySem.W.Frag) : V → Option Int → Option Int → Hp → VK → Prop := fun x lo hi H Q => ∃ a xs, x = .ref a ∧ SqT K H a xs ∧
  ¬ (HT.sIx xs.length 0 lo = 0 ∧ HT.sIx xs.length xs.length hi = xs.length) ∧ ∀ p, H p = none → Q (.ref p) (upd H p (.tup (cutV xs lo hi)))
theorem sl_tup : SlR X (rSlT X.K) := by
  intro pins s σ H x v vl vu lo hi sl Q I rx hs pl pu h
  obtain ⟨a, xs, rfl, hx, hw, q⟩ := h
  cases rx
  obtain ⟨its, r, ht, hz⟩ := I.tuple hx
  have hlen : its.toArray.size = xs.length := by rw [List.size_toArray]; exact r.length.symm
  refine ⟨"tuple", _, PyProof.Rows.slot_tuple_getitem.lookup, ht.typeIs, ?_⟩
  refine HT.getItem_tuple_cut ht hs pl pu (by rw [hlen]; exact hw) ?_ (by rw [hlen]; exact hz)
  rw [hlen]
  refine ⟨.ref s.heap.objs.size, _, I.laid (t' := s.toks) (o := .tup (cutV xs lo hi)) (fun b ob q => Heap.get?_push_of_some _ q) (Nat.le_refl _) ?_, rfl, q _ (I.hok.fresh (Nat.le_refl _))⟩
  exact ⟨Nat.le_trans (cutV_length xs lo hi) hz, _, (r.drop (HT.sIx xs.length 0 lo)).take (HT.sIx xs.length xs.length hi - HT.sIx xs.length 0 lo), IsTup.new _ _⟩
noncomputable def rCatT (K : PySem.W.Frag) : R2 := fun x y H Q => ∃ a b xs ys, x = .ref a ∧ y = .ref b ∧ SqT K H a xs ∧ SqT K H b ys ∧ xs ≠ [] ∧ xs.length + ys.length ≤ sizeLine ∧
  (ys = [] → Q (.ref a) H) ∧ (ys ≠ [] → ∀ p, H p = none → Q (.ref p) (upd H p (.tup (xs ++ ys))))
theorem Vals.nil_iff {xs : List V} {us : List Value} (r : Vals xs us) : us = [] ↔ xs = [] := by
  cases r with
  | nil => simp
  | cons _ _ => simp
theorem op_catT : OpR X (binaryOp .Add) (rCatT X.K) := by
  intro pins s σ H x y v u Q I rx ry h
  obtain ⟨a, b, xs, ys, rfl, rfl, ha, hb, hx, hz, q1, q2⟩ := h
  cases rx
  cases ry
  obtain ⟨its, r1, p1, _⟩ := I.tuple ha
  obtain ⟨its2, r2, p2, _⟩ := I.tuple hb
  refine HT.cat_tup p1 p2 (fun z => hx (r1.nil_iff.mp z)) (fun z => ⟨.ref a, H, I, rfl, q1 (r2.nil_iff.mp z)⟩) (fun z => ?_) (by rw [← r1.length, ← r2.length]; exact hz)
  refine ⟨.ref s.heap.objs.size, _, I.laid (t' := s.toks) (o := .tup (xs ++ ys)) (fun b ob q => Heap.get?_push_of_some _ q) (Nat.le_refl _) ?_, rfl, q2 (fun w => z (r2.nil_iff.mpr w)) _ (I.hok.fresh (Nat.le_refl _))⟩
  exact ⟨by rw [List.length_append]; exact hz, _, r1.append r2, IsTup.new _ _⟩
end
end L2
namespace L2
open PySem PySem.Spec PyProof.Rows
noncomputable def ixN (n : Nat) (i : Int) : Option Nat := if 0 ≤ i then (if i < n then some i.toNat else none) else if -(n : Int) ≤ i then some (i + n).toNat else none
noncomputable def atI {α : Type} (xs : List α) (i : Int) : Option α := (ixN xs.length i).bind fun j => xs[j]?
theorem ixN_seq {n : Nat} {i : Int} {j : Nat} (h : ixN n i = some j) : seqIndex? i n = some j ∧ j < n ∧ -(n : Int) ≤ i ∧ i < n := by
  unfold ixN at h
  by_cases h0 : 0 ≤ i
  · rw [if_pos h0] at h
    by_cases h1 : i < n
    · rw [if_pos h1] at h
      have e : i.toNat = j := Option.some.inj h
      exact ⟨by rw [seqIndex_of h0 h1, e], by omega, by omega, h1⟩
    · rw [if_neg h1] at h; cases h
  · rw [if_neg h0] at h
    by_cases h1 : -(n : Int) ≤ i
    · rw [if_pos h1] at h
      have e : (i + n).toNat = j := Option.some.inj h
      exact ⟨by rw [seqIndex_neg (by omega) h1, e], by omega, h1, by omega⟩
    · rw [if_neg h1] at h; cases h
theorem atI_get {α : Type} {xs : List α} {i : Int} {v : α} (h : atI xs i = some v) : ∃ j, seqIndex? i xs.length = some j ∧ xs[j]? = some v ∧ j < xs.length ∧ -(xs.length : Int) ≤ i ∧ i < xs.length := by
  unfold atI at h
  cases e : ixN xs.length i with
  | none => rw [e] at h; cases h
  | some j =>
    rw [e] at h
    obtain ⟨h1, h2, h3, h4⟩ := ixN_seq e
    exact ⟨j, h1, h, h2, h3, h4⟩
theorem atI_nat {α : Type} {xs : List α} {j : Nat} {v : α} (h : xs[j]? = some v) : atI xs (j : Int) = some v := by
  have hj : j < xs.length := (List.getElem?_eq_some_iff.mp h).1
  have e : ixN xs.length (j : Int) = some j := by
    unfold ixN
    rw [if_pos (by omega), if_pos (by omega)]; simp
  unfold atI; rw [e]; exact h
noncomputable def PlainIx (b : Expr) : Prop := ∀ o i, subscripted b false o i = operate [o, i] (getItem o i)
noncomputable def IxR (X : Cx) (r : R2) : Prop :=
  ∀ (value slice : Expr) (pins : List (Addr × Obj)) (s : Shared) (σ : St) (H : Hp) (x y : V) (v u : Value) (Q : VK), Inv X pins σ H s → RelV x v → RelV y u → r x y H Q →
    subscripted slice false v u = operate [v, u] (getItem v u) → wpAny (model X.prog X.w) X.A (subscriptTail value slice v u) (EP X pins σ Q) X.xe s
noncomputable def MtR (X : Cx) (id : String) (r : V → List V → Hp → VK → Prop) : Prop :=
  ∀ (pins : List (Addr × Obj)) (s : Shared) (σ : St) (H : Hp) (x : V) (xs : List V) (v : Value) (us : List Value) (Q : VK), Inv X pins σ H s → RelV x v → Vals xs us → r x xs H Q →
    wpAny (model X.prog X.w) X.A (call (.builtin id) (v :: us)) (EP X pins σ Q) X.xe s
section
variable {X : Cx} {a b : Expr} {ta tb : TE} {pos : Pos}
theorem pe_ix {r : R2} (hr : IxR X r) (ha : PE X a ta) (hb : PE X b tb) (hs : PlainIx b) : PE X (.Subscript a b pos) (tOp r ta tb) := by
  intro pins s σ H Q I h
  exact Subscript_ (binT ha hb I h fun v u s2 x y H2 I2 rx ry q => hr a b pins s2 σ H2 x y v u Q I2 rx ry q (hs _ _))
noncomputable def rIxL (K : PySem.W.Frag) : R2 := fun x y H Q => ∃ p xs i v, x = .ref p ∧ y = .int i ∧ SqL K H p xs ∧ atI xs i = some v ∧ Q v H
noncomputable def rIxT (K : PySem.W.Frag) : R2 := fun x y H Q => ∃ p xs i v, x = .ref p ∧ y = .int i ∧ SqT K H p xs ∧ atI xs i = some v ∧ Q v H
theorem ix_list : IxR X (rIxL X.K) := by
  intro value slice pins s σ H x y v u Q I rx ry h hs
  obtain ⟨p, xs, i, z, rfl, rfl, hq, he, q⟩ := h
  cases rx
  obtain ⟨t, rfl⟩ := ry
  obtain ⟨its, r, pl, hz⟩ := I.list hq
  obtain ⟨j, h1, h2, h3, h4, h5⟩ := atI_get he
  obtain ⟨w, ew, rw'⟩ := r.get h2
  have hl := r.length
  have hn := line63
  have fin : EP X pins σ Q w s := ⟨z, H, I, rw', q⟩
  by_cases h0 : 0 ≤ i
  · have hj : i.toNat = j := by
      rw [seqIndex_of h0 h5] at h1
      exact Option.some.inj h1
    exact item_listR pl.isList h0 (by omega) (by rw [hj]; simpa using ew) fin hs
  · have hj : (i + (its.toArray.size : Int)).toNat = j := by
      rw [seqIndex_neg (by omega) h4] at h1
      rw [List.size_toArray, ← hl]
      exact Option.some.inj h1
    exact subscriptTail_builtinR (x := w) pl.isList.typeIs slot_list_getitem.lookup
      (wpAny_getItem_list_neg (Q := fun r s' => r = w ∧ EP X pins σ Q r s') pl.isList (by omega) (by rw [List.size_toArray] <;> omega) (by omega) (by rw [hj]; simpa using ew) ⟨rfl, fin⟩) hs
theorem ix_tup : IxR X (rIxT X.K) := by
  intro value slice pins s σ H x y v u Q I rx ry h hs
  obtain ⟨p, xs, i, z, rfl, rfl, hq, he, q⟩ := h
  cases rx
  obtain ⟨t, rfl⟩ := ry
  obtain ⟨its, r, pl, hz⟩ := I.tuple hq
  obtain ⟨j, h1, h2, h3, h4, h5⟩ := atI_get he
  obtain ⟨w, ew, rw'⟩ := r.get h2
  have hl := r.length
  have hn := line63
  have fin : EP X pins σ Q w s := ⟨z, H, I, rw', q⟩
  exact subscriptTail_builtinR (x := w) pl.typeIs slot_tuple_getitem.lookup
    (getItem_tuple (j := j) (Q := fun r s' => r = w ∧ EP X pins σ Q r s') pl (by omega) (by omega) (by rw [List.size_toArray, ← hl]; exact h1) (by simpa using ew) ⟨rfl, fin⟩) hs
theorem slice_bounds (lo hi : Option Int) (n : Nat) : (sliceBounds lo hi none n).1 = ((HT.sIx n 0 lo : Nat) : Int) ∧ (sliceBounds lo hi none n).2.1 = ((HT.sIx n n hi : Nat) : Int) ∧ (sliceBounds lo hi none n).2.2 = 1 := by
  refine ⟨?_, ?_, rfl⟩
  · cases lo with
    | none => simp [sliceBounds, HT.sIx]
    | some i =>
      simp only [sliceBounds, HT.sIx, Option.getD_none, show (1 : Int) > 0 by decide, if_true]
      by_cases h : i < 0
      · simp only [h, if_true] <;> omega
      · simp only [h, if_false] <;> omega
  · cases hi with
    | none => simp [sliceBounds, HT.sIx]
    | some i =>
      simp only [sliceBounds, HT.sIx, Option.getD_none, show (1 : Int) > 0 by decide, if_true]
      by_cases h : i < 0
      · simp only [h, if_true] <;> omega
      · simp only [h, if_false] <;> omega
theorem slicePick_cut (its : List Value) (lo hi : Option Int) : slicePick its.toArray lo hi none = ((its.drop (HT.sIx its.length 0 lo)).take (HT.sIx its.length its.length hi - HT.sIx its.length 0 lo)).toArray := by
  obtain ⟨h1, h2, h3⟩ := slice_bounds lo hi its.toArray.size
  unfold slicePick
  rw [h1, h2, h3]
  simp only [sliceRange_one, pick_run, List.size_toArray] <;> rfl
noncomputable def rSlL (K : PySem.W.Frag) : V → Option Int → Option Int → Hp → VK → Prop := fun x lo hi H Q => ∃ a xs, x = .ref a ∧ SqL K H a xs ∧ ∀ p, H p = none → Q (.ref p) (upd H p (.lst (cutV xs lo hi)))
theorem sl_list : SlR X (rSlL X.K) := by
  intro pins s σ H x v vl vu lo hi sl Q I rx hs pl pu h
  obtain ⟨a, xs, rfl, hx, q⟩ := h
  cases rx
  obtain ⟨its, r, ht, hz⟩ := I.list hx
  have hlen := r.length
  refine ⟨"list", _, slot_list_getitem.lookup, ht.isList.typeIs, ?_⟩
  refine wpAny_getItem_list_slice ht.isList hs pl pu .none (by simp) ?_ (by rw [List.size_toArray] <;> omega)
  rw [slicePick_cut, ← hlen]
  refine ⟨.ref s.heap.objs.size, _, I.laid (t' := s.toks) (o := .lst (cutV xs lo hi)) (fun b ob q => Heap.get?_push_of_some _ q) (Nat.le_refl _) ?_, rfl, q _ (I.hok.fresh (Nat.le_refl _))⟩
  exact ⟨Nat.le_trans (cutV_length xs lo hi) hz, _, 0, (r.drop (HT.sIx xs.length 0 lo)).take (HT.sIx xs.length xs.length hi - HT.sIx xs.length 0 lo), Heap.get?_push_size _ rfl⟩
noncomputable def flatV : V → Bool
  | .non => true
  | .bl _ => true
  | .int _ => true
  | .str _ => true
  | _ => false
noncomputable def eqV : V → V → Bool
  | .non, .non => true
  | .bl a, .bl b => a == b
  | .bl a, .int b => (if a then 1 else 0) == b
  | .int a, .bl b => a == (if b then 1 else 0)
  | .int a, .int b => a == b
  | .str a, .str b => a == b
  | _, _ => false
theorem eqAt_V {A : Around} {s : Shared} {y x : V} {u v : Value} (ry : RelV y u) (rx : RelV x v) (fy : flatV y = true) (fx : flatV x = true) : SeqAt.EqAt A s u v (eqV y x) := by
  cases y with
  | non =>
    cases ry
    cases x with
    | non => cases rx; exact SeqAt.EqAt.same _
    | bl b => cases rx; exact SeqAt.EqAt.none_bool b
    | int b => obtain ⟨t, rfl⟩ := rx; exact SeqAt.EqAt.none_int b t
    | str b => obtain ⟨t, rfl⟩ := rx; exact SeqAt.EqAt.none_str b t
    | _ => exact absurd (show false = true from fx) Bool.false_ne_true
  | bl a =>
    cases ry
    cases x with
    | non => cases rx; exact SeqAt.EqAt.bool_none a
    | bl b => cases rx; exact SeqAt.EqAt.bool_bool a b
    | int b => obtain ⟨t, rfl⟩ := rx; exact SeqAt.EqAt.bool_int a b t
    | str b => obtain ⟨t, rfl⟩ := rx; exact SeqAt.EqAt.bool_str a b t
    | _ => exact absurd (show false = true from fx) Bool.false_ne_true
  | int a =>
    obtain ⟨t', rfl⟩ := ry
    cases x with
    | non => cases rx; exact SeqAt.EqAt.int_none a t'
    | bl b => cases rx; exact SeqAt.EqAt.int_bool a t' b
    | int b => obtain ⟨t, rfl⟩ := rx; exact SeqAt.EqAt.int_int a t' b t
    | str b => obtain ⟨t, rfl⟩ := rx; exact SeqAt.EqAt.int_str a t' b t
    | _ => exact absurd (show false = true from fx) Bool.false_ne_true
  | str a =>
    obtain ⟨t', rfl⟩ := ry
    cases x with
    | non => cases rx; exact SeqAt.EqAt.str_none a t'
    | bl b => cases rx; exact SeqAt.EqAt.str_bool a t' b
    | int b => obtain ⟨t, rfl⟩ := rx; exact SeqAt.EqAt.str_int a t' b t
    | str b => obtain ⟨t, rfl⟩ := rx; exact SeqAt.EqAt.str_str a t' b t
    | _ => exact absurd (show false = true from fx) Bool.false_ne_true
  | _ => exact absurd (show false = true from fy) Bool.false_ne_true
theorem call_len_seq : CallR X (.builtin "len") (fun xs H Q => ∃ p ys, xs = [.ref p] ∧ (SqL X.K H p ys ∨ SqT X.K H p ys) ∧ Q (.int ys.length) H) := by
  intro pins s σ H xs us Q I r h
  obtain ⟨p, ys, rfl, hq, q⟩ := h
  obtain ⟨u, rfl, rx⟩ := vals1 r
  cases rx
  have hn := line63
  rcases hq with hq | hq
  · obtain ⟨its, r', pl, hz⟩ := I.list hq
    have hlen := r'.length
    exact Calls.call_len_list pl.isList (by simp only [List.size_toArray] <;> omega) ⟨.int ys.length, H, I.tok _, ⟨s.toks + 1, by rw [List.size_toArray, hlen]⟩, q⟩
  · obtain ⟨its, r', pl, hz⟩ := I.tuple hq
    have hlen := r'.length
    exact len_tuple pl (by simp only [List.size_toArray] <;> omega) ⟨.int ys.length, H, I.tok _, ⟨s.toks + 1, by rw [List.size_toArray, hlen]⟩, q⟩
theorem call_list_of : CallR X (.type "list") (fun xs H Q => ∃ p ys, xs = [.ref p] ∧ (SqL X.K H p ys ∨ SqT X.K H p ys) ∧ ∀ l, H l = none → Q (.ref l) (upd H l (.lst ys))) := by
  intro pins s σ H xs us Q I r h
  obtain ⟨p, ys, rfl, hq, q⟩ := h
  obtain ⟨u, rfl, rx⟩ := vals1 r
  cases rx
  have fin : ∀ (its : List Value), Vals ys its → ys.length ≤ sizeLine → ∀ (h' : Heap) (c' : Nat), (∀ b o', s.heap.get? b = some o' → h'.get? b = some o') →
      h'.get? s.heap.objs.size = some { cls := .type "list", dict := none, data := .seq its.toArray c', slots := #[] } → EP X pins σ Q (.ref s.heap.objs.size) { s with heap := h' } := fun its r' hz h' c' kp e =>
    ⟨.ref s.heap.objs.size, _, I.laid (t' := s.toks) kp (Nat.le_refl _) (show ObjOk X.prog X.w _ h' _ (.lst ys) from ⟨hz, its, c', r', e⟩), rfl, q _ (I.hok.fresh (Nat.le_refl _))⟩
  rcases hq with hq | hq
  · obtain ⟨its, r', pl, hz⟩ := I.list hq
    have hlen := r'.length
    obtain ⟨o, ho, hc, n, hd⟩ := pl.isList
    exact call_list_seq p (.inl rfl) ho hc hd (fun h' c' kp e => fin its r' hz h' c' kp e) (by simp only [List.size_toArray] <;> omega)
  · obtain ⟨its, r', pl, hz⟩ := I.tuple hq
    have hlen := r'.length
    obtain ⟨o, ho, hc, n, hd⟩ := pl
    exact call_list_seq p (.inr rfl) ho hc hd (fun h' c' kp e => fin its r' hz h' c' kp e) (by simp only [List.size_toArray] <;> omega)
theorem call_tuple_of : CallR X (.type "tuple") (fun xs H Q => ∃ p ys, xs = [.ref p] ∧ ((SqL X.K H p ys ∧ ∀ l, H l = none → Q (.ref l) (upd H l (.tup ys))) ∨ (SqT X.K H p ys ∧ Q (.ref p) H))) := by
  intro pins s σ H xs us Q I r h
  obtain ⟨p, ys, rfl, h⟩ := h
  obtain ⟨u, rfl, rx⟩ := vals1 r
  cases rx
  rcases h with ⟨hq, q⟩ | ⟨hq, q⟩
  · obtain ⟨its, r', pl, hz⟩ := I.list hq
    have hlen := r'.length
    refine call_tuple_list pl.isList (fun h' kp => ?_) (by simp only [List.size_toArray] <;> omega)
    have I1 : Inv X pins σ H { s with heap := h' } := I.kept (t' := s.toks) kp
    have I2 : Inv X pins σ (upd H h'.objs.size (.tup ys)) { s with heap := h'.push { cls := .type "tuple", data := .seq its.toArray } } :=
      I1.laid (t' := s.toks) (fun b o e => Heap.get?_push_of_some _ e) (Nat.le_refl _) (show ObjOk X.prog X.w _ _ _ (.tup ys) from ⟨hz, its, r', IsTup.new _ _⟩)
    exact ⟨.ref h'.objs.size, _, I2, rfl, q _ (I1.hok.fresh (Nat.le_refl _))⟩
  · obtain ⟨its, r', pl, hz⟩ := I.tuple hq
    exact call_tuple_same pl ⟨.ref p, H, I, rfl, q⟩
noncomputable def tyV (K : PySem.W.Frag) (T : String) (x : V) (H : Hp) : Prop := match x with
  | .str _ => T = "str"
  | .int _ => T = "int"
  | .ref p => (T = "list" ∧ ∃ xs, SqL K H p xs) ∨ (T = "tuple" ∧ ∃ o, K.lookup p = some o ∧ o.cls = .type "tuple" ∧ o.dict = none) ∨
      (T = "dict" ∧ ((∃ kvs, H p = some (.dK kvs)) ∨ ∃ kvs, H p = some (.dT kvs))) ∨ (T = "set" ∧ ∃ S n, H p = some (.set S n))
  | _ => False
theorem tyV_is {pins : List (Addr × Obj)} {σ : St} {H : Hp} {s : Shared} {T : String} {x : V} {v : Value} (I : Inv X pins σ H s) (r : RelV x v) (ty : tyV X.K T x H) :
    s.TypeIs v T ∧ ∀ a, v = .ref a → ∃ ob, s.heap.get? a = some ob ∧ ob.dict = none := by
  cases x with
  | str z =>
    obtain ⟨t, rfl⟩ := r
    cases (show T = "str" from ty)
    exact ⟨typeIs_str s z t, fun _ e => nomatch e⟩
  | int i =>
    obtain ⟨t, rfl⟩ := r
    cases (show T = "int" from ty)
    exact ⟨typeIs_int s i t, fun _ e => nomatch e⟩
  | ref p =>
    cases r
    rcases ty with ⟨rfl, xs, hq⟩ | ⟨rfl, o, hk, hc, hd⟩ | ⟨rfl, hk⟩ | ⟨rfl, S, n, hk⟩
    · obtain ⟨its, _, pl, _⟩ := I.list hq
      refine ⟨pl.isList.typeIs, fun a e => ?_⟩
      cases e
      obtain ⟨o, n, e, c, hd, _⟩ := pl
      exact ⟨o, e, hd⟩
    · refine ⟨⟨o, I.kIn p o hk, hc⟩, fun a e => ?_⟩
      cases e
      exact ⟨o, I.kIn _ o hk, hd⟩
    · have z : ∃ o, s.heap.get? p = some o ∧ o.ExactDict := by
        rcases hk with ⟨kvs, hk⟩ | ⟨kvs, hk⟩
        · obtain ⟨_, _, _, _, o, _, _, e, ex, _⟩ := I.hok p _ hk
          exact ⟨o, e, ex⟩
        · obtain ⟨_, _, _, _, o, _, _, e, ex, _⟩ := I.hok p _ hk
          exact ⟨o, e, ex⟩
      obtain ⟨o, e, ex⟩ := z
      refine ⟨⟨o, e, ex.1⟩, fun a e2 => ?_⟩
      cases e2
      exact ⟨o, e, ex.2.1⟩
    · obtain ⟨o, _, _, _, e, ex, _⟩ := I.hok p _ hk
      refine ⟨⟨o, e, ex.1⟩, fun a e2 => ?_⟩
      cases e2
      exact ⟨o, e, ex.2.1⟩
  | _ => exact False.elim ty
noncomputable def tBM0 (K : PySem.W.Frag) (T : String) (r : V → List V → Hp → VK → Prop) (to : TE) : TE := fun σ H Q => to σ H fun x H1 => tyV K T x H1 ∧ r x [] H1 Q
noncomputable def tBM (K : PySem.W.Frag) (T : String) (r : V → List V → Hp → VK → Prop) (to : TE) (t : TA) : TE := fun σ H Q => to σ H fun x H1 => tyV K T x H1 ∧ t σ H1 fun xs H2 => r x xs H2 Q
variable {o e : Expr} {es : List Expr} {to : TE} {t : TA} {name : Str} {apos cpos : Pos} {T id : String} {r : V → List V → Hp → VK → Prop}
theorem pe_bm0 (pa : PlainAttrs T) (slot : Slot T name id) (hty : typeOf (.builtin id) = pure (.type "method_descriptor")) (hm : MtR X id r) (ho : PE X o to)
    (hbase : attributeBase o name X.env (eval o X.env) = eval o X.env := by rfl) (hline : (apos.endLine == cpos.line) = true := by rfl) : PE X (.Call (.Attribute o name apos) [] [] cpos) (tBM0 X.K T r to) := by
  intro pins s σ H Q I h
  refine wpAny_Call_method0_late hbase hline (thn (ho pins s σ H _ I h) fun v s1 ⟨x, H1, I1, r1, ty, q1⟩ => ?_)
  obtain ⟨h1, h2⟩ := tyV_is I1 r1 ty
  exact ⟨T, id, pa, slot, hty, h1, h2, Calls.callWith_builtin rfl (PySem.evalArgs_none (hm pins s1 σ H1 x [] v [] Q I1 r1 .nil q1))⟩
theorem pe_bm (pa : PlainAttrs T) (slot : Slot T name id) (hty : typeOf (.builtin id) = pure (.type "method_descriptor")) (hm : MtR X id r) (ho : PE X o to) (ha : PA X (e :: es) t)
    (hbase : attributeBase o name X.env (eval o X.env) = eval o X.env := by rfl)
    (hfew : ((backTo cpos (starEach (e :: es) X.env)).all (fun x => !x.1) && (backToKw cpos (keywordEach [] X.env)).all (fun x => x.1.isSome)
      && decide ((e :: es).length + ([] : List Keyword).length + (if ([] : List Keyword).isEmpty then 0 else 1) < 30)) = true := by rfl)
    (hline : (apos.endLine == cpos.line) = true := by rfl) (hs : starEach (e :: es) X.env = (false, eval e X.env) :: starEach es X.env := by rfl) (hplain : (backTo cpos (starEach es X.env)).any (·.1) = false := by rfl) :
    PE X (.Call (.Attribute o name apos) (e :: es) [] cpos) (tBM X.K T r to t) := by
  intro pins s σ H Q I h
  refine wpAny_Call_method_late hbase hfew hline rfl (thn (ho pins s σ H _ I h) fun v s1 ⟨x, H1, I1, r1, ty, q1⟩ => ?_)
  obtain ⟨h1, h2⟩ := tyV_is I1 r1 ty
  refine ⟨T, id, pa, slot, hty, h1, h2, ?_⟩
  have hA := ha cpos pins s1 σ H1 _ I1 q1
  rw [hs] at hA ⊢
  refine Calls.callWith_builtin (by show (false || (backTo cpos (starEach es X.env)).any (·.1)) = false; rw [hplain] <;> rfl) (Calls.evalArgs_plain ?_)
  exact thn hA fun us s2 ⟨vs, H2, I2, r2, q2⟩ => hm pins s2 σ H2 x vs v us Q I2 r1 r2 q2
end
end L2
namespace L2
open PySem PySem.Spec PyProof.Rows
noncomputable def MtM (X : Cx) (id : String) (r : V → List V → Hp → VK → Prop) : Prop :=
  ∀ (pins : List (Addr × Obj)) (s : Shared) (σ : St) (H : Hp) (x : V) (xs : List V) (v : Value) (us : List Value) (Q : VK), Inv X pins σ H s → RelV x v → Vals xs us → r x xs H Q →
    wpAny (model X.prog X.w) X.A (call (.builtin id) (v :: us)) (EP X pins σ Q) X.xe s
theorem Vals.one : ∀ {x : V} {us : List Value}, Vals [x] us → ∃ u, us = [u] ∧ RelV x u
  | _, _, .cons r .nil => ⟨_, rfl, r⟩
theorem Vals.zero : ∀ {us : List Value}, Vals [] us → us = []
  | _, .nil => rfl
theorem Vals.reverse {xs : List V} {us : List Value} (h : Vals xs us) : Vals xs.reverse us.reverse := by
  induction h with
  | nil => exact .nil
  | cons r t ih => rw [List.reverse_cons, List.reverse_cons]; exact Vals.append ih (.cons r .nil)
section
variable {X : Cx} {pins : List (Addr × Obj)} {σ : St} {H : Hp} {s : Shared} {l b : Addr} {xs ys zs : List V}
theorem Inv.lset {its its' : List Value} {n : Nat} {f : Array Value → Array Value} {t' : Nat} (I : Inv X pins σ H s) (hH : H l = some (.lst xs))
    (e : s.heap.get? l = some { cls := .type "list", data := .seq its.toArray n }) (hf : f its.toArray = its'.toArray) (hv : Vals ys its') (hz : ys.length ≤ sizeLine) :
    Inv X pins σ (upd H l (.lst ys)) { s with heap := s.heap.update l (Obj.mapSeq f), toks := t' } := by
  have q := PySem.IsL.update e f
  rw [hf] at q
  refine I.write (x := l) (e := l) (by rw [hH]; exact trivial) (.inl rfl) (fun b' u hb hu => (Heap.get?_update_other s.heap (Obj.mapSeq f) (Ne.symm hb)).trans hu) ⟨_, q⟩ ?_
  exact ⟨hz, its', _, hv, q⟩
theorem Inv.lnew {its : List Value} {t' : Nat} (I : Inv X pins σ H s) (hv : Vals ys its) (hz : ys.length ≤ sizeLine) :
    Inv X pins σ (upd H s.heap.objs.size (.lst ys)) { s with heap := s.heap.push { cls := .type "list", data := .seq its.toArray }, toks := t' } :=
  I.laid (fun _ _ q => Heap.get?_push_of_some _ q) (Nat.le_refl _) ⟨hz, its, 0, hv, Heap.get?_push_size _ rfl⟩
theorem Inv.fresh (I : Inv X pins σ H s) : H s.heap.objs.size = none := I.hok.fresh (Nat.le_refl _)
theorem Inv.lstM (I : Inv X pins σ H s) (hH : H l = some (.lst xs)) : xs.length ≤ sizeLine ∧ ∃ (its : List Value) (n : Nat), Vals xs its ∧ xs.length = its.length ∧ s.heap.get? l = some { cls := .type "list", data := .seq its.toArray n } := by
  obtain ⟨z, its, n, r, e⟩ := I.hok l _ hH
  exact ⟨z, its, n, r, r.length, e⟩
end
section
variable {X : Cx}
noncomputable def rAppend : V → List V → Hp → VK → Prop := fun x vs H Q => ∃ l xs y, x = .ref l ∧ vs = [y] ∧ H l = some (.lst xs) ∧ xs.length < sizeLine ∧ Q .non (upd H l (.lst (xs ++ [y])))
theorem mt_append : MtM X "list.append" rAppend := by
  intro pins s σ H x vs v us Q I rx rv h
  obtain ⟨l, xs, y, rfl, rfl, hH, hz, q⟩ := h
  cases rx
  obtain ⟨u, rfl, ru⟩ := rv.one
  obtain ⟨z, its, n, r, hl, e⟩ := I.lstM hH
  refine call_meets F.slot_list_append ⟨_, e, rfl⟩ F.entry_list_append (F.args_list_append_2 _ _) (PySem.list_append l its.toArray n u (by rw [List.size_toArray]; omega)) ⟨e, ?_⟩
  refine ⟨.non, _, I.lset (its' := its ++ [u]) hH e (by simp) (r.append (.cons ru .nil)) ?_, rfl, q⟩
  rw [List.length_append, List.length_singleton]
  omega
noncomputable def rReverse : V → List V → Hp → VK → Prop := fun x vs H Q => ∃ l xs, x = .ref l ∧ vs = [] ∧ H l = some (.lst xs) ∧ Q .non (upd H l (.lst xs.reverse))
theorem mt_reverse : MtM X "list.reverse" rReverse := by
  intro pins s σ H x vs v us Q I rx rv h
  obtain ⟨l, xs, rfl, rfl, hH, q⟩ := h
  cases rx
  have hus := rv.zero
  subst hus
  obtain ⟨z, its, n, r, hl, e⟩ := I.lstM hH
  refine call_meets F.slot_list_reverse ⟨_, e, rfl⟩ F.entry_list_reverse (F.args_list_reverse_1 _) (AutoSeq1.list_reverse_list_0 l its.toArray n (by rw [List.size_toArray]; omega)) ⟨e, ?_⟩
  refine ⟨.non, _, I.lset (its' := its.reverse) hH e (by simp) r.reverse ?_, rfl, q⟩
  rw [List.length_reverse]
  omega
noncomputable def rClear : V → List V → Hp → VK → Prop := fun x vs H Q => ∃ l xs, x = .ref l ∧ vs = [] ∧ H l = some (.lst xs) ∧ Q .non (upd H l (.lst []))
theorem mt_clear : MtM X "list.clear" rClear := by
  intro pins s σ H x vs v us Q I rx rv h
  obtain ⟨l, xs, rfl, rfl, hH, q⟩ := h
  cases rx
  have hus := rv.zero
  subst hus
  obtain ⟨z, its, n, r, hl, e⟩ := I.lstM hH
  refine call_meets F.slot_list_clear ⟨_, e, rfl⟩ F.entry_list_clear (F.args_list_clear_1 _) (AutoSeq1.list_clear_list_0 l its.toArray n (by rw [List.size_toArray]; omega)) ⟨e, ?_⟩
  exact ⟨.non, _, I.lset (its' := []) (ys := []) hH e rfl .nil (Nat.zero_le _), rfl, q⟩
noncomputable def rCat : R2 := fun x y H Q => ∃ l b xs zs, x = .ref l ∧ y = .ref b ∧ H l = some (.lst xs) ∧ H b = some (.lst zs) ∧ xs.length + zs.length ≤ sizeLine ∧ ∀ p, H p = none → Q (.ref p) (upd H p (.lst (xs ++ zs)))
theorem op_cat : OpR X (binaryOp .Add) rCat := by
  intro pins s σ H x y v u Q I rx ry h
  obtain ⟨l, b, xs, zs, rfl, rfl, hH, hB, hz, q⟩ := h
  cases rx
  cases ry
  obtain ⟨z, its, n, r, hl, e⟩ := I.lstM hH
  obtain ⟨z2, its2, n2, r2, hl2, e2⟩ := I.lstM hB
  refine PySem.P.add_list e e2 ?_ (by rw [List.size_toArray, List.size_toArray]; omega)
  have ea : its.toArray ++ its2.toArray = (its ++ its2).toArray := by simp
  rw [ea]
  exact ⟨.ref _, _, I.lnew (t' := s.toks) (r.append r2) (by rw [List.length_append]; omega), rfl, q _ I.fresh⟩
end
section
variable {prog : Program} {w : World} {A : Around} {E : Value → Shared → Prop} {s : Shared}
end
section
variable {X : Cx}
end
end L2
namespace Att
open PySem PySem.W PySem.Calls PyProof.Rows
theorem ints_of_wellAll {P : Params} {h : Heap} : ∀ (ns : List Int) (vs : List Value), WellAll P h vs (ns.map WData.int) → IntsAre vs ns := by
  intro ns
  induction ns with
  | nil =>
    intro vs w
    rw [List.map_nil] at w
    cases w
    exact .nil
  | cons n ns ih =>
    intro vs w
    rw [List.map_cons] at w
    cases w with
    | cons a b =>
      cases a
      exact .cons _ _ (ih _ b)
theorem script_of {l : OpenLaw} {n : Nat} (hn : l.most = some n) {P : Params} {h : Heap} {args : List WData} {vals : List Value}
    (hpre : l.row.toRowW.claim.pre args = true) (hwl : WellAll P h vals args) :
    ∃ a vs ns, vals = [Value.ref a] ∧ args = [WData.list (ns.map WData.int)] ∧ h.get? a = some { cls := .type "list", data := .seq vs.toArray } ∧ IntsAre vs ns ∧ ns.length ≤ n := by
  have hsh : WShape.hasAll [] args [.list .int] = true := (pre_splitW hpre).1
  have hc : l.pre.holds [] { args := args } = true := (pre_splitW hpre).2
  obtain ⟨d, r, rfl, h1, h2⟩ := hasAllW_cons hsh
  obtain rfl := hasAllW_nil h2
  obtain ⟨xs, rfl, h3⟩ := hasW_list h1
  obtain ⟨ns, rfl⟩ := items_int h3
  have hlen : ns.length ≤ n := by
    unfold OpenLaw.pre at hc
    have h4 : (WTm.not (.lt (.lit (.int (n : Int))) (.len (.arg 0)))).holds [] { args := [.list (ns.map .int)] } = true := by
      have h4 := (holds_andW hc).1
      rw [hn] at h4
      exact h4
    have h5 := condW_of h4 (w_not (w_lt w_lit (w_len_list (w_arg rfl))))
    rw [List.length_map] at h5
    refine Nat.le_of_not_lt fun q => ?_
    have q' : (n : Int) < ((ns.length : Nat) : Int) := by omega
    first
      | (rw [decide_eq_true q'] at h5; exact absurd h5 (by decide))
      | (simp at h5; omega)
  cases hwl with
  | cons w1 w2 =>
    cases w2
    cases w1 with
    | list ho hall => exact ⟨_, _, ns, rfl, rfl, ho, ints_of_wellAll ns _ hall, hlen⟩
theorem post_true (l : OpenLaw) (args : List WData) : l.row.toRowW.claim.post args (.bool true) args = true :=
  postW_of (r := l.row.toRowW) (X := (true == true))
    (show WShape.has [] (.bool true) .bool = true by first | rfl | decide | simp [WShape.has, WShape.arms, WShape.armsAll])
    (show (WTm.eq .res (.lit (.bool true))).value [] { args := args, res := some (.bool true), after := args } = some (.bool (true == true)) from w_eq_bool (w_res rfl) w_lit) rfl
section
variable {prog : Program} {w : World} {A : Around} {E : Value → Shared → Prop} {s : Shared} {K : Frag}
end
end Att
namespace L2
open PySem PySem.Spec PyProof.Rows
theorem vals_ints : ∀ {vs : List Value} {ns : List Int}, IntsAre vs ns → Vals (ns.map V.int) vs
  | _, _, .nil => .nil
  | _, _, .cons n t h => .cons ⟨t, rfl⟩ (vals_ints h)
noncomputable def Only (H : Hp) : Prop := ∀ b, H b = none ∨ ∃ o xs, H b = some (.frz o (.lst xs))
theorem law_call {P : Program} {w : World} {K : PySem.W.Frag} {mg mb : Str → Option Value} {CX : CXT} {k : Nat} {fa a : Addr} {fd : FuncData} {x : Str} {sp : Sp} {s₁ : Shared} {vs : List Value} {ns : List Int}
    (KX : K.In s₁.heap) (hns : s₁.heap.Ns mainGlobals mg) (hb : s₁.heap.Ns builtinsNs mb) (hbb : ∀ x : Str, x ≠ "__name__" → mb x = bootBuiltins x) (hlim : s₁.heap.NoLimit) (hg : s₁.gens = #[])
    (ha : s₁.heap.get? a = some { cls := .type "list", data := .seq vs.toArray }) (hi : IntsAre vs ns) (hl : ns.length ≤ sizeLine) (hr : Room k callerA)
    (F : ∀ base : Heap, K.In base → base.Ns mainGlobals mg → FnOk P w K mg base CX k fa fd [x] sp) (hbind : ∀ (s : Shared) (u : Value), BindsTo s fd ⟨[u], []⟩ [(x, u)])
    (hsp : ∀ H : Hp, Only H → SqL K H a (ns.map V.int) → sp [.ref a] H (fun v _ => v = .bl true) fun _ _ _ => False)
    (hCX : ∀ H e s', CX [] H s₁ (fun _ _ _ => False) e s' → False) :
    codeAny (model P w) callerA (.call (.ref fa) ⟨[.ref a], []⟩) (fun r s' => r = .ok (.ret (.bool true)) ∧ OldK s₁.heap s'.heap ∧ s'.os = s₁.os ∧ AllBare s'.gens) s₁ := by
  have rv := vals_ints hi
  have lenV := hi.length
  have core : ∀ H : Hp, Only H → SqL K H a (ns.map V.int) → HOk P w H s₁.heap → (∀ b, H b ≠ none → b = a) → (H a ≠ none → K.lookup a = none) →
      codeAny (model P w) callerA (.call (.ref fa) ⟨[.ref a], []⟩) (fun r s' => r = .ok (.ret (.bool true)) ∧ OldK s₁.heap s'.heap ∧ s'.os = s₁.os ∧ AllBare s'.gens) s₁ := by
    intro H hO hS hok hA hK
    have base_of : ∀ {b : Addr} {o : Obj}, s₁.heap.get? b = some o → H b = none → (hidT s₁.heap H).get? b = some o := fun e n => hidT_get e n
    have noA : ∀ {b : Addr} {o : Obj} {es : Array DictEntry} {ep : Nat}, s₁.heap.get? b = some o → o.data = .dict es ep → H b = none := fun {b o es ep} e d => by
      cases q : H b with
      | none => rfl
      | some u =>
        have e' : b = a := hA b (by rw [q]; simp)
        subst e'
        rw [ha] at e; cases e
        have d' : Data.seq vs.toArray _ = Data.dict es ep := d
        cases d'
    have nsK : ∀ {b : Addr} {m : Str → Option Value}, s₁.heap.Ns b m → (hidT s₁.heap H).Ns b m := fun {b m} ⟨o, es, ep, e, d, r⟩ => ⟨o, es, ep, base_of e (noA e d), d, r⟩
    have hKb : K.In (hidT s₁.heap H) := fun b o e => base_of (KX b o e) (by
      cases q : H b with
      | none => rfl
      | some u =>
        have e' : b = a := hA b (by rw [q]; simp)
        subst e'
        rw [hK (by rw [q]; simp)] at e; cases e)
    have hM : Mod K mg (hidT s₁.heap H) := ⟨hKb, nsK hns, ⟨mb, nsK hb, hbb⟩, let ⟨mc, h1, h2⟩ := hlim; ⟨mc, nsK h1, h2⟩⟩
    have e0 : Env0 P w K mg (hidT s₁.heap H) callerA [] s₁ H := ⟨rfl, hM, fun b o e => of_hidT e, Nat.le_of_eq (hidT_size _ _), trivial, fun b hb => absurd (show b ∈ ([] : List Addr) from hb) (by simp), hok, .of_eq hg⟩
    refine codeAny_mono ((F _ hKb (nsK hns)).run callerA [] s₁ H ⟨[.ref a], []⟩ [.ref a] [.ref a] _ _ hr e0 (hbind s₁ (.ref a)) (.cons rfl .nil) (hsp H hO hS)) fun r s' h => ?_
    cases r with
    | error e => exact (hCX H e s' h).elim
    | ok fl =>
      cases fl with
      | next => exact False.elim h
      | brk => exact False.elim h
      | cont => exact False.elim h
      | ret u =>
        obtain ⟨v, H', os, bare, un, hok', r', q⟩ := h
        have q' : v = .bl true := q
        subst q'
        obtain rfl : u = Value.bool true := r'
        refine ⟨rfl, OldK.of_keep fun b o e => ?_, os, bare⟩
        cases q : H b with
        | none => exact un.keep b o e q (by intro z; exact absurd (show b ∈ ([] : List Addr) from z) (by simp)) (by simp)
        | some u =>
          rcases hO b with z | ⟨ob, xs, z⟩
          · rw [q] at z; cases z
          · have z2 := un.frzs b ob _ z
            obtain ⟨e1, _⟩ := hok b _ z
            obtain ⟨e2, _⟩ := hok' b _ z2
            rw [e] at e1; cases e1
            exact e2
  cases hk : K.lookup a with
  | some o =>
    have e := KX a o hk
    rw [ha] at e
    cases e
    refine core (fun _ => none) (fun _ => .inl rfl) (.inr ⟨_, vs.toArray, _, hk, rfl, rfl, rfl, by rw [List.size_toArray, lenV]; exact hl, by simpa using rv⟩) (fun b u z => by have z' : (none : Option HO) = some u := z; cases z') (fun b z => absurd rfl z) fun z => absurd rfl z
  | none =>
    refine core (fun b => if b = a then some (.frz { cls := .type "list", data := .seq vs.toArray } (.lst (ns.map V.int))) else none) (fun b => ?_) (.inl (.inr ⟨{ cls := .type "list", data := .seq vs.toArray }, if_pos rfl⟩)) (fun b u z => ?_) (fun b z => ?_) fun _ => hk
    · by_cases hb : b = a
      · exact .inr ⟨_, _, if_pos hb⟩
      · exact .inl (if_neg hb)
    · by_cases hb : b = a
      · have z' := (if_pos hb).symm.trans z
        cases z'
        subst hb
        exact ⟨ha, by rw [List.length_map]; exact hl, vs, _, rv, ha⟩
      · have z' := (if_neg hb).symm.trans z
        cases z'
    · by_cases hb : b = a
      · exact hb
      · exact absurd (if_neg hb) z
end L2
namespace L2
open PySem PySem.Spec PyProof.Rows
end L2
namespace L2
open PySem PySem.Spec PyProof.Rows
noncomputable def inClass (s : Stmt) (j : Nat) : Stmt := match s with
  | .ClassDef _ _ _ body _ _ _ _ _ _ _ => body.getD j (.Pass ⟨0, 0, 0, 0⟩)
  | _ => .Pass ⟨0, 0, 0, 0⟩
noncomputable def defArgs (s : Stmt) : Arguments := match s with
  | .FunctionDef _ a _ _ _ _ _ _ _ _ => a
  | _ => { posonlyargs := [], args := [], vararg := none, kwonlyargs := [], kw_defaults := [], kwarg := none, defaults := [] }
noncomputable def defBody (s : Stmt) : List Stmt := match s with
  | .FunctionDef _ _ b _ _ _ _ _ _ _ => b
  | _ => []
noncomputable def defScope (s : Stmt) : Scope := match s with
  | .FunctionDef _ _ _ _ _ _ sc _ _ _ => sc
  | _ => { kind := .function, names := [], isGenerator := false, isCoroutine := false }
noncomputable abbrev CX0 : CXT := fun _ _ _ _ _ _ => False
noncomputable abbrev E0 : XK := fun _ _ _ => False
theorem pass0 {X : Cx} : Passes CX0 X E0 := fun _ _ _ _ _ _ _ h => h.elim
section
variable {P : Program} {w : World} {K : PySem.W.Frag} {mg : Str → Option Value} {base : Heap}
end
section
variable {X : Cx}
theorem pv (i : Nat) {x : Str} {pos : Pos} (hN : X.N[i]? = some x := by rfl) (hv : Vis X.env.scope x := by first | exact Or.inl rfl | exact Or.inr (Or.inl rfl) | exact Or.inr (Or.inr rfl)) (hd : (x == ("__debug__" : Str)) = false := by decide)
    (hcd : (x == ("__classdict__" : Str)) = false := by decide) : PE X (.Name x pos) (tVar i) := pe_var hN hv hd hcd
end
theorem iteF {A B : Prop} (h : B) : if false = true then A else B := by
  rw [if_neg Bool.false_ne_true]
  exact h
theorem iteT {A B : Prop} (h : A) : if true = true then A else B := by
  rw [if_pos rfl]
  exact h
theorem ite2 {c A B : Prop} [Decidable c] (h1 : c → A) (h2 : ¬ c → B) : if c then A else B := by
  by_cases h : c
  · rw [if_pos h]
    exact h1 h
  · rw [if_neg h]
    exact h2 h
theorem iteNS {c A B : Prop} [Decidable c] (hc : c) (h : B) : if (!decide c) = true then A else B := by
  rw [decide_eq_true hc]
  exact iteF h
noncomputable def Same (H H' : Hp) : Prop := ∀ b o, H b = some o → H' b = some o
theorem Same.refl (H : Hp) : Same H H := fun _ _ h => h
theorem Same.trans {H H1 H2 : Hp} (a : Same H H1) (b : Same H1 H2) : Same H H2 := fun c o h => b c o (a c o h)
theorem Same.free {H H' : Hp} (e : Same H H') {l : Addr} (h : H' l = Option.none) : H l = Option.none := by
  cases q : H l with
  | none => rfl
  | some o =>
    rw [e l o q] at h
    cases h
theorem Same.seq {K : PySem.W.Frag} {H H' : Hp} {a : Addr} {xs : List V} (e : Same H H') (h : SqL K H a xs) : SqL K H' a xs := by
  rcases h with (h | ⟨o, h⟩) | h
  · exact .inl (.inl (e _ _ h))
  · exact .inl (.inr ⟨o, e _ _ h⟩)
  · exact .inr h
end L2
namespace C5
open PySem
section
variable {M : Model} {A : Around} {E : Value → Shared → Prop} {s : Shared}
noncomputable def clGo (env : Env) : List (Str × NameKind) → List (Str × Addr) → List (Str × Addr)
  | [], cs => cs
  | (n, k) :: r, cs => clGo env r (if k == .free then (n, (env.cells.lookup n).getD 0) :: cs else cs)
theorem clGo_cons (env : Env) (n : Str) (k : NameKind) (r : List (Str × NameKind)) (cs : List (Str × Addr)) : clGo env ((n, k) :: r) cs = clGo env r (if k == .free then (n, (env.cells.lookup n).getD 0) :: cs else cs) := rfl
noncomputable def clOf (sc : Scope) (env : Env) : List (Str × Addr) := clGo env sc.names []
theorem clGo_run {env : Env} (f : Str × NameKind → List (Str × Addr) → Sem (ForInStep (List (Str × Addr))))
    (hf : ∀ n k cs, f (n, k) cs = if k == .free then (do let a ← cellOf env n; pure (.yield ((n, a) :: cs))) else pure (.yield cs)) :
    ∀ (l : List (Str × NameKind)) (cs : List (Str × Addr)), (∀ y ∈ l, y.2 = .free → ∃ c, env.cells.lookup y.1 = some c) → forIn l cs f = pure (clGo env l cs)
  | [], cs, _ => by rw [List.forIn_nil]; rfl
  | (n, k) :: r, cs, h => by
    rw [List.forIn_cons, hf]
    have hr := fun cs' => clGo_run f hf r cs' fun y hy => h y (List.mem_cons_of_mem _ hy)
    cases hk : k == NameKind.free with
    | false =>
      simp only [Bool.false_eq_true, if_false, pure_bind]
      rw [hr, clGo_cons, hk]; rfl
    | true =>
      obtain ⟨c, hc⟩ := h (n, k) List.mem_cons_self (by simpa using hk)
      have hc' : cellOf env n = pure c := by
        unfold cellOf
        rw [show env.cells.lookup n = some c from hc]
      simp only [if_true, hc', pure_bind]
      rw [hr, clGo_cons, hk, show env.cells.lookup n = some c from hc]; rfl
theorem clos_of {sc : Scope} {env : Env} (h : ∀ y ∈ sc.names, y.2 = .free → ∃ c, env.cells.lookup y.1 = some c) : closureFor sc env = pure (clOf sc env) := by
  unfold closureFor clOf
  dsimp only
  rw [clGo_run (env := env) _ (fun n k cs => by cases hk : k == NameKind.free <;> simp [hk]) sc.names [] h]
  exact pure_bind _ _
theorem clGo_mem {env : Env} : ∀ (l : List (Str × NameKind)) (cs : List (Str × Addr)) (x : Str) (c : Addr), (x, c) ∈ clGo env l cs → (x, c) ∈ cs ∨ ((x, NameKind.free) ∈ l ∧ c = (env.cells.lookup x).getD 0)
  | [], cs, x, c, h => .inl h
  | (n, k) :: r, cs, x, c, h => by
    unfold clGo at h
    rcases clGo_mem r _ x c h with h | ⟨h, e⟩
    · cases hk : k == NameKind.free with
      | false => rw [hk, if_neg Bool.false_ne_true] at h; exact .inl h
      | true =>
        rw [hk, if_pos rfl] at h
        have hk' : k = .free := by simpa using hk
        rcases List.mem_cons.mp h with e | h
        · cases e; subst hk'; exact .inr ⟨List.mem_cons_self, rfl⟩
        · exact .inl h
    · exact .inr ⟨List.mem_cons_of_mem _ h, e⟩
theorem clGo_keep {env : Env} : ∀ (l : List (Str × NameKind)) (cs : List (Str × Addr)) (p : Str × Addr), p ∈ cs → p ∈ clGo env l cs
  | [], _, _, h => h
  | (n, k) :: r, cs, p, h => by
    unfold clGo
    refine clGo_keep r _ p ?_
    split
    · exact List.mem_cons_of_mem _ h
    · exact h
theorem clGo_has {env : Env} : ∀ (l : List (Str × NameKind)) (cs : List (Str × Addr)) (x : Str), (x, NameKind.free) ∈ l → (x, (env.cells.lookup x).getD 0) ∈ clGo env l cs
  | (n, k) :: r, cs, x, h => by
    unfold clGo
    rcases List.mem_cons.mp h with e | h
    · cases e
      refine clGo_keep r _ _ ?_
      simp
    · exact clGo_has r _ x h
theorem lookup_of_mem {α : Type} : ∀ {l : List (Str × α)} {x : Str} {c : α}, (x, c) ∈ l → (∀ c', (x, c') ∈ l → c' = c) → l.lookup x = some c
  | (k, v) :: r, x, c, h, u => by
    rw [List.lookup_cons]
    cases hb : x == k with
    | true =>
      have e := beq_iff_eq.mp hb
      subst e
      rw [u v List.mem_cons_self]
    | false =>
      rcases List.mem_cons.mp h with e | h
      · cases e; simp at hb
      · exact lookup_of_mem h fun c' h' => u c' (List.mem_cons_of_mem _ h')
theorem clOf_sub {sc : Scope} {env : Env} (h : ∀ y ∈ sc.names, y.2 = .free → ∃ c, env.cells.lookup y.1 = some c) {x : Str} {c : Addr} (e : (clOf sc env).lookup x = some c) :
    env.cells.lookup x = some c ∧ (x, NameKind.free) ∈ sc.names := by
  rcases clGo_mem sc.names [] x c (mem_of_lookup e) with z | ⟨z, q⟩
  · exact absurd z (by simp)
  · obtain ⟨c', hc⟩ := h _ z rfl
    have hc : env.cells.lookup x = some c' := hc
    rw [hc] at q
    exact ⟨by rw [hc, q]; rfl, z⟩
theorem clOf_has {sc : Scope} {env : Env} {x : Str} (e : (x, NameKind.free) ∈ sc.names) : (clOf sc env).lookup x = some ((env.cells.lookup x).getD 0) :=
  lookup_of_mem (clGo_has sc.names [] x e) fun c' h' => by
    rcases clGo_mem sc.names [] x c' h' with z | ⟨_, q⟩
    · exact absurd z (by simp)
    · exact q
theorem cellsFrom_app : ∀ (names : List (Str × NameKind)) (n : Nat) (acc : List (Str × Addr)), cellsFrom n names acc = cellsFrom n names [] ++ acc
  | [], _, _ => rfl
  | (x, k) :: r, n, acc => by
    unfold cellsFrom
    split
    · rw [cellsFrom_app r (n + 1) ((x, n) :: acc), cellsFrom_app r (n + 1) [(x, n)]]; simp
    · exact cellsFrom_app r n acc
theorem cellsFrom_key : ∀ (names : List (Str × NameKind)) (n : Nat) (x : Str) (c : Addr), (x, c) ∈ cellsFrom n names [] → (x, NameKind.cell) ∈ names
  | [], _, _, _, h => by simp [cellsFrom] at h
  | (y, k) :: r, n, x, c, h => by
    unfold cellsFrom at h
    split at h
    · rename_i hk
      have hk' : k = .cell := by simpa using hk
      rw [cellsFrom_app] at h
      rcases List.mem_append.mp h with h | h
      · exact List.mem_cons_of_mem _ (cellsFrom_key r _ x c h)
      · have e : (x, c) = (y, n) := by simpa using h
        cases e; subst hk'; exact List.mem_cons_self
    · exact List.mem_cons_of_mem _ (cellsFrom_key r _ x c h)
noncomputable def bkEnv (sc : Scope) (cl : List (Str × Addr)) (C : Addr) (env : Env) : Env :=
  { scope := relabel sc env, locals := C, globals := env.globals, cells := cellsFrom (C + 1) sc.names cl, qual := env.qual, func := none, code := env.code, frame := env.frame, builtins := env.builtins }
theorem newBlock {sc : Scope} {cl : List (Str × Addr)} {env : Env} {Q : Env → Shared → Prop}
    (h : Q (newEnv sc s.heap.objs.size env.globals (cellsFrom (s.heap.objs.size + 1) sc.names cl) env.qual none .none (some env) builtinsNs) { s with heap := pushCells (s.heap.push { cls := .type "dict", data := .dict #[] }) sc.names }) :
    wpAny M A (newFunctionEnv sc env.globals cl [] env.qual none .none (some env)) Q E s := by
  simp only [newFunctionEnv, Option.isSome_some, if_true]
  refine wpAny_bind (wpAny_alloc ?_)
  refine wpAny_bind (wpAny_layCells _ (fun name kind cells => by cases hkc : kind == NameKind.cell <;> simp [hkc]) _ _ _ _ ?_)
  rw [show ({ s with heap := s.heap.push { cls := .type "dict", data := .dict #[] } } : Shared).heap.objs.size = s.heap.objs.size + 1 from Heap.size_push ..]
  rw [List.forIn_nil]
  exact wpAny_bind (wpAny_pure (wpAny_pure h))
theorem relabel_cell {sc : Scope} {env : Env} : ∀ {l : List (Str × NameKind)} {x : Str},
    (l.map fun (n, k) => if (k == NameKind.free && env.scope.kind == .function && env.kindOf n == some .cell) then (n, NameKind.cell) else (n, k)).lookup x = some .cell → l.lookup x = some .cell ∨ l.lookup x = some .free
  | [], x, h => by simp at h
  | (n, k) :: r, x, h => by
    rw [List.map_cons] at h
    rw [List.lookup_cons]
    cases hx : x == n with
    | true =>
      dsimp only at h
      split at h
      · rename_i hc
        rw [Bool.and_eq_true, Bool.and_eq_true] at hc
        have : k = .free := by simpa using hc.1.1
        rw [this]; exact .inr rfl
      · simp only [List.lookup_cons, hx] at h
        exact .inl h
    | false =>
      refine relabel_cell (sc := sc) (env := env) (l := r) ?_
      dsimp only at h
      split at h <;> simpa only [List.lookup_cons, hx] using h
theorem relabel_free {env : Env} : ∀ {l : List (Str × NameKind)} {x : Str},
    (l.map fun (n, k) => if (k == NameKind.free && env.scope.kind == .function && env.kindOf n == some .cell) then (n, NameKind.cell) else (n, k)).lookup x = some .free → l.lookup x = some .free
  | [], x, h => by simp at h
  | (n, k) :: r, x, h => by
    rw [List.map_cons] at h
    rw [List.lookup_cons]
    cases hx : x == n with
    | true =>
      dsimp only at h
      split at h
      · simp only [List.lookup_cons, hx] at h
        cases h
      · simp only [List.lookup_cons, hx] at h
        exact h
    | false =>
      refine relabel_free (env := env) (l := r) ?_
      dsimp only at h
      split at h <;> simpa only [List.lookup_cons, hx] using h
theorem relabel_of_free {env : Env} : ∀ {l : List (Str × NameKind)} {x : Str}, l.lookup x = some .free →
    (l.map fun (n, k) => if (k == NameKind.free && env.scope.kind == .function && env.kindOf n == some .cell) then (n, NameKind.cell) else (n, k)).lookup x = some .cell ∨
    (l.map fun (n, k) => if (k == NameKind.free && env.scope.kind == .function && env.kindOf n == some .cell) then (n, NameKind.cell) else (n, k)).lookup x = some .free
  | [], x, h => by simp at h
  | (n, k) :: r, x, h => by
    rw [List.map_cons]
    rw [List.lookup_cons] at h
    cases hx : x == n with
    | true =>
      rw [hx] at h
      cases h
      dsimp only
      split
      · exact .inl (by simp only [List.lookup_cons, hx])
      · exact .inr (by simp only [List.lookup_cons, hx])
    | false =>
      rw [hx] at h
      have := relabel_of_free (env := env) (l := r) h
      dsimp only
      split <;> simpa only [List.lookup_cons, hx] using this
end
section
variable {prog : Program} {w : World} {A : Around} {R : Result → Shared → Prop} {s : Shared}
theorem compLoop_go {elt target iter : Expr} {ifs : List Expr} {scope : Scope} {pos : Pos} {it acc : Value} {env : Env} (I : Nat → Shared → Prop)
    (turn : ∀ n s, I n s → wpAny (model prog w) A (pyNext it) (fun r s₁ => match r with
      | none => R (.ok .next) s₁
      | some v => wpAny (model prog w) A (letOwnedTupleGo target it v) (fun _ s₁' => wpAny (model prog w) A (assign target env v) (fun _ s₂ =>
          wpAny (model prog w) A (forIn ifs true fun c r => if r = true then do let ok ← isTrue c env (eval c env); pure (ForInStep.yield ok) else pure (ForInStep.yield r)) (fun ok s₃ =>
            if ok = true then wpAny (model prog w) A (eval elt env) (fun x s₄ =>
              wpAny (model prog w) A (call (.builtin "list.append") [acc, x]) (fun _ s₅ => ∃ m, m < n ∧ I m s₅) (fun _ _ => False) s₄) (fun _ _ => False) s₃
            else ∃ m, m < n ∧ I m s₃) (fun _ _ => False) s₂) (fun _ _ => False) s₁') (fun _ _ => False) s₁) (fun _ _ => False) s)
    (n : Nat) (h : I n s) :
    codeAny (model prog w) A (.compLoop (.ListComp elt [⟨target, iter, ifs, 0⟩] scope pos) 0 it acc env) R s := by
  refine codeAny_loop rfl I (fun n s hI => ?_) n h
  show wpAny _ A ((compTurn (.ListComp elt [⟨target, iter, ifs, 0⟩] scope pos) 0 it acc env).onRaise (fun x => do noteFrame x env; theTreesLotGoes x)) _ _ s
  refine wpAny_noted ?_
  rw [compTurn_list]
  refine wpAny_bind (wpAny_standAt (wpAny_bind (wpAny_mono (turn n s hI) (fun r s₁ h₁ => ?_) fun _ _ h' => h'.elim)))
  cases r with
  | none => exact wpAny_pure h₁
  | some v =>
    refine wpAny_bind (wpAny_mono h₁ (fun _ s₁' h₁' => ?_) fun _ _ h' => h'.elim)
    refine wpAny_bind (wpAny_mono h₁' (fun _ s₂ h₂ => wpAny_bind (wpAny_mono h₂ (fun ok s₃ h₃ => ?_) fun _ _ h' => h'.elim)) fun _ _ h' => h'.elim)
    cases ok with
    | false => exact wpAny_pure ⟨rfl, h₃⟩
    | true =>
      exact wpAny_bind (wpAny_bind (wpAny_mono h₃ (fun x s₄ h₄ => wpAny_bind (wpAny_mono h₄ (fun _ s₅ h₅ => wpAny_pure (wpAny_pure ⟨rfl, h₅⟩)) fun _ _ h' => h'.elim)) fun _ _ h' => h'.elim))
end
end C5
set_option Elab.async false
set_option linter.all false
set_option maxRecDepth 100000
namespace L2
open PySem PySem.Spec PyProof.Rows C5
noncomputable def entry (src : List (Option Nat)) (σ : St) : St := src.map fun o => o.bind fun i => (σ[i]?).join
structure BkScope (so sc : Scope) (No N : List Str) (src : List (Option Nat)) : Prop where
  kind : sc.kind = .function
  free : sc.names.all (fun y => !(y.2 == .free) || (so.names.lookup y.1 == some .cell || so.names.lookup y.1 == some .free)) = true
  uniq : sc.names.all (fun y => sc.names.lookup y.1 == some y.2) = true
  len : src.length = N.length
  src : (src.zip N).all (fun p => match p.1 with | none => true | some i => No[i]? == some p.2 && sc.names.lookup p.2 == some .free) = true
  nd : N.Nodup
noncomputable def cxB (X : Cx) (sc : Scope) (N : List Str) (fp : List Addr) (C : Addr) (s : Shared) (H : Hp) : Cx :=
  { X with N := N, s₀ := s, H₀ := H, env := bkEnv sc (clOf sc X.env) C X.env, outer := X.stack, stack := X.stack, ex := fp, fn := fun x => sc.names.lookup x == some .cell, pn := [], xe := fun _ _ => False }
section
variable {X : Cx} {pins : List (Addr × Obj)} {σ : St} {H : Hp} {s : Shared} {sc : Scope} {N : List Str} {src : List (Option Nat)}
theorem BkScope.has {so : Scope} {No : List Str} (B : BkScope so sc No N src) (hso : X.env.scope = so) (ok : X.Ok) : ∀ y ∈ sc.names, y.2 = .free → ∃ c, X.env.cells.lookup y.1 = some c := by
  intro y hy hk
  have h := List.all_eq_true.mp B.free y hy
  rw [hk] at h
  simp only [beq_self_eq_true, Bool.not_true, Bool.false_or, Bool.or_eq_true, beq_iff_eq] at h
  rw [← hso] at h
  rcases h with h | h
  · exact ok.has y.1 (.inl h)
  · exact ok.has y.1 (.inr h)
theorem BkScope.look {so : Scope} {No : List Str} (B : BkScope so sc No N src) {x : Str} {k : NameKind} (h : (x, k) ∈ sc.names) : sc.names.lookup x = some k := by
  have := List.all_eq_true.mp B.uniq (x, k) h
  simpa using this
theorem lookup_app {α : Type} : ∀ {l r : List (Str × α)} {x : Str} {c : α}, (l ++ r).lookup x = some c → l.lookup x = some c ∨ r.lookup x = some c
  | [], _, _, _, h => .inr h
  | (k, v) :: l, r, x, c, h => by
    rw [List.cons_append, List.lookup_cons] at h
    rw [List.lookup_cons]
    cases hb : x == k with
    | true => rw [hb] at h; exact .inl h
    | false => rw [hb] at h; exact lookup_app h
theorem lookup_app_r {α : Type} : ∀ {l r : List (Str × α)} {x : Str}, (∀ c, (x, c) ∉ l) → (l ++ r).lookup x = r.lookup x
  | [], _, _, _ => rfl
  | (k, v) :: l, r, x, h => by
    rw [List.cons_append, List.lookup_cons]
    have hb : (x == k) = false := beq_eq_false_iff_ne.mpr fun e => h v (by rw [e]; exact List.mem_cons_self)
    rw [hb]
    exact lookup_app_r fun c hc => h c (List.mem_cons_of_mem _ hc)
theorem Inv.block {fp : List Addr} {h1 : Heap} {C : Nat} {t : Nat} (I : Inv X pins σ H s) (B : BkScope X.env.scope sc X.N N src) (hf : ∀ b ∈ fp, FpOk X pins H b) (hlt : ∀ b ∈ fp, b < s.heap.objs.size)
    (hC : C = s.heap.objs.size + 1) (e1 : h1 = pushCells ((s.heap.push { cls := .type "list", data := .seq #[] }).push { cls := .type "dict", data := .dict #[] }) sc.names) :
    Inv (cxB X sc N fp C s H) [] (entry src σ) (upd H s.heap.objs.size (.lst [])) { s with heap := h1, toks := t } := by
  have has := B.has rfl I.ok
  have szL : (s.heap.push { cls := .type "list", data := .seq #[] } : Heap).objs.size = C := by rw [Heap.size_push, hC]
  have szD : ((s.heap.push { cls := .type "list", data := .seq #[] }).push { cls := .type "dict", data := .dict #[] } : Heap).objs.size = C + 1 := by rw [Heap.size_push, szL]
  have own := cellsFrom_ok sc.names ((s.heap.push { cls := .type "list", data := .seq #[] }).push { cls := .type "dict", data := .dict #[] }) (C + 1) [] ⟨fun _ _ hm => (nomatch hm), List.Pairwise.nil⟩ (by rw [szD]; exact Nat.le_refl _)
  rw [szD, ← e1] at own
  have keep0 : ∀ b o, ((s.heap.push { cls := .type "list", data := .seq #[] }).push { cls := .type "dict", data := .dict #[] } : Heap).get? b = some o → h1.get? b = some o := fun b o e => by rw [e1]; exact pushCells_keeps _ _ b o e
  have keep : ∀ b o, s.heap.get? b = some o → h1.get? b = some o := fun b o e => keep0 b o (Heap.get?_push_of_some _ (Heap.get?_push_of_some _ e))
  have atD : h1.get? s.heap.objs.size = some { cls := .type "list", data := .seq #[] } := keep0 _ _ (Heap.get?_push_of_some _ (Heap.get?_push_size _ rfl))
  have nsC : h1.Ns C (fun _ => none) := by
    have q := Heap.Ns.new (s.heap.push { cls := .type "list", data := .seq #[] }) (.type "dict")
    rw [szL] at q
    exact q.keeps keep0
  have fresh : ∀ b, s.heap.objs.size ≤ b → H b = none := fun b hb => I.hok.fresh hb
  have cells : ∀ x c, (cellsFrom (C + 1) sc.names (clOf sc X.env)).lookup x = some c →
      ((x, c) ∈ cellsFrom (C + 1) sc.names [] ∧ h1.IsCell c none ∧ C + 1 ≤ c) ∨ (X.env.cells.lookup x = some c ∧ (x, NameKind.free) ∈ sc.names) := fun x c e => by
    rw [cellsFrom_app] at e
    rcases lookup_app e with e | e
    · have hm := mem_of_lookup e
      obtain ⟨q1, q2⟩ := own.empty x c hm
      exact .inl ⟨hm, q1, q2⟩
    · exact .inr (clOf_sub has e)
  have cellLt : ∀ x c, X.env.cells.lookup x = some c → @LT.lt Nat instLTNat c s.heap.objs.size := fun x c e => by
    obtain ⟨v, z⟩ := I.cell x c e
    exact z.lt
  have freeIn : ∀ x, (x, NameKind.free) ∈ sc.names → (cellsFrom (C + 1) sc.names (clOf sc X.env)).lookup x = X.env.cells.lookup x := fun x hx => by
    rw [cellsFrom_app, lookup_app_r (fun c hc => ?_), clOf_has hx]
    · obtain ⟨c, hc⟩ := has _ hx rfl
      have hc : X.env.cells.lookup x = some c := hc
      rw [hc]; rfl
    · have k1 := B.look (cellsFrom_key sc.names _ x c hc)
      have k2 := B.look hx
      rw [k1] at k2; cases k2
  have ex : (cxB X sc N fp C s H).ex = fp := rfl
  refine ⟨⟨I.ok.mod, B.kind, I.ok.glob, I.ok.blt, ?_, ?_, ?_, ?_, I.ok.hd, I.ok.frames, .inl rfl, ?_, I.bs, Nat.le_trans I.ok.bsz I.sz, ?_, ?_, I.stack, I.stkFree⟩, rfl, I.bare, Un.laid keep (Nat.le_refl _) (fresh _ (Nat.le_refl _)), ?_, ?_, ?_, ?_, ?_, ?_, ?_⟩
  · -- above
    show s.heap.objs.size ≤ C
    omega
  · -- inj
    intro x y c h1' h2'
    rcases cells x c h1' with ⟨m1, _, g1⟩ | ⟨e1', _⟩
    · rcases cells y c h2' with ⟨m2, _, _⟩ | ⟨e2', _⟩
      · exact name_of_addr own.apart m1 m2
      · have := cellLt y c e2'; omega
    · rcases cells y c h2' with ⟨_, _, g2⟩ | ⟨e2', _⟩
      · have := cellLt x c e1'; omega
      · exact I.ok.inj x y c e1' e2'
  · -- has
    intro x hx
    show ∃ c, (cellsFrom (C + 1) sc.names (clOf sc X.env)).lookup x = some c
    have hx' : sc.names.lookup x = some .cell ∨ sc.names.lookup x = some .free := by
      rcases hx with hx | hx
      · exact relabel_cell (sc := sc) (env := X.env) hx
      · exact .inr (relabel_free (env := X.env) hx)
    rcases hx' with hx' | hx'
    · exact Option.isSome_iff_exists.mp (PySem.W.cellsFrom_some sc.names (C + 1) (clOf sc X.env) (.inl hx'))
    · rw [freeIn x (PySem.mem_of_lookup hx')]
      exact has _ (PySem.mem_of_lookup hx') rfl
  · -- cab
    intro x c hfn hc
    have hfn' : sc.names.lookup x = some .cell := by simpa [cxB] using hfn
    show s.heap.objs.size ≤ c
    rcases cells x c hc with ⟨_, _, g⟩ | ⟨_, hfr⟩
    · omega
    · have := B.look hfr
      rw [hfn'] at this; cases this
  · -- exf
    intro b hb
    rw [ex] at hb
    have hb' : @LT.lt Nat instLTNat b s.heap.objs.size := hlt b hb
    obtain ⟨f0, f1, f2, f3, f4, f5⟩ := hf b hb
    refine ⟨Nat.ne_of_lt (show @LT.lt Nat instLTNat b C by omega), fun x c hc => ?_⟩
    rcases cells x c hc with ⟨_, _, g⟩ | ⟨e, _⟩
    · exact Nat.ne_of_gt (show @LT.lt Nat instLTNat b c by omega)
    · exact f4 x c e
  · -- noex
    intro b o e hb
    rw [ex] at hb
    obtain ⟨f0, f1, f2, f3, f4, f5⟩ := hf b hb
    rcases f3 with f3 | f3
    · exact I.ok.noex b o e f3
    · exact absurd (Nat.lt_of_lt_of_le (Heap.lt_size e) (Nat.le_trans I.ok.bsz f3)) (Nat.lt_irrefl _)
  · -- exfs
    intro b hb hb2
    rw [ex] at hb
    obtain ⟨f0, f1, f2, f3, f4, f5⟩ := hf b hb
    rcases List.mem_cons.mp (I.stkSub b hb2) with z | z
    · exact f1 z
    · exact f2 z
  · -- loc
    refine ⟨fun _ => none, nsC, fun j x v hj hv _ => ?_⟩
    have hj : N[j]? = some x := hj
    unfold entry at hv
    rw [List.getElem?_map] at hv
    cases hs : src[j]? with
    | none => rw [hs] at hv; cases hv
    | some o =>
      rw [hs] at hv
      cases o with
      | none => cases hv
      | some i =>
        have hv : ((σ[i]?).join) = some v := by simpa using hv
        have hm : (some i, x) ∈ src.zip N := by
          rw [List.mem_iff_getElem?]
          exact ⟨j, by rw [List.getElem?_zip_eq_some]; exact ⟨hs, hj⟩⟩
        have q := List.all_eq_true.mp B.src _ hm
        simp only [Bool.and_eq_true, beq_iff_eq] at q
        obtain ⟨q1, q2⟩ := q
        have hfr := PySem.mem_of_lookup q2
        have hσ : σ[i]? = some (some v) := by
          cases e : σ[i]? with
          | none => rw [e] at hv; cases hv
          | some u => rw [e] at hv; cases u with
            | none => cases hv
            | some w' => cases hv; rfl
        obtain ⟨m, hn, hl⟩ := I.loc
        have hso := List.all_eq_true.mp B.free _ hfr
        simp only [beq_self_eq_true, Bool.not_true, Bool.false_or, Bool.or_eq_true, beq_iff_eq] at hso
        have hvis : Vis X.env.scope x := by
          rcases hso with z | z
          · exact .inr (.inl z)
          · exact .inr (.inr z)
        obtain ⟨u, ru, lk⟩ := hl i x v q1 hσ hvis
        refine ⟨u, ru, .inr ⟨?_, ?_⟩⟩
        · exact relabel_of_free (env := X.env) q2
        · rcases lk with ⟨kk, _⟩ | ⟨_, c, hc, hcell⟩
          · have kk : X.env.scope.names.lookup x = some .local := kk
            rcases hso with z | z
            · rw [kk] at z; cases z
            · rw [kk] at z; cases z
          · refine ⟨c, ?_, hcell.keeps keep⟩
            show (cellsFrom (C + 1) sc.names (clOf sc X.env)).lookup x = some c
            rw [freeIn x hfr]; exact hc
  · -- cell
    intro x c hc
    rcases cells x c hc with ⟨_, g, _⟩ | ⟨e, _⟩
    · exact ⟨none, g⟩
    · obtain ⟨v, z⟩ := I.cell x c e
      exact ⟨v, z.keeps keep⟩
  · -- free
    show upd H s.heap.objs.size (.lst []) C = none
    rw [upd_ne (Nat.ne_of_gt (show @LT.lt Nat instLTNat s.heap.objs.size C by omega))]
    exact fresh _ (show @LE.le Nat instLENat s.heap.objs.size C by omega)
  · -- freeC
    intro x c hc
    rcases cells x c hc with ⟨_, _, g⟩ | ⟨e, _⟩
    · rw [upd_ne (Nat.ne_of_gt (show @LT.lt Nat instLTNat s.heap.objs.size c by omega))]; exact fresh _ (show @LE.le Nat instLENat s.heap.objs.size c by omega)
    · rw [upd_ne (Nat.ne_of_lt (cellLt x c e))]; exact I.freeC x c e
  · -- pin
    intro p hp
    exact absurd (show p ∈ ([] : List (Addr × Obj)) from hp) (by simp)
  · -- hok
    refine I.hok.laid keep (Nat.le_refl _) ?_
    exact ⟨Nat.zero_le _, [], 0, .nil, atD⟩
  · -- len
    unfold entry
    rw [List.length_map]
    exact B.len
noncomputable def PTs (X : Cx) (ifs : List Expr) (t : TT) : Prop :=
  ∀ (pins : List (Addr × Obj)) (s : Shared) (σ : St) (H : Hp) (Q : Bool → Hp → Prop), Inv X pins σ H s → t σ H Q →
    wpAny (model X.prog X.w) X.A (forIn ifs true fun c r => if r = true then do let ok ← isTrue c X.env (eval c X.env); pure (ForInStep.yield ok) else pure (ForInStep.yield r)) (TP X pins σ Q) X.xe s
noncomputable def tTrue : TT := fun _ H Q => Q true H
theorem pts_nil : PTs X [] tTrue := fun _ _ _ H _ I h => wpAny_tests_nil ⟨H, I, h⟩
theorem pts_one {c : Expr} {t : TT} (h : PT X c t) : PTs X [c] t := fun pins s σ H Q I hw => wpAny_tests_one (h pins s σ H Q I hw)
noncomputable def tComp (src : List (Option Nat)) (wi : TI) (g : TG) (tt : TT) (te : TE) : TE := fun σ H Q => wi σ H fun J H1 => ∀ D, H1 D = none →
  ∃ W : Nat → Nat → St → Hp → Prop, (∃ m, W 0 m (entry src σ) (upd H1 D (.lst []))) ∧ ∀ i m σ' H', W i m σ' H' →
    (J.stop i H' ∧ Q (.ref D) H') ∨ (J.go i H' ∧ ∃ N : St → Hp → Prop, (∀ σ2 H2, N σ2 H2 → ∃ m', m' < m ∧ W (i + 1) m' σ2 H2) ∧ ∀ x H2, J.yld i H' x H2 → g x σ' H2 fun σ3 H3 => tt σ3 H3 fun b H4 =>
      if b = true then te σ3 H4 fun v H5 => ∃ xs, H5 D = some (.lst xs) ∧ xs.length < sizeLine ∧ N σ3 (upd H5 D (.lst (xs ++ [v]))) else N σ3 H4)
theorem pe_comp {elt tgt iter : Expr} {ifs : List Expr} {wi : TI} {g : TG} {tt : TT} {te : TE} {pos : Pos} (hc : X.calm = true) (B : BkScope X.env.scope sc X.N N src) (hi : PI X tgt iter wi)
    (hg : ∀ (s : Shared) (H : Hp) (C : Addr) (fp : List Addr), PG (cxB X sc N fp C s H) tgt g) (ht : ∀ (s : Shared) (H : Hp) (C : Addr) (fp : List Addr), PTs (cxB X sc N fp C s H) ifs tt)
    (he : ∀ (s : Shared) (H : Hp) (C : Addr) (fp : List Addr), PE (cxB X sc N fp C s H) elt te) (hs : ∀ x, foldedSetIterable iter X.env x = pure x := by intro _; rfl) :
    PE X (.ListComp elt [⟨tgt, iter, ifs, 0⟩] sc pos) (tComp src wi g tt te) := by
  intro pins s σ H Q I h
  rw [eval_ListComp]
  have has := B.has rfl I.ok
  refine wpAny_comprehension_free (use := none) rfl hs (clos_of has) B.kind (fun y hy hk => by have := B.look (x := y.1) (k := y.2) hy; rw [hk] at this; exact this)
    (thn (hi pins s σ H _ I h) fun v s1 h1 => thn h1 fun itv s2 h2 => ?_)
  obtain ⟨it, fp, tn, J, H2, e, I2, T, st2, f2, q⟩ := h2
  subst e
  refine wpAny_newObj_type (newBlock ?_)
  obtain ⟨W, ⟨m0, w0⟩, turn⟩ := q s2.heap.objs.size (I2.hok.fresh (Nat.le_refl _))
  have hlt : ∀ b ∈ fp, b < s2.heap.objs.size := fun b hb => by
    obtain ⟨o, ho, _⟩ := T.obj 0 _ st2 b hb
    exact Heap.lt_size ho
  have szL : (s2.heap.push { cls := .type "list", dict := none, data := .seq ([] : List Value).toArray } : Heap).objs.size = s2.heap.objs.size + 1 := Heap.size_push ..
  generalize hh1 : pushCells ((s2.heap.push { cls := .type "list", dict := none, data := .seq ([] : List Value).toArray } : Heap).push { cls := .type "dict", data := .dict #[] }) sc.names = hB
  have IB := I2.block (C := (s2.heap.push { cls := .type "list", dict := none, data := .seq ([] : List Value).toArray } : Heap).objs.size) (t := s2.toks) B f2 hlt szL hh1.symm
  generalize (s2.heap.push { cls := .type "list", dict := none, data := .seq ([] : List Value).toArray } : Heap).objs.size = C at IB szL ⊢
  have keepB : ∀ b o, s2.heap.get? b = some o → hB.get? b = some o := fun b o e => by
    rw [← hh1]
    exact pushCells_keeps _ _ b o (Heap.get?_push_of_some _ (Heap.get?_push_of_some _ e))
  have stB : tn 0 hB := T.keep 0 _ _ st2 fun b _ o e => keepB b o e
  have frB : ∀ b ∈ fp, upd H2 s2.heap.objs.size (.lst []) b = none := fun b hb => by
    rw [upd_ne (Nat.ne_of_lt (hlt b hb))]
    exact (f2 b hb).1
  have stat : ∀ {H' : Hp}, (∀ b ∈ fp, H' b = none) → ∀ b ∈ fp, FpOk (cxB X sc N fp C s2 H2) [] H' b := fun {H'} hn b hb => by
    obtain ⟨z1, z2⟩ := IB.ok.exf b hb
    exact ⟨hn b hb, z1, IB.ok.exfs b hb, .inl hb, z2, fun p hp => absurd (show p ∈ ([] : List (Addr × Obj)) from hp) (by simp)⟩
  show codeAny (model X.prog X.w) X.A (.compStart (.ListComp elt [⟨tgt, iter, ifs, 0⟩] sc pos) 0 (.ref it) (.ref s2.heap.objs.size) (bkEnv sc (clOf sc X.env) C X.env)) (compPost (model X.prog X.w) X.A X.xe none (EP X pins σ Q) (.ref s2.heap.objs.size) C) { s2 with heap := hB }
  have loop : codeAny (model X.prog X.w) X.A (.compLoop (.ListComp elt [⟨tgt, iter, ifs, 0⟩] sc pos) 0 (.ref it) (.ref s2.heap.objs.size) (bkEnv sc (clOf sc X.env) C X.env))
      (compPost (model X.prog X.w) X.A X.xe none (EP X pins σ Q) (.ref s2.heap.objs.size) C) { s2 with heap := hB } := by
    refine compLoop_go (fun n s' => ∃ i σ' H', Inv (cxB X sc N fp C s2 H2) [] σ' H' s' ∧ tn i s'.heap ∧ (∀ b ∈ fp, H' b = none) ∧ W i n σ' H') ?_ m0 ⟨0, _, _, IB, stB, frB, w0⟩
    rintro n s3 ⟨i, σ3, H3, I3, st3, fr3, w3⟩
    rcases turn i n σ3 H3 w3 with ⟨stop, qn⟩ | ⟨go, N', hN, step⟩
    · refine thn (T.done (cxB X sc N fp C s2 H2) rfl rfl rfl hc i [] s3 σ3 H3 _ I3 (stat fr3) st3 stop) fun r s4 ⟨hr, I4⟩ => ?_
      subst hr
      obtain ⟨m, hn, _⟩ := I4.loc
      refine ⟨m, hn, fun h' hs' => ?_⟩
      refine ⟨.ref s2.heap.objs.size, H3, ?_, rfl, qn⟩
      have ltC : ∀ b o, s2.heap.get? b = some o → b ≠ C := fun b o e => Nat.ne_of_lt (show @LT.lt Nat instLTNat b C by have : @LT.lt Nat instLTNat b s2.heap.objs.size := Heap.lt_size e; omega)
      have base := I4.base
      have freeC : H3 C = none := I4.free
      refine I2.call' (s' := { s4 with heap := h' }) (ch := fp) I4.os ⟨fun b o e n hb hx => ?_, fun b o e n hb hx => ?_, base.free, fun b o e hx => ?_, base.tups, base.frzs, base.tbls⟩ (fun b ob e => ?_) I4.bare (fun b hb => ?_)
      · exact (hs'.2 b (ltC b o e)).trans (base.keep b o e n hb hx)
      · obtain ⟨sl, e1⟩ := base.slot b o e n hb hx
        exact ⟨sl, (hs'.2 b (ltC b o e)).trans e1⟩
      · obtain ⟨o', e1⟩ := base.there b o e hx
        exact ⟨o', (hs'.2 b (ltC b o e)).trans e1⟩
      · refine (I4.hok b ob e).stay (fun c w' hc' q' => (hs'.2 c ?_).trans q') (fun _ q' => q') fun _ _ q' => q'
        intro z
        rcases hc' with z' | z'
        · rw [← z', z, freeC] at e; cases e
        · rw [z, freeC] at z'; cases z'
      · obtain ⟨f0, f1, f2', f3, f4, f5⟩ := f2 b hb
        exact ⟨f3, f1, f4, f5⟩
    · refine thn (T.item (cxB X sc N fp C s2 H2) rfl rfl rfl hc i [] s3 σ3 H3 _ I3 (stat fr3) st3 go) fun r s4 ⟨u, hr, h4⟩ => ?_
      subst hr
      refine thn h4 fun _ s5 ⟨x, H5, I5, r5, y5, st5, fr5⟩ => ?_
      have I5' := I5.pinned (stat fr5) (T.obj _ _ st5)
      have again : ∀ {s7 : Shared} {σ7 : St} {H7 : Hp}, Inv (cxB X sc N fp C s2 H2) ([] ++ pinsAt fp s5.heap) σ7 H7 s7 → N' σ7 H7 → ∃ m, m < n ∧ ∃ i σ' H', Inv (cxB X sc N fp C s2 H2) [] σ' H' s7 ∧ tn i s7.heap ∧ (∀ b ∈ fp, H' b = none) ∧ W i m σ' H' := fun {s7 σ7 H7} I7 n7 => by
        obtain ⟨m', hm, w7⟩ := hN σ7 H7 n7
        refine ⟨m', hm, i + 1, σ7, H7, I7.unpinned, T.keep _ _ _ st5 fun b hb o e => (I7.pin (b, o) (List.mem_append_right _ (List.mem_append_right _ (mem_pinsAt hb e)))).1, fun b hb => ?_, w7⟩
        obtain ⟨o, e, d⟩ := T.obj _ _ st5 b hb
        exact (I7.pin (b, o) (List.mem_append_right _ (List.mem_append_right _ (mem_pinsAt hb e)))).2.1
      refine thn (hg s2 H2 C fp _ s5 σ3 H5 x u _ I5' r5 (step x H5 y5)) fun _ s6 ⟨σ6, H6, I6, q6⟩ => ?_
      refine thn (ht s2 H2 C fp _ s6 σ6 H6 _ I6 q6) fun b s7 ⟨H7, I7, q7⟩ => ?_
      cases b with
      | false =>
        rw [if_neg Bool.false_ne_true] at q7 ⊢
        exact again I7 q7
      | true =>
        rw [if_pos rfl] at q7 ⊢
        refine thn (he s2 H2 C fp _ s7 σ6 H7 _ I7 q7) fun u8 s8 ⟨v8, H8, I8, r8, xs, hD, hz, n8⟩ => ?_
        exact thn (mt_append (X := cxB X sc N fp C s2 H2) _ s8 σ6 H8 (.ref s2.heap.objs.size) [v8] (.ref s2.heap.objs.size) [u8] (fun _ H => N' σ6 H) I8 rfl (.cons r8 .nil) ⟨_, xs, v8, rfl, rfl, hD, hz, n8⟩) fun _ s9 ⟨_, H9, I9, _, n9⟩ => again I9 n9
  exact codeAny_compStart_list loop (T.self _ 0 _ _ _ stB loop)
end
section
variable {X : Cx}
noncomputable def rSum (K : PySem.W.Frag) : List V → Hp → VK → Prop := fun xs H Q => ∃ (p : Addr) (ns : List Int), xs = [.ref p] ∧ SqL K H p (ns.map V.int) ∧ Q (.int ns.sum) H
theorem call_sum (hc : X.calm = true) : CallR X (.builtin "sum") (rSum X.K) := by
  intro pins s σ H xs us Q I rs h
  obtain ⟨p, ns, rfl, hq, q⟩ := h
  obtain ⟨u, rfl, r1⟩ := vals1 rs
  cases r1
  obtain ⟨its, r, pl, hz⟩ := I.list hq
  have hi : IntsAre its ns := intsAre_of r
  obtain ⟨xs, ex⟩ := hi.allInts.items
  refine sum_intListG (xs := xs) (I.ok.hd hc) (by rw [← ex]; exact pl.isList) fun h' tk t' hk => ?_
  have e : preSum (numAt xs) xs.size = ns.sum := by
    have e1 : numsOf its.toArray.toList = ns := by rw [show its.toArray.toList = its from rfl]; exact hi.numsOf
    rw [preSum_eq, List.take_of_length_le (by simp), ← e1, ex, nums_intItems]
  rw [e]
  exact ⟨.int ns.sum, H, I.kept hk, ⟨_, rfl⟩, q⟩
noncomputable def rAll (K : PySem.W.Frag) : List V → Hp → VK → Prop := fun xs H Q => ∃ (p : Addr) (bs : List Bool), xs = [.ref p] ∧ SqL K H p (bs.map V.bl) ∧ Q (.bl (bs.all id)) H
theorem all_range (bs : List Bool) : ((List.range bs.length).all fun i => bs.getD i false) = bs.all id := by
  induction bs with
  | nil => rfl
  | cons b r ih =>
    rw [List.length_cons, List.range_succ_eq_map, List.all_cons, List.all_map, List.all_cons, ← ih]
    rfl
theorem call_all (hc : X.calm = true) : CallR X (.builtin "all") (rAll X.K) := by
  intro pins s σ H xs us Q I rs h
  obtain ⟨p, bs, rfl, hq, q⟩ := h
  obtain ⟨u, rfl, r1⟩ := vals1 rs
  cases r1
  obtain ⟨its, r, pl, hz⟩ := I.list hq
  have hlen : its.length = bs.length := by have := r.length; rw [List.length_map] at this; exact this.symm
  refine call_function_tree F.kind_all F.plain_all F.entry_all (F.args_all1 _) ?_
  show wpAny _ X.A.in1 (pyIter (.ref p) >>= _) _ _ s
  refine wpAny_bind (wpAny_pyIter_list pl.isList ?_)
  have hne : p ≠ s.heap.objs.size := by
    obtain ⟨o, ho, _⟩ := pl.isList
    exact Nat.ne_of_lt (Heap.lt_size ho)
  refine wpAny_pure ⟨plainId_quiet F.plain_all_loop _, ?_⟩
  refine codeAny_all_loop (Walks.list (A := X.A.in1) (I.ok.hd hc) s.heap.objs.size p hne its.toArray) (fun i => bs.getD i false) (fun i v s' Q' E' hP hQ' => ?_) its.toArray.size 0 _ rfl (Nat.zero_le _)
    ⟨⟨_, Heap.get?_push_size _ rfl, rfl, rfl⟩, (show s.heap.IsList p its.toArray from pl.isList).at fun o e => Heap.get?_push_of_some _ e⟩ fun h' tk hk => ?_
  · have hP' : its[i]? = some v := by simpa using hP
    have hi : i < bs.length := by rw [← hlen]; exact (List.getElem?_eq_some_iff.mp hP').1
    obtain ⟨u, hu, ru⟩ := r.get (i := i) (x := V.bl (bs[i])) (by simp [hi])
    rw [hP'] at hu; cases hu
    obtain rfl : v = Value.bool bs[i] := ru
    have e : bs.getD i false = bs[i] := by simp [List.getD, hi]
    dsimp only at hQ'
    rw [e] at hQ'
    exact wpAny_truthy_bool hQ'
  · refine ⟨.bl (bs.all id), H, I.kept (t' := tk) fun b o e => hk b o (fun z => ?_) (Heap.get?_push_of_some _ e), ?_, q⟩
    · have z' : b = s.heap.objs.size := by simpa using z
      exact absurd (Heap.lt_size e) (by rw [z']; exact Nat.lt_irrefl _)
    · show Value.bool _ = Value.bool _
      rw [List.drop_zero, List.size_toArray, hlen, all_range]
end
end L2
set_option Elab.async false
set_option linter.all false
set_option maxRecDepth 100000
namespace L2
open PySem PySem.Spec PyProof.Rows
structure FunD (K : PySem.W.Frag) (x qual : Str) (st : Stmt) (dV : Value) (f : Addr) (fd : FuncData) : Prop where
  ex : ∃ (oc : Value) (od : Option Addr) (kV doc pm : Value) (an : Option Addr) (cdv ct : Value) (osl : Array (Option Value)),
    fd = PySem.W.fnOf x qual (defArgs st) (defBody st) (defScope st) dV kV doc pm an cdv ct ∧ K.lookup f = some ⟨oc, od, .func fd, osl⟩ ∧ PySem.W.codeIn K cdv qual = true
  kp : PySem.W.keepIn K (.ref f) = true
theorem funD_mk {K : PySem.W.Frag} {x qual : Str} {st : Stmt} {dV : Value} {f : Addr} {oc : Value} {od an : Option Addr} {osl : Array (Option Value)} {kV doc pm cdv ct : Value}
    (l : K.lookup f = some ⟨oc, od, .func (PySem.W.fnOf x qual (defArgs st) (defBody st) (defScope st) dV kV doc pm an cdv ct), osl⟩)
    (c : PySem.W.codeIn K cdv qual = true) (k : PySem.W.keepIn K (.ref f) = true) : FunD K x qual st dV f (PySem.W.fnOf x qual (defArgs st) (defBody st) (defScope st) dV kV doc pm an cdv ct) := ⟨⟨oc, od, kV, doc, pm, an, cdv, ct, osl, rfl, l, c⟩, k⟩
structure Def (P : Program) (w : World) (K : PySem.W.Frag) (mg : Str → Option Value) (base : Heap) (k : Nat) (x : Str) (ps : List Str) (ds : List V) (sp : Sp) : Prop where
  ex : ∃ (f : Addr) (fd : FuncData) (dvs : List Value), FnOk P w K mg base CX0 k f fd ps sp ∧ mg x = some (.ref f) ∧ PySem.W.keepIn K (.ref f) = true ∧ Binds K fd ps dvs ∧ Vals ds dvs
section
variable {P : Program} {w : World} {K : PySem.W.Frag} {mg : Str → Option Value} {base : Heap}
theorem FunD.ok {x qual : Str} {st : Stmt} {dV : Value} {f : Addr} {fd : FuncData} {N ps : List Str} {k : Nat} {sp : Sp} (F : FunD K x qual st dV f fd) (S : FnScope N ps (defScope st)) (len : ∀ vs H Q E, sp vs H Q E → vs.length = ps.length)
    (hbody : ∀ (cdv : Value) (A : Around) (outer : List Env) (s : Shared) (H : Hp) (vs : List V) (Q : VK) (E : XK), Room k (A.deeper (envOfC qual (defScope st) s.heap.objs.size f cdv)) → sp vs H Q E →
      ∃ t, PSs (cxOf CX0 P w K mg base N qual (defScope st) f cdv A outer s H E).nox (defBody st) t ∧ t { nx := fun _ H' => Q .non H', rt := Q } (start N vs) H) : FnOk P w K mg base CX0 (k + 1) f fd ps sp := by
  obtain ⟨oc, od, kV, doc, pm, an, cdv, ct, osl, rfl, lk, hcd⟩ := F.ex
  refine fn_of lk hcd S len fun A outer s H vs Q E hr hsp => ?_
  obtain ⟨t, h, q⟩ := hbody cdv A outer s H vs Q E hr hsp
  exact ⟨t, h.nox, q⟩
theorem FunD.def {x qual : Str} {st : Stmt} {f : Addr} {fd : FuncData} {ps : List Str} {k : Nat} {sp : Sp} (F : FunD K x qual st .none f fd) (G : FnOk P w K mg base CX0 k f fd ps sp) (hm : mg x = some (.ref f))
    (h : ∀ (kV doc pm : Value) (an : Option Addr) (cdv ct : Value) (us : List Value), us.length = ps.length → bindArgs (PySem.W.fnOf x qual (defArgs st) (defBody st) (defScope st) .none kV doc pm an cdv ct) ⟨us, []⟩ = pure (ps.zip us)) : Def P w K mg base k x ps [] sp := by
  obtain ⟨oc, od, kV, doc, pm, an, cdv, ct, osl, rfl, lk, hcd⟩ := F.ex
  exact ⟨f, _, [], G, hm, F.kp, .all (h kV doc pm an cdv ct), .nil⟩
end
section
variable {X : Cx}
theorem pe_callD {k : Nat} {x : Str} {ps : List Str} {ds : List V} {sp : Sp} {e : Expr} {es : List Expr} {t : TA} {p pos : Pos} (D : Def X.prog X.w X.K X.mg X.base k x ps ds sp) (hr : Room k X.A) (hg : Gl X x)
    (ha : PA X (e :: es) t) (hdb : (x == ("__debug__" : Str)) = false := by decide) (he : starEach (e :: es) X.env = (false, eval e X.env) :: starEach es X.env := by rfl) (hpl : (backTo pos (starEach es X.env)).any (·.1) = false := by rfl) :
    PE X (.Call (.Name x p) (e :: es) [] pos) (tCall sp ds E0 t) := by
  obtain ⟨f, fd, dvs, F, hm, hk, hb, hd⟩ := D.ex
  exact pe_call F hr hg hm hk hb hd pass0 ha hdb he hpl
end
end L2
namespace Att
open PySem PySem.W PySem.Calls PyProof.Rows
theorem weight_mem : ∀ {ns : List Int} {x : Int}, x ∈ ns → Builtin.Int.intBits x ≤ WData.weightAll (ns.map WData.int)
  | n :: r, x, h => by
    rw [List.map_cons]
    unfold WData.weightAll
    rcases List.mem_cons.mp h with e | h
    · subst e
      have : WData.weight (.int x) = Builtin.Int.intBits x := by unfold WData.weight Builtin.Int.intBits; rfl
      omega
    · have := weight_mem h
      omega
theorem bits_of_lay {ns : List Int} (h : WData.layableAll [WData.list (ns.map WData.int)] = true) : ∀ x ∈ ns, Builtin.Int.intBits x ≤ 2 ^ 20 := fun x hx => by
  have h1 : WData.layable (WData.list (ns.map WData.int)) = true := by simpa [WData.layableAll] using h
  unfold WData.layable at h1
  rw [Bool.and_eq_true] at h1
  have h2 : WData.weight (WData.list (ns.map WData.int)) ≤ 2 ^ 20 := of_decide_eq_true h1.2
  have h3 : WData.weight (WData.list (ns.map WData.int)) = WData.weightAll (ns.map WData.int) := by unfold WData.weight; rfl
  have h4 := weight_mem hx
  omega
theorem attach_callB {l : OpenLaw} {n : Nat} {q : Program} {loose : List Str} {XP : (Str → Option Value) → Heap → Prop} {YP : World → Heap → Prop} {d : DefRec}
    (hn : l.most = some n) (hdf : d.params.defaults = [])
    (call : ∀ (w : World) (s₀ s₁ : Shared) (mg mb : Str → Option Value) (fa : Addr) (o : Obj) (pm cd doc : Value) (a : Addr) (vs : List Value) (ns : List Int),
      Ground q loose [] XP w s₀ mg mb s₁.heap → YP w s₁.heap →
      s₁.heap.get? fa = some o → o.data = .func (docDef d.name d.params d.body d.scope pm cd doc) → s₁.heap.CodeRec cd d.name → mg d.name = some (.ref fa) →
      s₁.heap.get? a = some { cls := .type "list", data := .seq vs.toArray } → IntsAre vs ns → ns.length ≤ n → (∀ x ∈ ns, Builtin.Int.intBits x ≤ 2 ^ 20) → s₁.gens = #[] →
      codeAny (model l.prog w) callerA (.call (.ref fa) ⟨[.ref a], []⟩) (fun r s' => r = .ok (.ret (.bool true)) ∧ OldK s₁.heap s'.heap ∧ s'.os = s₁.os ∧ AllBare s'.gens) s₁) :
    WalkO q loose XP YP l.row.toRowW d [] (fun f vs => PySem.call f vs) := by
  intro w s₀ s₁ mg mb G Y fa o pm cd doc dV kV ho hd hcd hD hmg hg args vals as hpre hlay hrd hwl hlo
  obtain rfl : dV = .none := Dflts.none hD hdf
  obtain rfl : kV = .none := Dflts.noKw hD
  obtain ⟨a, vs, ns, rfl, rfl, hobj, hints, hlen⟩ := script_of hn hpre hwl
  refine enter_call (codeAny_mono (call w s₀ s₁ mg mb fa o pm cd doc a vs ns G Y ho (fd_plain hd) hcd hmg hobj hints hlen (bits_of_lay hlay) hg) fun r s' hq => ?_)
  obtain ⟨rfl, h2, h3, h4⟩ := hq
  exact ⟨.inl ⟨.bool true, .bool true, [], rfl, fun _ => rfl, .bool true, post_true l _, fun _ => ⟨List.Pairwise.nil, fun _ hm => (nomatch hm)⟩⟩, h2, h3, h4⟩
end Att
namespace L2
open PySem PySem.Spec PyProof.Rows
theorem walk_ofB {l : PySem.W.OpenLaw} {n k : Nat} {q : Program} {loose : List Str} {XP : (Str → Option Value) → Heap → Prop} {YP : World → Heap → Prop} {d : DefRec} {K : Params → PySem.W.Frag} {CX : CXT} {sp : PySem.W.Frag → Sp} {x : Str}
    (hn : l.most = some n) (hn2 : n ≤ sizeLine) (hdf : d.params.defaults = []) (hr : Room k callerA)
    (hY : ∀ (w : World) (h : Heap), YP w h → (K w.params).In h)
    (F : ∀ (w : World) (mg : Str → Option Value) (fa : Addr) (h : Heap), (K w.params).In h → h.Ns mainGlobals mg → mg d.name = some (.ref fa) →
      ∃ fd : FuncData, (∀ (s : Shared) (u : Value), BindsTo s fd ⟨[u], []⟩ [(x, u)]) ∧
        ∀ base : Heap, (K w.params).In base → base.Ns mainGlobals mg → FnOk l.prog w (K w.params) mg base CX k fa fd [x] (sp (K w.params)))
    (hsp : ∀ (K : PySem.W.Frag) (H : Hp) (a : Addr) (ns : List Int), ns.length ≤ n → (∀ x ∈ ns, Builtin.Int.intBits x ≤ 2 ^ 20) → Only H → SqL K H a (ns.map V.int) → sp K [.ref a] H (fun v _ => v = .bl true) fun _ _ _ => False)
    (hCX : ∀ (H : Hp) (s : Shared) (e : Value) (s' : Shared), CX [] H s (fun _ _ _ => False) e s' → False) :
    PySem.W.WalkO q loose XP YP l.row.toRowW d [] (fun f vs => PySem.call f vs) := by
  refine Att.attach_callB hn hdf fun w s₀ s₁ mg mb fa o pm cd doc a vs ns G Y ho hd hcd hmg hobj hints hlen hbits hg => ?_
  have KX := hY w _ Y
  obtain ⟨fd, hb, hF⟩ := F w mg fa _ KX G.T.g hmg
  exact law_call KX G.T.g G.T.b G.T.builtins G.T.nolimit hg hobj hints (Nat.le_trans hlen hn2) hr hF hb (fun H hO hS => hsp (K w.params) H a ns hlen hbits hO hS) fun H e s' => hCX H s₁ e s'
end L2
set_option Elab.async false
set_option linter.all false
namespace L2
open PySem
theorem len0 {us : List Value} (h : us.length = 0) : us = [] := List.eq_nil_of_length_eq_zero h
theorem lenS {us : List Value} {n : Nat} (h : us.length = n + 1) : ∃ a r, us = a :: r ∧ r.length = n := by
  cases us with
  | nil => exact absurd h (Nat.succ_ne_zero n).symm
  | cons a r => exact ⟨a, r, rfl, Nat.succ.inj h⟩
theorem len1 {us : List Value} (h : us.length = 1) : ∃ a, us = [a] := by
  obtain ⟨a, r, rfl, h2⟩ := lenS h; cases len0 h2; exact ⟨a, rfl⟩
theorem len2 {us : List Value} (h : us.length = 2) : ∃ a b, us = [a, b] := by
  obtain ⟨a, r, rfl, h2⟩ := lenS h; obtain ⟨b, rfl⟩ := len1 h2; exact ⟨a, b, rfl⟩
theorem len3 {us : List Value} (h : us.length = 3) : ∃ a b c, us = [a, b, c] := by
  obtain ⟨a, r, rfl, h2⟩ := lenS h; obtain ⟨b, c, rfl⟩ := len2 h2; exact ⟨a, b, c, rfl⟩
theorem len4 {us : List Value} (h : us.length = 4) : ∃ a b c d, us = [a, b, c, d] := by
  obtain ⟨a, r, rfl, h2⟩ := lenS h; obtain ⟨b, c, d, rfl⟩ := len3 h2; exact ⟨a, b, c, d, rfl⟩
theorem len5 {us : List Value} (h : us.length = 5) : ∃ a b c d e, us = [a, b, c, d, e] := by
  obtain ⟨a, r, rfl, h2⟩ := lenS h; obtain ⟨b, c, d, e, rfl⟩ := len4 h2; exact ⟨a, b, c, d, e, rfl⟩
end L2
set_option Elab.async false
set_option linter.all false
set_option maxRecDepth 100000
namespace L2
open PySem PySem.Spec PyProof.Rows
open Sem (wp)
noncomputable def NoCtx (h : Heap) (ea : Addr) : Prop := ∃ o vs, h.get? ea = some o ∧ o.data = .fields vs ∧ vs[2]? = some Value.none
theorem NoCtx.keeps {h h' : Heap} {ea : Addr} (c : NoCtx h ea) (k : ∀ o, h.get? ea = some o → h'.get? ea = some o) : NoCtx h' ea := by
  obtain ⟨o, vs, e, d, n⟩ := c
  exact ⟨o, vs, k o e, d, n⟩
noncomputable def Keeps {α : Type} (P : Heap → Prop) : Sem α → Prop
  | .pure _ => True
  | .raise _ => True
  | .unsupported _ => True
  | .finish _ => True
  | .rule _ k => Keeps P (k ())
  | .at _ k => Keeps P (k ())
  | .load _ _ k => ∀ o, Keeps P (k o)
  | .update a _ f k => (∀ h, P h → P (h.update a f)) ∧ Keeps P (k ())
  | .alloc o k => (∀ h, P h → P (h.push o)) ∧ ∀ a, Keeps P (k a)
  | .loadIfAlive _ k => ∀ o, Keeps P (k o)
  | .point _ k => Keeps P (k ())
  | .register _ _ => True
  | .fresh k => ∀ n, Keeps P (k n)
  | .ask k => ∀ x, Keeps P (k x)
  | .choose _ _ k => ∀ n, Keeps P (k n)
  | .os _ _ k => ∀ x, Keeps P (k x)
  | .call .. => False
  | .handled _ k => ∀ x, Keeps P (k x)
  | .newGen _ k => ∀ n, Keeps P (k n)
  | .genState _ k => ∀ x, Keeps P (k x)
  | .resume .. => False
  | .yield .. => True
  | .stack k => ∀ l, Keeps P (k l)
  | .fork .. => True
  | .thread k => ∀ n, Keeps P (k n)
  | .await .. => True
section
variable {α β : Type} {P : Heap → Prop} {M : Model} {Γ : PySem.Ctx} {A : Around}
theorem Keeps.wp {t : Sem α} {Q : α → Pos → Shared → Prop} {E : Value → Pos → Shared → Prop} {p : Pos} {s : Shared} (hk : Keeps P t) (h : wp M Γ t Q E p s) (hp : P s.heap) :
    Sem.wp M Γ t (fun a p' s' => Q a p' s' ∧ P s'.heap) (fun e p' s' => E e p' s' ∧ P s'.heap) p s := by
  induction t generalizing p s with
  | pure a => exact ⟨h, hp⟩
  | raise e => exact ⟨h, hp⟩
  | unsupported w => exact h
  | finish e => exact h
  | rule tag k ih => exact ih () hk h hp
  | «at» q k ih => exact ih () hk h hp
  | load a part k ih => obtain ⟨o, ho, h⟩ := h; exact ⟨o, ho, ih o (hk o) h hp⟩
  | update a part f k ih => exact ⟨h.1, ih () hk.2 h.2 (hk.1 _ hp)⟩
  | alloc o k ih => exact ih _ (hk.2 _) h (hk.1 _ hp)
  | loadIfAlive a k ih => exact ih _ (hk _) h hp
  | point l k ih => exact ih () hk h hp
  | register a k ih => exact h
  | fresh k ih => exact ih _ (hk _) h hp
  | ask k ih => exact ih _ (hk _) h hp
  | choose src n k ih => exact ⟨h.1, ih _ (hk _) h.2 hp⟩
  | os q l k ih => exact ih _ (hk _) h hp
  | call c hd g l k ih => exact hk.elim
  | handled own k ih => exact ih _ (hk _) h hp
  | newGen c k ih => exact ih _ (hk _) h hp
  | genState g k ih => obtain ⟨st, e, h⟩ := h; exact ⟨st, e, ih _ (hk _) h hp⟩
  | resume g r l k ih => exact hk.elim
  | yield v g l k ih => exact h
  | stack k ih => exact ih _ (hk _) h hp
  | fork c k ih => exact h
  | thread k ih => exact ih _ (hk _) h hp
  | await a t b l k ih => exact h
theorem Keeps.any {t : Sem α} {Q : α → Shared → Prop} {E : Value → Shared → Prop} {s : Shared} (hk : Keeps P t) (hp : P s.heap) (h : wpAny M A t Q E s) : wpAny M A t (fun a s' => Q a s' ∧ P s'.heap) (fun e s' => E e s' ∧ P s'.heap) s :=
  fun Γ p hΓ => hk.wp (h Γ p hΓ) hp
theorem Keeps.bind {m : Sem α} {f : α → Sem β} (hm : Keeps P m) (hf : ∀ a, Keeps P (f a)) : Keeps P (m >>= f) := by
  show Keeps P (Sem.bind m f)
  induction m with
  | pure a => exact hf a
  | raise e => trivial
  | unsupported w => trivial
  | finish e => trivial
  | rule tag k ih => exact ih () hm
  | «at» q k ih => exact ih () hm
  | load a part k ih => exact fun o => ih o (hm o)
  | update a part g k ih => exact ⟨hm.1, ih () hm.2⟩
  | alloc o k ih => exact ⟨hm.1, fun a => ih a (hm.2 a)⟩
  | loadIfAlive a k ih => exact fun o => ih o (hm o)
  | point l k ih => exact ih () hm
  | register a k ih => trivial
  | fresh k ih => exact fun o => ih o (hm o)
  | ask k ih => exact fun o => ih o (hm o)
  | choose src n k ih => exact fun o => ih o (hm o)
  | os q l k ih => exact fun o => ih o (hm o)
  | call c hd g l k ih => exact hm.elim
  | handled own k ih => exact fun o => ih o (hm o)
  | newGen c k ih => exact fun o => ih o (hm o)
  | genState g k ih => exact fun o => ih o (hm o)
  | resume g r l k ih => exact hm.elim
  | yield v g l k ih => trivial
  | stack k ih => exact fun o => ih o (hm o)
  | fork c k ih => trivial
  | thread k ih => exact fun o => ih o (hm o)
  | await a t b l k ih => trivial
end
section
variable {ea : Addr}
theorem noctx_update {h : Heap} {a : Addr} {f : Obj → Obj} (c : NoCtx h ea) (hf : ∀ o vs, o.data = .fields vs → ∃ ws, (f o).data = .fields ws ∧ ws[2]? = vs[2]?) : NoCtx (h.update a f) ea := by
  obtain ⟨o, vs, e, d, n⟩ := c
  by_cases q : a = ea
  · subst q
    obtain ⟨ws, d2, n2⟩ := hf o vs d
    exact ⟨f o, ws, Heap.get?_update_self _ e (Obj.isFreed_of_fields d2), d2, n2.trans n⟩
  · exact ⟨o, vs, (Heap.get?_update_other _ _ q).trans e, d, n⟩
theorem noctx_push {h : Heap} {o : Obj} (c : NoCtx h ea) : NoCtx (h.push o) ea := c.keeps fun _ e => Heap.get?_push_of_some _ e
theorem noctx_field {h : Heap} {a : Addr} {i : Nat} {v : Value} (hi : i ≠ 2) (c : NoCtx h ea) : NoCtx (h.update a (Obj.mapFields (·.setIfInBounds i v))) ea :=
  noctx_update c fun o vs d => ⟨_, Obj.data_mapFields d _, by rw [Array.getElem?_setIfInBounds_ne hi]⟩
theorem keep_load {P : Heap → Prop} {a : Addr} : Keeps P (load a) := fun _ => trivial
theorem keep_stack {P : Heap → Prop} : Keeps P (stack : Sem (List (Code × Pos))) := fun _ => trivial
theorem keep_ite {P : Heap → Prop} {α : Type} {c : Prop} [Decidable c] {x y : Sem α} (h1 : Keeps P x) (h2 : Keeps P y) : Keeps P (if c then x else y) := by
  by_cases h : c
  · rw [if_pos h]; exact h1
  · rw [if_neg h]; exact h2
theorem keep_field {v : Value} {i : Nat} : Keeps (NoCtx · ea) (field v i) := by
  unfold field fieldsOf
  repeat' first
    | exact trivial
    | exact keep_load
    | (refine Keeps.bind ?_ fun _ => ?_)
    | split
theorem keep_setField {v x : Value} {i : Nat} (hi : i ≠ 2) : Keeps (NoCtx · ea) (setField v i x) := by
  unfold setField updateField
  cases v with
  | ref a =>
    refine keep_load.bind fun o => ?_
    cases o.data with
    | fields vs => exact keep_ite ⟨fun h c => noctx_field hi c, trivial⟩ trivial
    | _ => trivial
  | _ => trivial
theorem keep_setFlight {e : Value} {f : Option Addr} : Keeps (NoCtx · ea) (setFlight e f) := by
  unfold setFlight
  exact keep_field.bind fun tb => keep_ite (keep_setField (by decide)) trivial
theorem keep_entry {a b c d e : Value} {l : List Value} : Keeps (NoCtx · ea) (EntryCells.newEntry a b c d e l) := by
  unfold EntryCells.newEntry newFields newObj
  dsimp only
  repeat' first
    | exact trivial
    | exact ⟨fun h c => noctx_push c, fun _ => trivial⟩
    | (refine Keeps.bind ?_ fun _ => ?_)
    | (refine keep_ite ?_ ?_)
    | split
theorem keep_place {f : Addr} {b : Bool} : Keeps (NoCtx · ea) (entryPlaceOf f b) := by
  unfold entryPlaceOf
  refine keep_stack.bind fun l => ?_
  split <;> trivial
theorem keep_ready : ∀ (l : List Env), Keeps (NoCtx · ea) (readyFrames l)
  | [] => trivial
  | env :: outer => by
    unfold readyFrames
    cases env.frame with
    | none => trivial
    | some f =>
      refine keep_load.bind fun o => keep_ite trivial ?_
      refine Keeps.bind ?_ fun im => Keeps.bind ?_ fun bk => Keeps.bind ⟨fun h c => noctx_update c fun o vs d => ⟨vs, d, rfl⟩, trivial⟩ fun _ => keep_ready outer
      · unfold behindIsImport
        repeat' first
          | exact trivial
          | exact keep_field
          | (refine Keeps.bind ?_ fun _ => ?_)
          | (refine keep_ite ?_ ?_)
      · unfold keptBack underTheClaimsCaller
        repeat' first
          | exact trivial
          | exact keep_stack
          | (refine Keeps.bind ?_ fun _ => ?_)
          | (refine keep_ite ?_ ?_)
          | split
theorem keep_frameOf {env : Env} : Keeps (NoCtx · ea) (PySem.frameOf env) := by
  unfold PySem.frameOf frameEnvs frameObject
  repeat' first
    | exact trivial
    | exact keep_stack
    | exact keep_ready _
    | (refine Keeps.bind ?_ fun _ => ?_)
    | split
theorem keep_note {e : Value} {env : Env} : Keeps (NoCtx · ea) (noteFrame e env) := by
  unfold noteFrame
  cases env.frame with
  | none => trivial
  | some f =>
    refine keep_field.bind fun hd => ?_
    have fin : Keeps (NoCtx · ea) (do setField e 1 (← EntryCells.newEntry hd (← PySem.frameOf env) .none (rawInt f) .none (← entryPlaceOf f (hd != .none)))) :=
      keep_frameOf.bind fun fr => keep_place.bind fun pl => keep_entry.bind fun en => keep_setField (by decide)
    exact keep_ite (keep_field.bind fun x => keep_ite trivial ((keep_setField (by decide)).bind fun _ => fin)) fin
theorem keep_leaving {e : Value} {env : Env} : Keeps (NoCtx · ea) (leaving env e) := keep_note.bind fun _ => keep_setFlight
end
section
variable {M : Model} {A : Around} {E : Value → Shared → Prop} {s : Shared} {base : Heap} {env : Env} {outer l : List Env} {L e : Addr} {cls a0 : Value} {Q : Unit → Shared → Prop}
theorem leaves_onC (hfr : A.frames = some (env :: outer)) (hf : env.frame = some L) (hfl : Heap.FlyingW base (env :: outer) e cls a0 s.heap) (nc : NoCtx s.heap e)
    (hQ : ∀ h', Heap.FlyingW base outer e cls a0 h' → NoCtx h' e → s.heap.UpToSlots h' → Q () { s with heap := h' }) : wpAny M A (leaving env (.ref e)) Q E s :=
  wpAny_mono (keep_leaving.any nc (wpAny_leaves_onW (Q := fun _ s' => ∃ h', s' = { s with heap := h' } ∧ Heap.FlyingW base outer e cls a0 h' ∧ s.heap.UpToSlots h') (E := fun _ _ => False) hfr hf hfl fun h' a b => ⟨h', rfl, a, b⟩))
    (fun _ s' ⟨⟨h', e', a, b⟩, n⟩ => by subst e'; exact hQ h' a n b) fun _ _ z => z.1.elim
theorem leaves_madeC {h : Heap} {args : List Value} (hfr : A.frames = some (env :: outer)) (hf : env.frame = some L) (hkb : base.StaysIn h) (hl : h.FunFrames base (env :: outer)) (hx : Heap.MadeExcOf h s.heap e cls args)
    (hQ : ∀ h' t, Heap.FlyingW base outer e cls (.ref t) h' → NoCtx h' e → h'.TupAt t args → base.get? t = none → s.heap.UpToSlots h' → Q () { s with heap := h' }) : wpAny M A (leaving env (.ref e)) Q E s := by
  have nc : NoCtx s.heap e := by
    obtain ⟨t, he, _⟩ := hx.there
    exact ⟨_, _, he, rfl, rfl⟩
  exact wpAny_mono (keep_leaving.any nc (wpAny_leaves_madeW (Q := fun _ s' => ∃ h' t, s' = { s with heap := h' } ∧ Heap.FlyingW base outer e cls (.ref t) h' ∧ h'.TupAt t args ∧ base.get? t = none ∧ s.heap.UpToSlots h') (E := fun _ _ => False) hfr hf hkb hl hx fun h' t a b c d => ⟨h', t, rfl, a, b, c, d⟩))
    (fun _ s' ⟨⟨h', t, e', a, b, c, d⟩, n⟩ => by subst e'; exact hQ h' t a n b c d) fun _ _ z => z.1.elim
theorem looks_onC (hfr : A.frames = some (env :: outer)) (hf : env.frame = some L) (hfl : Heap.FlyingW base (env :: outer) e cls a0 s.heap) (nc : NoCtx s.heap e)
    (hQ : ∀ h', Heap.HeldW base (env :: outer) e cls a0 L h' → NoCtx h' e → s.heap.UpToSlots h' → Q () { s with heap := h' }) : wpAny M A (noteFrame (.ref e) env) Q E s :=
  wpAny_mono (keep_note.any nc (wpAny_looks_onW (Q := fun _ s' => ∃ h', s' = { s with heap := h' } ∧ Heap.HeldW base (env :: outer) e cls a0 L h' ∧ s.heap.UpToSlots h') (E := fun _ _ => False) hfr hf hfl fun h' a b => ⟨h', rfl, a, b⟩))
    (fun _ s' ⟨⟨h', e', a, b⟩, n⟩ => by subst e'; exact hQ h' a n b) fun _ _ z => z.1.elim
theorem landsC (hh : Heap.HeldW base l e cls a0 L s.heap) (nc : NoCtx s.heap e)
    (hQ : ∀ h', Heap.FlyingW base l e cls a0 h' → NoCtx h' e → s.heap.UpToSlots h' → Q () { s with heap := h' }) : wpAny M A (setFlight (.ref e) none) Q E s :=
  wpAny_mono (keep_setFlight.any nc (wpAny_landsW (Q := fun _ s' => ∃ h', s' = { s with heap := h' } ∧ Heap.FlyingW base l e cls a0 h' ∧ s.heap.UpToSlots h') (E := fun _ _ => False) hh fun h' a b => ⟨h', rfl, a, b⟩))
    (fun _ s' ⟨⟨h', e', a, b⟩, n⟩ => by subst e'; exact hQ h' a n b) fun _ _ z => z.1.elim
theorem lands_againC (hh : Heap.FlyingW base l e cls a0 s.heap) (nc : NoCtx s.heap e)
    (hQ : ∀ h', Heap.FlyingW base l e cls a0 h' → NoCtx h' e → s.heap.UpToSlots h' → Q () { s with heap := h' }) : wpAny M A (setFlight (.ref e) none) Q E s :=
  wpAny_mono (keep_setFlight.any nc (lands_againW (Q := fun _ s' => ∃ h', s' = { s with heap := h' } ∧ Heap.FlyingW base l e cls a0 h' ∧ s.heap.UpToSlots h') (E := fun _ _ => False) hh fun h' a b => ⟨h', rfl, a, b⟩))
    (fun _ s' ⟨⟨h', e', a, b⟩, n⟩ => by subst e'; exact hQ h' a n b) fun _ _ z => z.1.elim
end
end L2
set_option Elab.async false
set_option linter.all false
set_option maxRecDepth 100000
namespace L2
open PySem PySem.Spec PyProof.Rows
structure Flew (P : Program) (w : World) (outer : List Env) (H H' : Hp) (h B h' : Heap) (ea : Addr) : Prop where
  hok : HOk P w H' B
  keep : ∀ b o, h.get? b = some o → H b = none → b ∉ frs outer → B.get? b = some o
  slot : ∀ b o, h.get? b = some o → b ∈ frs outer → ∃ sl, h'.get? b = some { o with slots := sl }
  free : ∀ b o, h.get? b = some o → H b = none → H' b = none
  there : ∀ b o, h.get? b = some o → b ∉ frs outer → ∃ o', B.get? b = some o'
  tups : ∀ b xs, H b = some (.tup xs) → H' b = some (.tup xs)
  frzs : ∀ b o u, H b = some (.frz o u) → H' b = some (.frz o u)
  tbls : ∀ b ps, H b = some (.tbl ps) → ∃ more, H' b = some (.tbl (ps ++ more))
  exc : H' ea = none
noncomputable def CX1 (P : Program) (w : World) : CXT := fun outer H s E e s' =>
  ∃ (ea : Addr) (cls a0 : Value) (H' : Hp) (B : Heap), e = .ref ea ∧ Heap.FlyingW B outer ea cls a0 s'.heap ∧ NoCtx s'.heap ea ∧ s'.os = s.os ∧ AllBare s'.gens ∧ Flew P w outer H H' s.heap B s'.heap ea ∧ E cls none H'
section
variable {P : Program} {w : World} {outer : List Env} {H H' : Hp} {h B h' h'' : Heap} {ea : Addr}
theorem Flew.up {cls a0 : Value} (f : Flew P w outer H H' h B h' ea) (fl : Heap.FlyingW B outer ea cls a0 h') (up : h'.UpToSlots h'') : Flew P w outer H H' h B h'' ea :=
  ⟨f.hok, f.keep, fun b o e hb => by
    obtain ⟨sl, e1⟩ := f.slot b o e hb
    obtain ⟨_, o1, e2, nf⟩ := fl.2.2.1.mem hb
    rw [e1] at e2
    cases e2
    obtain ⟨sl', e3⟩ := up b _ e1 nf
    exact ⟨sl', e3⟩, f.free, f.there, f.tups, f.frzs, f.tbls, f.exc⟩
theorem Flew.un (f : Flew P w outer H H' h B h' ea) (st : B.StaysIn h') : Un (frs outer) [] H H' h h' where
  keep := fun b o e n hb _ => st b o (f.keep b o e n hb)
  slot := fun b o e _ hb _ => f.slot b o e hb
  free := fun b o e n _ => f.free b o e n
  there := fun b o e _ => by
    by_cases hb : b ∈ frs outer
    · obtain ⟨sl, e1⟩ := f.slot b o e hb
      exact ⟨_, e1⟩
    · obtain ⟨o', e1⟩ := f.there b o e hb
      exact ⟨o', st b o' e1⟩
  tups := f.tups
  frzs := f.frzs
  tbls := f.tbls
theorem Flew.ok (f : Flew P w outer H H' h B h' ea) (st : B.StaysIn h') : HOk P w H' h' := f.hok.kept st
end
section
variable {P : Program} {w : World} {K : PySem.W.Frag} {mg : Str → Option Value} {base : Heap} {N : List Str} {qual : Str} {scope : Scope} {f : Addr} {cd : Value} {A : Around} {outer : List Env} {s₀ : Shared} {H₀ : Hp} {E : XK}
theorem passes1 : Passes (CX1 P w) (cxOf (CX1 P w) P w K mg base N qual scope f cd A outer s₀ H₀ E) E := by
  intro pins σ H s e s' I hc
  obtain ⟨ea, cls, a0, H', B, rfl, fl, nc, os, bare, fw, q⟩ := hc
  have fr : frs (envOfC qual scope s₀.heap.objs.size f cd :: outer) = s₀.heap.objs.size :: frs outer := rfl
  have neL : ∀ b o, s₀.heap.get? b = some o → b ∉ frs outer → b ∉ frs (envOfC qual scope s₀.heap.objs.size f cd :: outer) := fun b o e hb z => by
    rw [fr] at z
    rcases List.mem_cons.mp z with z | z
    · have := Heap.lt_size e
      rw [z] at this
      exact absurd this (Nat.lt_irrefl _)
    · exact hb z
  show wpAny (model P w) (A.deeper (envOfC qual scope s₀.heap.objs.size f cd)) (leaving (envOfC qual scope s₀.heap.objs.size f cd) (.ref ea)) (fun _ s'' => CX1 P w outer H₀ s₀ E (.ref ea) s'') (fun e' s'' => CX1 P w outer H₀ s₀ E e' s'') s'
  refine leaves_onC I.ok.frames rfl fl nc fun h'' fl'' nc'' up => ?_
  have fu := fw.up fl up
  have ub : Un (frs outer) [] H₀ H s₀.heap s.heap := I.base
  refine ⟨ea, cls, a0, H', B, rfl, fl'', nc'', os.trans I.os, bare, ⟨fw.hok, fun b o e n hb => ?_, fun b o e hb => ?_, fun b o e n => ?_, fun b o e hb => ?_, fun b xs e => fw.tups b xs (ub.tups b xs e), fun b o u e => fw.frzs b o u (ub.frzs b o u e), fun b ps e => ?_, fw.exc⟩, q⟩
  · exact fw.keep b o (ub.keep b o e n hb (by simp)) (ub.free b o e n (by simp)) (neL b o e hb)
  · obtain ⟨sl, e1⟩ := ub.slot b o e (I.ok.frf b hb) hb (by simp)
    obtain ⟨sl', e2⟩ := fu.slot b _ e1 (show b ∈ frs (envOfC qual scope s₀.heap.objs.size f cd :: outer) by rw [fr]; exact List.mem_cons_of_mem _ hb)
    exact ⟨sl', e2⟩
  · obtain ⟨o', e1⟩ := ub.there b o e (by simp)
    exact fw.free b o' e1 (ub.free b o e n (by simp))
  · obtain ⟨o', e1⟩ := ub.there b o e (by simp)
    exact fw.there b o' e1 (neL b o e hb)
  · obtain ⟨m1, e1⟩ := ub.tbls b ps e
    obtain ⟨m2, e2⟩ := fw.tbls b _ e1
    exact ⟨m1 ++ m2, by rw [e2, Array.append_assoc]⟩
noncomputable def Raises (X : Cx) (E : XK) (cls : Value) : Prop := ∀ (pins : List (Addr × Obj)) (σ : St) (H : Hp) (s : Shared) (ea : Addr) (h' : Heap) (vs : List Value), Inv X pins σ H s → Heap.MadeExcOf s.heap h' ea cls vs → E cls none H → X.xe (.ref ea) { s with heap := h' }
theorem raises1 {cls : Value} : Raises (cxOf (CX1 P w) P w K mg base N qual scope f cd A outer s₀ H₀ E) E cls := by
  intro pins σ H s ea h' vs I hx q
  have fr : frs (envOfC qual scope s₀.heap.objs.size f cd :: outer) = s₀.heap.objs.size :: frs outer := rfl
  have neL : ∀ b o, s₀.heap.get? b = some o → b ∉ frs outer → b ∉ frs (envOfC qual scope s₀.heap.objs.size f cd :: outer) := fun b o e hb z => by
    rw [fr] at z
    rcases List.mem_cons.mp z with z | z
    · have := Heap.lt_size e
      rw [z] at this
      exact absurd this (Nat.lt_irrefl _)
    · exact hb z
  have stk : s.heap.FunFrames base (envOfC qual scope s₀.heap.objs.size f cd :: outer) := I.stack
  have hin : ∀ env ∈ (envOfC qual scope s₀.heap.objs.size f cd :: outer), ∀ b, env.frame = some b → b ∈ frs (envOfC qual scope s₀.heap.objs.size f cd :: outer) := fun env he b hb => List.mem_filterMap.mpr ⟨env, he, hb⟩
  have sf : ∀ b u, H b = some u → b ∉ frs (envOfC qual scope s₀.heap.objs.size f cd :: outer) := fun b u e z => by
    have n := I.stkFree b z
    rw [e] at n; cases n
  show wpAny (model P w) (A.deeper (envOfC qual scope s₀.heap.objs.size f cd)) (leaving (envOfC qual scope s₀.heap.objs.size f cd) (.ref ea)) (fun _ s'' => CX1 P w outer H₀ s₀ E (.ref ea) s'') (fun e' s'' => CX1 P w outer H₀ s₀ E e' s'') { s with heap := h' }
  refine leaves_madeC (base := PySem.W.hideAll s.heap (frs (envOfC qual scope s₀.heap.objs.size f cd :: outer))) (h := s.heap) I.ok.frames rfl (fun b o e => PySem.W.of_hideAll _ e) (PySem.W.funFrames_hide stk hin) hx fun h'' t fl nc tup hbt up => ?_
  have ub : Un (frs outer) [] H₀ H s₀.heap s.heap := I.base
  have toB : ∀ b o, s.heap.get? b = some o → b ∉ frs (envOfC qual scope s₀.heap.objs.size f cd :: outer) → (PySem.W.hideAll s.heap (frs (envOfC qual scope s₀.heap.objs.size f cd :: outer))).get? b = some o := fun b o e hb => PySem.W.hideAll_get _ e hb
  refine ⟨ea, cls, .ref t, H, _, rfl, fl, nc, I.os, I.bare, ⟨fun a o e => ?_, fun b o e n hb => ?_, fun b o e hb => ?_, fun b o e n => ?_, fun b o e hb => ?_, ub.tups, ub.frzs, ub.tbls, ?_⟩, q⟩
  · refine (I.hok a o e).stay (fun b u hb g => toB b u g ?_) (fun _ g => g) fun _ _ g => g
    rcases hb with hb | hb
    · rw [hb]; exact sf a o e
    · exact sf b _ hb
  · exact toB b o (ub.keep b o e n hb (by simp)) (neL b o e hb)
  · obtain ⟨sl, e1⟩ := ub.slot b o e (I.ok.frf b hb) hb (by simp)
    obtain ⟨_, o1, e2, nf⟩ := I.funs.mem hb
    rw [e1] at e2
    cases e2
    obtain ⟨sl', e3⟩ := up b _ (hx.keeps b _ e1) nf
    exact ⟨sl', e3⟩
  · exact ub.free b o e n (by simp)
  · obtain ⟨o', e1⟩ := ub.there b o e (by simp)
    exact ⟨o', toB b o' e1 (neL b o e hb)⟩
  · cases g : H ea with
    | none => rfl
    | some u =>
      have z : ∃ o, s.heap.get? ea = some o := by
        have := (I.hok ea u g)
        cases u with
        | lst xs => obtain ⟨_, _, _, _, e⟩ := this; exact ⟨_, e⟩
        | tup xs => obtain ⟨_, _, _, o, e, _⟩ := this; exact ⟨o, e⟩
        | dK kvs => obtain ⟨_, _, _, _, o, _, _, e, _⟩ := this; exact ⟨o, e⟩
        | dT kvs => obtain ⟨_, _, _, _, o, _, _, e, _⟩ := this; exact ⟨o, e⟩
        | set S n => obtain ⟨o, _, _, _, e, _⟩ := this; exact ⟨o, e⟩
        | ins C dx fs => obtain ⟨_, _, _, e, _⟩ := this; exact ⟨_, e⟩
        | own y => exact this
        | xd fs => obtain ⟨_, ⟨o, _, _, e, _⟩, _⟩ := this; exact ⟨o, e⟩
        | rng lo hi => obtain ⟨_, _, _, e⟩ := this; exact ⟨_, e⟩
        | frz ob u => obtain ⟨e, _⟩ := this; exact ⟨_, e⟩
        | tbl ps => exact ⟨_, this⟩
        | met f y => exact ⟨_, this⟩
        | ext φ => obtain ⟨_, e, _⟩ := this; exact e
      obtain ⟨o, e⟩ := z
      rw [hx.new] at e; cases e
end
end L2
set_option Elab.async false
set_option linter.all false
set_option maxRecDepth 100000
namespace L2
open PySem PySem.Spec PyProof.Rows
theorem exc_obj {K : PySem.W.Frag} {h : Heap} {C : Addr} {bmB : List Value} {newId : String} (KX : K.In h) (q : PySem.W.excIn K C bmB newId = true) :
    ∃ bm nsA nm qn bs hd sn sub ab col dd k0 k1 k2 k3 k5 mN, h.get? C = some (excClassObj nm qn C nsA bs bm hd sn sub ab col dd k0 k1 k2 k3 k5 newId) ∧ h.Ns nsA mN ∧ mN "__init__" = none ∧ OwnTail h bmB bm := by
  unfold PySem.W.excIn at q
  split at q
  · rename_i dd cd sl look
    split at q
    · rename_i C2 bm k0 k1 k2 k3 n k5 hmro hsl
      simp only [Bool.and_eq_true, beq_iff_eq, Bool.not_eq_true'] at q
      obtain ⟨⟨⟨⟨⟨qC, qn'⟩, qdel⟩, qtail⟩, qok⟩, qinit⟩ := q
      cases qC
      cases qn'
      obtain ⟨nm, bs, mro, nsA, qn, hd, sn, sub, ab, col, del⟩ := cd
      have hmro' : mro = _ :: bm := hmro
      have qdel' : del = false := qdel
      cases hmro'
      cases qdel'
      have esl : sl = #[k0, k1, k2, k3, some (.builtin newId), k5] := by
        cases sl with
        | mk l => exact congrArg Array.mk hsl
      cases esl
      exact ⟨bm, nsA, nm, qn, bs, hd, sn, sub, ab, col, dd, k0, k1, k2, k3, k5, _, KX _ _ look, .of_isNs (PySem.W.isNs_of_in KX qok), PySem.W.nsMap_none_of_in KX qok qinit, PySem.W.tail_of_in KX qtail⟩
    · exact absurd q Bool.false_ne_true
  · exact absurd q Bool.false_ne_true
abbrev mroVE : List Value := [.type "ValueError", .type "Exception", .type "BaseException", .type "object"]
section
variable {X : Cx} {E : XK} {C : Addr} {x : Str}
noncomputable def tRaise (E : XK) (cls : Value) (t : TA) : TS := fun _ σ H => t σ H fun vs H1 => vs.length ≤ sizeLine ∧ E cls none H1
theorem ps_raise {e : Expr} {es : List Expr} {t : TA} {np cpos pos : Pos} (hc : X.calm = true) (hR : Raises X E (.ref C)) (hg : Gl X x) (hm : X.mg x = some (.ref C)) (hE : PySem.W.excIn X.K C mroVE "ValueError.__new__" = true)
    (ha : PA X (e :: es) t) (hdb : (x == ("__debug__" : Str)) = false := by decide) (he : starEach (e :: es) X.env = (false, eval e X.env) :: starEach es X.env := by rfl) (hpl : (backTo cpos (starEach es X.env)).any (·.1) = false := by rfl) :
    PS X (.Raise (some (.Call (.Name x np) (e :: es) [] cpos)) none pos) (tRaise E (.ref C) t) := by
  intro pins s σ H D I hq
  obtain ⟨bm, nsA, nm, qn, bs, hd, sn, sub, ab, col, dd, k0, k1, k2, k3, k5, mN, hC, hN, hni, T⟩ := exc_obj (h := X.base) I.ok.mod.kin hE
  refine wpAny_Raise_call_subU (C := C) (nm := nm) (q := qn) (N := nsA) (bs := bs) (bm := bm) (hdct := hd) (sn := sn) (sub := sub) (ab := ab) (col := col) (dd := dd) (k0 := k0) (k1 := k1) (k2 := k2) (k3 := k3) (k5 := k5)
    PySem.F.excBase_ValueError (by decide) PySem.F.excBase_ValueError (mN := mN) (T.hasType (by decide)) (I.ok.hd hc) (by rw [he]; show (false || (backTo cpos (starEach es X.env)).any (·.1)) = false; rw [hpl]; rfl) hni (ld_glob I hg hm ⟨rfl, ?_⟩ hdb)
  have h1 := ha cpos pins s σ H _ I hq
  rw [he] at h1 ⊢
  refine Calls.evalArgs_plain (thn h1 fun us s2 ⟨vs, H2, I2, r, hz, q⟩ => ⟨rfl, ?_, ?_⟩)
  · show us.length ≤ sizeLine
    rw [← r.length]; exact hz
  · exact ⟨I2.bk _ _ hC, hN.keeps I2.bk, T.keeps I2.bk, fun h' ea hx => hR pins σ H2 s2 ea h' us I2 hx q⟩
end
end L2
set_option Elab.async false
set_option linter.all false
set_option maxRecDepth 100000
namespace L2
open PySem PySem.Spec PyProof.Rows
noncomputable def ExcO (ea C : Addr) : HO := .ext fun h => ∃ o vs, h.get? ea = some o ∧ o.cls = .ref C ∧ o.data = .fields vs ∧ vs[2]? = some Value.none
noncomputable def Cx.marked (X : Cx) (ea : Addr) : Cx := { X with A := X.A.mark (some (.ref ea)), calm := false, xe := fun _ _ => False }
section
variable {X : Cx} {pins : List (Addr × Obj)} {σ : St} {H : Hp} {s : Shared} {ea : Addr}
theorem Cx.Ok.marked (ok : X.Ok) (ea : Addr) : (X.marked ea).Ok :=
  ⟨ok.mod, ok.kind, ok.glob, ok.blt, ok.above, ok.inj, ok.has, ok.cab, (fun z => absurd (show false = true from z) (by decide)), ok.frames, ok.stk, ok.exf, ok.bs, ok.bsz, ok.noex, ok.exfs, ok.funs, ok.frf⟩
theorem Inv.marked (I : Inv X pins σ H s) (ea : Addr) : Inv (X.marked ea) pins σ H s := ⟨I.ok.marked ea, I.os, I.bare, I.base, I.loc, I.cell, I.free, I.freeC, I.pin, I.hok, I.len⟩
theorem Inv.unmarked (ok : X.Ok) (I : Inv (X.marked ea) pins σ H s) : Inv X pins σ H s := ⟨ok, I.os, I.bare, I.base, I.loc, I.cell, I.free, I.freeC, I.pin, I.hok, I.len⟩
theorem Inv.gone {i : Nat} {n : Str} {h' : Heap} {v : Option Value} {m : Str → Option Value} {t : Nat} (I : Inv X pins σ H s) (hN : X.N.Nodup) (hi : X.N[i]? = some n) (hk : X.env.scope.names.lookup n = some .local)
    (hl : ∀ (j : Nat) (x : Str) (v : V), X.N[j]? = some x → σ[j]? = some (some v) → Vis X.env.scope x → ∃ u, RelV v u ∧ Look X.env s.heap m x u)
    (hn' : h'.Ns X.env.locals (fun x => if x = n then v else m x)) (hs : Heap.SameBut X.env.locals s.heap h') : Inv X pins (σ.set i none) H { s with heap := h', toks := t } := by
  have ltL : ∀ b o, X.s₀.heap.get? b = some o → b ≠ X.env.locals := fun b o e => Nat.ne_of_lt (Nat.lt_of_lt_of_le (Heap.lt_size e) I.ok.above)
  refine ⟨I.ok, I.os, I.bare, ⟨fun b o e q hb hx => ?_, fun b o e q hb hx => ?_, I.base.free, fun b o e hx => ?_, I.base.tups, I.base.frzs, I.base.tbls⟩, ⟨_, hn', fun j y v' e1 e2 e3 => ?_⟩, fun y c e => ?_, I.free, I.freeC, fun p hp => ?_, fun b u e => ?_, by rw [List.length_set]; exact I.len⟩
  · exact (hs.2 b (ltL b o e)).trans (I.base.keep b o e q hb hx)
  · obtain ⟨sl, e1⟩ := I.base.slot b o e q hb hx
    exact ⟨sl, (hs.2 b (ltL b o e)).trans e1⟩
  · obtain ⟨o', e1⟩ := I.base.there b o e hx
    exact ⟨o', (hs.2 b (ltL b o e)).trans e1⟩
  · by_cases hj : j = i
    · subst hj
      rw [List.getElem?_set] at e2
      simp at e2
    · rw [List.getElem?_set_ne (Ne.symm hj)] at e2
      obtain ⟨u, r, q⟩ := hl j y v' e1 e2 e3
      refine ⟨u, r, ?_⟩
      rcases q with ⟨k, e⟩ | ⟨k, c, e, z⟩
      · refine .inl ⟨k, ?_⟩
        have ne : y ≠ n := fun z => hj (nodup_ix hN e1 (z ▸ hi))
        simp [ne, e]
      · exact .inr ⟨k, c, e, z.sameBut hs (I.cne y c e)⟩
  · obtain ⟨w', z⟩ := I.cell y c e
    exact ⟨w', z.sameBut hs (I.cne y c e)⟩
  · obtain ⟨e, q, ne, nf, d⟩ := I.pin p hp
    exact ⟨(hs.2 p.1 ne).trans e, q, ne, nf, d⟩
  · refine (I.hok b u e).stay (fun c w' hc q => (hs.2 c ?_).trans q) (fun _ q => q) fun _ _ q => q
    intro z
    rcases hc with hc | hc
    · rw [← hc, z, I.free] at e; cases e
    · rw [z, I.free] at hc; cases hc
noncomputable def endsX (i : Nat) (D : Ends) : Ends := { nx := fun σ H => D.nx (σ.set i none) H, rt := D.rt, bk := fun σ H => D.bk (σ.set i none) H, ct := fun σ H => D.ct (σ.set i none) H }
end
end L2
set_option Elab.async false
set_option linter.all false
set_option maxRecDepth 100000
namespace L2
open PySem PySem.Spec PyProof.Rows
noncomputable def EqL (K : PySem.W.Frag) (H : Hp) (rec : V → V → Bool → Prop) (p q : Addr) (b : Bool) : Prop :=
  ∃ xs ys, (SqL K H p xs ∧ SqL K H q ys ∧ xs.length ≠ ys.length ∧ b = false) ∨
    (((SqL K H p xs ∧ SqL K H q ys) ∨ (SqT K H p xs ∧ SqT K H q ys)) ∧ xs.length = ys.length ∧ ∃ e : Nat → Bool, (∀ i x y, xs[i]? = some x → ys[i]? = some y → rec x y (e i)) ∧ b = (List.range xs.length).all e)
noncomputable def EqD (K : PySem.W.Frag) (H : Hp) : Nat → V → V → Bool → Prop
  | 0, x, y, b => (∃ a, x = .ref a ∧ y = .ref a ∧ b = true) ∨ (flatV x = true ∧ flatV y = true ∧ b = eqV x y)
  | n + 1, x, y, b => EqD K H n x y b ∨ ∃ p q, x = .ref p ∧ y = .ref q ∧ p ≠ q ∧ EqL K H (EqD K H n) p q b
section
variable {X : Cx} {pins : List (Addr × Obj)} {σ : St} {H : Hp} {s : Shared}
theorem eqL_at {A : Around} {rec : V → V → Bool → Prop} {p q : Addr} {b : Bool} (I : Inv X pins σ H s) (hu : A.units < cLine) (hr : ∀ x y b u v, rec x y b → RelV x u → RelV y v → SeqAt.EqAt A.in1 s u v b) (h : EqL X.K H rec p q b) :
    SeqAt.RcAt A s (.ref p) (.ref q) b ∧ SeqAt.RcNeAt A s (.ref p) (.ref q) (!b) := by
  obtain ⟨xs, ys, ⟨h1, h2, hl, rfl⟩ | ⟨hk, hl, e, he, rfl⟩⟩ := h
  · obtain ⟨its, r, pl, _⟩ := I.list h1
    obtain ⟨its2, r2, pl2, _⟩ := I.list h2
    have e1 := r.length
    have e2 := r2.length
    have hne : (its.toArray.size != its2.toArray.size) = true := by
      rw [bne_iff_ne]; simp only [List.size_toArray]; omega
    exact ⟨SeqAt.RcAt.lists_lengths pl.isList pl2.isList hne hu, SeqAt.RcNeAt.lists_lengths pl.isList pl2.isList hne hu⟩
  · have items : ∀ (its its2 : List Value), Vals xs its → Vals ys its2 → ∀ j (h1 : j < its.toArray.size) (h2 : j < its2.toArray.size), SeqAt.EqAt A.in1 s its.toArray[j] its2.toArray[j] (e j) := by
      intro its its2 r r2 j h1 h2
      have l1 := r.length
      have l2 := r2.length
      simp only [List.size_toArray] at h1 h2
      have g1 : j < xs.length := by omega
      have g2 : j < ys.length := by omega
      obtain ⟨u, hu1, ru⟩ := r.get (i := j) (x := xs[j]) (by simp [g1])
      obtain ⟨v, hv1, rv⟩ := r2.get (i := j) (x := ys[j]) (by simp [g2])
      have eu : its.toArray[j] = u := by
        have : its[j]? = some its[j] := by simp [h1]
        rw [this] at hu1
        simpa using hu1
      have ev : its2.toArray[j] = v := by
        have : its2[j]? = some its2[j] := by simp [h2]
        rw [this] at hv1
        simpa using hv1
      rw [eu, ev]
      exact hr _ _ _ _ _ (he j _ _ (by simp [g1]) (by simp [g2])) ru rv
    rcases hk with ⟨h1, h2⟩ | ⟨h1, h2⟩
    · obtain ⟨its, r, pl, _⟩ := I.list h1
      obtain ⟨its2, r2, pl2, _⟩ := I.list h2
      have l1 := r.length
      have l2 := r2.length
      have hsz : its.toArray.size = its2.toArray.size := by simp only [List.size_toArray]; omega
      have a1 := SeqAt.RcAt.lists pl.isList pl2.isList hsz hu (items its its2 r r2)
      have a2 := SeqAt.RcNeAt.lists pl.isList pl2.isList hsz hu (items its its2 r r2)
      have es : its.toArray.size = xs.length := by simp only [List.size_toArray]; omega
      rw [es] at a1 a2
      exact ⟨a1, a2⟩
    · obtain ⟨its, r, pl, _⟩ := I.tuple h1
      obtain ⟨its2, r2, pl2, _⟩ := I.tuple h2
      have l1 := r.length
      have l2 := r2.length
      have t1 : s.heap.IsTuple p its.toArray := pl
      have t2 : s.heap.IsTuple q its2.toArray := pl2
      have a1 := SeqAt.RcAt.tuples t1 t2 hu (items its its2 r r2)
      have a2 := SeqAt.RcNeAt.tuples t1 t2 hu (items its its2 r r2)
      have es : min its.toArray.size its2.toArray.size = xs.length := by simp only [List.size_toArray]; omega
      have ez : (its.toArray.size == its2.toArray.size) = true := by rw [beq_iff_eq]; simp only [List.size_toArray]; omega
      rw [es, ez, Bool.and_true] at a1 a2
      exact ⟨a1, a2⟩
theorem eqD_at (I : Inv X pins σ H s) : ∀ (n : Nat) (A : Around), A.units + n < cLine → ∀ x y b u v, EqD X.K H n x y b → RelV x u → RelV y v → SeqAt.EqAt A s u v b
  | 0, A, hu, x, y, b, u, v, h, rx, ry => by
    rcases h with ⟨a, rfl, rfl, rfl⟩ | ⟨f1, f2, rfl⟩
    · cases rx; cases ry; exact SeqAt.EqAt.same _
    · exact eqAt_V rx ry f1 f2
  | n + 1, A, hu, x, y, b, u, v, h, rx, ry => by
    rcases h with h | ⟨p, q, rfl, rfl, ne, h⟩
    · exact eqD_at I n A (by omega) x y b u v h rx ry
    · cases rx; cases ry
      refine SeqAt.EqAt.of_refs ne (eqL_at (A := A) I (by omega) (fun x y b u v h rx ry => eqD_at I n A.in1 ?_ x y b u v h rx ry) h).1
      show A.units + 1 + n < cLine
      omega
noncomputable def rEqD (K : PySem.W.Frag) (neg : Bool) : R2 := fun x y H Q => ∃ n p q b, n ≤ 8 ∧ x = .ref p ∧ y = .ref q ∧ EqL K H (EqD K H n) p q b ∧ Q (.bl (if neg then !b else b)) H
theorem op_eqD (hu : X.A.units + 64 < cLine) : OpR X (compareOp .Eq) (rEqD X.K false) := by
  intro pins s σ H x y v u Q I rx ry h
  obtain ⟨n, p, q, b, hn, rfl, rfl, he, k⟩ := h
  cases rx; cases ry
  refine (eqL_at (A := X.A) I (by omega) (fun x y b u v h rx ry => eqD_at I n X.A.in1 ?_ x y b u v h rx ry) he).1 _ _ _ _ ⟨.bl b, H, I, rfl, k⟩
  show X.A.units + 1 + n < cLine
  omega
theorem op_neD (hu : X.A.units + 64 < cLine) : OpR X (compareOp .NotEq) (rEqD X.K true) := by
  intro pins s σ H x y v u Q I rx ry h
  obtain ⟨n, p, q, b, hn, rfl, rfl, he, k⟩ := h
  cases rx; cases ry
  refine (eqL_at (A := X.A) I (by omega) (fun x y b u v h rx ry => eqD_at I n X.A.in1 ?_ x y b u v h rx ry) he).2 _ _ _ _ ⟨.bl (!b), H, I, rfl, k⟩
  show X.A.units + 1 + n < cLine
  omega
end
section
variable {X : Cx}
end
end L2
set_option Elab.async false
set_option linter.all false
set_option maxRecDepth 100000
namespace L2
open PySem PySem.Spec PyProof.Rows
section
variable {X : Cx} {tg : Expr}
noncomputable def DictO (_ : Addr) : HO := .dK []
theorem Inv.big {pins : List (Addr × Obj)} {σ : St} {H : Hp} {s : Shared} (I : Inv X pins σ H s) : sysModules < s.heap.objs.size := by
  have h : mainGlobals < s.heap.objs.size := (I.mod.glob.keeps I.bk).lt
  exact Nat.lt_trans (by decide) h
noncomputable def tDict0 : TE := fun _ H Q => ∀ p, H p = none → Q (.ref p) (upd H p (DictO p))
theorem pe_dict0 {pos : Pos} : PE X (.Dict [] [] pos) tDict0 := fun pins s σ H Q I h =>
  wpAny_Dict_empty ⟨.ref s.heap.objs.size, _, I.laid (a := s.heap.objs.size) (o := DictO s.heap.objs.size) (t' := s.toks) (fun _ _ q => Heap.get?_push_of_some _ q) (Nat.le_refl _)
    ⟨Nat.zero_le _, beq_eq_false_iff_ne.mpr (Ne.symm (Nat.ne_of_lt I.big)), [], .nil, Heap.DictOf.new s.heap⟩, rfl, h _ (I.hok.fresh (Nat.le_refl _))⟩
end
noncomputable def PassesR (CX : CXT) (X : Cx) (R : St → XK) : Prop := ∀ (pins : List (Addr × Obj)) (σ : St) (H : Hp) (s : Shared) (e : Value) (s' : Shared), Inv X pins σ H s → CX X.stack H s (R σ) e s' → X.xe e s'
structure DefX (P : Program) (w : World) (K : PySem.W.Frag) (mg : Str → Option Value) (base : Heap) (k : Nat) (x : Str) (ps : List Str) (ds : List V) (sp : Sp) : Prop where
  ex : ∃ (f : Addr) (fd : FuncData) (dvs : List Value), FnOk P w K mg base (CX1 P w) k f fd ps sp ∧ mg x = some (.ref f) ∧ PySem.W.keepIn K (.ref f) = true ∧ Binds K fd ps dvs ∧ Vals ds dvs
noncomputable def tCallR (sp : Sp) (dvs : List V) (R : St → XK) (t : TA) : TE := fun σ H Q => t σ H fun vs H1 => sp (vs ++ dvs) H1 Q (R σ)
section
variable {X : Cx}
theorem pe_callX {k : Nat} {x : Str} {ps : List Str} {ds : List V} {sp : Sp} {e : Expr} {es : List Expr} {t : TA} {p pos : Pos} {R : St → XK} (D : DefX X.prog X.w X.K X.mg X.base k x ps ds sp) (hr : Room k X.A) (hx : PassesR (CX1 X.prog X.w) X R) (hg : Gl X x)
    (ha : PA X (e :: es) t) (hdb : (x == ("__debug__" : Str)) = false := by decide) (he : starEach (e :: es) X.env = (false, eval e X.env) :: starEach es X.env := by rfl) (hpl : (backTo pos (starEach es X.env)).any (·.1) = false := by rfl) :
    PE X (.Call (.Name x p) (e :: es) [] pos) (tCallR sp ds R t) := by
  obtain ⟨f, fd, dvs, F, hm, hk, hb, hd⟩ := D.ex
  intro pins s σ H Q I h
  refine wpAny_Call_Name_kw (ld_glob I hg hm ?_ hdb)
  refine PySem.W.callWith_K (h₀ := X.base) I.ok.mod.kin hk (thn (ha pos pins s σ H _ I h) fun us s1 ⟨vs, H1, I1, r, q⟩ => ⟨I1.kIn, ?_⟩) he hpl
  have r2 : Vals (vs ++ ds) (us ++ dvs) := r.append hd
  have hl : (us ++ dvs).length = ps.length := by rw [← r2.length]; exact F.len _ _ _ _ q
  refine wpAny_call (codeAny_mono (F.run X.A X.stack s1 H1 ⟨us, []⟩ (us ++ dvs) (vs ++ ds) Q (R σ) hr I1.env0 (hb s1 us I1.kIn hl) r2 q) fun res s' hq => ?_)
  cases res with
  | error er => exact hx pins σ H1 s1 er s' I1 hq
  | ok fl =>
    cases fl with
    | ret u => exact I1.after hq
    | next => exact False.elim hq
    | brk => exact False.elim hq
    | cont => exact False.elim hq
theorem passF {P : Program} {w : World} : PassesR (CX1 P w) X fun _ => E0 := fun _ _ _ _ _ _ _ h => by
  obtain ⟨_, _, _, _, _, _, _, _, _, _, _, q⟩ := h
  exact False.elim q
theorem PS.nox {st : Stmt} {t : TS} (h : PS X.nox st t) : PS X st t := fun pins s σ H D I hw =>
  wpAny_mono (h pins s σ H D (I.wish _) hw) (fun _ _ q => q.unwish) fun _ _ z => False.elim z
end
section
variable {P : Program} {w : World} {K : PySem.W.Frag} {mg : Str → Option Value} {base : Heap}
theorem passes1R {N : List Str} {qual : Str} {scope : Scope} {f : Addr} {cd : Value} {A : Around} {outer : List Env} {s₀ : Shared} {H₀ : Hp} {E : XK} :
    PassesR (CX1 P w) (cxOf (CX1 P w) P w K mg base N qual scope f cd A outer s₀ H₀ E) fun _ => E := fun pins σ H s e s' I h => passes1 pins σ H s e s' I h
theorem FunD.okX {x qual : Str} {st : Stmt} {dV : Value} {f : Addr} {fd : FuncData} {N ps : List Str} {k : Nat} {sp : Sp} (F : FunD K x qual st dV f fd) (S : FnScope N ps (defScope st)) (len : ∀ vs H Q E, sp vs H Q E → vs.length = ps.length)
    (hbody : ∀ (cdv : Value) (A : Around) (outer : List Env) (s : Shared) (H : Hp) (vs : List V) (Q : VK) (E : XK), Room k (A.deeper (envOfC qual (defScope st) s.heap.objs.size f cdv)) → sp vs H Q E →
      ∃ t, PSs (cxOf (CX1 P w) P w K mg base N qual (defScope st) f cdv A outer s H E) (defBody st) t ∧ t { nx := fun _ H' => Q .non H', rt := Q } (start N vs) H) : FnOk P w K mg base (CX1 P w) (k + 1) f fd ps sp := by
  obtain ⟨oc, od, kV, doc, pm, an, cdv, ct, osl, rfl, lk, hcd⟩ := F.ex
  exact fn_of lk hcd S len fun A outer s H vs Q E hr hsp => hbody cdv A outer s H vs Q E hr hsp
theorem FunD.defX {x qual : Str} {st : Stmt} {f : Addr} {fd : FuncData} {ps : List Str} {k : Nat} {sp : Sp} (F : FunD K x qual st .none f fd) (G : FnOk P w K mg base (CX1 P w) k f fd ps sp) (hm : mg x = some (.ref f))
    (h : ∀ (kV doc pm : Value) (an : Option Addr) (cdv ct : Value) (us : List Value), us.length = ps.length → bindArgs (PySem.W.fnOf x qual (defArgs st) (defBody st) (defScope st) .none kV doc pm an cdv ct) ⟨us, []⟩ = pure (ps.zip us)) : DefX P w K mg base k x ps [] sp := by
  obtain ⟨oc, od, kV, doc, pm, an, cdv, ct, osl, rfl, lk, hcd⟩ := F.ex
  exact ⟨f, _, [], G, hm, F.kp, .all (h kV doc pm an cdv ct), .nil⟩
end
section
variable {X : Cx} {pins pn : List (Addr × Obj)} {σ : St} {H : Hp} {s : Shared} {XE : Value → Shared → Prop}
noncomputable abbrev Cx.at (X : Cx) (pn : List (Addr × Obj)) (XE : Value → Shared → Prop) : Cx := { X with pn := pn, xe := XE }
theorem Cx.Ok.at (ok : X.Ok) : (X.at pn XE).Ok :=
  ⟨ok.mod, ok.kind, ok.glob, ok.blt, ok.above, ok.inj, ok.has, ok.cab, ok.hd, ok.frames, ok.stk, ok.exf, ok.bs, ok.bsz, ok.noex, ok.exfs, ok.funs, ok.frf⟩
theorem Cx.Ok.unat (ok : (X.at pn XE).Ok) : X.Ok :=
  ⟨ok.mod, ok.kind, ok.glob, ok.blt, ok.above, ok.inj, ok.has, ok.cab, ok.hd, ok.frames, ok.stk, ok.exf, ok.bs, ok.bsz, ok.noex, ok.exfs, ok.funs, ok.frf⟩
theorem Inv.at (I : Inv X pins σ H s) : Inv (X.at (X.pn ++ pins) XE) [] σ H s := ⟨I.ok.at, I.os, I.bare, I.base, I.loc, I.cell, I.free, I.freeC, fun p hp => I.pin p (by simpa using hp), I.hok, I.len⟩
theorem Inv.unat {pins' : List (Addr × Obj)} (I : Inv (X.at (X.pn ++ pins) XE) pins' σ H s) : Inv X pins σ H s := ⟨I.ok.unat, I.os, I.bare, I.base, I.loc, I.cell, I.free, I.freeC, fun p hp => I.pin p (List.mem_append_left _ hp), I.hok, I.len⟩
end
end L2
set_option Elab.async false
set_option linter.all false
set_option maxRecDepth 100000
namespace L2
open PySem PySem.Spec PyProof.Rows
structure XCls (K : PySem.W.Frag) (D : Addr) : Prop where
  ga : PySem.W.findIn K (.ref D) "__getattribute__" = some (some (.builtin "BaseException.__getattribute__"))
  gx : PySem.W.findIn K (.ref D) "__getattr__" = some none
  cl : PySem.W.findIn K (.ref D) "__class__" = some (some (.builtin "object.__class__"))
  mB : PySem.W.mroIn K D (.type "BaseException") = some true
  mo : PySem.W.mroIn K D (.type "object") = some true
  isc : (PySem.W.clsIn K D).isSome = true
noncomputable def ExcAt (x D : Addr) (h : Heap) : Prop := ∃ o vs, h.get? x = some o ∧ o.cls = .ref D ∧ o.data = .fields vs
section
variable {prog : Program} {w : World} {A : Around} {E : Value → Shared → Prop} {s : Shared} {K : PySem.W.Frag} {x D : Addr}
theorem ExcAt.ty {M : Model} {h : Heap} (e : ExcAt x D h) : PySem.W.Looks M h (typeOf (.ref x)) (.ref D) := by
  obtain ⟨o, vs, h1, h2, _⟩ := e
  exact h2 ▸ (PySem.W.Looks.ld h1).andThen .now
theorem exc_class_get {R : Result → Shared → Prop} (KX : K.In s.heap) (e : ExcAt x D s.heap) (c : XCls K D) (h : R (.ok (.ret (.ref D))) s) :
    codeAny (model prog w) A (.call (.builtin "getset_descriptor.__get__") ⟨[.builtin "object.__class__", .ref x, .ref D], []⟩) R s := by
  obtain ⟨hh, g, dr, t, os⟩ := s
  have L0 : PySem.W.Looks (model prog w) hh (typeOf (.ref x)) (.ref D) := e.ty
  have L1 : PySem.W.Looks (model prog w) hh (isSubtype (.ref D) (.type (".".intercalate ("object.__class__".cutAt '.').dropLast))) true := by rw [F.owner_object_class]; exact PySem.W.looks_mroIn KX c.mo
  have LI : PySem.W.Looks (model prog w) hh (isInstance (.ref x) (.type (".".intercalate ("object.__class__".cutAt '.').dropLast))) true := L0.andThen L1
  have hT5 : (⟨hh, g, dr, t, os⟩ : Shared).TypeIs (.builtin "object.__class__") "getset_descriptor" := F.typeOf_object_class
  refine codeAny_call_builtin F.slot_gs_get.plain F.entry_gs_get (F.slot_gs_get.check _ _ _ _ _ _ _ _ hT5 (F.args_gs_get _ _ _) ?_)
  repeat (any_goals (first | assumption | (with_reducible refine LI.at ?_) | (with_reducible refine L0.at ?_) | (with_reducible refine L1.at ?_) | wp_step))
  refine ⟨Code.quiet_builtin _ (by decide +kernel), codeAny_builtin F.entry_object_class ?_⟩
  repeat (any_goals (first | assumption | (with_reducible refine L0.at ?_) | wp_step))
theorem exc_entry {tk : Tok} {Q : Fin → Shared → Prop} (KX : K.In s.heap) (e : ExcAt x D s.heap) (c : XCls K D) (h : Q (.done (.ret (.ref D))) s) :
    wpAny (model prog w) A (Builtin.«object.__getattribute__» ⟨[.ref x, .str "__class__" tk], []⟩) Q E s := by
  obtain ⟨hh, g, dr, t, os⟩ := s
  have L0 : PySem.W.Looks (model prog w) hh (typeOf (.ref x)) (.ref D) := e.ty
  have L4 := PySem.W.looks_findIn (M := model prog w) KX c.cl
  have hT5 : (⟨hh, g, dr, t, os⟩ : Shared).TypeIs (.builtin "object.__class__") "getset_descriptor" := F.typeOf_object_class
  have f5 := F.typeOf_object_class
  have f6 := F.slot_gs_get.lookup
  have f7 := F.slot_gs_set.lookup
  repeat (any_goals (first | assumption | (with_reducible refine L0.at ?_) | (with_reducible refine L4.at ?_) | wp_step))
  refine exc_class_get KX e c ?_
  exact wpAny_pure h
theorem bega_split : splitId "BaseException.__getattribute__" = some ("BaseException", "__getattribute__") := by decide +kernel
theorem bega_kind : builtinKind "BaseException.__getattribute__" = some .slot := by decide +kernel
theorem exc_check {M : Model} {v : Value} {Q : Unit → Shared → Prop} (KX : K.In s.heap) (e : ExcAt x D s.heap) (c : XCls K D) (h : Q () s) :
    wpAny M A (checkBuiltinCall "BaseException.__getattribute__" ⟨[.ref x, v], []⟩) Q E s := by
  have L0 : PySem.W.Looks M s.heap (typeOf (.ref x)) (.ref D) := e.ty
  have LI : PySem.W.Looks M s.heap (isInstance (.ref x) (.type "BaseException")) true := L0.andThen (PySem.W.looks_mroIn KX c.mB)
  have hA := F.args_bexc_ga (.ref x) v
  simp only [checkBuiltinCall, bega_split, bega_kind]
  refine wpAny_bind (LI.at ?_)
  unfold argsOk at hA
  cases hsig : Manifest.signature? "BaseException.__getattribute__" with
  | none =>
    rw [hsig] at hA
    simp only [Bool.not_true, Bool.false_eq_true, if_false]
    exact wpAny_pure h
  | some sig =>
    rw [hsig] at hA
    simp only [Bool.not_true, Bool.false_eq_true, if_false]
    exact wpAny_of_eq hA h
theorem exc_class {Q : Option Value → Shared → Prop} (KX : K.In s.heap) (e : ExcAt x D s.heap) (c : XCls K D) (h : Q (some (.ref D)) { s with toks := s.toks + 1 }) :
    wpAny (model prog w) A (getAttr? (.ref x) "__class__") Q E s := by
  obtain ⟨hh, g, dr, t, os⟩ := s
  have L0 : PySem.W.Looks (model prog w) hh (typeOf (.ref x)) (.ref D) := e.ty
  have L1 := PySem.W.looks_findIn (M := model prog w) KX c.ga
  have L2 := PySem.W.looks_findIn (M := model prog w) KX c.gx
  have hbind := F.excAttr_ValueError.ga.bind (.ref x)
  unfold getAttr? getAttrBy?
  repeat (any_goals (first | assumption | (with_reducible refine L0.at ?_) | (with_reducible refine L1.at ?_) | (with_reducible refine L2.at ?_) | wp_step))
  refine codeAny_call_builtin F.excAttr_ValueError.ga.plain F.entry_bexc_ga (exc_check (s := ⟨hh, g, dr, t + 1, os⟩) KX e c (exc_entry (s := ⟨hh, g, dr, t + 1, os⟩) KX e c ?_))
  repeat (any_goals (first | assumption | wp_step))
theorem kitx_exc (c : XCls K D) : PySem.W.KitX K (.ref x) (.ref D) (ExcAt x D) where
  ty := fun _ _ _ e => e.ty
  it := fun M h KX _ => by
    have hc := c.isc
    unfold PySem.W.clsIn at hc
    split at hc
    · rename_i c' d' cd' sl' ho
      intro A' Q' E' s' k q
      unfold isType loadHead
      exact wpAny_bind (wpAny_loadPart (k _ _ (KX _ _ ho)) (wpAny_pure q))
    · cases hc
  ne := fun h tp dd its n sl KX htp => by
    have hc := c.isc
    refine Bool.eq_false_iff.mpr fun q => ?_
    have e : D = tp := Value.ref.inj (beq_iff_eq.mp q)
    subst e
    unfold PySem.W.clsIn at hc
    split at hc
    · rename_i c' d' cd' sl' ho
      have z := (KX _ _ ho).symm.trans htp
      cases z
    · cases hc
  ca := fun KX e k => exc_class KX e c k
end
inductive TyX (K : PySem.W.Frag) (H : Hp) : V → Value → Prop where
  | of {x : V} {t : Value} (h : TyOf K H x t) : TyX K H x t
  | exc {a C : Addr} (e : H a = some (ExcO a C)) (c : XCls K C) : TyX K H (.ref a) (.ref C)
  | dict {a : Addr} (e : H a = some (DictO a)) : TyX K H (.ref a) (.type "dict")
noncomputable def IsX (K : PySem.W.Frag) (H : Hp) (x : V) (c : Value) (b : Bool) : Prop := ∃ t, TyX K H x t ∧ PySem.W.kitOne K t c = some b
noncomputable def rIsX (K : PySem.W.Frag) : List V → Hp → VK → Prop := fun xs H Q => match xs with
  | [x, .ty n] => ∃ b, IsX K H x (.type n) b ∧ Q (.bl b) H
  | [x, .ref C] => ∃ b, IsX K H x (.ref C) b ∧ Q (.bl b) H
  | _ => False
section
variable {X : Cx}
theorem isX_ok {A : Around} {E : Value → Shared → Prop} {Q : Value → Shared → Prop} {pins : List (Addr × Obj)} {σ : St} {H : Hp} {s : Shared} {x : V} {u c : Value} {b : Bool} (I : Inv X pins σ H s) (rx : RelV x u) (h : IsX X.K H x c b) (k : ∀ tk, Q (.bool b) { s with toks := tk }) :
    wpAny (model X.prog X.w) A (call (.builtin "isinstance") [u, c]) Q E s := by
  obtain ⟨t, ty, e⟩ := h
  cases ty with
  | of ty => exact isinst_ok I rx ty e k
  | @exc a C ea cc =>
    cases (show u = Value.ref a from rx)
    obtain ⟨⟨ox, vx, p1, p2, p3, _⟩, _, _⟩ := (show ObjOk X.prog X.w H s.heap a (ExcO a C) from I.hok a _ ea)
    have p : ∃ o vs, s.heap.get? a = some o ∧ o.cls = Value.ref C ∧ o.data = Data.fields vs := ⟨ox, vx, p1, p2, p3⟩
    exact PySem.W.kia_one (kitx_exc cc) I.kIn p e (fun z => nomatch z) k
  | @dict a ea =>
    cases (show u = Value.ref a from rx)
    obtain ⟨_, _, vs, _, p⟩ := (show ObjOk X.prog X.w H s.heap a (.dK []) from I.hok a _ ea)
    obtain ⟨o, es, ep, h1, h2, _⟩ := p
    exact PySem.W.kia_one PySem.W.kitx_dict I.kIn ⟨o, h1, h2.1⟩ e (fun z => nomatch z) k
theorem call_isX : CallR X (.builtin "isinstance") (rIsX X.K) := by
  intro pins s σ H xs us Q I rs h
  unfold rIsX at h
  split at h
  · obtain ⟨u, w', rfl, r1, r2⟩ := vals2 rs
    cases r2
    obtain ⟨b, hb, q⟩ := h
    exact isX_ok I r1 hb fun tk => ⟨.bl b, H, I.tok tk, rfl, q⟩
  · obtain ⟨u, w', rfl, r1, r2⟩ := vals2 rs
    cases r2
    obtain ⟨b, hb, q⟩ := h
    exact isX_ok I r1 hb fun tk => ⟨.bl b, H, I.tok tk, rfl, q⟩
  · exact h.elim
theorem pe_isiX {e : Expr} {te : TE} {T : Str} {n : String} {p p2 pos : Pos} (he : PE X e te) (h1 : Gl X "isinstance") (h2 : X.mg "isinstance" = none) (h3 : Gl X T) (h4 : X.mg T = none) (h5 : bootBuiltins T = some (.type n)) (h6 : T ≠ "__name__" := by decide) (h7 : (T == ("__debug__" : Str)) = false := by decide)
    (s1 : starEach [e, .Name T p2] X.env = (false, eval e X.env) :: starEach [.Name T p2] X.env := by rfl) (s2 : starEach [.Name T p2] X.env = (false, eval (.Name T p2) X.env) :: starEach [] X.env := by rfl) (hpl : (backTo pos (starEach [.Name T p2] X.env)).any (·.1) = false := by rfl) :
    PE X (.Call (.Name "isinstance" p) [e, .Name T p2] [] pos) (tCB (rIsX X.K) (tCons te (tCons (tC (.ty n)) tNil))) :=
  pe_callB call_isX h1 h2 PyProof.Rows.boot_isinstance (pa_cons he (pa_cons (pe_bltn h3 h4 h5 rfl h6 h7) pa_nil s2) s1) (by decide) (by decide) s1 hpl
theorem pe_isiC {e : Expr} {te : TE} {T : Str} {C : Addr} {p p2 pos : Pos} (he : PE X e te) (h1 : Gl X "isinstance") (h2 : X.mg "isinstance" = none) (h3 : Gl X T) (h4 : X.mg T = some (.ref C)) (h7 : (T == ("__debug__" : Str)) = false := by decide)
    (s1 : starEach [e, .Name T p2] X.env = (false, eval e X.env) :: starEach [.Name T p2] X.env := by rfl) (s2 : starEach [.Name T p2] X.env = (false, eval (.Name T p2) X.env) :: starEach [] X.env := by rfl) (hpl : (backTo pos (starEach [.Name T p2] X.env)).any (·.1) = false := by rfl) :
    PE X (.Call (.Name "isinstance" p) [e, .Name T p2] [] pos) (tCB (rIsX X.K) (tCons te (tCons (tC (.ref C)) tNil))) :=
  pe_callB call_isX h1 h2 PyProof.Rows.boot_isinstance (pa_cons he (pa_cons (pe_glob h3 h4 rfl h7) pa_nil s2) s1) (by decide) (by decide) s1 hpl
end
end L2
set_option Elab.async false
set_option linter.all false
set_option maxRecDepth 100000
namespace L2
open PySem PySem.Spec PyProof.Rows
theorem same_upd {H H' : Hp} {D : Addr} {o : HO} (s : Same H H') (h : H D = none) : Same H (upd H' D o) := fun b u e => by rw [upd_ne (ne_of_none e h)]; exact s b u e
theorem same_new {H : Hp} {D : Addr} {o : HO} (h : H D = none) : Same H (upd H D o) := same_upd (Same.refl H) h
inductive Kd (K : PySem.W.Frag) (H : Hp) : V → Prop where
  | non : Kd K H .non
  | bl (b : Bool) : Kd K H (.bl b)
  | int (i : Int) : Kd K H (.int i)
  | str (x : Str) : Kd K H (.str x)
  | lst {a : Addr} {xs : List V} (e : H a = some (.lst xs)) : Kd K H (.ref a)
  | tup {a : Addr} {xs : List V} (e : H a = some (.tup xs)) : Kd K H (.ref a)
  | dict {a : Addr} (e : H a = some (DictO a)) : Kd K H (.ref a)
theorem Kd.mono {K : PySem.W.Frag} {H H' : Hp} {x : V} (k : Kd K H x) (s : Same H H') : Kd K H' x := by
  cases k with
  | non => exact .non
  | bl b => exact .bl b
  | int i => exact .int i
  | str y => exact .str y
  | lst e => exact .lst (s _ _ e)
  | tup e => exact .tup (s _ _ e)
  | dict e => exact .dict (s _ _ e)
noncomputable def isI : V → Bool
  | .int _ => true
  | .bl _ => true
  | _ => false
noncomputable def isB : V → Bool
  | .bl _ => true
  | _ => false
noncomputable def isL (H : Hp) : V → Bool
  | .ref a => match H a with
    | some (.lst _) => true
    | _ => false
  | _ => false
section
variable {K : PySem.W.Frag}
theorem k_ii : PySem.W.kitOne K (.type "int") (.type "int") = some true := by kernel_rfl
theorem k_ib : PySem.W.kitOne K (.type "int") (.type "bool") = some false := by kernel_rfl
theorem k_il : PySem.W.kitOne K (.type "int") (.type "list") = some false := by kernel_rfl
theorem k_bi : PySem.W.kitOne K (.type "bool") (.type "int") = some true := by kernel_rfl
theorem k_bb : PySem.W.kitOne K (.type "bool") (.type "bool") = some true := by kernel_rfl
theorem k_bL : PySem.W.kitOne K (.type "bool") (.type "list") = some false := by kernel_rfl
theorem k_ni : PySem.W.kitOne K (.type "NoneType") (.type "int") = some false := by kernel_rfl
theorem k_nb : PySem.W.kitOne K (.type "NoneType") (.type "bool") = some false := by kernel_rfl
theorem k_nl : PySem.W.kitOne K (.type "NoneType") (.type "list") = some false := by kernel_rfl
theorem k_si : PySem.W.kitOne K (.type "str") (.type "int") = some false := by kernel_rfl
theorem k_sb : PySem.W.kitOne K (.type "str") (.type "bool") = some false := by kernel_rfl
theorem k_sl : PySem.W.kitOne K (.type "str") (.type "list") = some false := by kernel_rfl
theorem k_li : PySem.W.kitOne K (.type "list") (.type "int") = some false := by kernel_rfl
theorem k_lb : PySem.W.kitOne K (.type "list") (.type "bool") = some false := by kernel_rfl
theorem k_ll : PySem.W.kitOne K (.type "list") (.type "list") = some true := by kernel_rfl
theorem k_ti : PySem.W.kitOne K (.type "tuple") (.type "int") = some false := by kernel_rfl
theorem k_tb : PySem.W.kitOne K (.type "tuple") (.type "bool") = some false := by kernel_rfl
theorem k_tl : PySem.W.kitOne K (.type "tuple") (.type "list") = some false := by kernel_rfl
theorem k_di : PySem.W.kitOne K (.type "dict") (.type "int") = some false := by kernel_rfl
theorem k_db : PySem.W.kitOne K (.type "dict") (.type "bool") = some false := by kernel_rfl
theorem k_dl : PySem.W.kitOne K (.type "dict") (.type "list") = some false := by kernel_rfl
variable {H : Hp} {x : V}
theorem Kd.isInt (k : Kd K H x) : IsX K H x (.type "int") (isI x) := by
  cases k with
  | non => exact ⟨_, .of .non, k_ni⟩
  | bl b => exact ⟨_, .of (.bl b), k_bi⟩
  | int i => exact ⟨_, .of (.int i), k_ii⟩
  | str y => exact ⟨_, .of (.str y), k_si⟩
  | lst e => exact ⟨_, .of (.lst e), k_li⟩
  | tup e => exact ⟨_, .of (.tup e), k_ti⟩
  | dict e => exact ⟨_, .dict e, k_di⟩
theorem Kd.isBool (k : Kd K H x) : IsX K H x (.type "bool") (isB x) := by
  cases k with
  | non => exact ⟨_, .of .non, k_nb⟩
  | bl b => exact ⟨_, .of (.bl b), k_bb⟩
  | int i => exact ⟨_, .of (.int i), k_ib⟩
  | str y => exact ⟨_, .of (.str y), k_sb⟩
  | lst e => exact ⟨_, .of (.lst e), k_lb⟩
  | tup e => exact ⟨_, .of (.tup e), k_tb⟩
  | dict e => exact ⟨_, .dict e, k_db⟩
theorem Kd.isList (k : Kd K H x) : IsX K H x (.type "list") (isL H x) := by
  cases k with
  | non => exact ⟨_, .of .non, k_nl⟩
  | bl b => exact ⟨_, .of (.bl b), k_bL⟩
  | int i => exact ⟨_, .of (.int i), k_il⟩
  | str y => exact ⟨_, .of (.str y), k_sl⟩
  | lst e => refine ⟨_, .of (.lst e), ?_⟩; simp only [isL, e]; exact k_ll
  | tup e => refine ⟨_, .of (.tup e), ?_⟩; simp only [isL, e]; exact k_tl
  | dict e => refine ⟨_, .dict e, ?_⟩; simp only [isL, e, DictO]; exact k_dl
theorem isList_lst {a : Addr} {xs : List V} (e : H a = some (.lst xs)) : IsX K H (.ref a) (.type "list") true := ⟨_, .of (.lst e), k_ll⟩
end
noncomputable def Src (J : It) (L : List V) (H : Hp) : Prop := ∀ H', Same H H' → (∀ i x, L[i]? = some x → J.go i H' ∧ ∀ y H2, J.yld i H' y H2 → y = x ∧ H2 = H') ∧ J.stop L.length H'
theorem src_list {K : PySem.W.Frag} {a : Addr} {xs : List V} {H : Hp} (h : SqL K H a xs) : Src (Itl K a) xs H := fun H' sm =>
  ⟨fun i x e => ⟨⟨xs, x, sm.seq h, e⟩, fun y H2 ⟨q1, q2⟩ => ⟨by have := q2 xs (sm.seq h); rw [e] at this; exact (Option.some.inj this).symm, q1⟩⟩, ⟨xs, sm.seq h, Nat.le_refl _⟩⟩
theorem src_range {lo : Int} {n : Nat} {H : Hp} : Src (Itr lo n) ((List.range n).map fun (i : Nat) => V.int (lo + i)) H := fun H' sm => by
  refine ⟨fun i x e => ?_, ?_⟩
  · have hi : i < n := by
      have := (List.getElem?_eq_some_iff.mp e).1
      simpa using this
    refine ⟨hi, fun y H2 ⟨q1, q2⟩ => ⟨?_, q1⟩⟩
    rw [List.getElem?_map, List.getElem?_range hi] at e
    rw [q2]
    exact Option.some.inj e
  · show n ≤ _
    simp
theorem comp_fm {J : It} {L : List V} {k : Nat} {tt : TT} {te : TE} {D : Addr} {σ0 : St} {H : Hp} {Fn : Hp → Prop} (f : V → V) (p : V → Bool) (S : Src J L H) (hn : L.length ≤ sizeLine) (hD : H D = none)
    (ht : ∀ x ∈ L, ∀ (H' : Hp) (Qb : Bool → Hp → Prop), Same H H' → (∀ H'', Same H' H'' → Qb (p x) H'') → tt (σ0.set k (some x)) H' Qb)
    (he : ∀ x ∈ L, p x = true → ∀ (H' : Hp) (Q : VK), Same H H' → (∀ H'', Same H' H'' → Q (f x) H'') → te (σ0.set k (some x)) H' Q)
    (hd : ∀ H', Same H H' → H' D = some (.lst ((L.filter p).map f)) → Fn H') :
    ∃ W : Nat → Nat → St → Hp → Prop, (∃ m, W 0 m σ0 (upd H D (.lst []))) ∧ ∀ i m σ' H', W i m σ' H' →
      (J.stop i H' ∧ Fn H') ∨ (J.go i H' ∧ ∃ N : St → Hp → Prop, (∀ σ2 H2, N σ2 H2 → ∃ m', m' < m ∧ W (i + 1) m' σ2 H2) ∧ ∀ x H2, J.yld i H' x H2 → gName k x σ' H2 fun σ3 H3 => tt σ3 H3 fun b H4 =>
        if b = true then te σ3 H4 fun v H5 => ∃ xs, H5 D = some (.lst xs) ∧ xs.length < sizeLine ∧ N σ3 (upd H5 D (.lst (xs ++ [v]))) else N σ3 H4) := by
  refine ⟨fun i m σ' H' => m = L.length - i ∧ i ≤ L.length ∧ (∀ y, σ'.set k y = σ0.set k y) ∧ Same H H' ∧ H' D = some (.lst (((L.take i).filter p).map f)), ⟨L.length, rfl, Nat.zero_le _, fun _ => rfl, same_new hD, by rw [upd_same]; rfl⟩, ?_⟩
  rintro i m σ' H' ⟨rfl, hi, hσ, sm, hH⟩
  by_cases hlt : i < L.length
  · have hx : L[i]? = some L[i] := by simp [hlt]
    obtain ⟨go, yl⟩ := (S H' sm).1 i _ hx
    refine .inr ⟨go, fun σ2 H2 => (∀ y, σ2.set k y = σ0.set k y) ∧ Same H H2 ∧ H2 D = some (.lst (((L.take (i + 1)).filter p).map f)), ?_, ?_⟩
    · rintro σ2 H2 ⟨q1, q2, q3⟩
      exact ⟨L.length - (i + 1), by omega, rfl, hlt, q1, q2, q3⟩
    · intro x H2 y
      obtain ⟨rfl, rfl⟩ := yl x H2 y
      show tt (σ'.set k (some L[i])) H2 _
      rw [hσ]
      have hm : L[i] ∈ L := List.getElem_mem hlt
      have tk : L.take (i + 1) = L.take i ++ [L[i]] := by rw [List.take_add_one, hx]; rfl
      refine ht _ hm H2 _ sm fun H4 s4 => ?_
      cases hp : p L[i] with
      | true =>
        refine iteT (he _ hm hp H4 _ (sm.trans s4) fun H5 s5 => ⟨_, s5 D _ (s4 D _ hH), ?_, fun y => by rw [List.set_set], same_upd (sm.trans (s4.trans s5)) hD, ?_⟩)
        · have h1 : (((L.take i).filter p).map f).length ≤ (L.take i).length := by rw [List.length_map]; exact List.length_filter_le _ _
          rw [List.length_take] at h1
          omega
        · rw [upd_same, tk, List.filter_append, List.map_append]
          simp [hp]
      | false =>
        refine iteF ⟨fun y => by rw [List.set_set], sm.trans s4, ?_⟩
        rw [tk, List.filter_append, List.filter_cons_of_neg (by simp [hp])]
        simpa using s4 D _ hH
  · have e : i = L.length := by omega
    subst e
    exact .inl ⟨(S H' sm).2, hd H' sm (by rw [hH, List.take_length])⟩
structure PicV (H : Hp) (a : Addr) (ps : List Addr) (R : List (List V)) : Prop where
  top : H a = some (.lst (ps.map V.ref))
  row : Paired (fun p r => H p = some (.lst r)) ps R
  nd : ps.Nodup
  out : a ∉ ps
noncomputable def Fresh (H : Hp) (ps : List Addr) : Prop := ∀ q ∈ ps, H q = none
theorem Paired.mapI {α β : Type} {F G : α → β → Prop} : ∀ {l₁ : List α} {l₂ : List β}, Paired F l₁ l₂ → (∀ a b, a ∈ l₁ → F a b → G a b) → Paired G l₁ l₂
  | _, _, .nil, _ => .nil
  | _, _, .cons r t, f => .cons (f _ _ List.mem_cons_self r) (Paired.mapI t fun a b h => f a b (List.mem_cons_of_mem _ h))
theorem Paired.app {α β : Type} {F : α → β → Prop} : ∀ {l₁ m₁ : List α} {l₂ m₂ : List β}, Paired F l₁ l₂ → Paired F m₁ m₂ → Paired F (l₁ ++ m₁) (l₂ ++ m₂)
  | _, _, _, _, .nil, q => q
  | _, _, _, _, .cons r t, q => .cons r (Paired.app t q)
theorem Paired.getL {α β : Type} {F : α → β → Prop} : ∀ {l₁ : List α} {l₂ : List β} {i : Nat} {a : α}, Paired F l₁ l₂ → l₁[i]? = some a → ∃ b, l₂[i]? = some b ∧ F a b
  | _, _, _, _, .nil, e => by simp at e
  | _, _, 0, _, .cons r t, e => by simp at e; subst e; exact ⟨_, rfl, r⟩
  | _, _, i + 1, a, .cons r t, e => by
    obtain ⟨b, h1, h2⟩ := Paired.getL (i := i) (a := a) t (by simpa using e)
    exact ⟨b, by simpa using h1, h2⟩
section
variable {H H' : Hp} {a : Addr} {ps : List Addr} {R : List (List V)}
theorem PicV.len (p : PicV H a ps R) : ps.length = R.length := Paired.length p.row
theorem PicV.at {i : Nat} {q : Addr} (p : PicV H a ps R) (h : ps[i]? = some q) : ∃ r, R[i]? = some r ∧ H q = some (.lst r) := Paired.getL p.row h
theorem PicV.mem (p : PicV H a ps R) {q : Addr} (hq : q ∈ ps) : ∃ r, r ∈ R ∧ H q = some (.lst r) := by
  obtain ⟨i, hi⟩ := List.mem_iff_getElem?.mp hq
  obtain ⟨r, hr, e⟩ := p.at hi
  exact ⟨r, List.mem_of_getElem? hr, e⟩
end
theorem comp_rows {J : It} {L : List V} {k : Nat} {te : TE} {D : Addr} {σ0 : St} {H : Hp} {Fn : Hp → Prop} (g : V → List V) (S : Src J L H) (hn : L.length ≤ sizeLine) (hD : H D = none)
    (he : ∀ x ∈ L, ∀ (H' : Hp) (Q : VK), Same H H' → (∀ q H'', Same H' H'' → H' q = none → H'' q = some (.lst (g x)) → Q (.ref q) H'') → te (σ0.set k (some x)) H' Q)
    (hd : ∀ ps H', Same H H' → Fresh H ps → PicV H' D ps (L.map g) → Fn H') :
    ∃ W : Nat → Nat → St → Hp → Prop, (∃ m, W 0 m σ0 (upd H D (.lst []))) ∧ ∀ i m σ' H', W i m σ' H' →
      (J.stop i H' ∧ Fn H') ∨ (J.go i H' ∧ ∃ N : St → Hp → Prop, (∀ σ2 H2, N σ2 H2 → ∃ m', m' < m ∧ W (i + 1) m' σ2 H2) ∧ ∀ x H2, J.yld i H' x H2 → gName k x σ' H2 fun σ3 H3 => tTrue σ3 H3 fun b H4 =>
        if b = true then te σ3 H4 fun v H5 => ∃ xs, H5 D = some (.lst xs) ∧ xs.length < sizeLine ∧ N σ3 (upd H5 D (.lst (xs ++ [v]))) else N σ3 H4) := by
  refine ⟨fun i m σ' H' => m = L.length - i ∧ i ≤ L.length ∧ (∀ y, σ'.set k y = σ0.set k y) ∧ Same H H' ∧ ∃ ps, Fresh H ps ∧ PicV H' D ps ((L.take i).map g), ⟨L.length, rfl, Nat.zero_le _, fun _ => rfl, same_new hD, [], (fun q h => nomatch h), ⟨by rw [upd_same]; rfl, .nil, List.nodup_nil, by simp⟩⟩, ?_⟩
  rintro i m σ' H' ⟨rfl, hi, hσ, sm, ps, fr, pic⟩
  by_cases hlt : i < L.length
  · have hx : L[i]? = some L[i] := by simp [hlt]
    obtain ⟨go, yl⟩ := (S H' sm).1 i _ hx
    refine .inr ⟨go, fun σ2 H2 => (∀ y, σ2.set k y = σ0.set k y) ∧ Same H H2 ∧ ∃ ps, Fresh H ps ∧ PicV H2 D ps ((L.take (i + 1)).map g), ?_, ?_⟩
    · rintro σ2 H2 ⟨q1, q2, q3⟩
      exact ⟨L.length - (i + 1), by omega, rfl, hlt, q1, q2, q3⟩
    · intro x H2 y
      obtain ⟨rfl, rfl⟩ := yl x H2 y
      simp only [gName, tTrue, if_true]
      rw [hσ]
      have hm : L[i] ∈ L := List.getElem_mem hlt
      have tk : L.take (i + 1) = L.take i ++ [L[i]] := by rw [List.take_add_one, hx]; rfl
      have hl : ps.length = i := by have := pic.len; rw [List.length_map, List.length_take] at this; omega
      refine he _ hm H2 _ sm fun q H5 s5 hq hq5 => ⟨_, s5 D _ pic.top, by rw [List.length_map, hl]; omega, fun y => by rw [List.set_set], same_upd (sm.trans s5) hD, ps ++ [q], ?_, ?_⟩
      · intro c hc
        rcases List.mem_append.mp hc with hc | hc
        · exact fr c hc
        · have e : c = q := by simpa using hc
          subst e
          exact sm.free hq
      · have nq : q ∉ ps := fun z => by
          obtain ⟨r, _, e⟩ := pic.mem z
          rw [hq] at e; cases e
        have nD : D ≠ q := ne_of_none pic.top hq
        refine ⟨by rw [upd_same, List.map_append]; rfl, ?_, ?_, ?_⟩
        · rw [tk, List.map_append]
          refine Paired.app (Paired.mapI pic.row fun c r hc e => ?_) (.cons ?_ .nil)
          · have ne : c ≠ D := fun z => pic.out (by rw [← z]; exact hc)
            rw [upd_ne ne]
            exact s5 _ _ e
          · rw [upd_ne (Ne.symm nD)]
            exact hq5
        · rw [List.nodup_append]
          exact ⟨pic.nd, by simp, fun c hc d hd z => by
            have e : d = q := by simpa using hd
            subst e; subst z
            exact nq hc⟩
        · intro z
          rcases List.mem_append.mp z with z | z
          · exact pic.out z
          · exact nD (by simpa using z)
  · have e : i = L.length := by omega
    subst e
    exact .inl ⟨(S H' sm).2, hd ps H' sm fr (by rw [List.take_length] at pic; exact pic)⟩
end L2
set_option Elab.async false
set_option linter.all false
set_option maxRecDepth 100000
namespace L2
open PySem PySem.Spec PyProof.Rows
section
variable {X : Cx} (K : PySem.W.Frag)
theorem ixK (h : X.K = K) : IxR X (rIxL K) := by subst h; exact ix_list
theorem slK (h : X.K = K) : SlR X (rSlL K) := by subst h; exact sl_list
theorem lenK (h : X.K = K) : CallR X (.builtin "len") (fun xs H Q => ∃ p ys, xs = [.ref p] ∧ (SqL K H p ys ∨ SqT K H p ys) ∧ Q (.int ys.length) H) := by subst h; exact call_len_seq
theorem listK (h : X.K = K) : CallR X (.type "list") (fun xs H Q => ∃ p ys, xs = [.ref p] ∧ (SqL K H p ys ∨ SqT K H p ys) ∧ ∀ l, H l = none → Q (.ref l) (upd H l (.lst ys))) := by subst h; exact call_list_of
theorem allK (h : X.K = K) (hc : X.calm = true) : CallR X (.builtin "all") (rAll K) := by subst h; exact call_all hc
theorem eqDK (h : X.K = K) (hu : X.A.units + 64 < cLine) : OpR X (compareOp .Eq) (rEqD K false) := by subst h; exact op_eqD hu
theorem neDK (h : X.K = K) (hu : X.A.units + 64 < cLine) : OpR X (compareOp .NotEq) (rEqD K true) := by subst h; exact op_neD hu
theorem piK {tg l : Expr} {tl : TE} (h : X.K = K) (hl : PE X l tl) : PI X tg l (iList K tl) := by subst h; exact pi_list hl
theorem isiK {e : Expr} {te : TE} {T : Str} {n : String} {p p2 pos : Pos} (h : X.K = K) (he : PE X e te) (h1 : Gl X "isinstance") (h2 : X.mg "isinstance" = none) (h3 : Gl X T) (h4 : X.mg T = none) (h5 : bootBuiltins T = some (.type n)) (h6 : T ≠ "__name__" := by decide) (h7 : (T == ("__debug__" : Str)) = false := by decide)
    (s1 : starEach [e, .Name T p2] X.env = (false, eval e X.env) :: starEach [.Name T p2] X.env := by rfl) (s2 : starEach [.Name T p2] X.env = (false, eval (.Name T p2) X.env) :: starEach [] X.env := by rfl) (hpl : (backTo pos (starEach [.Name T p2] X.env)).any (·.1) = false := by rfl) :
    PE X (.Call (.Name "isinstance" p) [e, .Name T p2] [] pos) (tCB (rIsX K) (tCons te (tCons (tC (.ty n)) tNil))) := by
  subst h; exact pe_isiX he h1 h2 h3 h4 h5 h6 h7 s1 s2 hpl
theorem isiCK {e : Expr} {te : TE} {T : Str} {C : Addr} {p p2 pos : Pos} (h : X.K = K) (he : PE X e te) (h1 : Gl X "isinstance") (h2 : X.mg "isinstance" = none) (h3 : Gl X T) (h4 : X.mg T = some (.ref C)) (h7 : (T == ("__debug__" : Str)) = false := by decide)
    (s1 : starEach [e, .Name T p2] X.env = (false, eval e X.env) :: starEach [.Name T p2] X.env := by rfl) (s2 : starEach [.Name T p2] X.env = (false, eval (.Name T p2) X.env) :: starEach [] X.env := by rfl) (hpl : (backTo pos (starEach [.Name T p2] X.env)).any (·.1) = false := by rfl) :
    PE X (.Call (.Name "isinstance" p) [e, .Name T p2] [] pos) (tCB (rIsX K) (tCons te (tCons (tC (.ref C)) tNil))) := by
  subst h; exact pe_isiC he h1 h2 h3 h4 h7 s1 s2 hpl
end
open C5
section
variable {X : Cx} {sc : Scope} {N : List Str} {src : List (Option Nat)}
structure TurnG (Cp : Cx → Prop) (P : Program) (w : World) (K : PySem.W.Frag) (tg : Expr) (J : It) (fp : List Addr) (it : Addr) (tn : Nat → Heap → Prop) : Prop where
  mem : it ∈ fp
  obj : ∀ i h, tn i h → ∀ b ∈ fp, ∃ o, h.get? b = some o ∧ ∀ v, o.data ≠ .cell v
  keep : ∀ i h h', tn i h → (∀ b ∈ fp, ∀ o, h.get? b = some o → h'.get? b = some o) → tn i h'
  item : ∀ (X : Cx), X.prog = P → X.w = w → X.K = K → Cp X → ∀ (i : Nat) (pins : List (Addr × Obj)) (s : Shared) (σ : St) (H : Hp) (E : Value → Shared → Prop), Inv X pins σ H s → (∀ b ∈ fp, FpOk X pins H b) → tn i s.heap → J.go i H →
    wpAny (model P w) X.A (pyNext (.ref it)) (fun r s1 => ∃ u, r = some u ∧ wpAny (model P w) X.A (letOwnedTupleGo tg (.ref it) u) (fun _ s2 => ∃ x H', Inv X pins σ H' s2 ∧ RelV x u ∧ J.yld i H x H' ∧ tn (i + 1) s2.heap ∧ ∀ b ∈ fp, H' b = none) E s1) E s
  done : ∀ (X : Cx), X.prog = P → X.w = w → X.K = K → Cp X → ∀ (i : Nat) (pins : List (Addr × Obj)) (s : Shared) (σ : St) (H : Hp) (E : Value → Shared → Prop), Inv X pins σ H s → (∀ b ∈ fp, FpOk X pins H b) → tn i s.heap → J.stop i H →
    wpAny (model P w) X.A (pyNext (.ref it)) (fun r s1 => r = none ∧ Inv X pins σ H s1) E s
  self : ∀ (A : Around) (i : Nat) (s : Shared) (Q : Value → Shared → Prop) (E : Value → Shared → Prop), tn i s.heap → Q (.ref it) s → wpAny (model P w) A (pyIter (.ref it)) Q E s
noncomputable def PIG (Cp : Cx → Prop) (X : Cx) (tg iter : Expr) (wi : TI) : Prop :=
  ∀ (pins : List (Addr × Obj)) (s : Shared) (σ : St) (H : Hp) (R : It → Hp → Prop), Inv X pins σ H s → wi σ H R →
    wpAny (model X.prog X.w) X.A (eval iter X.env) (fun v s1 => wpAny (model X.prog X.w) X.A (pyIter v) (fun itv s2 => ∃ (it : Addr) (fp : List Addr) (tn : Nat → Heap → Prop) (J : It) (H' : Hp), itv = .ref it ∧ Inv X pins σ H' s2 ∧ TurnG Cp X.prog X.w X.K tg J fp it tn ∧ tn 0 s2.heap ∧ (∀ b ∈ fp, FpOk X pins H' b) ∧ R J H') X.xe s1) X.xe s
theorem PI.g {X : Cx} {tg iter : Expr} {wi : TI} (h : PI X tg iter wi) : PIG (fun X => X.calm = true) X tg iter wi := fun pins s σ H R I hw =>
  thn (h pins s σ H R I hw) fun _ _ h1 => thn h1 fun _ _ ⟨it, fp, tn, J, H', e, I2, T, st, f, r⟩ => ⟨it, fp, tn, J, H', e, I2, ⟨T.mem, T.obj, T.keep, T.item, T.done, T.self⟩, st, f, r⟩
theorem ps_setCG (Cp : Cx → Prop) {x : Str} {ix : Nat} {p1 spos : Pos} {elt tgt iter : Expr} {ifs : List Expr} {wi : TI} {g : TG} {tt : TT} {te : TE} {pos : Pos} (hN : X.N.Nodup) (hix : X.N[ix]? = some x) (hxl : X.env.scope.names.lookup x = some .local) (hc : ∀ (s : Shared) (H : Hp) (C : Addr) (fp : List Addr), Cp (cxB X sc N fp C s H)) (B : BkScope X.env.scope sc X.N N src) (hi : PIG Cp X tgt iter wi)
    (hg : ∀ (s : Shared) (H : Hp) (C : Addr) (fp : List Addr), PG (cxB X sc N fp C s H) tgt g) (ht : ∀ (s : Shared) (H : Hp) (C : Addr) (fp : List Addr), PTs (cxB X sc N fp C s H) ifs tt)
    (he : ∀ (s : Shared) (H : Hp) (C : Addr) (fp : List Addr), PE (cxB X sc N fp C s H) elt te) (hs : ∀ x, foldedSetIterable iter X.env x = pure x := by intro _; rfl)
    (hsw : swapsWith (.ListComp elt [⟨tgt, iter, ifs, 0⟩] sc pos) (some (.Name x p1)) spos.line X.env = pure true := by rfl) :
    PS X (.Assign [.Name x p1] (.ListComp elt [⟨tgt, iter, ifs, 0⟩] sc pos) spos) (tAsg (tComp src wi g tt te) (gName ix)) := by
  intro pins s σ H D I h
  rw [exec_Assign_Name_used _ _ _ _ hsw]
  refine wpAny_bind (wpAny_standAt (wpAny_bind ?_))
  show wpAny _ X.A (do let _ ← comprehension (.ListComp elt [⟨tgt, iter, ifs, 0⟩] sc pos) sc X.env _ (newList []) false (eval iter X.env) (some (assign (.Name x p1) X.env))) _ _ s
  have has := B.has rfl I.ok
  refine wpAny_bind (wpAny_mono (wpAny_comprehension_free (use := some (assign (.Name x p1) X.env)) (Q := fun _ s' => SP X pins D .next s') rfl hs (clos_of has) B.kind (fun y hy hk => by have := B.look (x := y.1) (k := y.2) hy; rw [hk] at this; exact this)
    (thn (hi pins s σ H _ I h) fun v s1 h1 => thn h1 fun itv s2 h2 => ?_)) (fun _ s' hq => wpAny_pure (wpAny_pure hq)) fun _ _ z => z)
  obtain ⟨it, fp, tn, J, H2, e, I2, T, st2, f2, q⟩ := h2
  subst e
  refine wpAny_newObj_type (newBlock ?_)
  obtain ⟨W, ⟨m0, w0⟩, turn⟩ := q s2.heap.objs.size (I2.hok.fresh (Nat.le_refl _))
  have hlt : ∀ b ∈ fp, b < s2.heap.objs.size := fun b hb => by
    obtain ⟨o, ho, _⟩ := T.obj 0 _ st2 b hb
    exact Heap.lt_size ho
  have szL : (s2.heap.push { cls := .type "list", dict := none, data := .seq ([] : List Value).toArray } : Heap).objs.size = s2.heap.objs.size + 1 := Heap.size_push ..
  generalize hh1 : pushCells ((s2.heap.push { cls := .type "list", dict := none, data := .seq ([] : List Value).toArray } : Heap).push { cls := .type "dict", data := .dict #[] }) sc.names = hB
  have IB := I2.block (C := (s2.heap.push { cls := .type "list", dict := none, data := .seq ([] : List Value).toArray } : Heap).objs.size) (t := s2.toks) B f2 hlt szL hh1.symm
  generalize (s2.heap.push { cls := .type "list", dict := none, data := .seq ([] : List Value).toArray } : Heap).objs.size = C at IB szL ⊢
  have keepB : ∀ b o, s2.heap.get? b = some o → hB.get? b = some o := fun b o e => by
    rw [← hh1]
    exact pushCells_keeps _ _ b o (Heap.get?_push_of_some _ (Heap.get?_push_of_some _ e))
  have stB : tn 0 hB := T.keep 0 _ _ st2 fun b _ o e => keepB b o e
  have frB : ∀ b ∈ fp, upd H2 s2.heap.objs.size (.lst []) b = none := fun b hb => by
    rw [upd_ne (Nat.ne_of_lt (hlt b hb))]
    exact (f2 b hb).1
  have stat : ∀ {H' : Hp}, (∀ b ∈ fp, H' b = none) → ∀ b ∈ fp, FpOk (cxB X sc N fp C s2 H2) [] H' b := fun {H'} hn b hb => by
    obtain ⟨z1, z2⟩ := IB.ok.exf b hb
    exact ⟨hn b hb, z1, IB.ok.exfs b hb, .inl hb, z2, fun p hp => absurd (show p ∈ ([] : List (Addr × Obj)) from hp) (by simp)⟩
  show codeAny (model X.prog X.w) X.A (.compStart (.ListComp elt [⟨tgt, iter, ifs, 0⟩] sc pos) 0 (.ref it) (.ref s2.heap.objs.size) (bkEnv sc (clOf sc X.env) C X.env)) (compPost (model X.prog X.w) X.A X.xe (some (assign (.Name x p1) X.env)) (fun _ s' => SP X pins D .next s') (.ref s2.heap.objs.size) C) { s2 with heap := hB }
  have loop : codeAny (model X.prog X.w) X.A (.compLoop (.ListComp elt [⟨tgt, iter, ifs, 0⟩] sc pos) 0 (.ref it) (.ref s2.heap.objs.size) (bkEnv sc (clOf sc X.env) C X.env))
      (compPost (model X.prog X.w) X.A X.xe (some (assign (.Name x p1) X.env)) (fun _ s' => SP X pins D .next s') (.ref s2.heap.objs.size) C) { s2 with heap := hB } := by
    refine compLoop_go (fun n s' => ∃ i σ' H', Inv (cxB X sc N fp C s2 H2) [] σ' H' s' ∧ tn i s'.heap ∧ (∀ b ∈ fp, H' b = none) ∧ W i n σ' H') ?_ m0 ⟨0, _, _, IB, stB, frB, w0⟩
    rintro n s3 ⟨i, σ3, H3, I3, st3, fr3, w3⟩
    rcases turn i n σ3 H3 w3 with ⟨stop, qn⟩ | ⟨go, N', hN, step⟩
    · refine thn (T.done (cxB X sc N fp C s2 H2) rfl rfl rfl (hc _ _ _ _) i [] s3 σ3 H3 _ I3 (stat fr3) st3 stop) fun r s4 ⟨hr, I4⟩ => ?_
      subst hr
      obtain ⟨m, hn, _⟩ := I4.loc
      have ltC : ∀ b o, s2.heap.get? b = some o → b ≠ C := fun b o e => Nat.ne_of_lt (show @LT.lt Nat instLTNat b C by have : @LT.lt Nat instLTNat b s2.heap.objs.size := Heap.lt_size e; omega)
      have base := I4.base
      have freeC : H3 C = none := I4.free
      have J : Inv X pins σ H3 s4 := by
        refine I2.call' (s' := s4) (ch := fp) I4.os ⟨base.keep, base.slot, base.free, base.there, base.tups, base.frzs, base.tbls⟩ I4.hok I4.bare (fun b hb => ?_)
        obtain ⟨f0, f1, f2', f3, f4, f5⟩ := f2 b hb
        exact ⟨f3, f1, f4, f5⟩
      have neL : C ≠ X.env.locals := fun z => by
        obtain ⟨m', ⟨o, _, _, ho, _⟩, _⟩ := I2.loc
        exact ltC _ o ho z.symm
      have neCell : ∀ y c, X.env.cells.lookup y = some c → c ≠ C := fun y c e => by
        obtain ⟨v', o, ho, _⟩ := I2.cell y c e
        exact ltC c o ho
      show wpAny (model X.prog X.w) X.A (assign (.Name x p1) X.env (.ref s2.heap.objs.size)) _ _ s4
      refine wpAny_assign_Name (store_ok2 J hN hix (.inl hxl) (show RelV (.ref s2.heap.objs.size) (.ref s2.heap.objs.size) from rfl) (fun s5 J5 hsb => ?_) (.inr hxl))
      obtain ⟨a, sb, ha⟩ := hsb
      have neA : C ≠ a := by
        rcases ha with z | z
        · rw [z]; exact neL
        · exact fun q => neCell _ _ z q.symm
      refine ⟨m, hn.sameBut sb neA, fun h' hs' => ?_⟩
      refine ⟨_, H3, J5.turned (t' := s5.toks) (it := C) (fun b o hb e => (hs'.2 b hb).trans e) freeC neL (.inr ?_) neCell (fun p hp => ltC p.1 p.2 (I2.pin p hp).1), qn⟩
      exact Nat.le_trans I2.sz (show @LE.le Nat instLENat s2.heap.objs.size C by omega)
    · refine thn (T.item (cxB X sc N fp C s2 H2) rfl rfl rfl (hc _ _ _ _) i [] s3 σ3 H3 _ I3 (stat fr3) st3 go) fun r s4 ⟨u, hr, h4⟩ => ?_
      subst hr
      refine thn h4 fun _ s5 ⟨x, H5, I5, r5, y5, st5, fr5⟩ => ?_
      have I5' := I5.pinned (stat fr5) (T.obj _ _ st5)
      have again : ∀ {s7 : Shared} {σ7 : St} {H7 : Hp}, Inv (cxB X sc N fp C s2 H2) ([] ++ pinsAt fp s5.heap) σ7 H7 s7 → N' σ7 H7 → ∃ m, m < n ∧ ∃ i σ' H', Inv (cxB X sc N fp C s2 H2) [] σ' H' s7 ∧ tn i s7.heap ∧ (∀ b ∈ fp, H' b = none) ∧ W i m σ' H' := fun {s7 σ7 H7} I7 n7 => by
        obtain ⟨m', hm, w7⟩ := hN σ7 H7 n7
        refine ⟨m', hm, i + 1, σ7, H7, I7.unpinned, T.keep _ _ _ st5 fun b hb o e => (I7.pin (b, o) (List.mem_append_right _ (List.mem_append_right _ (mem_pinsAt hb e)))).1, fun b hb => ?_, w7⟩
        obtain ⟨o, e, d⟩ := T.obj _ _ st5 b hb
        exact (I7.pin (b, o) (List.mem_append_right _ (List.mem_append_right _ (mem_pinsAt hb e)))).2.1
      refine thn (hg s2 H2 C fp _ s5 σ3 H5 x u _ I5' r5 (step x H5 y5)) fun _ s6 ⟨σ6, H6, I6, q6⟩ => ?_
      refine thn (ht s2 H2 C fp _ s6 σ6 H6 _ I6 q6) fun b s7 ⟨H7, I7, q7⟩ => ?_
      cases b with
      | false =>
        rw [if_neg Bool.false_ne_true] at q7 ⊢
        exact again I7 q7
      | true =>
        rw [if_pos rfl] at q7 ⊢
        refine thn (he s2 H2 C fp _ s7 σ6 H7 _ I7 q7) fun u8 s8 ⟨v8, H8, I8, r8, xs, hD, hz, n8⟩ => ?_
        exact thn (mt_append (X := cxB X sc N fp C s2 H2) _ s8 σ6 H8 (.ref s2.heap.objs.size) [v8] (.ref s2.heap.objs.size) [u8] (fun _ H => N' σ6 H) I8 rfl (.cons r8 .nil) ⟨_, xs, v8, rfl, rfl, hD, hz, n8⟩) fun _ s9 ⟨_, H9, I9, _, n9⟩ => again I9 n9
  exact codeAny_compStart_list loop (T.self _ 0 _ _ _ stB loop)
theorem ps_setC {x : Str} {ix : Nat} {p1 spos : Pos} {elt tgt iter : Expr} {ifs : List Expr} {wi : TI} {g : TG} {tt : TT} {te : TE} {pos : Pos} (hN : X.N.Nodup) (hix : X.N[ix]? = some x) (hxl : X.env.scope.names.lookup x = some .local) (hc : X.calm = true) (B : BkScope X.env.scope sc X.N N src) (hi : PI X tgt iter wi)
    (hg : ∀ (s : Shared) (H : Hp) (C : Addr) (fp : List Addr), PG (cxB X sc N fp C s H) tgt g) (ht : ∀ (s : Shared) (H : Hp) (C : Addr) (fp : List Addr), PTs (cxB X sc N fp C s H) ifs tt)
    (he : ∀ (s : Shared) (H : Hp) (C : Addr) (fp : List Addr), PE (cxB X sc N fp C s H) elt te) (hs : ∀ x, foldedSetIterable iter X.env x = pure x := by intro _; rfl)
    (hsw : swapsWith (.ListComp elt [⟨tgt, iter, ifs, 0⟩] sc pos) (some (.Name x p1)) spos.line X.env = pure true := by rfl) :
    PS X (.Assign [.Name x p1] (.ListComp elt [⟨tgt, iter, ifs, 0⟩] sc pos) spos) (tAsg (tComp src wi g tt te) (gName ix)) :=
  ps_setCG (fun X => X.calm = true) hN hix hxl (fun _ _ _ _ => hc) B hi.g hg ht he hs hsw
end
end L2
namespace L2
open PySem
theorem exm_mk {K : PySem.W.Frag} {C F : Addr} (h1 : PySem.W.subIn K (.ref F) (.type "BaseException") = some true) (h2 : PySem.W.isClsIn K F = true) (h3 : PySem.W.typeIn K (.ref F) = some (.type "type")) (h4 : PySem.W.subIn K (.ref C) (.ref F) = some true) : PySem.W.exmOne K (.ref C) (.ref F) = some true := by
  unfold PySem.W.exmOne PySem.W.kitCls
  have h2' : (PySem.W.clsIn K F).isSome = true := h2
  rw [h1, if_pos (by decide)]
  dsimp only
  rw [h2', h3, if_pos (by simp), h4]
end L2
set_option Elab.async false
set_option linter.all false
set_option maxRecDepth 100000
namespace L2
open PySem PySem.Spec PyProof.Rows
section
variable {X : Cx}
end
end L2
set_option Elab.async false
set_option linter.all false
set_option maxRecDepth 100000
namespace L2
open PySem PySem.Spec PyProof.Rows
section
variable {X : Cx}
end
end L2
set_option Elab.async false
set_option linter.all false
set_option maxRecDepth 100000
namespace L2
open PySem PySem.Spec PyProof.Rows
section
variable {X : Cx} {tg : Expr}
end
end L2
namespace PySem
namespace F
end F
section
variable {prog : Program} {w : World} {A : Around} {E : Value → Shared → Prop} {s : Shared} {I l : Addr} {items : Array Value}
end
end PySem
namespace L2
open PySem PySem.Spec PyProof.Rows
section
variable {X : Cx}
end
end L2
set_option Elab.async false
set_option linter.all false
set_option maxRecDepth 100000
namespace L2
open PySem PySem.Spec PyProof.Rows
noncomputable def Sl (e : Expr) : Prop := ∀ es env, starEach (e :: es) env = (false, eval e env) :: starEach es env
end L2
set_option Elab.async false
set_option linter.all false
set_option maxRecDepth 100000
namespace L2
open PySem PySem.Spec PyProof.Rows
structure ShE (X : Cx) (e : Expr) (t : TE) : Prop where
  pe : PE X e t
structure ShA (X : Cx) (es : List Expr) (t : TA) : Prop where
  pa : PA X es t
section
variable {X : Cx} {a b c e : Expr} {es : List Expr} {ta tb te : TE} {t : TA} {p pos : Pos}
theorem slLst {xs : List Expr} : Sl (.List xs p) := fun _ _ => rfl
theorem slTup {xs : List Expr} {k : Nat} : Sl (.Tuple xs k p) := fun _ _ => rfl
theorem slBin {o : Operator} : Sl (.BinOp a o b p) := fun _ _ => rfl
theorem slUn {o : UnaryOp} : Sl (.UnaryOp o a p) := fun _ _ => rfl
theorem slCall {xs : List Expr} {ks : List Keyword} : Sl (.Call a xs ks p) := fun _ _ => rfl
theorem slC {k : Const} {n : Nat} : Sl (.Constant k n p) := fun _ _ => rfl
theorem slN {x : Str} : Sl (.Name x p) := fun _ _ => rfl
theorem qpa_nil : ShA X [] tNil := ⟨pa_nil⟩
theorem qpa_cons (ha : ShE X e te) (hs : Sl e) (hr : ShA X es t) : ShA X (e :: es) (tCons te t) := ⟨pa_cons ha.pe hr.pa (hs _ _)⟩
theorem qpe_lst (h : ShA X es t) : ShE X (.List es pos) (tLst t) := ⟨pe_lst h.pa⟩
end
end L2
set_option Elab.async false
set_option linter.all false
set_option maxRecDepth 100000
namespace L2
open PySem PySem.Spec PyProof.Rows
section
variable {prog : Program} {w : World} {A : Around} {E : Value → Shared → Prop} {s : Shared}
theorem entry_unchain : entryFor table "proto.unchain" = some Builtin.«proto.unchain» := entryFor_of_tree (by kernel_rfl)
theorem wp_unchain {e : Value} {ea : Addr} {Q : Value → Shared → Prop} (hc : NoCtx s.heap ea) (h : ∀ v, Q v s) : wpAny (model prog w) A (runValue (.builtin "proto.unchain" ⟨[e, .ref ea, .ref ea, .bool false], []⟩)) Q E s := by
  obtain ⟨o, vs, ho, hd, h2⟩ := hc
  refine wpAny_runValue (codeAny_builtin entry_unchain ?_)
  show wpAny _ _ (field (.ref ea) 2 >>= _) _ _ s
  refine wpAny_bind (wpAny_field ho hd h2 ?_)
  rw [if_pos (show (Value.none == Value.none) = true from rfl)]
  exact wpAny_pure (h _)
theorem wp_raiseMarked {α : Type} {x ea : Addr} {o : Obj} {vs : Array Value} {Q : α → Shared → Prop} (hh : A.handled = some (.ref ea)) (ne : x ≠ ea) (hc : NoCtx s.heap ea) (ho : s.heap.get? x = some o) (hd : o.data = .fields vs) (hz : 2 < vs.size)
    (h : E (.ref x) { s with heap := s.heap.update x (Obj.mapFields (·.setIfInBounds 2 (.ref ea))) }) : wpAny (model prog w) A (raiseNew (.ref x) : Sem α) Q E s := by
  unfold raiseNew
  refine wpAny_bind (wpAny_handled ?_)
  rw [hh]
  dsimp only
  rw [if_pos (show (Value.ref ea != Value.ref x) = true from by simp [bne, Ne.symm ne])]
  exact wpAny_bind (wpAny_holding (wp_unchain hc fun v => wpAny_bind (wpAny_setField (x := .ref ea) ho hd hz (wpAny_throw h))))
end
end L2
set_option Elab.async false
set_option linter.all false
set_option maxRecDepth 100000
namespace L2
open PySem PySem.Spec PyProof.Rows
section
variable {prog : Program} {w : World} {A : Around} {E : Value → Shared → Prop} {s : Shared}
theorem wp_stopM {α : Type} {ea : Addr} {Q : α → Shared → Prop} (hh : A.handled = some (.ref ea)) (hc : NoCtx s.heap ea)
    (h : ∀ x h', (∀ b o, s.heap.get? b = some o → h'.get? b = some o) → (∃ o, h'.get? x = some o ∧ o.cls = .type "StopIteration") → E (.ref x) { s with heap := h' }) :
    wpAny (model prog w) A (do raiseNew (← newExc (.type "StopIteration") []) : Sem α) Q E s := by
  refine wpAny_bind ?_
  simp only [newExc, newTuple]
  refine wpAny_bind (wpAny_newObj_type (wpAny_bind (m := firstArgMember _ _) (wpAny_of_eq (a := Value.none) (by first | rfl | (simp only [firstArgMember]; rfl)) (wpAny_newObj_type ?_ (by size_fits)))) (by size_fits))
  have k1 : ∀ b o, s.heap.get? b = some o → (s.heap.push { cls := Value.type "tuple", data := Data.seq #[] } : Heap).get? b = some o := fun b o e => Heap.get?_push_of_some _ e
  show wpAny _ _ (raiseNew (.ref (s.heap.push { cls := Value.type "tuple", data := Data.seq #[] } : Heap).objs.size)) Q E { s with heap := (s.heap.push { cls := Value.type "tuple", data := Data.seq #[] } : Heap).push _ }
  generalize (s.heap.push { cls := Value.type "tuple", data := Data.seq #[] } : Heap) = h1 at k1 ⊢
  obtain ⟨oe, vs, he, hd, h2⟩ := hc
  have lt : ∀ b o, s.heap.get? b = some o → b ≠ h1.objs.size := fun b o e => Nat.ne_of_lt (Heap.lt_size (k1 b o e))
  refine wp_raiseMarked hh (lt ea oe he).symm ⟨oe, vs, Heap.get?_push_of_some _ (k1 ea oe he), hd, h2⟩ (Heap.get?_push_size _ rfl) rfl (by simp only [Array.size_append]; exact Nat.lt_of_lt_of_le (by decide) (Nat.le_add_right 6 _)) (h _ _ (fun b o e => ?_) ?_)
  · rw [Heap.get?_update_other _ _ (lt b o e).symm]
    exact Heap.get?_push_of_some _ (k1 b o e)
  · exact ⟨_, Heap.get?_update_self _ (Heap.get?_push_size _ rfl) (Obj.isFreed_of_fields (Obj.data_mapFields rfl _)), rfl⟩
end
end L2
set_option Elab.async false
set_option linter.all false
set_option maxRecDepth 100000
namespace L2
open PySem PySem.Spec PyProof.Rows
section
variable {prog : Program} {w : World} {A : Around} {E : Value → Shared → Prop} {s : Shared}
theorem next_list_endM {it l ea : Addr} {i : Nat} {items : Array Value} {Q : Option Value → Shared → Prop} (hh : A.handled = some (.ref ea)) (hc : NoCtx s.heap ea) (ne : ea ≠ it)
    (hit : s.heap.IsListIter it l i) (hl : s.heap.IsList l items) (hx : items[i]? = none)
    (hQ : ∀ h', Heap.ExtBut it s.heap h' → Q none { s with heap := h' }) : wpAny (model prog w) A (pyNext (.ref it)) Q E s := by
  obtain ⟨oi, g1, _, g2⟩ := id hit
  obtain ⟨ol, g3, _, nl, g4⟩ := hl
  unfold pyNext
  refine wpAny_bind (wpAny_attempt (wpAny_callSpecial?_slot hit.typeIs (name := Str.ofString "__next__") slot_listiter_next (wpAny_call_entry slot_listiter_next hit.typeIs entry_listiter_next ?_ (args_listiter_next _))))
  refine wpAny_bind (m := field (.ref it) 0) (wpAny_field g1 g2 rfl (x := .ref l) ?_)
  rw [if_neg (show ¬ ((Value.ref l == Value.none) = true) from Bool.noConfusion)]
  refine wpAny_bind (m := field (.ref it) 1) (wpAny_field g1 g2 rfl (x := .int i 0) ?_)
  refine wpAny_bind (m := seqItems? (.ref l)) (wpAny_seqItems g3 g4 ?_)
  simp only [Int.toNat_natCast, hx]
  refine wpAny_bind (wpAny_rule (wpAny_bind (wpAny_setField g1 g2 (by simp) ?_)))
  have ob := Heap.SameBut.update (a := it) (h := s.heap) (f := Obj.mapFields (·.setIfInBounds 0 Value.none))
  show wpAny _ A.in1 (do raiseNew (← newExc (.type "StopIteration") []) : Sem _) _ _ _
  refine wp_stopM (show A.in1.handled = some (.ref ea) from hh) (hc.keeps fun o e => (ob.2 ea ne).trans e) fun x h' kp ⟨ox, ex, cx⟩ => ?_
  refine wpAny_bind (wpAny_isInstance ⟨ox, ex, cx⟩ isSubtype_stop (T := "StopIteration") (b := true) ?_)
  exact wpAny_pure (hQ h' fun b o hb e => kp b o ((ob.2 b hb).trans e))
end
end L2
set_option Elab.async false
set_option linter.all false
set_option maxRecDepth 100000
namespace L2
open PySem PySem.Spec PyProof.Rows
section
variable {prog : Program} {w : World} {A : Around} {E : Value → Shared → Prop} {s : Shared}
theorem next_tuple_endM {it t ea : Addr} {i : Nat} {items : Array Value} {Q : Option Value → Shared → Prop} (hh : A.handled = some (.ref ea)) (hc : NoCtx s.heap ea) (ne : ea ≠ it)
    (hit : IsTupIter s.heap it t i) (ht : IsTup s.heap t items) (hx : items[i]? = none)
    (hQ : ∀ h', Heap.ExtBut it s.heap h' → Q none { s with heap := h' }) : wpAny (model prog w) A (pyNext (.ref it)) Q E s := by
  obtain ⟨oi, g1, _, g2⟩ := id hit
  obtain ⟨ol, g3, _, nl, g4⟩ := ht
  unfold pyNext
  refine wpAny_bind (wpAny_attempt (wpAny_callSpecial?_slot hit.typeIs (name := Str.ofString "__next__") slot_tupleiter_next (wpAny_call_entry slot_tupleiter_next hit.typeIs entry_tupleiter_next ?_ (args_tupleiter_next _))))
  refine wpAny_bind (m := field (.ref it) 0) (wpAny_field g1 g2 rfl (x := .ref t) ?_)
  rw [if_neg (show ¬ ((Value.ref t == Value.none) = true) from Bool.noConfusion)]
  refine wpAny_bind (m := field (.ref it) 1) (wpAny_field g1 g2 rfl (x := .int i 0) ?_)
  refine wpAny_bind (m := seqItems? (.ref t)) (wpAny_seqItems g3 g4 ?_)
  simp only [Int.toNat_natCast, hx]
  refine wpAny_bind (wpAny_rule (wpAny_bind (wpAny_setField g1 g2 (by simp) ?_)))
  have ob := Heap.SameBut.update (a := it) (h := s.heap) (f := Obj.mapFields (·.setIfInBounds 0 Value.none))
  show wpAny _ A.in1 (do raiseNew (← newExc (.type "StopIteration") []) : Sem _) _ _ _
  refine wp_stopM (show A.in1.handled = some (.ref ea) from hh) (hc.keeps fun o e => (ob.2 ea ne).trans e) fun x h' kp ⟨ox, ex, cx⟩ => ?_
  refine wpAny_bind (wpAny_isInstance ⟨ox, ex, cx⟩ isSubtype_stop (T := "StopIteration") (b := true) ?_)
  exact wpAny_pure (hQ h' fun b o hb e => kp b o ((ob.2 b hb).trans e))
theorem assign_TupleM {env : Env} {elts : List Expr} {k : Nat} {pos : Pos} {t ea : Addr} {items : Array Value} {Q : Unit → Shared → Prop} (hh : A.handled = some (.ref ea)) (hc : NoCtx s.heap ea) (ht : IsTup s.heap t items)
    (hn : (assignEach elts env).length = items.size) (hstar : (assignEach elts env).findIdx? (·.1) = none)
    (h : ∀ h', Heap.ExtBut s.heap.objs.size s.heap h' → wpAny (model prog w) A (assignInOrder ((assignEach elts env).map (·.2)) items.toList) Q E { s with heap := h' }) :
    wpAny (model prog w) A (assign (.Tuple elts k pos) env (.ref t)) Q E s := by
  have lt : t ≠ s.heap.objs.size := by obtain ⟨o, ho, _⟩ := ht; exact Nat.ne_of_lt (Heap.lt_size ho)
  have lte : ea ≠ s.heap.objs.size := by obtain ⟨o, _, ho, _⟩ := hc; exact Nat.ne_of_lt (Heap.lt_size ho)
  rw [assign_Tuple]
  refine wpAny_bind (wpAny_standAt ?_)
  unfold unpack
  rw [hn, hstar]
  refine wpAny_bind (wpAny_holding ?_)
  unfold unpackItems notIterableAtAll
  refine wpAny_bind (wpAny_bind (wpAny_specialOf ht.typeIs slot_tuple_iter.lookup (wpAny_pure ?_)))
  simp only [Bool.false_eq_true, if_false]
  refine wpAny_bind (wpAny_holding (iter_tuple ht (wpAny_bind (wpAny_holding (draw_tuple lt items.size 0 _ _ ⟨_, Heap.get?_push_size _ rfl, rfl, rfl⟩ (ht.push _) (by omega) fun h1 it1 sb => ?_)))))
  rw [List.drop_zero, List.take_of_length_le (by simp), if_neg (by simp)]
  have c1 : NoCtx h1 ea := hc.keeps fun o e => (sb.2 ea lte).trans (Heap.get?_push_of_some _ e)
  refine wpAny_bind (wpAny_holding (next_tuple_endM hh c1 lte it1 ((ht.push _).extBut sb.extBut lt) (by simp) fun h2 e2 => ?_))
  simp only [Option.isSome_none, Bool.false_eq_true, if_false]
  exact wpAny_pure (h h2 fun b o hb e => e2 b o hb (sb.extBut b o hb (Heap.get?_push_of_some _ e)))
end
end L2
set_option Elab.async false
set_option linter.all false
set_option maxRecDepth 100000
namespace L2
open PySem PySem.Spec PyProof.Rows C5
section
variable {X : Cx} {Ec : XK}
end
section
variable {M : Model} {A : Around} {E : Value → Shared → Prop} {s : Shared} {B : Heap} {env : Env} {outer : List Env} {L ea : Addr} {cls a0 fl : Value} {Q : Unit → Shared → Prop}
end
section
variable {P : Program} {w : World} {K : PySem.W.Frag} {mg : Str → Option Value} {base : Heap} {N : List Str} {qual : Str} {scope : Scope} {f : Addr} {cd : Value} {A : Around} {outer : List Env} {s₀ : Shared} {H₀ : Hp} {E : XK}
end
end L2
set_option Elab.async false
set_option linter.all false
set_option maxRecDepth 100000
namespace C5
open PySem
section
variable {prog : Program} {w : World} {A : Around} {R : Result → Shared → Prop} {s : Shared}
end
end C5
namespace L2
open PySem PySem.Spec PyProof.Rows C5
section
variable {X : Cx} {pins : List (Addr × Obj)} {σ : St} {H : Hp} {s : Shared} {sc : Scope} {N : List Str} {src : List (Option Nat)}
end
end L2
set_option Elab.async false
set_option linter.all false
set_option maxRecDepth 100000
namespace L2
open PySem PySem.Spec PyProof.Rows
theorem pg_tupK {X : Cx} {es : List Expr} {k : Nat} {t : TGs} {n : Nat} {pos : Pos} (K : PySem.W.Frag) (hK : X.K = K) (hc : X.calm = true) (h : PGs X es t)
    (hn : (assignEach es X.env).length = n := by rfl) (hst : (assignEach es X.env).findIdx? (·.1) = none := by rfl) : PG X (.Tuple es k pos) (gTup K n t) := by
  subst hK
  exact pg_tup hc h hn hst
noncomputable def g2 (K : PySem.W.Frag) (k1 k2 : Nat) : TG := gTup K 2 (gCons (gName k1) (gCons (gName k2) gNil))
noncomputable def set2 (σ : St) (k1 k2 : Nat) (p : V × V) : St := (σ.set k1 (some p.1)).set k2 (some p.2)
noncomputable def Src2 (J : It) (g : TG) (L : List (V × V)) (k1 k2 : Nat) (H : Hp) : Prop := ∀ H', Same H H' → (∀ i p, L[i]? = some p → J.go i H' ∧ ∀ y H2, J.yld i H' y H2 → ∀ (σ : St) (C : St → Hp → Prop), (∀ H3, Same H' H3 → C (set2 σ k1 k2 p) H3) → g y σ H2 C) ∧ J.stop L.length H'
section
variable {K : PySem.W.Frag} {H : Hp} {k1 k2 : Nat}
noncomputable def enumL (xs : List V) : List (V × V) := (List.range xs.length).map fun (i : Nat) => (V.int (i : Int), xs.getD i .non)
theorem enumL_len (xs : List V) : (enumL xs).length = xs.length := by simp [enumL]
theorem enumL_at {xs : List V} {i : Nat} {p : V × V} (h : (enumL xs)[i]? = some p) : ∃ x, xs[i]? = some x ∧ p = (.int (i : Int), x) := by
  unfold enumL at h
  have hi : i < xs.length := by
    have := (List.getElem?_eq_some_iff.mp h).1
    simpa using this
  rw [List.getElem?_map, List.getElem?_range hi] at h
  refine ⟨xs[i], List.getElem?_eq_getElem hi, ?_⟩
  have := (Option.some.inj h).symm
  simpa [List.getD, hi] using this
theorem set2_set2 {σ : St} {p q : V × V} : set2 (set2 σ k1 k2 p) k1 k2 q = set2 σ k1 k2 q := by
  unfold set2
  by_cases h : k1 = k2
  · subst h; simp only [List.set_set]
  · rw [List.set_comm (some p.2) (some q.1) (Ne.symm h), List.set_set, List.set_set]
theorem comp2_fm {J : It} {g : TG} {L : List (V × V)} {tt : TT} {te : TE} {D : Addr} {σ0 : St} {Fn : Hp → Prop} (f : V × V → V) (p : V × V → Bool) (S : Src2 J g L k1 k2 H) (hn : L.length ≤ sizeLine) (hD : H D = none)
    (ht : ∀ x ∈ L, ∀ (H' : Hp) (Qb : Bool → Hp → Prop), Same H H' → (∀ H'', Same H' H'' → Qb (p x) H'') → tt (set2 σ0 k1 k2 x) H' Qb)
    (he : ∀ x ∈ L, p x = true → ∀ (H' : Hp) (Q : VK), Same H H' → (∀ H'', Same H' H'' → Q (f x) H'') → te (set2 σ0 k1 k2 x) H' Q)
    (hd : ∀ H', Same H H' → H' D = some (.lst ((L.filter p).map f)) → Fn H') :
    ∃ W : Nat → Nat → St → Hp → Prop, (∃ m, W 0 m σ0 (upd H D (.lst []))) ∧ ∀ i m σ' H', W i m σ' H' →
      (J.stop i H' ∧ Fn H') ∨ (J.go i H' ∧ ∃ N : St → Hp → Prop, (∀ σ2 H2, N σ2 H2 → ∃ m', m' < m ∧ W (i + 1) m' σ2 H2) ∧ ∀ x H2, J.yld i H' x H2 → g x σ' H2 fun σ3 H3 => tt σ3 H3 fun b H4 =>
        if b = true then te σ3 H4 fun v H5 => ∃ xs, H5 D = some (.lst xs) ∧ xs.length < sizeLine ∧ N σ3 (upd H5 D (.lst (xs ++ [v]))) else N σ3 H4) := by
  refine ⟨fun i m σ' H' => m = L.length - i ∧ i ≤ L.length ∧ (∀ y, set2 σ' k1 k2 y = set2 σ0 k1 k2 y) ∧ Same H H' ∧ H' D = some (.lst (((L.take i).filter p).map f)), ⟨L.length, rfl, Nat.zero_le _, fun _ => rfl, same_new hD, by rw [upd_same]; rfl⟩, ?_⟩
  rintro i m σ' H' ⟨rfl, hi, hσ, sm, hH⟩
  by_cases hlt : i < L.length
  · have hx : L[i]? = some L[i] := by simp [hlt]
    obtain ⟨go, yl⟩ := (S H' sm).1 i _ hx
    refine .inr ⟨go, fun σ2 H2 => (∀ y, set2 σ2 k1 k2 y = set2 σ0 k1 k2 y) ∧ Same H H2 ∧ H2 D = some (.lst (((L.take (i + 1)).filter p).map f)), ?_, ?_⟩
    · rintro σ2 H2 ⟨q1, q2, q3⟩
      exact ⟨L.length - (i + 1), by omega, rfl, hlt, q1, q2, q3⟩
    · intro x H2 y
      refine yl x H2 y σ' _ fun H3 s3 => ?_
      rw [hσ]
      have hm : L[i] ∈ L := List.getElem_mem hlt
      have tk : L.take (i + 1) = L.take i ++ [L[i]] := by rw [List.take_add_one, hx]; rfl
      refine ht _ hm H3 _ (sm.trans s3) fun H4 s4 => ?_
      have s34 := s3.trans s4
      cases hp : p L[i] with
      | true =>
        refine iteT (he _ hm hp H4 _ (sm.trans s34) fun H5 s5 => ⟨_, s5 D _ (s34 D _ hH), ?_, fun y => set2_set2, same_upd (sm.trans (s34.trans s5)) hD, ?_⟩)
        · have h1 : (((L.take i).filter p).map f).length ≤ (L.take i).length := by rw [List.length_map]; exact List.length_filter_le _ _
          rw [List.length_take] at h1
          omega
        · rw [upd_same, tk, List.filter_append, List.map_append]
          simp [hp]
      | false =>
        refine iteF ⟨fun y => set2_set2, sm.trans s34, ?_⟩
        rw [tk, List.filter_append, List.filter_cons_of_neg (by simp [hp])]
        simpa using s34 D _ hH
  · have e : i = L.length := by omega
    subst e
    exact .inl ⟨(S H' sm).2, hd H' sm (by rw [hH, List.take_length])⟩
end
end L2
set_option Elab.async false
set_option linter.all false
set_option maxRecDepth 100000
namespace PySem
open Sem (wp)
open AutoSeq1 (wpAny_loadPart')
section
variable {prog : Program} {w : World} {A : Around} {E : Value → Shared → Prop} {s : Shared}
theorem wpAny_nextOf_tuple_item {it l : Addr} {i : Nat} {items} {x : Value} {Q : Value → Shared → Prop} (hit : s.heap.IsTupleIter it l i)
    (hl : s.heap.IsTuple l items) (hx : items[i]? = some x)
    (hQ : ∀ h', h'.IsTupleIter it l (i + 1) → Heap.SameBut it s.heap h' → Q x { s with heap := h' }) :
    wpAny (model prog w) A (Builtin.SmallTypes.nextOf (.ref it)) Q E s := by
  obtain ⟨o, ho, hc, hd⟩ := id hit
  obtain ⟨ol, hol, _, nl, hdl⟩ := hl
  unfold Builtin.SmallTypes.nextOf
  refine wpAny_bind (wpAny_callSpecial?_slot (name := Str.ofString "__next__") hit.typeIs F.slot_tuple_iterator_next
    (wpAny_call_entry F.slot_tuple_iterator_next hit.typeIs F.entry_tuple_iterator_next ?_ (F.args_tuple_iterator_next_1 _)))
  show wpAny _ _ (field (.ref it) 0 >>= _) _ _ s
  refine wpAny_bind (wpAny_field ho hd (x := .ref l) rfl ?_)
  show wpAny _ _ (if (Value.ref l == Value.none) = true then _ else _) _ _ s
  rw [if_neg (show ¬ ((Value.ref l == Value.none) = true) from Bool.false_ne_true)]
  show wpAny _ _ (field (.ref it) 1 >>= _) _ _ s
  refine wpAny_bind (wpAny_field ho hd (x := .int i 0) rfl ?_)
  show wpAny _ _ (seqItems? (.ref l) >>= _) _ _ s
  refine wpAny_bind (wpAny_seqItems hol hdl ?_)
  simp only [Int.toNat_natCast, hx]
  refine wpAny_bind (wpAny_setField ho hd (by simp) (wpAny_pure ⟨x, rfl, wpAny_pure (hQ _ ?_ (Heap.SameBut.update ..))⟩))
  exact ⟨_, Heap.get?_update_self _ ho (Obj.isFreed_of_fields (Obj.data_mapFields hd _)), (Obj.cls_mapFields ..).trans hc, by
    rw [Obj.data_mapFields hd]; simp [rawInt]⟩
theorem wpAny_nextOf_tuple_end {it l : Addr} {i : Nat} {items} {Q : Value → Shared → Prop} (hh : A.handled = none)
    (hit : s.heap.IsTupleIter it l i) (hl : s.heap.IsTuple l items) (hx : items[i]? = none)
    (hE : ∀ h' e, Heap.ExtBut it s.heap h' → (∃ o, h'.get? e = some o ∧ o.cls = .type "StopIteration") → E (.ref e) { s with heap := h' }) :
    wpAny (model prog w) A (Builtin.SmallTypes.nextOf (.ref it)) Q E s := by
  obtain ⟨o, ho, hc, hd⟩ := id hit
  obtain ⟨ol, hol, _, nl, hdl⟩ := hl
  unfold Builtin.SmallTypes.nextOf
  refine wpAny_bind (wpAny_callSpecial?_slot (name := Str.ofString "__next__") hit.typeIs F.slot_tuple_iterator_next
    (wpAny_call_entry F.slot_tuple_iterator_next hit.typeIs F.entry_tuple_iterator_next ?_ (F.args_tuple_iterator_next_1 _)))
  show wpAny _ _ (field (.ref it) 0 >>= _) _ _ s
  refine wpAny_bind (wpAny_field ho hd (x := .ref l) rfl ?_)
  show wpAny _ _ (if (Value.ref l == Value.none) = true then _ else _) _ _ s
  rw [if_neg (show ¬ ((Value.ref l == Value.none) = true) from Bool.false_ne_true)]
  show wpAny _ _ (field (.ref it) 1 >>= _) _ _ s
  refine wpAny_bind (wpAny_field ho hd (x := .int i 0) rfl ?_)
  show wpAny _ _ (seqItems? (.ref l) >>= _) _ _ s
  refine wpAny_bind (wpAny_seqItems hol hdl ?_)
  simp only [Int.toNat_natCast, hx]
  refine wpAny_bind (wpAny_rule (wpAny_bind (wpAny_setField ho hd (by simp) ?_)))
  show wpAny _ _ (newExc (.type "StopIteration") [] >>= _) _ _ _
  refine wpAny_bind ?_
  simp only [newExc, newTuple]
  refine wpAny_bind (wpAny_newObj_type ?_ (by size_fits))
  refine wpAny_bind (m := firstArgMember _ _) (wpAny_of_eq (a := Value.none) (by first | rfl | (simp only [firstArgMember]; rfl)) ?_)
  refine wpAny_newObj_type ?_ (by size_fits)
  simp only [raiseNew]
  refine wpAny_bind (wpAny_handled ?_)
  first | rw [show A.in1.handled = none from hh] | rw [hh]
  refine wpAny_bind (wpAny_pure (wpAny_throw ?_))
  exact hE _ _ (((Heap.SameBut.update ..).extBut.push _).push _) ⟨_, Heap.get?_push_size _ rfl, rfl⟩
end
theorem Draws.tuple {prog : Program} {w : World} {A : Around} (hh : A.handled = none) (it l : Addr) (hne : l ≠ it) (items : Array Value) :
    Draws prog w A it [it, l] items.size (fun i v => items[i]? = some v) (fun i h => h.IsTupleIter it l i ∧ h.IsTuple l items) where
  live := fun _ _ st => let ⟨o, ho, _⟩ := st.1; ⟨o, ho⟩
  frame := fun _ _ _ st hk => ⟨let ⟨o, ho, r⟩ := st.1; ⟨o, hk it (by simp) o ho, r⟩, let ⟨o, ho, r⟩ := st.2; ⟨o, hk l (by simp) o ho, r⟩⟩
  item := fun i s Q E hi st hQ => by
    refine wpAny_nextOf_tuple_item st.1 st.2 (x := items[i]) (by simp [hi]) fun h' hit' hs' => ?_
    exact hQ _ h' s.toks (by simp [hi]) ⟨hit', st.2.extBut hs'.extBut hne⟩ hs'
  done := fun s Q E st hE => wpAny_nextOf_tuple_end hh st.1 st.2 (by simp) hE
theorem meets_enumerate_newT (l : Addr) (items : Array Value) (n : Nat) (dct : Option Addr) (sl : Array (Option Value)) :
    Meets (Builtin.«enumerate.__new__» ⟨[.type "enumerate", .ref l], []⟩) (fun _ R s => s.heap.get? l = some { cls := .type "tuple", dict := dct, data := .seq items n, slots := sl } ∧
      R (.ok (.ret (.ref (s.heap.push { cls := .type "tuple_iterator", data := .fields #[.ref l, .int 0 0] }).objs.size)))
        { s with heap := (s.heap.push { cls := .type "tuple_iterator", data := .fields #[.ref l, .int 0 0] }).push { cls := .type "enumerate", data := .fields #[.none, .bool false, .ref s.heap.objs.size, rawInt 0, .none, .none] } }) :=
  .of_wp fun prog w A R s h => by
    obtain ⟨hp, g, d, tk, os⟩ := s; obtain ⟨hl, h⟩ := h
    have hsub := sub_enumerate
    have hL : Heap.IsTuple (Shared.heap ⟨hp, g, d, tk, os⟩) l items := ⟨_, hl, rfl, n, rfl⟩
    wp_walk using wpAny_loadPart' hl
    refine wpAny_stack_any fun st => wpAny_pure ?_
    split
    · rename_i c _ _ _ _ _
      cases (c == Value.type "enumerate")
      · wp_walk using wpAny_loadPart' hl, wpAny_pyIter_tuple hL
        exact ⟨_, rfl, h⟩
      · wp_walk using wpAny_loadPart' hl, wpAny_pyIter_tuple hL
        exact ⟨_, rfl, h⟩
    · wp_walk using wpAny_loadPart' hl, wpAny_pyIter_tuple hL
      exact ⟨_, rfl, h⟩
section
variable {prog : Program} {w : World} {A : Around} {E : Value → Shared → Prop} {s : Shared}
theorem call_enumerate_tuple {l : Addr} {items : Array Value} {Q : Value → Shared → Prop} (hL : s.heap.IsTuple l items)
    (h : ∀ h', IsEnum h' (s.heap.objs.size + 1) s.heap.objs.size 0 .none → h'.IsTupleIter s.heap.objs.size l 0 → h'.objs.size = s.heap.objs.size + 2 →
      (∀ b o, s.heap.get? b = some o → h'.get? b = some o) → Q (.ref (s.heap.objs.size + 1)) { s with heap := h' }) :
    wpAny (model prog w) A (call (.type "enumerate") [.ref l]) Q E s := by
  obtain ⟨⟨c, dct, dt, sl⟩, hl, hc, n, hd⟩ := hL
  replace hc : c = .type "tuple" := hc
  replace hd : dt = .seq items n := hd
  subst hc hd
  refine callType_new F.called_enumerate (by decide) (F.typeCall_enumerate_1 _) (F.newCall_enumerate_1 _) (fun obj => F.args_object_init_2 obj _) F.entry_enumerate_new
    (meets_enumerate_newT l items n dct sl) ⟨hl, ?_⟩
  have hz : (s.heap.push { cls := .type "tuple_iterator", data := .fields #[.ref l, .int 0 0] }).objs.size = s.heap.objs.size + 1 := Heap.size_push ..
  show _ ∧ _
  rw [hz]
  have he : IsEnum ((s.heap.push { cls := .type "tuple_iterator", data := .fields #[.ref l, .int 0 0] }).push
      { cls := .type "enumerate", data := .fields #[.none, .bool false, .ref s.heap.objs.size, rawInt 0, .none, .none] }) (s.heap.objs.size + 1) s.heap.objs.size 0 .none := by
    have := Heap.get?_push_size (s.heap.push { cls := .type "tuple_iterator", data := .fields #[.ref l, .int 0 0] })
      (o := { cls := .type "enumerate", data := .fields #[.none, .bool false, .ref s.heap.objs.size, rawInt 0, .none, .none] }) rfl
    rw [hz] at this; exact this
  refine ⟨⟨_, he, rfl⟩, h _ he ⟨_, Heap.get?_push_of_some _ (Heap.get?_push_size _ rfl), rfl, rfl⟩ (by rw [Heap.size_push, hz]) fun b o x => Heap.get?_push_of_some _ (Heap.get?_push_of_some _ x)⟩
end
section
variable {prog : Program} {w : World} {A : Around} {E : Value → Shared → Prop} {s : Shared}
theorem wpAny_pyNext_enum_endT {e it l : Addr} {i : Nat} {items : Array Value} {old : Value} {Q : Option Value → Shared → Prop} (hh : A.handled = none)
    (he : IsEnum s.heap e it i old) (hit : s.heap.IsTupleIter it l i) (hl : s.heap.IsTuple l items) (hx : items[i]? = none)
    (hQ : ∀ h', Heap.ExtBut it s.heap h' → Q none { s with heap := h' }) : wpAny (model prog w) A (pyNext (.ref e)) Q E s := by
  have hT : s.TypeIs (.ref e) "enumerate" := ⟨_, he, rfl⟩
  unfold pyNext
  refine wpAny_bind (wpAny_attempt (wpAny_callSpecial?_slot (name := Str.ofString "__next__") hT F.slot_enumerate_next
    (wpAny_call_entry F.slot_enumerate_next hT F.entry_enumerate_next ?_ (F.args_enumerate_next_1 _))))
  show wpAny _ _ (field (.ref e) 2 >>= _) _ _ _
  refine wpAny_bind (wpAny_field he rfl (x := .ref it) rfl ?_)
  refine wpAny_bind (wpAny_nextOf_tuple_end hh hit hl hx fun h' x he' hx' => ?_)
  obtain ⟨o, ho, hc⟩ := hx'
  refine wpAny_bind (wpAny_isInstance (T := "StopIteration") (b := true) ⟨o, ho, hc⟩ isSubtype_stop ?_)
  exact wpAny_pure (hQ _ he')
end
end PySem
namespace L2
open PySem PySem.Spec PyProof.Rows
noncomputable def Itet (K : PySem.W.Frag) (a : Addr) : It :=
  ⟨fun i H => ∃ xs x, SqT K H a xs ∧ xs[i]? = some x,
   fun i H v H' => ∃ T x, v = .ref T ∧ H T = none ∧ H' = upd H T (.tup [.int (i : Int), x]) ∧ ∀ xs, SqT K H a xs → xs[i]? = some x,
   fun i H => ∃ xs, SqT K H a xs ∧ xs.length ≤ i⟩
noncomputable def EStT (e it a : Addr) (i : Nat) (h : Heap) : Prop := (∃ old, IsEnum h e it (i : Int) old) ∧ h.IsTupleIter it a i
theorem turn_enumT {P : Program} {w : World} {K : PySem.W.Frag} {elts : List Expr} {x1} {pos : Pos} {e it a : Addr} (D : e ≠ it) :
    Turn P w K (.Tuple elts x1 pos) (Itet K a) [e, it] e (EStT e it a) where
  mem := by simp
  obj := fun i h st c hc => by
    obtain ⟨⟨old, s1⟩, ⟨o4, e4, c4, d4⟩⟩ := st
    simp only [List.mem_cons, List.not_mem_nil, or_false] at hc
    rcases hc with rfl | rfl
    · exact ⟨_, s1, fun v e => by cases e⟩
    · exact ⟨_, e4, fun v e => by rw [d4] at e; cases e⟩
  keep := fun i h h' st k => by
    obtain ⟨⟨old, s1⟩, s4⟩ := st
    exact ⟨⟨old, k e (by simp) _ s1⟩, (let ⟨o, ho, r⟩ := s4; ⟨o, k it (by simp) o ho, r⟩)⟩
  item := by
    intro X hP hw hK hc i pins s σ H E I hf st hg
    subst hP hw hK
    obtain ⟨⟨old, s1⟩, s4⟩ := st
    obtain ⟨xs, x, hx, ex⟩ := hg
    obtain ⟨its, r, pl, _⟩ := I.tuple hx
    obtain ⟨v1, hv1, rv1⟩ := r.get ex
    have hal : a ≠ it := fun z => by
      obtain ⟨o1, f1, f2, _⟩ := s4
      obtain ⟨o2, g1, g2, _⟩ := (show s.heap.IsTuple a its.toArray from pl)
      rw [z, f1] at g1; cases g1
      rw [f2] at g2; exact absurd g2 (by decide)
    have hae : e ∉ [it, a] := fun z => by
      simp only [List.mem_cons, List.not_mem_nil, or_false] at z
      rcases z with z | z
      · exact D z
      · obtain ⟨o2, g1, g2, _⟩ := (show s.heap.IsTuple a its.toArray from pl)
        rw [← z, show s.heap.get? e = some _ from s1] at g1; cases g1
        exact absurd g2 (by show ¬ (Value.type "enumerate" = Value.type "tuple"); decide)
    refine wpAny_pyNext_enum_itemD (Draws.tuple (A := X.A.in1) (I.ok.hd hc) it a hal its.toArray) s1 ⟨s4, pl⟩ (by have := (List.getElem?_eq_some_iff.mp hv1).1; simpa using this) D hae fun v2 h' tk hv2 a1 a2 a5 a6 hk => ?_
    have ev : v2 = v1 := by
      have z : its.toArray[i]? = some v1 := by simpa using hv1
      rw [z] at hv2; exact (Option.some.inj hv2).symm
    subst ev
    have fresh : H s.heap.objs.size = none := I.hok.fresh (Nat.le_refl _)
    have inF : ∀ c, c ∈ [e, it] → FpOk X pins H c := fun c hc => hf c hc
    have hk' : ∀ c o, c ∉ [e, it] → s.heap.get? c = some o → h'.get? c = some o := fun c o hc q => by
      simp only [List.mem_cons, List.not_mem_nil, or_false, not_or] at hc
      exact hk c o hc.1 hc.2 q
    have nF : ∀ c u, H c = some u → c ∉ [e, it] := fun c u q hc => by have := (inF c hc).1; rw [q] at this; cases this
    have I1 : Inv X pins σ (upd H s.heap.objs.size (.tup [.int (i : Int), x])) { s with heap := h', toks := tk + 1 } := by
      refine I.step (g' := s.gens) (d' := s.drawn) (t' := tk + 1) (ch := [e, it]) (fun c hc => ?_) (fun c o _ _ hc e _ => hk' c o hc e) (fun c o _ _ hc e _ => ⟨o.slots, hk' c o hc e⟩) (fun c o hc e n => ?_)
        (fun c o hc e => ⟨o, hk' c o hc e⟩) (fun c zs e => ?_) (fun c o u e => ?_) (fun c ps e => ?_) (fun m hm => ?_) (fun c u e => ?_) I.bare
      · obtain ⟨f0, f1, f2, f3, f4, f5⟩ := inF c hc
        exact ⟨f3, f1, f4, f5⟩
      · rw [upd_ne (Nat.ne_of_lt (Heap.lt_size e))]; exact n
      · rw [upd_ne (ne_of_none e fresh)]; exact e
      · rw [upd_ne (ne_of_none e fresh)]; exact e
      · exact ⟨#[], by rw [upd_ne (ne_of_none e fresh), e]; simp⟩
      · obtain ⟨o, es, ep, ho, rr⟩ := hm
        exact ⟨o, es, ep, hk' _ o (fun hc => (inF _ hc).2.1 rfl) ho, rr⟩
      · by_cases hce : c = s.heap.objs.size
        · subst hce
          rw [upd_same] at e
          cases e
          exact ⟨by show 2 ≤ sizeLine; decide, [_, v2], .cons ⟨_, rfl⟩ (.cons rv1 .nil), ⟨_, a5, rfl, _, rfl⟩⟩
        · rw [upd_ne hce] at e
          refine (I.hok c u e).stay (fun d o hd q => hk' d o ?_ q) (fun d q => ?_) fun d zs q => ?_
          · rcases hd with z1 | z1
            · rw [z1]; exact nF c u e
            · exact nF d _ z1
          · rw [upd_ne (ne_of_none q fresh)]; exact q
          · rw [upd_ne (ne_of_none q fresh)]; exact q
    refine ⟨_, rfl, wpAny_letOwnedTupleGo_enum a1 fun h2 hz2 hs2 => ?_⟩
    obtain ⟨f0, f1, f2, f3, f4, f5⟩ := inF e (by simp)
    have nez : e ≠ s.heap.objs.size := Nat.ne_of_lt (Heap.lt_size s1)
    have I2 : Inv X pins σ (upd H s.heap.objs.size (.tup [.int (i : Int), x])) { s with heap := h2, toks := tk + 1 } := I1.turned (t' := tk + 1) (fun c o hc e => hs2.extBut c o hc e) (by rw [upd_ne nez]; exact f0) f1 f3 f4 f5
    refine ⟨.ref s.heap.objs.size, _, I2, rfl, ⟨_, x, rfl, fresh, rfl, fun zs q1 => by rw [I.tuple_inj q1 hx]; exact ex⟩, ⟨⟨v2, ?_⟩, a2.1.extBut hs2.extBut (Ne.symm D)⟩, fun c hc => ?_⟩
    · have q : ((i + 1 : Nat) : Int) = (i : Int) + 1 := by push_cast; rfl
      rw [q]; exact hz2
    obtain ⟨o, ho⟩ : ∃ o, s.heap.get? c = some o := by
      simp only [List.mem_cons, List.not_mem_nil, or_false] at hc
      obtain ⟨o4, e4, _⟩ := s4
      rcases hc with rfl | rfl
      · exact ⟨_, s1⟩
      · exact ⟨_, e4⟩
    rw [upd_ne (Nat.ne_of_lt (Heap.lt_size ho))]
    exact (inF c hc).1
  done := by
    intro X hP hw hK hc i pins s σ H E I hf st hg
    subst hP hw hK
    obtain ⟨⟨old, s1⟩, s4⟩ := st
    obtain ⟨xs, hx, hl⟩ := hg
    obtain ⟨its, r, pl, _⟩ := I.tuple hx
    have l1 := r.length
    obtain ⟨f0, f1, f2, f3, f4, f5⟩ := hf it (by simp)
    have hal : a ≠ it := fun z => by
      obtain ⟨o1, f1, f2, _⟩ := s4
      obtain ⟨o2, g1, g2, _⟩ := (show s.heap.IsTuple a its.toArray from pl)
      rw [z, f1] at g1; cases g1
      rw [f2] at g2; exact absurd g2 (by decide)
    refine wpAny_pyNext_enum_endT (I.ok.hd hc) s1 s4 pl (by simp; omega) fun h' hk => ⟨rfl, ?_⟩
    exact I.turned (t' := s.toks) (fun c o hc e => hk c o hc e) f0 f1 f3 f4 f5
  self := fun _ _ _ _ _ st h => by obtain ⟨⟨old, s1⟩, _⟩ := st; exact wpAny_pyIter_enum s1 h
noncomputable def iEnumT (K : PySem.W.Frag) (ta : TA) : TI := fun σ H R => ta σ H fun vs H1 => ∃ a, vs = [.ref a] ∧ (∃ xs, SqT K H1 a xs) ∧ R (Itet K a) H1
section
variable {X : Cx}
theorem pi_enumT {a : Expr} {ta : TA} {p pos : Pos} {elts : List Expr} {x1} {tpos : Pos} (K : PySem.W.Frag) (hK : X.K = K) (hg : Gl X "enumerate") (hm : X.mg "enumerate" = none) (ha : PA X [a] ta) (hs : starEach [a] X.env = [(false, eval a X.env)] := by rfl) :
    PI X (.Tuple elts x1 tpos) (.Call (.Name "enumerate" p) [a] [] pos) (iEnumT K ta) := by
  subst hK
  intro pins s σ H R I h
  refine Call_ (ld_blt I hg hm boot_enumerate (PyProof.Rows.callWith_type1 (thn (ha pos pins s σ H _ I h) fun us s1 ⟨vs, H1, I1, r1, q1⟩ => ?_) (by rw [hs]; rfl) (by rfl)))
  obtain ⟨l1, e, ⟨xs, hx⟩, q⟩ := q1
  subst e
  obtain ⟨u1, rfl, ru1⟩ := Vals.one r1
  cases ru1
  obtain ⟨its, r, pl, _⟩ := I1.tuple hx
  refine call_enumerate_tuple (show s1.heap.IsTuple l1 its.toArray from pl) fun h' a1 a4 a6 hk => ?_
  have I2 : Inv X pins σ H1 { s1 with heap := h' } := I1.kept (t' := s1.toks) hk
  refine wpAny_pyIter_enum (s := { s1 with heap := h' }) a1 ?_
  refine ⟨s1.heap.objs.size + 1, [s1.heap.objs.size + 1, s1.heap.objs.size], _, Itet X.K l1, H1, rfl, I2, turn_enumT (Nat.succ_ne_self _), ⟨⟨_, a1⟩, a4⟩, fun c hc => ?_, q⟩
  have hle : s1.heap.objs.size ≤ c := by
    simp only [List.mem_cons, List.not_mem_nil, or_false] at hc
    show @LE.le Nat instLENat s1.heap.objs.size c
    rcases hc with e | e <;> (rw [e]; omega)
  exact I1.fpOk hle (I1.hok.fresh hle)
end
section
variable {K : PySem.W.Frag} {H : Hp} {k1 k2 : Nat}
theorem Same.seqT {K : PySem.W.Frag} {H H' : Hp} {a : Addr} {xs : List V} (e : Same H H') (h : SqT K H a xs) : SqT K H' a xs := by
  rcases h with (h | ⟨o, h⟩) | h
  · exact .inl (.inl (e _ _ h))
  · exact .inl (.inr ⟨o, e _ _ h⟩)
  · exact .inr h
theorem src2_enumT {a : Addr} {xs : List V} (hx : SqT K H a xs) : Src2 (Itet K a) (g2 K k1 k2) (enumL xs) k1 k2 H := fun H' sm => by
  refine ⟨fun i p e => ?_, xs, (Same.seqT sm hx), by rw [enumL_len]; exact Nat.le_refl _⟩
  obtain ⟨x, e1, rfl⟩ := enumL_at e
  refine ⟨⟨xs, x, (Same.seqT sm hx), e1⟩, fun v H2 hv σ C hC => ?_⟩
  obtain ⟨T, x', rfl, hT, rfl, hv⟩ := hv
  have q1 := hv xs ((Same.seqT sm hx))
  rw [e1] at q1; cases q1
  exact ⟨T, _, rfl, SqT.of upd_same, rfl, _, _, rfl, _, _, rfl, rfl, hC _ (same_new hT)⟩
end
end L2
set_option Elab.async false
set_option linter.all false
set_option maxRecDepth 100000
namespace L2
open PySem PySem.Spec PyProof.Rows
noncomputable def Hd (H : Hp) (ea : Addr) : Prop := ∃ C, H ea = some (ExcO ea C)
theorem Hd.mono {H H' : Hp} {ea : Addr} (h : Hd H ea) (s : Same H H') : Hd H' ea := by
  obtain ⟨C, e⟩ := h
  exact ⟨C, s _ _ e⟩
theorem Inv.noctx {X : Cx} {pins : List (Addr × Obj)} {σ : St} {H : Hp} {s : Shared} {ea : Addr} (I : Inv X pins σ H s) (h : Hd H ea) : NoCtx s.heap ea := by
  obtain ⟨C, e⟩ := h
  obtain ⟨⟨o, vs, p1, _, p3, p4⟩, _⟩ := (show ObjOk X.prog X.w H s.heap ea (ExcO ea C) from I.hok ea _ e)
  exact ⟨o, vs, p1, p3, p4⟩
noncomputable abbrev Marked (ea : Addr) : Cx → Prop := fun X => X.A.handled = some (.ref ea)
noncomputable def ItlM (K : PySem.W.Frag) (a ea : Addr) : It := ⟨(Itl K a).go, (Itl K a).yld, fun i H => (Itl K a).stop i H ∧ Hd H ea⟩
theorem turn_listM {P : Program} {w : World} {K : PySem.W.Frag} {tg : Expr} {ea : Addr} (a it : Addr) : TurnG (Marked ea) P w K tg (ItlM K a ea) [it] it (fun i h => h.IsListIter it a i) where
  mem := List.mem_singleton.mpr rfl
  obj := fun i h st b hb => by
    rw [List.mem_singleton.mp hb]
    obtain ⟨o, e, _, d⟩ := st
    exact ⟨o, e, fun v z => by rw [d] at z; cases z⟩
  keep := fun i h h' st k => st.at fun o e => k it (List.mem_singleton.mpr rfl) o e
  item := by
    rintro X rfl rfl rfl hc i pins s σ H E I hf st ⟨xs, x, hq, hx⟩
    obtain ⟨its, rv, p, _⟩ := I.list hq
    obtain ⟨u, hu, ru⟩ := rv.get hx
    obtain ⟨f0, f1, f2, f3, f4, f5⟩ := hf it (List.mem_singleton.mpr rfl)
    refine wpAny_pyNext_list_item st p.isList (x := u) (by simpa using hu) fun h' st' sb => ⟨u, rfl, ?_⟩
    have J : Inv X pins σ H { s with heap := h' } := I.turned (t' := s.toks) (fun b o hb e => (sb.2 b hb).trans e) f0 f1 f3 f4 f5
    obtain ⟨o, e, c, d⟩ := id st'
    exact go_of (s := { s with heap := h' }) e c d (by decide) ⟨x, H, J, ru, ⟨rfl, fun ys hy => by rw [I.list_inj hy hq]; exact hx⟩, st', fun b hb => (hf b hb).1⟩
  done := by
    rintro X rfl rfl rfl hc i pins s σ H E I hf st ⟨⟨xs, hq, hx⟩, he⟩
    obtain ⟨its, rv, p, _⟩ := I.list hq
    obtain ⟨f0, f1, f2, f3, f4, f5⟩ := hf it (List.mem_singleton.mpr rfl)
    have hl := rv.length
    obtain ⟨C, e⟩ := id he
    exact next_list_endM hc (I.noctx he) (ne_of_none e f0) st p.isList (by simp; omega) fun h' eb => ⟨rfl, I.turned (t' := s.toks) (fun b o hb e => eb b o hb e) f0 f1 f3 f4 f5⟩
  self := fun _ _ _ _ _ st h => wpAny_pyIter_listiter st h
noncomputable def iListM (K : PySem.W.Frag) (ea : Addr) (tl : TE) : TI := fun σ H R => tl σ H fun x H1 => ∃ a, x = .ref a ∧ (∃ xs, SqL K H1 a xs) ∧ R (ItlM K a ea) H1
section
variable {X : Cx} {ea : Addr}
theorem pi_listM {tg l : Expr} {tl : TE} (K : PySem.W.Frag) (hK : X.K = K) (hl : PE X l tl) : PIG (Marked ea) X tg l (iListM K ea tl) := by
  subst hK
  intro pins s σ H R I h
  refine thn (hl pins s σ H _ I h) fun v s1 ⟨x, H1, J, r1, a, e, ⟨xs, hq⟩, q⟩ => ?_
  subst e
  cases r1
  obtain ⟨its, rv, p, _⟩ := J.list hq
  refine wpAny_pyIter_list p.isList ⟨s1.heap.objs.size, [s1.heap.objs.size], _, _, H1, rfl, J.kept (t' := s1.toks) fun b o e => Heap.get?_push_of_some _ e, turn_listM a _, ⟨_, Heap.get?_push_size _ rfl, rfl, rfl⟩, fun b hb => ?_, q⟩
  rw [List.mem_singleton.mp hb]
  exact J.fpOk (Nat.le_refl _) (J.hok.fresh (Nat.le_refl _))
noncomputable def gTupM (K : PySem.W.Frag) (ea : Addr) (n : Nat) (t : TGs) : TG := fun v σ H Q => Hd H ea ∧ gTup K n t v σ H Q
theorem pg_tupM {es : List Expr} {k n : Nat} {pos : Pos} {t : TGs} (K : PySem.W.Frag) (hK : X.K = K) (hc : Marked ea X) (h : PGs X es t) (hn : (assignEach es X.env).length = n := by rfl) (hst : (assignEach es X.env).findIdx? (·.1) = none := by rfl) : PG X (.Tuple es k pos) (gTupM K ea n t) := by
  subst hK
  intro pins s σ H v u Q I r ⟨he, a, xs, e1, hq, hl, hw⟩
  subst e1
  cases r
  obtain ⟨its, rv, ht, _⟩ := I.tuple hq
  refine assign_TupleM hc (I.noctx he) ht (by simp [hn, ← hl, rv.length]) hst fun h' hx => ?_
  exact h pins _ σ H xs _ Q (I.kept (t' := s.toks) fun b o e => hx b o (Nat.ne_of_lt (Heap.lt_size e)) e) (by simpa using rv) hw
end
theorem comp_word {K : PySem.W.Frag} {a ea D : Addr} {L : List (Addr × Str × Bool)} {σ0 : St} {H : Hp} {Fn : Hp → Prop} (hS : SqL K H a (L.map fun t => V.ref t.1)) (hT : ∀ t ∈ L, SqT K H t.1 [.str t.2.1, .bl t.2.2]) (hE : Hd H ea) (hn : L.length ≤ sizeLine) (h2 : σ0.length = 2) (hD : H D = none)
    (hd : ∀ H', Same H H' → H' D = some (.lst ((L.filter fun t => t.2.2).map fun t => V.str t.2.1)) → Fn H') :
    ∃ W : Nat → Nat → St → Hp → Prop, (∃ m, W 0 m σ0 (upd H D (.lst []))) ∧ ∀ i m σ' H', W i m σ' H' →
      ((ItlM K a ea).stop i H' ∧ Fn H') ∨ ((ItlM K a ea).go i H' ∧ ∃ N : St → Hp → Prop, (∀ σ2 H2, N σ2 H2 → ∃ m', m' < m ∧ W (i + 1) m' σ2 H2) ∧ ∀ x H2, (ItlM K a ea).yld i H' x H2 → gTupM K ea 2 (gCons (gName 0) (gCons (gName 1) gNil)) x σ' H2 fun σ3 H3 => tB (tVar 1) σ3 H3 fun b H4 =>
        if b = true then tVar 0 σ3 H4 fun v H5 => ∃ xs, H5 D = some (.lst xs) ∧ xs.length < sizeLine ∧ N σ3 (upd H5 D (.lst (xs ++ [v]))) else N σ3 H4) := by
  refine ⟨fun i m σ' H' => m = L.length - i ∧ i ≤ L.length ∧ σ'.length = 2 ∧ Same H H' ∧ H' D = some (.lst (((L.take i).filter fun t => t.2.2).map fun t => V.str t.2.1)), ⟨L.length, rfl, Nat.zero_le _, h2, same_new hD, by rw [upd_same]; rfl⟩, ?_⟩
  rintro i m σ' H' ⟨rfl, hi, hσ, sm, hH⟩
  by_cases hlt : i < L.length
  · have hx : L[i]? = some L[i] := List.getElem?_eq_getElem hlt
    have hx' : (L.map fun t => V.ref t.1)[i]? = some (.ref L[i].1) := by rw [List.getElem?_map, hx]; rfl
    have hS' := sm.seq hS
    refine .inr ⟨⟨_, _, hS', hx'⟩, fun σ2 H2 => σ2.length = 2 ∧ Same H H2 ∧ H2 D = some (.lst (((L.take (i + 1)).filter fun t => t.2.2).map fun t => V.str t.2.1)), fun σ2 H2 ⟨q1, q2, q3⟩ => ⟨L.length - (i + 1), by omega, rfl, hlt, q1, q2, q3⟩, ?_⟩
    rintro x H2 ⟨rfl, hy⟩
    have e := hy _ hS'
    rw [hx'] at e
    cases e
    have tk : (L.take (i + 1)).filter (fun t => t.2.2) = (L.take i).filter (fun t => t.2.2) ++ [L[i]].filter fun t => t.2.2 := by rw [List.take_succ_eq_append_getElem hlt, List.filter_append]
    obtain ⟨v0, v1, rfl⟩ : ∃ v0 v1, σ' = [v0, v1] := by
      match σ', hσ with
      | [a, b], _ => exact ⟨a, b, rfl⟩
    refine ⟨hE.mono sm, _, _, rfl, sm.seqT (hT _ (List.getElem_mem hlt)), rfl, _, _, rfl, _, _, rfl, rfl, _, rfl, _, rfl, ?_⟩
    have lf : ((L.take i).filter fun t => t.2.2).length ≤ i := Nat.le_trans (List.length_filter_le _ _) (by rw [List.length_take]; omega)
    cases hb : L[i].2.2 with
    | false =>
      refine iteF ?_
      refine ⟨rfl, sm, ?_⟩
      rw [tk, List.filter_cons_of_neg (by simp [hb]), List.filter_nil, List.append_nil]
      exact hH
    | true =>
      refine iteT ?_
      refine ⟨_, rfl, _, hH, by rw [List.length_map]; omega, rfl, same_upd sm hD, ?_⟩
      rw [upd_same, tk, List.filter_cons_of_pos (by simp [hb]), List.filter_nil, List.map_append]
      rfl
  · have e : i = L.length := by omega
    subst e
    rw [List.take_length] at hH
    exact .inl ⟨⟨⟨_, sm.seq hS, by rw [List.length_map]; exact Nat.le_refl _⟩, hE.mono sm⟩, hd H' sm hH⟩
end L2
set_option Elab.async false
set_option linter.all false
set_option maxRecDepth 100000
namespace L2
open PySem PySem.Spec PyProof.Rows
noncomputable def signsOf (x : Str) : List V := x.cps.toList.map fun c => .str ⟨#[c]⟩
section
variable {X : Cx} {tg : Expr}
end
section
variable {X : Cx}
end
end L2
namespace L2
open PySem
end L2
namespace L2
open PySem PySem.Spec PyProof.Rows
end L2
set_option Elab.async false
set_option linter.all false
set_option maxRecDepth 100000
namespace L2
open PySem PySem.Spec PyProof.Rows
section
variable {X : Cx}
end
end L2
set_option Elab.async false
set_option linter.all false
set_option maxRecDepth 100000
namespace L2
open PySem PySem.Spec PyProof.Rows
section
variable {X : Cx} {pins pn : List (Addr × Obj)} {σ : St} {H : Hp} {s : Shared} {XE : Value → Shared → Prop}
noncomputable def catchXG (K : PySem.W.Frag) (CF : Addr) (i : Nat) (ts : Addr → TS) (D : Ends) (σ : St) : XK := fun cls _ H1 =>
  ∃ C, cls = .ref C ∧ PySem.W.exmOne K (.ref C) (.ref CF) = some true ∧ ∀ ea, H1 ea = none → ts ea (endsX i D) (σ.set i (some (.ref ea))) (upd H1 ea (ExcO ea C))
noncomputable def tTryG (K : PySem.W.Frag) (CF : Addr) (i : Nat) (tb : (St → XK) → TS) (ts : Addr → TS) : TS := fun D σ H => tb (fun σ' => catchXG K CF i ts D σ') D σ H
theorem ps_tryG {body : List Stmt} {cx n : Str} {CF : Addr} {i : Nat} {b0 : Stmt} {suite : List Stmt} {np hpos pos : Pos} {tb : (St → XK) → TS} {ts : Addr → TS}
    (hN : X.N.Nodup) (hi : X.N[i]? = some n) (hl : X.env.scope.names.lookup n = some .local) (hg : Gl X cx) (hm : X.mg cx = some (.ref CF)) (hst : X.stack = X.env :: X.outer) (hf : X.env.frame = some X.env.locals)
    (hb : ∀ (pn : List (Addr × Obj)) (XE : Value → Shared → Prop) (R : St → XK), PassesR (CX1 X.prog X.w) (X.at pn XE) R → PSs (X.at pn XE) body (tb R))
    (hs : ∀ ea, PSs (X.marked ea) (b0 :: suite) (ts ea)) (hdb : (cx == ("__debug__" : Str)) = false := by decide) :
    PS X (.Try body [.ExceptHandler (some (.Name cx np)) (some n) (b0 :: suite) hpos] [] [] pos) (tTryG X.K CF i tb ts) := by
  intro pins s σ H D I hq
  refine wpAny_Try_except (wpAny_mono (hb (X.pn ++ pins) _ (fun σ' => catchXG X.K CF i ts D σ') ?_ [] s σ H D I.at hq) (fun f s1 q => ?_) fun e s1 q => q)
  · intro pins0 σ0 H0 s0 e s' I0' hc
    have I0 : Inv X pins σ0 H0 s0 := I0'.unat
    obtain ⟨ea, cls, a0, H', B, rfl, fl, nc, os, bare, fw, C, rfl, hex, q⟩ := hc
    replace fl : Heap.FlyingW B (X.env :: X.outer) ea (.ref C) a0 s'.heap := by rw [← hst]; exact fl
    replace fw : Flew X.prog X.w (X.env :: X.outer) H0 H' s0.heap B s'.heap ea := by rw [← hst]; exact fw
    have fr0 : X.A.frames = some (X.env :: X.outer) := by rw [I0.ok.frames, hst]
    have new0 : s0.heap.get? ea = none := by
      cases g : s0.heap.get? ea with
      | none => rfl
      | some o =>
        by_cases hb : ea ∈ frs (X.env :: X.outer)
        · obtain ⟨_, o1, e1, nf⟩ := fl.2.2.1.mem hb
          obtain ⟨oe, vs, e2, _, d2, _⟩ := fl.first
          rw [e1] at e2; cases e2
          exact absurd d2 (nf vs)
        · obtain ⟨o', e1⟩ := fw.there ea o g hb
          rw [fl.2.1] at e1; cases e1
    refine looks_onC fr0 hf fl nc fun h4 held4 nc4 up4 => ?_
    refine landsC held4 nc4 fun h5 fl5 nc5 up5 => ?_
    have inv : ∀ {h6 : Heap} {tk : Nat}, Heap.FlyingW B (X.env :: X.outer) ea (.ref C) a0 h6 → NoCtx h6 ea → s'.heap.UpToSlots h6 → Inv X pins σ0 (upd H' ea (ExcO ea C)) { s' with heap := h6, toks := tk } := fun {h6 tk} fl6 nc6 up6 => by
      have f6 := fw.up fl up6
      have u6 := f6.un fl6.1
      obtain ⟨oe, vs, e6, c6, d6, _⟩ := fl6.first
      obtain ⟨on, wn, en, dn, nn⟩ := nc6
      rw [e6] at en; cases en
      rw [d6] at dn; cases dn
      refine I0.call' (s' := { s' with heap := h6, toks := tk }) (ch := []) os (by
        rw [hst]
        exact ⟨u6.keep, u6.slot, fun b o e n hx => by
          rw [upd_ne (fun z => by rw [z, new0] at e; cases e)]
          exact u6.free b o e n hx, u6.there, fun b xs e => by
          have z := u6.tups b xs e
          rw [upd_ne (ne_of_none z fw.exc)]; exact z, fun b o u e => by
          have z := u6.frzs b o u e
          rw [upd_ne (ne_of_none z fw.exc)]; exact z, fun b ps e => by
          obtain ⟨more, z⟩ := u6.tbls b ps e
          exact ⟨more, by rw [upd_ne (ne_of_none z fw.exc)]; exact z⟩⟩) (fun b u e => ?_) bare (fun b hb => absurd hb (by simp))
      by_cases hbe : b = ea
      · subst hbe
        rw [upd_same] at e
        cases e
        refine ⟨⟨oe, vs, e6, c6, d6, nn⟩, ⟨oe, e6⟩, fun h1 h2 p k => ?_⟩
        obtain ⟨o, ws, p1, p2, p3, p4⟩ := p
        exact ⟨o, ws, k o p1, p2, p3, p4⟩
      · rw [upd_ne hbe] at e
        refine (f6.ok fl6.1 b u e).stay (fun _ _ _ g => g) (fun c g => ?_) fun c xs g => ?_
        · rw [upd_ne (ne_of_none g fw.exc)]; exact g
        · rw [upd_ne (ne_of_none g fw.exc)]; exact g
    have I5 := inv (tk := s'.toks) fl5 nc5 (up4.trans up5)
    refine wpAny_handleBy_cons (codeAny_handlers_test (ld_glob (X := X.marked ea) (I5.marked ea) hg hm ?_ hdb)) (by intro z; cases z)
    obtain ⟨ob, hob, hobc⟩ := fl5.there
    have LT : PySem.W.Looks (model X.prog X.w) h5 (typeOf (.ref ea)) (.ref C) := by
      rw [← hobc]
      exact (PySem.W.Looks.ld hob).andThen .now
    refine (PySem.W.exm_one (h := h5) I5.kIn LT hex).here ?_
    refine codeAny_handlers_suite_as ?_
    refine lands_againC fl5 nc5 fun h6 fl6 nc6 up6 => ?_
    have I6 := inv (tk := s'.toks) fl6 nc6 ((up4.trans up5).trans up6)
    refine store_ok I6 hN hi (Or.inl hl) (show RelV (.ref ea) (.ref ea) from rfl) (fun s7 I7 => ?_) (.inr hl)
    refine wpAny_mono (hs ea pins s7 _ _ _ (I7.marked ea) (q ea fw.exc)) (fun f s8 sp => ?_) fun _ _ z => z.elim
    have fin : ∀ {σ8 : St} {H8 : Hp} {Q8 : Shared → Prop}, Inv (X.marked ea) pins σ8 H8 s8 → (∀ s9, Inv X pins (σ8.set i none) H8 s9 → Q8 s9) →
        wpAny (model X.prog X.w) X.A (do bindName X.env n .none; unbindBehindTheSuite X.env n hpos) (fun _ s9 => Q8 s9) X.xe s8 := fun {σ8 H8 Q8} J k => by
      have J' := J.unmarked I0.ok
      obtain ⟨m, hn, hlk⟩ := J'.loc
      refine wpAny_nameGoes_keeps hl hn (by rw [I0.ok.kind]; rfl) fun h9 v hn9 sb9 => k _ ?_
      exact J'.gone hN hi hl hlk hn9 sb9
    cases f with
    | next =>
      obtain ⟨σ8, H8, J, z⟩ := sp
      exact fin J fun s9 I9 => ⟨_, H8, I9, z⟩
    | brk =>
      obtain ⟨σ8, H8, J, z⟩ := sp
      exact fin J fun s9 I9 => ⟨_, H8, I9, z⟩
    | cont =>
      obtain ⟨σ8, H8, J, z⟩ := sp
      exact fin J fun s9 I9 => ⟨_, H8, I9, z⟩
    | ret u =>
      obtain ⟨v, σ8, H8, J, r, z⟩ := sp
      exact fin J fun s9 I9 => ⟨v, _, H8, I9, r, z⟩
  · cases f with
    | next => obtain ⟨σ1, H1, J, z⟩ := q; exact wpAny_execs_nil ⟨σ1, H1, J.unat, z⟩
    | brk => obtain ⟨σ1, H1, J, z⟩ := q; exact ⟨σ1, H1, J.unat, z⟩
    | cont => obtain ⟨σ1, H1, J, z⟩ := q; exact ⟨σ1, H1, J.unat, z⟩
    | ret u => obtain ⟨v, σ1, H1, J, r, z⟩ := q; exact ⟨v, σ1, H1, J.unat, r, z⟩
end
end L2
set_option Elab.async false
set_option linter.all false
set_option maxRecDepth 100000
namespace L2
open PySem PySem.Spec PyProof.Rows
end L2
set_option Elab.async false
set_option linter.all false
set_option maxRecDepth 100000
namespace L2
open PySem PySem.Spec PyProof.Rows
end L2
set_option Elab.async false
set_option linter.all false
set_option maxRecDepth 100000
namespace L2
open PySem PySem.Spec PyProof.Rows
end L2
set_option Elab.async false
set_option linter.all false
set_option maxRecDepth 100000
namespace STb
open PySem PySem.SetTable
noncomputable def meets (m e : Nat) : Nat → Nat → Nat → Bool
  | 0, i, _ => i == e
  | k + 1, i, p => i == e || meets m e k (leap m i p).1 (leap m i p).2
theorem meets_zero7 : ∀ e : Fin 8, ∀ i : Fin 8, meets 7 e.val 31 i.val 0 = true := by decide +kernel
theorem meets_zero31 : ∀ e : Fin 32, ∀ i : Fin 32, meets 31 e.val 31 i.val 0 = true := by decide +kernel
noncomputable def GoodM (m : Nat) : Prop := m = 7 ∨ m = 31
theorem meets_zero {m e i : Nat} (hm : GoodM m) (he : e ≤ m) (hi : i ≤ m) : meets m e 31 i 0 = true := by
  rcases hm with rfl | rfl
  · exact meets_zero7 ⟨e, by omega⟩ ⟨i, by omega⟩
  · exact meets_zero31 ⟨e, by omega⟩ ⟨i, by omega⟩
theorem leap_le (m i p : Nat) : (leap m i p).1 ≤ m := by
  unfold leap
  exact Nat.le_of_lt_succ (Nat.mod_lt _ (Nat.succ_pos m))
theorem meets_pre {m e : Nat} (hm : GoodM m) (he : e ≤ m) : ∀ (k i p : Nat), i ≤ m → p < 32 ^ k → meets m e (31 + k) i p = true
  | 0, i, p, hi, hp => by
    have : p = 0 := by simpa using hp
    subst this
    exact meets_zero hm he hi
  | k + 1, i, p, hi, hp => by
    show (i == e || meets m e (31 + k) (leap m i p).1 (leap m i p).2) = true
    rw [meets_pre hm he k _ _ (leap_le m i p) (by
      show p / 32 < 32 ^ k
      rw [Nat.pow_succ] at hp
      exact Nat.div_lt_of_lt_mul (by rw [Nat.mul_comm]; exact hp))]
    simp
theorem bits_lt (h : Int) : bits h < 32 ^ 13 := by
  unfold bits
  have h1 : h % (2 ^ 64 : Int) < 2 ^ 64 := Int.emod_lt_of_pos _ (by decide)
  have h0 : 0 ≤ h % (2 ^ 64 : Int) := Int.emod_nonneg _ (by decide)
  have : (32 : Nat) ^ 13 = 36893488147419103232 := by decide
  omega
theorem meets_all {m e i : Nat} (h : Int) (hm : GoodM m) (he : e ≤ m) (hi : i ≤ m) : meets m e 44 i (bits h) = true := meets_pre hm he 13 i _ hi (bits_lt h)
noncomputable def adv (m : Nat) (p : Probe) : Probe :=
  if p.more > 0 then { p with j := p.j + 1, more := p.more - 1 } else
  { p with j := (leap m p.i p.perturb).1, more := runEnd m (leap m p.i p.perturb).1 - (leap m p.i p.perturb).1, i := (leap m p.i p.perturb).1, perturb := (leap m p.i p.perturb).2 }
theorem advance_eq (t : SetTable) (p : Probe) : t.advance p = adv t.mask p := rfl
noncomputable def blk (m i p : Nat) : Probe := ⟨i, runEnd m i - i, i, p, none⟩
theorem start_eq (t : SetTable) (h : Int) : t.probeStart h = blk t.mask (bits h % (t.mask + 1)) (bits h) := rfl
inductive Way (m : Nat) (sl : Nat → Option Nat) : Probe → List Nat → Nat → Prop
  | stop {p : Probe} : sl p.j = none → Way m sl p [] p.j
  | live {p : Probe} {i : Nat} {l : List Nat} {e : Nat} : sl p.j = some i → Way m sl (adv m p) l e → Way m sl p (i :: l) e
variable {m : Nat} {sl : Nat → Option Nat}
theorem Way.free {p : Probe} {l : List Nat} {e : Nat} (w : Way m sl p l e) : sl e = none := by
  induction w with
  | stop h => exact h
  | live _ _ ih => exact ih
theorem run {i q : Nat} : ∀ (r j : Nat), (∃ l e, Way m sl ⟨j, r, i, q, none⟩ l e ∧ l.length ≤ r) ∨
    ((∀ k, k ≤ r → ∃ x, sl (j + k) = some x) ∧ ∀ l e, Way m sl (blk m (leap m i q).1 (leap m i q).2) l e → ∃ l2, Way m sl ⟨j, r, i, q, none⟩ l2 e ∧ l2.length = l.length + r + 1)
  | 0, j => by
    cases hs : sl j with
    | none => exact .inl ⟨[], j, .stop (p := ⟨j, 0, i, q, none⟩) hs, Nat.le_refl _⟩
    | some x =>
      refine .inr ⟨fun k hk => ?_, fun l e w => ⟨x :: l, .live (p := ⟨j, 0, i, q, none⟩) hs w, rfl⟩⟩
      have : k = 0 := by omega
      subst this
      exact ⟨x, hs⟩
  | r + 1, j => by
    cases hs : sl j with
    | none => exact .inl ⟨[], j, .stop (p := ⟨j, r + 1, i, q, none⟩) hs, Nat.zero_le _⟩
    | some x =>
      rcases run (i := i) (q := q) r (j + 1) with ⟨l, e, w, hl⟩ | ⟨hk, h⟩
      · exact .inl ⟨x :: l, e, .live (p := ⟨j, r + 1, i, q, none⟩) hs w, Nat.succ_le_succ hl⟩
      · refine .inr ⟨fun k hk' => ?_, fun l e w => ?_⟩
        · cases k with
          | zero => exact ⟨x, hs⟩
          | succ k => have := hk k (by omega); rwa [show j + 1 + k = j + (k + 1) by omega] at this
        · obtain ⟨l2, w2, h2⟩ := h l e w
          exact ⟨x :: l2, .live (p := ⟨j, r + 1, i, q, none⟩) hs w2, by simp [h2]; omega⟩
theorem runEnd_le (m i : Nat) : runEnd m i - i ≤ 9 := by unfold runEnd; split <;> omega
theorem way_ex {e0 c : Nat} (hc : ∀ i, runEnd m i - i ≤ c) (hf : sl e0 = none) : ∀ (k i q : Nat), meets m e0 k i q = true → ∃ l e, Way m sl (blk m i q) l e ∧ l.length ≤ k * (c + 1) + c
  | 0, i, q, h => by
    have : i = e0 := by simpa [meets] using h
    subst this
    exact ⟨[], i, .stop (p := blk m i q) hf, Nat.zero_le _⟩
  | k + 1, i, q, h => by
    rcases run (m := m) (sl := sl) (i := i) (q := q) (runEnd m i - i) i with ⟨l, e, w, hl⟩ | ⟨hk, hw⟩
    · exact ⟨l, e, w, by have := hc i; omega⟩
    · have h' : (i == e0 || meets m e0 k (leap m i q).1 (leap m i q).2) = true := h
      rw [Bool.or_eq_true] at h'
      rcases h' with h' | h'
      · obtain ⟨x, hx⟩ := hk 0 (Nat.zero_le _)
        have : i = e0 := by simpa using h'
        rw [Nat.add_zero, this, hf] at hx; cases hx
      · obtain ⟨l, e, w, hl⟩ := way_ex hc hf k _ _ h'
        obtain ⟨l2, w2, h2⟩ := hw l e w
        exact ⟨l2, e, w2, by have := hc i; rw [Nat.succ_mul]; omega⟩
theorem way_start {e0 : Nat} (hm : GoodM m) (he : e0 ≤ m) (hf : sl e0 = none) (h : Int) :
    ∃ l e, Way m sl (blk m (bits h % (m + 1)) (bits h)) l e ∧ l.length < 10 * turns m := by
  have hx := meets_all (i := bits h % (m + 1)) h hm he (Nat.le_of_lt_succ (Nat.mod_lt _ (Nat.succ_pos m)))
  rcases hm with rfl | rfl
  · obtain ⟨l, e, w, hl⟩ := way_ex (c := 0) (fun i => by unfold runEnd; split <;> omega) hf 44 _ _ hx
    exact ⟨l, e, w, by unfold turns; omega⟩
  · obtain ⟨l, e, w, hl⟩ := way_ex (c := 9) (fun i => runEnd_le 31 i) hf 44 _ _ hx
    exact ⟨l, e, w, by unfold turns; omega⟩
theorem Way.le {p : Probe} {l : List Nat} {e : Nat} (w : Way m sl p l e) (hp : p.j + p.more ≤ m) : e ≤ m := by
  induction w with
  | @stop p _ => omega
  | @live p i l e h _ ih =>
    refine ih ?_
    unfold adv
    split
    · show p.j + 1 + (p.more - 1) ≤ m; omega
    · show (leap m p.i p.perturb).1 + (runEnd m (leap m p.i p.perturb).1 - (leap m p.i p.perturb).1) ≤ m
      have := leap_le m p.i p.perturb
      unfold runEnd; split <;> omega
theorem blk_le {i q : Nat} (hi : i ≤ m) : (blk m i q).j + (blk m i q).more ≤ m := by
  show i + (runEnd m i - i) ≤ m
  unfold runEnd; split <;> omega
theorem Way.ren {sl' : Nat → Option Nat} {ρ : Nat → Nat} (hs : ∀ j, sl' j = (sl j).map ρ) {p : Probe} {l : List Nat} {e : Nat} (w : Way m sl p l e) : Way m sl' p (l.map ρ) e := by
  induction w with
  | stop h => exact .stop (by rw [hs, h]; rfl)
  | live h _ ih => exact .live (by rw [hs, h]; rfl) ih
theorem Way.more {sl' : Nat → Option Nat} {ρ : Nat → Nat} {e0 x : Nat} (h0 : sl e0 = none) (h1 : sl' e0 = some x) (hs : ∀ j, j ≠ e0 → sl' j = (sl j).map ρ) {p : Probe} {l l' : List Nat} {e e' : Nat}
    (w : Way m sl p l e) (w' : Way m sl' p l' e') : (∀ i ∈ l, ρ i ∈ l') ∧ (e = e0 → x ∈ l') := by
  induction w generalizing l' e' with
  | @stop p h =>
    refine ⟨fun i hi => (by cases hi), fun he => ?_⟩
    cases w' with
    | stop h' => rw [he, h1] at h'; cases h'
    | live h' _ => rw [he, h1] at h'; cases h'; exact List.mem_cons_self
  | @live p i l e h _ ih =>
    have hne : p.j ≠ e0 := fun z => by rw [z, h0] at h; cases h
    have hq := hs p.j hne
    rw [h] at hq
    cases w' with
    | stop h' => rw [hq] at h'; cases h'
    | live h' t =>
      rw [hq] at h'; cases h'
      obtain ⟨a, b⟩ := ih t
      exact ⟨fun k hk => by
        rcases List.mem_cons.mp hk with rfl | hk
        · exact List.mem_cons_self
        · exact List.mem_cons_of_mem _ (a k hk), fun he => List.mem_cons_of_mem _ (b he)⟩
end STb
set_option Elab.async false
set_option linter.all false
set_option maxRecDepth 100000
namespace STb
open PySem PySem.SetTable
noncomputable def Ris (xs : Array Nat) : Prop := ∀ i k u v : Nat, i < k → xs[i]? = some u → xs[k]? = some v → u < v
theorem get_lt {α : Type} {xs : Array α} {i : Nat} {v : α} (h : xs[i]? = some v) : i < xs.size := by
  rcases Nat.lt_or_ge i xs.size with q | q
  · exact q
  · rw [Array.getElem?_eq_none q] at h; cases h
theorem below_go {xs : Array Nat} {j : Nat} (hr : Ris xs) : ∀ (fuel lo hi : Nat), lo ≤ hi → hi ≤ xs.size → hi - lo ≤ fuel →
    (∀ i u, i < lo → xs[i]? = some u → u < j) → (∀ i u, hi ≤ i → xs[i]? = some u → j ≤ u) →
    below.go xs j fuel lo hi ≤ xs.size ∧ (∀ i u, i < below.go xs j fuel lo hi → xs[i]? = some u → u < j) ∧ ∀ i u, below.go xs j fuel lo hi ≤ i → xs[i]? = some u → j ≤ u
  | 0, lo, hi, h1, h2, h3, a, b => by
    have : lo = hi := by omega
    subst this
    exact ⟨h2, a, b⟩
  | fuel + 1, lo, hi, h1, h2, h3, a, b => by
    unfold below.go
    by_cases hl : lo < hi
    · rw [if_pos hl]
      dsimp only
      have hmid : (lo + hi) / 2 < xs.size := by omega
      obtain ⟨v, hv⟩ : ∃ v, xs[(lo + hi) / 2]? = some v := ⟨_, Array.getElem?_eq_getElem hmid⟩
      have hg : xs.getD ((lo + hi) / 2) j = v := by rw [Array.getD_eq_getD_getElem?, hv]; rfl
      rw [hg]
      by_cases hc : v < j
      · rw [if_pos hc]
        refine below_go hr fuel _ _ (by omega) h2 (by omega) (fun i u hi' hu => ?_) b
        rcases Nat.lt_or_ge i ((lo + hi) / 2) with q | q
        · exact Nat.lt_trans (hr i _ u v q hu hv) hc
        · have : i = (lo + hi) / 2 := by omega
          subst this
          rw [hv] at hu; cases hu; exact hc
      · rw [if_neg hc]
        refine below_go hr fuel _ _ (by omega) (by omega) (by omega) a (fun i u hi' hu => ?_)
        rcases Nat.lt_or_ge ((lo + hi) / 2) i with q | q
        · have := hr _ i v u q hv hu; omega
        · have : i = (lo + hi) / 2 := by omega
          subst this
          rw [hv] at hu; cases hu; omega
    · rw [if_neg hl]
      have : lo = hi := by omega
      subst this
      exact ⟨h2, a, b⟩
theorem below_ok {xs : Array Nat} (hr : Ris xs) (j : Nat) : below xs j ≤ xs.size ∧ (∀ i u, i < below xs j → xs[i]? = some u → u < j) ∧ ∀ i u, below xs j ≤ i → xs[i]? = some u → j ≤ u :=
  below_go hr xs.size 0 xs.size (Nat.zero_le _) (Nat.le_refl _) (Nat.le_refl _) (fun i u h => absurd h (Nat.not_lt_zero _)) (fun i u h q => by have := get_lt q; omega)
theorem Ris.inj {xs : Array Nat} (hr : Ris xs) {i k u : Nat} (a : xs[i]? = some u) (b : xs[k]? = some u) : i = k := by
  rcases Nat.lt_trichotomy i k with q | q | q
  · have := hr _ _ _ _ q a b; omega
  · exact q
  · have := hr _ _ _ _ q b a; omega
theorem below_at {xs : Array Nat} (hr : Ris xs) {i j : Nat} (h : xs[i]? = some j) : below xs j = i := by
  obtain ⟨h1, h2, h3⟩ := below_ok hr j
  rcases Nat.lt_trichotomy (below xs j) i with q | q | q
  · obtain ⟨v, hv⟩ : ∃ v, xs[below xs j]? = some v := ⟨_, Array.getElem?_eq_getElem (Nat.lt_trans q (get_lt h))⟩
    have := h3 _ _ (Nat.le_refl _) hv
    have := hr _ _ _ _ q hv h
    omega
  · exact q
  · have := h2 _ _ q h; omega
noncomputable def sl (t : SetTable) (j : Nat) : Option Nat := match t.slot j with | .live i => some i | _ => none
theorem has_none (j : Nat) : has #[] j = false := by
  unfold has
  simp
theorem slot_of {t : SetTable} (hd : t.dummies = #[]) (hr : Ris t.place) (j : Nat) :
    (∃ i : Nat, t.place[i]? = some j ∧ t.slot j = .live i ∧ sl t j = some i) ∨ ((∀ i : Nat, t.place[i]? ≠ some j) ∧ t.slot j = .empty ∧ sl t j = none) := by
  by_cases h : ∃ i : Nat, t.place[i]? = some j
  · obtain ⟨i, hi⟩ := h
    have e : t.slot j = .live i := by
      unfold slot
      rw [below_at hr hi]
      dsimp only
      rw [hi]
      simp
    exact .inl ⟨i, hi, e, by unfold sl; rw [e]⟩
  · have h' : ∀ i : Nat, t.place[i]? ≠ some j := fun i q => h ⟨i, q⟩
    have e : t.slot j = .empty := by
      unfold slot
      have : (t.place[below t.place j]? == some j) = false := by
        cases q : (t.place[below t.place j]? == some j)
        · rfl
        · exact absurd (eq_of_beq q) (h' _)
      simp only [this, hd, has_none]
      simp
    exact .inr ⟨h', e, by unfold sl; rw [e]⟩
theorem sl_some {t : SetTable} (hd : t.dummies = #[]) (hr : Ris t.place) {j i : Nat} : sl t j = some i ↔ t.place[i]? = some j := by
  rcases slot_of hd hr j with ⟨k, a, _, b⟩ | ⟨a, _, b⟩
  · rw [b]
    constructor
    · intro q; cases q; exact a
    · intro q; rw [hr.inj q a]
  · rw [b]
    constructor
    · intro q; cases q
    · intro q; exact absurd q (a i)
theorem slot_live {t : SetTable} (hd : t.dummies = #[]) (hr : Ris t.place) {j i : Nat} (h : sl t j = some i) : t.slot j = .live i := by
  rcases slot_of hd hr j with ⟨k, a, c, b⟩ | ⟨a, _, b⟩
  · rw [b] at h; cases h; exact c
  · rw [b] at h; cases h
theorem slot_empty {t : SetTable} (hd : t.dummies = #[]) (hr : Ris t.place) {j : Nat} (h : sl t j = none) : t.slot j = .empty := by
  rcases slot_of hd hr j with ⟨k, a, c, b⟩ | ⟨a, c, b⟩
  · rw [b] at h; cases h
  · exact c
structure Tab (es : Array (Int × Value)) (t : SetTable) : Prop where
  sz : t.place.size = es.size
  dm : t.dummies = #[]
  ris : Ris t.place
  le : ∀ i j : Nat, t.place[i]? = some j → j ≤ t.mask
  m : GoodM t.mask
  room : es.size * 5 < t.mask * 3
  reach : ∀ (i : Nat) (h : Int) (x : Value), es[i]? = some (h, x) → ∀ l e, Way t.mask (sl t) (t.probeStart h) l e → i ∈ l
theorem Tab.fill {es : Array (Int × Value)} {t : SetTable} (T : Tab es t) : t.fill = es.size := by
  unfold SetTable.fill; rw [T.dm, T.sz]; rfl
theorem Tab.fits {es : Array (Int × Value)} {t : SetTable} (T : Tab es t) : t.fits es.size = true := by
  unfold SetTable.fits
  rw [T.fill, T.sz]
  have := T.room
  simp
  omega
theorem Tab.odd {es : Array (Int × Value)} {t : SetTable} (T : Tab es t) : t.gaveWay = false := by
  unfold SetTable.gaveWay
  rcases T.m with h | h <;> rw [h] <;> rfl
theorem free_ex {t : SetTable} (hd : t.dummies = #[]) (hr : Ris t.place) (hs : t.place.size ≤ t.mask) : ∃ e, e ≤ t.mask ∧ sl t e = none := by
  apply Classical.byContradiction
  intro hn
  have all : ∀ e, e ≤ t.mask → ∃ i : Nat, t.place[i]? = some e := fun e he => by
    rcases slot_of hd hr e with ⟨k, a, _, _⟩ | ⟨_, _, b⟩
    · exact ⟨k, a⟩
    · exact absurd ⟨e, he, b⟩ hn
  have up : ∀ e, e ≤ t.mask → ∃ i : Nat, e ≤ i ∧ t.place[i]? = some e := by
    intro e
    induction e with
    | zero => intro he; obtain ⟨i, hi⟩ := all 0 he; exact ⟨i, Nat.zero_le _, hi⟩
    | succ e ih =>
      intro he
      obtain ⟨i, h1, h2⟩ := ih (by omega)
      obtain ⟨k, hk⟩ := all (e + 1) he
      refine ⟨k, ?_, hk⟩
      rcases Nat.lt_trichotomy k i with q | q | q
      · have := hr _ _ _ _ q hk h2; omega
      · subst q; rw [h2] at hk; cases hk
      · omega
  obtain ⟨i, h1, h2⟩ := up t.mask (Nat.le_refl _)
  have := get_lt h2
  omega
theorem Tab.way {es : Array (Int × Value)} {t : SetTable} (T : Tab es t) (h : Int) : ∃ l e, Way t.mask (sl t) (t.probeStart h) l e ∧ l.length < 10 * turns t.mask := by
  obtain ⟨e, he, hf⟩ := free_ex T.dm T.ris (by rw [T.sz]; have := T.room; omega)
  exact way_start T.m he hf h
theorem start_le (t : SetTable) (h : Int) : (t.probeStart h).j + (t.probeStart h).more ≤ t.mask := by
  rw [start_eq]
  exact blk_le (Nat.le_of_lt_succ (Nat.mod_lt _ (Nat.succ_pos _)))
theorem insert_at {α : Type} {xs : Array α} {p : Nat} {x : α} (hp : p ≤ xs.size) (i : Nat) :
    (insertAt xs p x)[i]? = if i < p then xs[i]? else if i = p then some x else xs[i - 1]? := by
  have e : (insertAt xs p x)[i]? = (xs.toList.take p ++ x :: xs.toList.drop p)[i]? := by
    rw [← Array.getElem?_toList]
    congr 1
    simp [insertAt, List.extract_eq_take_drop, List.take_of_length_le]
  rw [e]
  have hl : (xs.toList.take p).length = p := by rw [List.length_take]; simp; omega
  by_cases h1 : i < p
  · rw [if_pos h1, List.getElem?_append_left (by rw [hl]; exact h1), List.getElem?_take_of_lt h1, Array.getElem?_toList]
  · rw [if_neg h1, List.getElem?_append_right (by rw [hl]; omega), hl]
    by_cases h2 : i = p
    · rw [if_pos h2, h2, Nat.sub_self]; rfl
    · rw [if_neg h2]
      obtain ⟨k, hk⟩ : ∃ k, i - p = k + 1 := ⟨i - p - 1, by omega⟩
      rw [hk, List.getElem?_cons_succ, List.getElem?_drop, Array.getElem?_toList]
      congr 1; omega
theorem insert_size {α : Type} {xs : Array α} {p : Nat} {x : α} (hp : p ≤ xs.size) : (insertAt xs p x).size = xs.size + 1 := by
  have e : (insertAt xs p x).toList = xs.toList.take p ++ x :: xs.toList.drop p := by
    simp [insertAt, List.extract_eq_take_drop, List.take_of_length_le]
  rw [← Array.length_toList, e]
  simp; omega
structure Tab0 (es : Array (Int × Value)) (t : SetTable) : Prop where
  sz : t.place.size = es.size
  dm : t.dummies = #[]
  ris : Ris t.place
  le : ∀ i j : Nat, t.place[i]? = some j → j ≤ t.mask
  m : GoodM t.mask
  reach : ∀ (i : Nat) (h : Int) (x : Value), es[i]? = some (h, x) → ∀ l e, Way t.mask (sl t) (t.probeStart h) l e → i ∈ l
theorem Tab0.tab {es : Array (Int × Value)} {t : SetTable} (T : Tab0 es t) (h : es.size * 5 < t.mask * 3) : Tab es t := ⟨T.sz, T.dm, T.ris, T.le, T.m, h, T.reach⟩
theorem put_eq {es : Array (Int × Value)} {t : SetTable} (T : Tab es t) (e : Nat) : t.put e = ({ t with place := insertAt t.place (below t.place e) e }, below t.place e) := by
  unfold put
  rw [T.dm, has_none]
  cases t
  have := T.dm
  dsimp only at this
  subst this
  rfl
theorem Tab.put {es : Array (Int × Value)} {t : SetTable} (T : Tab es t) {h : Int} {x : Value} {l : List Nat} {e : Nat} (w : Way t.mask (sl t) (t.probeStart h) l e) :
    Tab0 (insertAt es (below t.place e) (h, x)) { t with place := insertAt t.place (below t.place e) e } := by
  obtain ⟨b1, b2, b3⟩ := below_ok T.ris e
  have hfree := w.free
  have hno : ∀ i : Nat, t.place[i]? ≠ some e := fun i q => by rw [(sl_some T.dm T.ris).2 q] at hfree; cases hfree
  have hle : e ≤ t.mask := w.le (start_le t h)
  have hpe : below t.place e ≤ es.size := by rw [← T.sz]; exact b1
  have hris : Ris (insertAt t.place (below t.place e) e) := by
    intro i k u v hik hu hv
    rw [insert_at b1] at hu hv
    by_cases i1 : i < below t.place e
    · rw [if_pos i1] at hu
      by_cases k1 : k < below t.place e
      · rw [if_pos k1] at hv; exact T.ris _ _ _ _ hik hu hv
      · rw [if_neg k1] at hv
        by_cases k2 : k = below t.place e
        · rw [if_pos k2] at hv; cases hv; exact b2 _ _ i1 hu
        · rw [if_neg k2] at hv; exact T.ris _ _ _ _ (by omega) hu hv
    · rw [if_neg i1] at hu
      rw [if_neg (by omega)] at hv
      rw [if_neg (by omega)] at hv
      by_cases i2 : i = below t.place e
      · rw [if_pos i2] at hu; cases hu
        have := b3 _ _ (by omega) hv
        rcases Nat.lt_or_ge e v with q | q
        · exact q
        · have : e = v := by omega
          subst this
          exact absurd hv (hno _)
      · rw [if_neg i2] at hu
        exact T.ris _ _ _ _ (by omega) hu hv
  refine ⟨?_, T.dm, hris, ?_, T.m, ?_⟩
  · show (insertAt t.place _ e).size = _
    rw [insert_size b1, insert_size hpe, T.sz]
  · intro i j hj
    have hj' : (insertAt t.place (below t.place e) e)[i]? = some j := hj
    rw [insert_at b1] at hj'
    split at hj'
    · exact T.le _ _ hj'
    · split at hj'
      · cases hj'; exact hle
      · exact T.le _ _ hj'
  · intro i h' x' hi l' e' w'
    have hs1 : sl { t with place := insertAt t.place (below t.place e) e } e = some (below t.place e) :=
      (sl_some (t := { t with place := insertAt t.place (below t.place e) e }) T.dm hris).2 (by
        show (insertAt t.place (below t.place e) e)[below t.place e]? = some e
        rw [insert_at b1, if_neg (Nat.lt_irrefl _), if_pos rfl])
    have hs2 : ∀ j, j ≠ e → sl { t with place := insertAt t.place (below t.place e) e } j = (sl t j).map fun i => if i < below t.place e then i else i + 1 := by
      intro j hj
      rcases slot_of T.dm T.ris j with ⟨k, a, _, b⟩ | ⟨a, _, b⟩
      · rw [b]
        refine (sl_some (t := { t with place := insertAt t.place (below t.place e) e }) T.dm hris).2 ?_
        show (insertAt t.place (below t.place e) e)[if k < below t.place e then k else k + 1]? = some j
        rw [insert_at b1]
        split
        · exact a
        · rename_i hk; rw [if_neg (by omega), if_neg (by omega)]; exact a
      · rw [b]
        rcases slot_of (t := { t with place := insertAt t.place (below t.place e) e }) T.dm hris j with ⟨k, a', _, b'⟩ | ⟨a', _, b'⟩
        · exfalso
          have a2 : (insertAt t.place (below t.place e) e)[k]? = some j := a'
          rw [insert_at b1] at a2
          split at a2
          · exact a _ a2
          · split at a2
            · cases a2; exact hj rfl
            · exact a _ a2
        · rw [b']; rfl
    rw [insert_at hpe] at hi
    by_cases i1 : i < below t.place e
    · rw [if_pos i1] at hi
      obtain ⟨l0, e0, w0, _⟩ := T.way h'
      have := (w0.more hfree hs1 hs2 w').1 i (T.reach i h' x' hi _ _ w0)
      rwa [if_pos i1] at this
    · rw [if_neg i1] at hi
      by_cases i2 : i = below t.place e
      · rw [if_pos i2] at hi
        cases hi
        rw [i2]
        exact (w.more hfree hs1 hs2 w').2 rfl
      · rw [if_neg i2] at hi
        obtain ⟨l0, e0, w0, _⟩ := T.way h'
        have := (w0.more hfree hs1 hs2 w').1 (i - 1) (T.reach (i - 1) h' x' hi _ _ w0)
        rw [if_neg (by omega)] at this
        rwa [show i - 1 + 1 = i by omega] at this
end STb
set_option Elab.async false
set_option linter.all false
set_option maxRecDepth 100000
namespace STb
open PySem PySem.SetTable
theorem pigeon : ∀ (n : Nat) (f : Nat → Nat), (∀ i j, i ≤ n → j ≤ n → f i = f j → i = j) → (∀ i, i ≤ n → f i < n) → False
  | 0, f, _, hl => absurd (hl 0 (Nat.le_refl _)) (Nat.not_lt_zero _)
  | n + 1, f, hi, hl => by
    refine pigeon n (fun i => if f i = n then f (n + 1) else f i) (fun i j h1 h2 h => ?_) (fun i h1 => ?_)
    · have a1 : f i ≠ f (n + 1) := fun q => by have := hi i (n + 1) (by omega) (by omega) q; omega
      have a2 : f j ≠ f (n + 1) := fun q => by have := hi j (n + 1) (by omega) (by omega) q; omega
      have a3 := hi i j (by omega) (by omega)
      split at h
      · split at h
        · exact a3 (by omega)
        · exact absurd h.symm a2
      · split at h
        · exact absurd h a1
        · exact a3 h
    · have a1 : f i ≠ f (n + 1) := fun q => by have := hi i (n + 1) (by omega) (by omega) q; omega
      have a2 := hl i (by omega)
      have a3 := hl (n + 1) (by omega)
      split <;> omega
noncomputable def osl (ow : Array (Option Nat)) (j : Nat) : Option Nat := ow.getD j none
structure Own (m : Nat) (hs : List Int) (ow : Array (Option Nat)) : Prop where
  sz : ow.size = m + 1
  lt : ∀ j k : Nat, osl ow j = some k → k < hs.length
  inj : ∀ j j' k : Nat, osl ow j = some k → osl ow j' = some k → j = j'
  ex : ∀ k : Nat, k < hs.length → ∃ j, osl ow j = some k
  reach : ∀ (k : Nat) (h : Int), hs[k]? = some h → ∀ l e, Way m (osl ow) (blk m (bits h % (m + 1)) (bits h)) l e → k ∈ l
theorem osl_le {m : Nat} {ow : Array (Option Nat)} (hs : ow.size = m + 1) {j k : Nat} (h : osl ow j = some k) : j ≤ m := by
  unfold osl at h
  rcases Nat.lt_or_ge j ow.size with q | q
  · omega
  · rw [Array.getD_eq_getD_getElem?, Array.getElem?_eq_none q] at h; cases h
theorem own_free {m : Nat} {hs : List Int} {ow : Array (Option Nat)} (O : Own m hs ow) (hl : hs.length ≤ m) : ∃ e, e ≤ m ∧ osl ow e = none := by
  apply Classical.byContradiction
  intro hn
  have all : ∀ e, e ≤ m → ∃ k, osl ow e = some k := fun e he => by
    cases q : osl ow e with
    | none => exact absurd ⟨e, he, q⟩ hn
    | some k => exact ⟨k, rfl⟩
  refine pigeon m (fun e => (osl ow e).getD 0) (fun i j hi hj h => ?_) (fun i hi => ?_)
  · obtain ⟨k, hk⟩ := all i hi
    obtain ⟨k', hk'⟩ := all j hj
    rw [hk, hk'] at h
    have : k = k' := h
    subst this
    exact O.inj _ _ _ hk hk'
  · obtain ⟨k, hk⟩ := all i hi
    rw [hk]
    exact Nat.lt_of_lt_of_le (O.lt _ _ hk) hl
theorem getD_some0 {ow : Array (Option Nat)} {j : Nat} (h : j < ow.size) : (ow.getD j (some 0)).isNone = (osl ow j).isNone := by
  unfold osl
  rw [Array.getD_eq_getD_getElem?, Array.getD_eq_getD_getElem?, Array.getElem?_eq_getElem h]; rfl
theorem free_way {m : Nat} {ow : Array (Option Nat)} (hz : ow.size = m + 1) : ∀ (fuel i q j : Nat), i ≤ m → layClean.free m ow fuel i q = some j → ∃ l, Way m (osl ow) (blk m i q) l j
  | 0, i, q, j, hi, h => by unfold layClean.free at h; cases h
  | fuel + 1, i, q, j, hi, h => by
    unfold layClean.free at h
    have hrun : ∀ r j0 : Nat, j0 + r ≤ m → ∀ k, (List.range (r + 1)).find? (fun k => (ow.getD (j0 + k) (some 0)).isNone) = some k → ∃ l, Way m (osl ow) ⟨j0, r, i, q, none⟩ l (j0 + k) := by
      intro r
      induction r with
      | zero =>
        intro j0 hj k hk
        have h1 := List.find?_some hk
        have h2 : k ∈ List.range (0 + 1) := List.mem_of_find?_eq_some hk
        rw [List.mem_range] at h2
        have : k = 0 := by omega
        subst this
        rw [getD_some0 (by rw [hz]; omega)] at h1
        exact ⟨[], .stop (p := ⟨j0, 0, i, q, none⟩) (by simpa using h1)⟩
      | succ r ih =>
        intro j0 hj k hk
        rw [List.range_succ_eq_map, List.find?_cons] at hk
        cases hs : osl ow j0 with
        | none =>
          rw [getD_some0 (by rw [hz]; omega), Nat.add_zero, hs] at hk
          cases hk
          exact ⟨[], .stop (p := ⟨j0, r + 1, i, q, none⟩) hs⟩
        | some x =>
          rw [getD_some0 (by rw [hz]; omega), Nat.add_zero, hs] at hk
          simp only [Option.isNone_some, List.find?_map] at hk
          cases hf : (List.range (r + 1)).find? (fun k => (ow.getD (j0 + 1 + k) (some 0)).isNone) with
          | none =>
            have : (List.range (r + 1)).find? ((fun k => (ow.getD (j0 + k) (some 0)).isNone) ∘ Nat.succ) = none := by
              rw [← hf]; congr 1; funext k; show (ow.getD (j0 + (k + 1)) (some 0)).isNone = _; rw [show j0 + (k + 1) = j0 + 1 + k by omega]
            rw [this] at hk; cases hk
          | some k' =>
            have : (List.range (r + 1)).find? ((fun k => (ow.getD (j0 + k) (some 0)).isNone) ∘ Nat.succ) = some k' := by
              rw [← hf]; congr 1; funext k; show (ow.getD (j0 + (k + 1)) (some 0)).isNone = _; rw [show j0 + (k + 1) = j0 + 1 + k by omega]
            rw [this] at hk
            have : k = k' + 1 := by cases hk; rfl
            subst this
            obtain ⟨l, w⟩ := ih (j0 + 1) (by omega) k' hf
            exact ⟨x :: l, .live (p := ⟨j0, r + 1, i, q, none⟩) hs (by rw [show j0 + (k' + 1) = j0 + 1 + k' by omega]; exact w)⟩
    have hre : i ≤ runEnd m i := by unfold runEnd; split <;> omega
    have hrm : runEnd m i ≤ m := by unfold runEnd; split <;> omega
    have hn : runEnd m i + 1 - i = (runEnd m i - i) + 1 := by omega
    rw [hn] at h
    cases hf : (List.range (runEnd m i - i + 1)).find? (fun k => (ow.getD (i + k) (some 0)).isNone) with
    | some k =>
      rw [hf] at h
      have : j = i + k := by cases h; rfl
      subst this
      exact hrun _ i (by omega) k hf
    | none =>
      rw [hf] at h
      obtain ⟨l, w⟩ := free_way hz fuel _ _ j (leap_le m i q) h
      rcases run (m := m) (sl := osl ow) (i := i) (q := q) (runEnd m i - i) i with ⟨l', e', w', hl'⟩ | ⟨_, hw⟩
      · exfalso
        have key : ∀ (r j0 : Nat) (l' : List Nat) (e' : Nat), j0 + r ≤ m → (∀ k, k ≤ r → (osl ow (j0 + k)).isNone = false) → Way m (osl ow) ⟨j0, r, i, q, none⟩ l' e' → r + 1 ≤ l'.length := by
          intro r
          induction r with
          | zero =>
            intro j0 l' e' _ ha w
            cases w with
            | stop hs => have := ha 0 (Nat.le_refl _); rw [Nat.add_zero, hs] at this; cases this
            | live _ _ => simp
          | succ r ih =>
            intro j0 l' e' hj ha w
            cases w with
            | stop hs => have := ha 0 (Nat.zero_le _); rw [Nat.add_zero, hs] at this; cases this
            | live _ w2 =>
              have := ih (j0 + 1) _ _ (by omega) (fun k hk => by have := ha (k + 1) (by omega); rwa [show j0 + 1 + k = j0 + (k + 1) by omega]) w2
              simp; omega
        have := key _ i l' e' (by omega) (fun k hk => by
          rw [← getD_some0 (by rw [hz]; omega)]
          have := List.find?_eq_none.mp hf k (List.mem_range.mpr (by omega))
          exact Bool.eq_false_iff.mpr this) w'
        omega
      · obtain ⟨l2, w2, _⟩ := hw l j w
        exact ⟨l2, w2⟩
theorem free_ex2 {m e0 : Nat} {ow : Array (Option Nat)} (hz : ow.size = m + 1) (hf : osl ow e0 = none) (he : e0 ≤ m) : ∀ (k fuel i q : Nat), k < fuel → meets m e0 k i q = true → ∃ j, layClean.free m ow fuel i q = some j
  | k, 0, i, q, hk, h => absurd hk (Nat.not_lt_zero _)
  | k, fuel + 1, i, q, hk, h => by
    unfold layClean.free
    cases hs : (List.range (runEnd m i + 1 - i)).find? (fun k => (ow.getD (i + k) (some 0)).isNone) with
    | some k => exact ⟨i + k, rfl⟩
    | none =>
      dsimp only
      have hne : i ≠ e0 := fun z => by
        subst z
        have := List.find?_eq_none.mp hs 0 (List.mem_range.mpr (by unfold runEnd; split <;> omega))
        rw [Nat.add_zero, getD_some0 (by rw [hz]; omega), hf] at this
        exact this rfl
      cases k with
      | zero => exact absurd (by simpa [meets] using h) hne
      | succ k =>
        have h' : (i == e0 || meets m e0 k (leap m i q).1 (leap m i q).2) = true := h
        rw [Bool.or_eq_true] at h'
        rcases h' with h' | h'
        · exact absurd (by simpa using h') hne
        · exact free_ex2 hz hf he k fuel _ _ (by omega) h'
theorem osl_set {ow : Array (Option Nat)} {j k : Nat} (hj : j < ow.size) (j' : Nat) : osl (ow.setIfInBounds j (some k)) j' = if j' = j then some k else osl ow j' := by
  unfold osl
  rw [Array.getD_eq_getD_getElem?, Array.getD_eq_getD_getElem?, Array.getElem?_setIfInBounds]
  by_cases h : j' = j
  · subst h; simp [hj]
  · rw [if_neg (fun z => h z.symm), if_neg h]
theorem own_step {m : Nat} {hs : List Int} {ow : Array (Option Nat)} (hm : m = 31) (O : Own m hs ow) (hl : hs.length ≤ m) (h : Int) :
    ∃ j, layClean.free m ow (turns m) (bits h % (m + 1)) (bits h) = some j ∧ Own m (hs ++ [h]) (ow.setIfInBounds j (some hs.length)) := by
  obtain ⟨e, he, hf⟩ := own_free O hl
  have hi : bits h % (m + 1) ≤ m := Nat.le_of_lt_succ (Nat.mod_lt _ (Nat.succ_pos m))
  obtain ⟨j, hj⟩ := free_ex2 O.sz hf he 44 (turns m) _ _ (by unfold turns; omega) (meets_all h (.inr hm) he hi)
  obtain ⟨l, w⟩ := free_way O.sz _ _ _ _ hi hj
  have hjm : j ≤ m := w.le (blk_le hi)
  have hjs : j < ow.size := by rw [O.sz]; omega
  have hfr := w.free
  have hset := fun j' => osl_set (k := hs.length) hjs j'
  refine ⟨j, hj, ⟨by simp [O.sz], ?_, ?_, ?_, ?_⟩⟩
  · intro j' k hk
    rw [hset] at hk
    rw [List.length_append]
    show k < hs.length + 1
    split at hk
    · cases hk; omega
    · have := O.lt _ _ hk; omega
  · intro a b k ha hb
    rw [hset] at ha hb
    split at ha
    · split at hb
      · omega
      · cases ha; have := O.lt _ _ hb; omega
    · split at hb
      · cases hb; have := O.lt _ _ ha; omega
      · exact O.inj _ _ _ ha hb
  · intro k hk
    rw [List.length_append] at hk
    have hk' : k < hs.length + 1 := hk
    by_cases q : k = hs.length
    · exact ⟨j, by rw [hset, if_pos rfl, q]⟩
    · obtain ⟨j', hj'⟩ := O.ex k (by omega)
      refine ⟨j', ?_⟩
      rw [hset, if_neg (fun z => by rw [z, hfr] at hj'; cases hj')]
      exact hj'
  · intro k h' hk l' e' w'
    have hs1 : osl (ow.setIfInBounds j (some hs.length)) j = some hs.length := by rw [hset, if_pos rfl]
    have hs2 : ∀ j', j' ≠ j → osl (ow.setIfInBounds j (some hs.length)) j' = (osl ow j').map id := fun j' q => by rw [hset, if_neg q, Option.map_id]; rfl
    by_cases q : k < hs.length
    · rw [List.getElem?_append_left q] at hk
      obtain ⟨l0, e0, w0, _⟩ := way_start (m := m) (sl := osl ow) (.inr hm) he hf h'
      exact (w0.more hfr hs1 hs2 w').1 k (O.reach k h' hk _ _ w0)
    · rw [List.getElem?_append_right (by omega)] at hk
      have hkk : k = hs.length := by
        rcases Nat.lt_or_ge (k - hs.length) 1 with z | z
        · omega
        · rw [List.getElem?_eq_none (by simpa using z)] at hk; cases hk
      subst hkk
      rw [Nat.sub_self] at hk
      cases hk
      exact (w.more hfr hs1 hs2 w').2 rfl
theorem own_nil (m : Nat) : Own m [] (Array.replicate (m + 1) none) := by
  have h0 : ∀ j, osl (Array.replicate (m + 1) none) j = none := fun j => by
    unfold osl
    rw [Array.getD_eq_getD_getElem?, Array.getElem?_replicate]
    split <;> rfl
  refine ⟨by simp, fun j k h => ?_, fun j j' k h => ?_, fun k hk => ?_, fun k h hk => ?_⟩
  · rw [h0] at h; cases h
  · rw [h0] at h; cases h
  · exact absurd hk (Nat.not_lt_zero _)
  · cases hk
theorem lay_fold {m : Nat} (hm : m = 31) : ∀ (todo done : List Int) (ow : Array (Option Nat)), Own m done ow → done.length + todo.length ≤ m →
    ∃ ow', todo.foldl (fun acc h => do
      let (owner, k) ← acc
      let j ← layClean.free m owner (turns m) (bits h % (m + 1)) (bits h)
      pure (owner.setIfInBounds j (some k), k + 1)) (some (ow, done.length)) = some (ow', done.length + todo.length) ∧ Own m (done ++ todo) ow'
  | [], done, ow, O, _ => ⟨ow, rfl, by rw [List.append_nil]; exact O⟩
  | h :: todo, done, ow, O, hl => by
    rw [List.length_cons] at hl
    obtain ⟨j, hj, O'⟩ := own_step hm O (by omega) h
    obtain ⟨ow', e, O2⟩ := lay_fold hm todo (done ++ [h]) _ O' (by rw [List.length_append, List.length_singleton]; omega)
    refine ⟨ow', ?_, by rw [List.append_assoc] at O2; exact O2⟩
    rw [List.foldl_cons]
    simp only [Option.bind_eq_bind, Option.bind_some, hj, List.length_append, List.length_singleton, Option.pure_def] at e ⊢
    rw [e, List.length_cons]
    congr 2; omega
theorem layClean_ok {m : Nat} (hm : m = 31) (hs : Array Int) (hl : hs.size ≤ m) : ∃ ow, layClean m hs = some ow ∧ Own m hs.toList ow := by
  obtain ⟨ow, e, O⟩ := lay_fold hm hs.toList [] _ (own_nil m) (by simpa using hl)
  refine ⟨ow, ?_, by simpa using O⟩
  unfold layClean
  rw [← Array.foldl_toList]
  have e' := e
  simp only [List.length_nil] at e'
  rw [e']
  rfl
end STb
set_option Elab.async false
set_option linter.all false
set_option maxRecDepth 100000
namespace STb
open PySem PySem.SetTable
noncomputable def lives (m : Nat) (ow : Array (Option Nat)) : List (Nat × Nat) := (List.range (m + 1)).filterMap fun j => (ow.getD j none).map (j, ·)
theorem mem_lives {m : Nat} {ow : Array (Option Nat)} (hz : ow.size = m + 1) (j k : Nat) : (j, k) ∈ lives m ow ↔ osl ow j = some k := by
  unfold lives
  rw [List.mem_filterMap]
  constructor
  · rintro ⟨i, _, h⟩
    cases q : ow.getD i none with
    | none => rw [q] at h; cases h
    | some x =>
      rw [q] at h
      have h1 : i = j := congrArg Prod.fst (Option.some.inj h)
      have h2 : x = k := congrArg Prod.snd (Option.some.inj h)
      rw [← h1, ← h2]; exact q
  · intro h
    refine ⟨j, List.mem_range.mpr (by have := osl_le hz h; omega), ?_⟩
    have : ow.getD j none = some k := h
    rw [this]; rfl
theorem lives_rise (m : Nat) (ow : Array (Option Nat)) : (lives m ow).Pairwise (fun a b => a.1 < b.1) := by
  unfold lives
  rw [List.pairwise_filterMap]
  refine List.Pairwise.imp ?_ (List.pairwise_lt_range (n := m + 1))
  intro a b hab x hx y hy
  cases q : ow.getD a none with
  | none => rw [q] at hx; cases hx
  | some u =>
    cases q' : ow.getD b none with
    | none => rw [q'] at hy; cases hy
    | some v =>
      rw [q] at hx; rw [q'] at hy
      have h1 : (a, u) = x := Option.some.inj hx
      have h2 : (b, v) = y := Option.some.inj hy
      rw [← h1, ← h2]; exact hab
theorem lives_order {m : Nat} {hs : List Int} {ow : Array (Option Nat)} (O : Own m hs ow) : List.Perm ((lives m ow).map (·.2)) (List.range hs.length) := by
  rw [List.perm_ext_iff_of_nodup]
  · intro k
    rw [List.mem_map, List.mem_range]
    constructor
    · rintro ⟨⟨j, k'⟩, h, rfl⟩
      exact O.lt j k' ((mem_lives O.sz j k').mp h)
    · intro h
      obtain ⟨j, hj⟩ := O.ex k h
      exact ⟨(j, k), (mem_lives O.sz j k).mpr hj, rfl⟩
  · unfold List.Nodup
    rw [List.pairwise_map]
    refine List.Pairwise.imp_of_mem ?_ (lives_rise m ow)
    rintro ⟨a, k⟩ ⟨b, k'⟩ ha hb hab z
    have z' : k = k' := z
    subst z'
    have := O.inj _ _ _ ((mem_lives O.sz _ _).mp ha) ((mem_lives O.sz _ _).mp hb)
    have hab' : a < b := hab
    omega
  · exact List.nodup_range
theorem Way.mem {m : Nat} {sl : Nat → Option Nat} {p : Probe} {l : List Nat} {e : Nat} (w : Way m sl p l e) : ∀ i ∈ l, ∃ j, sl j = some i := by
  induction w with
  | stop _ => intro i hi; cases hi
  | live h _ ih =>
    intro i hi
    rcases List.mem_cons.mp hi with rfl | hi
    · exact ⟨_, h⟩
    · exact ih i hi
theorem relaid_ok {es : Array (Int × Value)} {t : SetTable} (hsz : es.size ≤ 18) (wanted : Nat) (hw : sizeAbove wanted = 32) :
    ∃ t' order, t.relaid (es.map (·.1)) wanted = some (t', order) ∧ (order.filterMap (es[·]?)).size = es.size ∧ List.Perm (order.filterMap (es[·]?)).toList es.toList ∧
      Tab (order.filterMap (es[·]?)) t' ∧ t'.mask = 31 ∧ t'.led = t.led ∧ t'.plain = t.plain := by
  obtain ⟨ow, hlay, O⟩ := layClean_ok rfl (es.map (·.1)) (by simp; omega)
  have hlen : (es.map (·.1)).toList.length = es.size := by simp
  have hp := lives_order O
  rw [hlen] at hp
  have hmem := fun j k => mem_lives O.sz j k
  have hris := lives_rise 31 ow
  generalize hL : lives 31 ow = L at hp hmem hris
  have hLlen : L.length = es.size := by have := hp.length_eq; simpa using this
  have hat : ∀ n j k : Nat, L[n]? = some (j, k) → osl ow j = some k := fun n j k h => (hmem j k).mp (List.mem_of_getElem? h)
  have hval : ∀ k, k ∈ L.map (·.2) → k < es.size := fun k hk => List.mem_range.mp (hp.mem_iff.mp hk)
  have hfm : (L.map (·.2)).filterMap (fun k => es[k]?) = (L.map (·.2)).map (fun k => (es[k]?).getD (0, .none)) := by
    have : ∀ l : List Nat, (∀ k ∈ l, k < es.size) → l.filterMap (fun k => es[k]?) = l.map (fun k => (es[k]?).getD (0, .none)) := by
      intro l
      induction l with
      | nil => intro _; rfl
      | cons a l ih =>
        intro h
        rw [List.map_cons, ← ih (fun k hk => h k (List.mem_cons_of_mem _ hk)), List.filterMap_cons_some (b := (es[a]?).getD (0, .none))]
        rw [Array.getElem?_eq_getElem (h a List.mem_cons_self)]; rfl
    exact this _ hval
  have hes : ((L.map (·.2)).toArray.filterMap (es[·]?)).toList = L.map (fun q => (es[q.2]?).getD (0, .none)) := by
    rw [Array.toList_filterMap]
    show (L.map (·.2)).filterMap (fun k => es[k]?) = _
    rw [hfm, List.map_map]; rfl
  have hss : ((L.map (·.2)).toArray.filterMap (es[·]?)).size = es.size := by
    rw [← Array.length_toList, hes, List.length_map, hLlen]
  have hget : ∀ (n : Nat) (q : Int × Value), ((L.map (·.2)).toArray.filterMap (es[·]?))[n]? = some q → ∃ j k : Nat, L[n]? = some (j, k) ∧ es[k]? = some q := by
    intro n q h
    rw [← Array.getElem?_toList, hes, List.getElem?_map] at h
    cases hq : L[n]? with
    | none => rw [hq] at h; cases h
    | some jk =>
      obtain ⟨j, k⟩ := jk
      rw [hq] at h
      have hk : k < es.size := hval k (List.mem_map.mpr ⟨(j, k), List.mem_of_getElem? hq, rfl⟩)
      have h' : (es[k]?).getD (0, .none) = q := Option.some.inj h
      rw [Array.getElem?_eq_getElem hk] at h'
      exact ⟨j, k, rfl, by rw [Array.getElem?_eq_getElem hk]; exact congrArg some h'⟩
  have hpl : ∀ n j : Nat, (L.map (·.1)).toArray[n]? = some j ↔ ∃ k, L[n]? = some (j, k) := by
    intro n j
    rw [← Array.getElem?_toList]
    show (L.map (·.1))[n]? = some j ↔ _
    rw [List.getElem?_map]
    cases hq : L[n]? with
    | none => exact ⟨fun h => (by cases h), fun ⟨k, h⟩ => (by cases h)⟩
    | some jk =>
      obtain ⟨j', k⟩ := jk
      exact ⟨fun h => by have : j' = j := Option.some.inj h; exact ⟨k, by rw [this]⟩, fun ⟨k', h⟩ => by cases h; rfl⟩
  have hR : Ris (L.map (·.1)).toArray := by
    intro i k u v hik hu hv
    obtain ⟨a, ha⟩ := (hpl _ _).mp hu
    obtain ⟨b, hb⟩ := (hpl _ _).mp hv
    have hi := List.getElem?_eq_some_iff.mp ha
    have hk := List.getElem?_eq_some_iff.mp hb
    obtain ⟨h1, e1⟩ := hi
    obtain ⟨h2, e2⟩ := hk
    have := List.pairwise_iff_getElem.mp hris i k h1 h2 hik
    rw [e1, e2] at this
    exact this
  refine ⟨{ mask := 31, place := (L.map (·.1)).toArray, dummies := #[], finger := t.finger, led := t.led, moves := t.movedTo 31, plain := t.plain }, (L.map (·.2)).toArray, ?_, hss, ?_, ?_, rfl, rfl, rfl⟩
  · unfold relaid laid
    rw [hw, hlay]
    have : (List.range (32 - 1 + 1)).filterMap (fun j => (ow.getD j none).map (j, ·)) = L := hL
    simp only [Option.bind_eq_bind, Option.bind_some, Option.pure_def]
    rw [this]
  · rw [hes]
    have h1 : L.map (fun q => (es[q.2]?).getD (0, .none)) = (L.map (·.2)).map (fun k => (es[k]?).getD (0, .none)) := by rw [List.map_map]; rfl
    rw [h1]
    refine (hp.map _).trans ?_
    have : (List.range es.size).map (fun k => (es[k]?).getD (0, Value.none)) = es.toList := by
      refine List.ext_getElem? fun n => ?_
      rw [List.getElem?_map, Array.getElem?_toList (xs := es)]
      rcases Nat.lt_or_ge n es.size with q | q
      · rw [List.getElem?_range q, Array.getElem?_eq_getElem q]
        show some ((es[n]?).getD (0, .none)) = _
        rw [Array.getElem?_eq_getElem q]; rfl
      · rw [List.getElem?_eq_none (by simpa using q), Array.getElem?_eq_none q]; rfl
    rw [this]
  · refine ⟨by rw [hss]; simp [hLlen], rfl, hR, ?_, .inr rfl, by rw [hss]; show es.size * 5 < 31 * 3; omega, ?_⟩
    · intro i j h
      obtain ⟨k, hk⟩ := (hpl _ _).mp h
      exact osl_le O.sz (hat _ _ _ hk)
    · intro n h x hn l e w
      obtain ⟨j, k, hLn, hek⟩ := hget n _ hn
      have hren : ∀ j', osl ow j' = (sl { mask := 31, place := (L.map (·.1)).toArray, dummies := #[], finger := t.finger, led := t.led, moves := t.movedTo 31, plain := t.plain } j').map (fun n => ((L[n]?).map (·.2)).getD 0) := by
        intro j'
        rcases slot_of (t := { mask := 31, place := (L.map (·.1)).toArray, dummies := #[], finger := t.finger, led := t.led, moves := t.movedTo 31, plain := t.plain }) rfl hR j' with ⟨i, a, _, b⟩ | ⟨a, _, b⟩
        · rw [b]
          obtain ⟨k', hk'⟩ := (hpl _ _).mp a
          rw [hat _ _ _ hk', Option.map_some, hk']; rfl
        · rw [b]
          cases hq : osl ow j' with
          | none => rfl
          | some k' =>
            obtain ⟨n', hn'⟩ := List.getElem?_of_mem ((hmem j' k').mpr hq)
            exact absurd ((hpl _ _).mpr ⟨k', hn'⟩) (a n')
      have w2 := w.ren hren
      have hin := O.reach k h (by
        rw [Array.getElem?_toList, Array.getElem?_map, hek]; rfl) _ _ w2
      obtain ⟨n', hn', hk'⟩ := List.mem_map.mp hin
      obtain ⟨j', hj'⟩ := w.mem n' hn'
      have hp' := (sl_some (t := { mask := 31, place := (L.map (·.1)).toArray, dummies := #[], finger := t.finger, led := t.led, moves := t.movedTo 31, plain := t.plain }) rfl hR).mp hj'
      obtain ⟨k2, hk2⟩ := (hpl _ _).mp hp'
      rw [hk2] at hk'
      have : k2 = k := hk'
      subst this
      have ej : j' = j := O.inj _ _ _ (hat _ _ _ hk2) (hat _ _ _ hLn)
      subst ej
      have : n' = n := hR.inj ((hpl _ _).mpr ⟨_, hk2⟩) ((hpl _ _).mpr ⟨_, hLn⟩)
      rw [← this]; exact hn'
theorem tab_fresh (led : Bool) : Tab #[] (.fresh 0 0 led) :=
  ⟨rfl, rfl, fun i k u v _ h => (by cases h), fun i j h => (by cases h), .inl rfl, (by show 0 * 5 < 7 * 3; decide), fun i h x hi => (by cases hi)⟩
end STb
set_option Elab.async false
set_option linter.all false
set_option maxRecDepth 100000
namespace STb
open PySem PySem.SetTable
theorem probe_way {t : SetTable} (hd : t.dummies = #[]) (hr : Ris t.place) {f : Nat → Int} {h : Int} : ∀ {l : List Nat} {p : Probe} {e : Nat} (fuel : Nat), Way t.mask (sl t) p l e → p.dummy = none → l.length < fuel →
    (probe.go t f h fuel p = some (.empty e none) ∧ ∀ i ∈ l, f i ≠ h) ∨
    ∃ l1 i l2 q, l = l1 ++ i :: l2 ∧ (∀ k ∈ l1, f k ≠ h) ∧ f i = h ∧ sl t q.j = some i ∧ q.dummy = none ∧ Way t.mask (sl t) (t.advance q) l2 e ∧ probe.go t f h fuel p = some (.candidate q.j i (t.advance q)) := by
  intro l
  induction l with
  | nil =>
    intro p e fuel w hp hf
    cases fuel with
    | zero => exact absurd hf (Nat.not_lt_zero _)
    | succ fuel =>
      cases w with
      | stop hs =>
        refine .inl ⟨?_, fun i hi => (by cases hi)⟩
        unfold probe.go
        rw [slot_empty hd hr hs, hp]
  | cons i l ih =>
    intro p e fuel w hp hf
    cases fuel with
    | zero => exact absurd hf (Nat.not_lt_zero _)
    | succ fuel =>
      cases w with
      | live hs w2 =>
        have hdum : (t.advance p).dummy = none := by
          rw [advance_eq]; unfold adv; split <;> exact hp
        by_cases hh : f i = h
        · refine .inr ⟨[], i, l, p, rfl, fun k hk => (by cases hk), hh, hs, hp, w2, ?_⟩
          unfold probe.go
          rw [slot_live hd hr hs]
          simp [hh]
        · have hgo : probe.go t f h (fuel + 1) p = probe.go t f h fuel (t.advance p) := by
            rw [probe.go, slot_live hd hr hs]
            simp [hh]
          rcases ih fuel w2 hdum (by simpa using hf) with ⟨a, b⟩ | ⟨l1, k, l2, q, a, b, c, d, d2, e', g⟩
          · refine .inl ⟨by rw [hgo]; exact a, fun k hk => ?_⟩
            rcases List.mem_cons.mp hk with rfl | hk
            · exact hh
            · exact b k hk
          · refine .inr ⟨i :: l1, k, l2, q, by rw [a]; rfl, fun k' hk => ?_, c, d, d2, e', by rw [hgo]; exact g⟩
            rcases List.mem_cons.mp hk with rfl | hk
            · exact hh
            · exact b k' hk
section
variable {prog : Program} {w : World} {K : Type} [DecidableEq K] {knd : KeyKind prog w K} {A : Around} {E : Value → Shared → Prop} {s : Shared}
noncomputable def Tups (knd : KeyKind prog w K) (h : Heap) (es : Array (Int × Value)) : Prop := ∀ (i : Nat) (c : Int) (x : Value), es[i]? = some (c, x) → ∃ k b, c = tupleKeyHash knd k ∧ x = .ref b ∧ IsTupleKey knd h k b
theorem not_class {k : List K} {a : Addr} {Q : Bool → Shared → Prop} (hk : IsTupleKey knd s.heap k a) (h : Q false s) : wpAny (model prog w) A (ofAClassStatement 8 (.ref a)) Q E s := by
  have hT := hk.typeIs
  obtain ⟨o, items, n, ho, _, hd, hi⟩ := hk
  unfold ofAClassStatement
  refine wpAny_bind (wpAny_typeOf hT ?_)
  dsimp only
  refine wpAny_bind (wpAny_pure ?_)
  simp only [Bool.not_true, Bool.false_eq_true, if_false]
  refine wpAny_bind (wpAny_seqItems ho hd ?_)
  refine wpAny_bind ?_
  show wpAny _ _ (forIn items _ _) _ _ s
  rw [← Array.forIn_toList]
  refine wpAny_forIn_list _ (fun rest r s' => r.1 = none ∧ s' = s ∧ ∀ v ∈ rest, carriedByValue v = true) _ ?_ ?_ _ _ ⟨rfl, rfl, hi.byValue⟩
  · rintro v rest r s' ⟨hr, rfl, hall⟩
    have hv : ofAClassStatement 7 v = pure false := by
      have := hall v List.mem_cons_self
      cases v with
      | ref a => simp [carriedByValue] at this
      | _ => first | rfl | simp [ofAClassStatement] | (unfold ofAClassStatement; rfl)
    rw [hv]
    refine wpAny_bind (wpAny_pure ?_)
    simp only [Bool.false_eq_true, if_false]
    exact wpAny_pure ⟨rfl, rfl, fun u hu' => hall u (List.mem_cons_of_mem _ hu')⟩
  · rintro ⟨r1, r2⟩ s' ⟨hr, rfl, _⟩
    simp only at hr
    subst hr
    exact wpAny_pure h
theorem not_seen {k : List K} {a : Addr} {Q : Bool → Shared → Prop} (hk : IsTupleKey knd s.heap k a) (ys : List Value) (hy : ∀ y ∈ ys, ∃ k b, y = .ref b ∧ IsTupleKey knd s.heap k b) (h : Q false s) :
    wpAny (model prog w) A (searchCouldBeSeen (.ref a) ys) Q E s := by
  unfold searchCouldBeSeen
  refine wpAny_bind ?_
  refine wpAny_forIn_list _ (fun rest r s' => r.1 = none ∧ s' = s ∧ ∀ y ∈ rest, y ∈ ys) _ ?_ ?_ _ _ ⟨rfl, rfl, fun y hy => hy⟩
  · rintro v rest r s' ⟨hr, rfl, hall⟩
    obtain ⟨k', b, rfl, hb⟩ := hy v (hall v List.mem_cons_self)
    simp only [carriedByValue, Bool.false_and, Bool.or_false]
    have fin : (⟨none, ()⟩ : Option Bool × Unit).fst = none ∧ s' = s' ∧ ∀ y ∈ rest, y ∈ ys := ⟨rfl, rfl, fun y hy => hall y (List.mem_cons_of_mem _ hy)⟩
    split
    · exact wpAny_pure fin
    · refine wpAny_bind (wpAny_eqIsQuiet_tuple hk ?_)
      simp only [Bool.not_true, Bool.false_eq_true, if_false]
      refine wpAny_bind (wpAny_eqIsQuiet_tuple hb ?_)
      simp only [Bool.not_true, Bool.false_eq_true, if_false]
      refine wpAny_bind (not_class hk ?_)
      simp only [Bool.false_eq_true, if_false]
      refine wpAny_bind (not_class hb ?_)
      simp only [Bool.false_eq_true, if_false]
      exact wpAny_pure fin
  · rintro ⟨r1, r2⟩ s' ⟨hr, rfl, _⟩
    simp only at hr
    subst hr
    exact wpAny_pure h
theorem search {a b : Addr} {o : Obj} {es : Array (Int × Value)} {ep : Nat} {t : SetTable} {k : List K} {Q : SetFound → Shared → Prop} {e : Nat}
    (hu : A.units < cLine) (ho : s.heap.get? a = some o) (hd : o.data = .set es ep t) (T : Tab es t) (hE : Tups knd s.heap es) (hk : IsTupleKey knd s.heap k b) :
    ∀ (n : Nat) (l : List Nat) (stand : Option Probe) (fuel : Nat), l.length < n → Way t.mask (sl t) (stand.getD (t.probeStart (tupleKeyHash knd k))) l e → (stand.getD (t.probeStart (tupleKeyHash knd k))).dummy = none →
      n ≤ fuel → l.length < 10 * turns t.mask →
      ((∃ i ∈ l, ∃ c, es[i]? = some (tupleKeyHash knd k, .ref c) ∧ IsTupleKey knd s.heap k c) → Q (.there none) s) →
      ((∀ i ∈ l, ∀ c, es[i]? = some (tupleKeyHash knd k, .ref c) → ¬ IsTupleKey knd s.heap k c) → Q (.free e false) s) →
      wpAny (model prog w) A (setSearchFrom a (.ref b) (tupleKeyHash knd k) true fuel stand) Q E s := by
  intro n
  induction n with
  | zero => intro l _ _ h; exact absurd h (Nat.not_lt_zero _)
  | succ n ih =>
    intro l stand fuel hl hw hdum hf hn h1 h2
    cases fuel with
    | zero => exact absurd hf (Nat.not_succ_le_zero _)
    | succ fuel =>
      unfold setSearchFrom
      refine wpAny_bind (wpAny_setState_of ho hd T.fits ?_)
      dsimp only
      rw [T.odd]
      simp only [Bool.false_eq_true, if_false]
      have hlive : ∀ i ∈ l, ∃ k' c, es[i]? = some (tupleKeyHash knd k', .ref c) ∧ IsTupleKey knd s.heap k' c := by
        intro i hi
        obtain ⟨j, hj⟩ := hw.mem i hi
        have hlt : i < es.size := by rw [← T.sz]; exact get_lt ((sl_some T.dm T.ris).mp hj)
        obtain ⟨⟨c, x⟩, hq⟩ : ∃ q, es[i]? = some q := ⟨_, Array.getElem?_eq_getElem hlt⟩
        obtain ⟨k', b', rfl, rfl, hb⟩ := hE i c x hq
        exact ⟨k', b', hq, hb⟩
      rcases probe_way (f := fun i => (es[i]?.map (·.1)).getD 0) (h := tupleKeyHash knd k) T.dm T.ris (10 * turns t.mask) hw hdum hn with ⟨hp, hno⟩ | ⟨l1, i, l2, q, hl12, hno, hfi, hsl, hqd, hw2, hp⟩
      · split
        · rename_i met hm
          have hm' : some (Met.empty e none) = some met := hp.symm.trans hm
          cases hm'
          dsimp only
          refine wpAny_pure (h2 fun i hi c hc hkc => hno i hi ?_)
          rw [hc]; rfl
        · rename_i x hm
          exact (hm _ hp).elim
      · split
        · rename_i met hm
          have hm' : some (Met.candidate q.j i (t.advance q)) = some met := hp.symm.trans hm
          cases hm'
          dsimp only
          have hil : i ∈ l := by rw [hl12]; exact List.mem_append_right _ List.mem_cons_self
          obtain ⟨k', c, hei, hck⟩ := hlive i hil
          have hslot := slot_live T.dm T.ris hsl
          have hsame : t.sameMemory t.moves t.mask = some true := by unfold sameMemory; simp
          have hdq : (t.advance q).dummy = none := by rw [advance_eq]; unfold adv; split <;> exact hqd
          have hseen : ∀ y ∈ (es.filter (·.1 == tupleKeyHash knd k)).toList.map (·.2), ∃ k b, y = .ref b ∧ IsTupleKey knd s.heap k b := by
            intro y hy
            obtain ⟨⟨c', y'⟩, hq, rfl⟩ := List.mem_map.mp hy
            have hq' : (c', y') ∈ es := (Array.mem_filter.mp (Array.mem_toList_iff.mp hq)).1
            obtain ⟨n', hn'⟩ := Array.getElem?_of_mem hq'
            obtain ⟨k2, b2, _, hb2, hb3⟩ := hE _ _ _ hn'
            exact ⟨k2, b2, hb2, hb3⟩
          split
          all_goals try (refine wpAny_bind (not_seen hk _ hseen ?_); simp only [Bool.false_eq_true, if_false])
          all_goals
            rw [hei]
            dsimp only
            refine wpAny_bind (wpAny_holding (wpAny_eqBool_tuple hu hck hk ?_))
            refine wpAny_bind (wpAny_setState_of ho hd T.fits ?_)
            dsimp only
            rw [Bool.true_and]
            split
            · rename_i hdec
              have hkk : k' = k := of_decide_eq_true hdec
              subst hkk
              exact wpAny_pure (h1 ⟨i, hil, c, hei, hck⟩)
            · rename_i hdec
              have hkk : k' ≠ k := fun z => hdec (decide_eq_true z)
              rw [hsame]
              dsimp only
              rw [if_pos rfl, hslot]
              dsimp only
              rw [hei]
              dsimp only
              refine wpAny_bind (wpAny_isSame_ref_self ?_)
              refine wpAny_bind (wpAny_pure ?_)
              simp only [if_true]
              have hll : l2.length < l.length := by rw [hl12, List.length_append, List.length_cons]; omega
              refine ih l2 (some (t.advance q)) fuel (by omega) hw2 hdq (by omega) (by omega) (fun ⟨i', hi', hx⟩ => h1 ⟨i', by rw [hl12]; exact List.mem_append_right _ (List.mem_cons_of_mem _ hi'), hx⟩) (fun hx => h2 fun i' hi' c' hc' hkc => ?_)
              rw [hl12] at hi'
              rcases List.mem_append.mp hi' with hi' | hi'
              · refine hno i' hi' ?_
                rw [hc']; rfl
              · rcases List.mem_cons.mp hi' with rfl | hi'
                · rw [hei] at hc'
                  have hcc : c = c' := Value.ref.inj (congrArg Prod.snd (Option.some.inj hc'))
                  rw [← hcc] at hkc
                  exact hkk (hck.inj hkc)
                · exact hx i' hi' c' hc' hkc
        · rename_i x hm
          exact (hm _ hp).elim
end
end STb
set_option Elab.async false
set_option linter.all false
set_option maxRecDepth 100000
namespace STb
open PySem PySem.SetTable
section
variable {prog : Program} {w : World} {K : Type} [DecidableEq K] {knd : KeyKind prog w K} {A : Around} {E : Value → Shared → Prop} {s : Shared}
noncomputable def dstep (σ : List (List K)) (k : List K) : List (List K) := if k ∈ σ then σ else σ ++ [k]
noncomputable def SetT (knd : KeyKind prog w K) (h : Heap) (a : Addr) (ks : List (List K)) : Prop :=
  ∃ o es ep t, h.get? a = some o ∧ o.ExactSet ∧ o.data = .set es ep t ∧ Tab es t ∧ Tups knd h es ∧ es.size = ks.length ∧
    ∀ k, k ∈ ks ↔ ∃ (i : Nat) (c : Addr), es[i]? = some (tupleKeyHash knd k, .ref c) ∧ IsTupleKey knd h k c
theorem IsTupleKey.kept {h h' : Heap} {k : List K} {b : Addr} (x : IsTupleKey knd h k b) (q : ∀ o, h.get? b = some o → h'.get? b = some o) : IsTupleKey knd h' k b := by
  obtain ⟨o, items, n, ho, hc, hd, hi⟩ := x
  exact ⟨o, items, n, q o ho, hc, hd, hi⟩
theorem IsTupleKey.ne {h : Heap} {k : List K} {a b : Addr} {o : Obj} {es ep t} (x : IsTupleKey knd h k b) (ho : h.get? a = some o) (hd : o.data = .set es ep t) : b ≠ a := by
  rintro rfl
  obtain ⟨o', items, n, ho', _, hd', _⟩ := x
  rw [ho] at ho'
  cases ho'
  rw [hd] at hd'; cases hd'
theorem by_value {k : List K} {a : Addr} {Q : Bool → Shared → Prop} (hk : IsTupleKey knd s.heap k a) (h : ∀ b, Q b s) : wpAny (model prog w) A (hashByValue 8 (.ref a)) Q E s := by
  have hT := hk.typeIs
  obtain ⟨o, items, n, ho, _, hd, hi⟩ := hk
  unfold hashByValue
  refine wpAny_bind (wpAny_specialOf hT F.slot_tuple_hash.lookup ?_)
  show wpAny _ _ (seqItems? (.ref a) >>= _) _ _ s
  refine wpAny_bind (wpAny_seqItems ho hd ?_)
  refine wpAny_bind ?_
  show wpAny _ _ (forIn items _ _) _ _ s
  rw [← Array.forIn_toList]
  refine wpAny_forIn_list _ (fun rest r s' => r.1 = none ∧ s' = s ∧ ∀ v ∈ rest, carriedByValue v = true) _ ?_ ?_ _ _ ⟨rfl, rfl, hi.byValue⟩
  · rintro v rest r s' ⟨hr, rfl, hall⟩
    have hv : ∃ q, hashByValue 7 v = pure q := by
      have := hall v List.mem_cons_self
      cases v with
      | ref a => simp [carriedByValue] at this
      | _ => first | exact ⟨_, rfl⟩ | exact ⟨_, by unfold hashByValue; rfl⟩
    obtain ⟨q, hv⟩ := hv
    rw [hv]
    refine wpAny_bind (wpAny_pure ?_)
    split
    · refine wpAny_pure ?_
      exact wpAny_pure (h _)
    · exact wpAny_pure ⟨rfl, rfl, fun u hu' => hall u (List.mem_cons_of_mem _ hu')⟩
  · rintro ⟨r1, r2⟩ s' ⟨hr, rfl, _⟩
    simp only at hr
    subst hr
    exact wpAny_pure (h _)
theorem relay {a : Addr} {o : Obj} {es : Array (Int × Value)} {ep : Nat} {t : SetTable} {Q : Unit → Shared → Prop} (ho : s.heap.get? a = some o) (hd : o.data = .set es ep t)
    (T : Tab0 es t) (hz : es.size ≤ 18) (hf : t.fits es.size = true) (wanted : Nat) (hw : sizeAbove wanted = 32)
    (h : ∀ es' t', List.Perm es'.toList es.toList → es'.size = es.size → Tab es' t' → Q () { s with heap := s.heap.update a (Obj.putSet es' t') }) :
    wpAny (model prog w) A (setRelay a wanted) Q E s := by
  obtain ⟨t', order, hrel, hsz, hperm, T', _⟩ := relaid_ok (t := t) hz wanted hw
  unfold setRelay
  refine wpAny_bind (wpAny_setState_of ho hd hf ?_)
  dsimp only
  rw [hw, if_neg (by rw [sizeLine_eq]; decide), hrel]
  have hif : ((order.filterMap (es[·]?)).size != es.size) = false := by rw [hsz]; simp
  refine wpAny_bind ?_
  show wpAny _ _ (if ((order.filterMap (es[·]?)).size != es.size) = true then _ else pure (order.filterMap (es[·]?), t')) _ _ _
  rw [hif]
  simp only [Bool.false_eq_true, if_false]
  refine wpAny_pure ?_
  exact wpAny_storeSet_of ho hd (h _ _ hperm hsz T') (by rw [hsz, sizeLine_eq]; omega)
theorem Tups.kept {h h' : Heap} {es : Array (Int × Value)} {a : Addr} {o : Obj} {es0 ep t} (ho : h.get? a = some o) (hd : o.data = .set es0 ep t) (hs : Heap.SameBut a h h') (x : Tups knd h es) : Tups knd h' es := fun i c v hi => by
  obtain ⟨k, b, e1, e2, hb⟩ := x i c v hi
  exact ⟨k, b, e1, e2, IsTupleKey.kept hb fun o' ho' => by rw [hs.2 b (IsTupleKey.ne hb ho hd)]; exact ho'⟩
theorem memList {α : Type} {xs : Array α} {x : α} : (∃ i : Nat, xs[i]? = some x) ↔ x ∈ xs.toList := by
  constructor
  · rintro ⟨i, h⟩
    rw [← Array.getElem?_toList] at h
    exact List.mem_of_getElem? h
  · intro h
    obtain ⟨i, hi⟩ := List.getElem?_of_mem h
    exact ⟨i, by rw [← Array.getElem?_toList]; exact hi⟩
theorem Tups.perm {h : Heap} {es es' : Array (Int × Value)} (p : List.Perm es'.toList es.toList) (x : Tups knd h es) : Tups knd h es' := fun i c v hi => by
  obtain ⟨j, hj⟩ := memList.mpr (p.mem_iff.mp (memList.mp ⟨i, hi⟩))
  exact x j c v hj
theorem add {a b : Addr} {ks : List (List K)} {k : List K} {Q : Bool → Shared → Prop} (hu : A.units < cLine) (hS : SetT knd s.heap a ks) (hk : IsTupleKey knd s.heap k b) (hz : ks.length < 18)
    (h : ∀ h' r, Heap.SameBut a s.heap h' → SetT knd h' a (dstep ks k) → Q r { s with heap := h' }) :
    wpAny (model prog w) A (setAddHashed a (.ref b) (tupleKeyHash knd k)) Q E s := by
  obtain ⟨o, es, ep, t, ho, hex, hd, T, hE, hn, hm⟩ := hS
  unfold setAddHashed setAddHashedIn
  refine wpAny_holding (wpAny_bind (wpAny_setState_of ho hd T.fits ?_))
  dsimp only
  have hbs : byScan (.ref b) es = false := by unfold byScan; simp [Value.scannable]
  rw [hbs]
  simp only [Bool.false_eq_true, if_false]
  unfold setSearch
  obtain ⟨l, e, hw, hl⟩ := T.way (tupleKeyHash knd k)
  have ht460 : 10 * turns t.mask ≤ 460 := by rcases T.m with z | z <;> rw [z] <;> decide
  refine wpAny_bind (search hu ho hd T hE hk 1000 l none 100000 (by omega) hw rfl (by omega) hl (fun ⟨i, hi, c, hc, hkc⟩ => ?_) (fun hno => ?_))
  · dsimp only
    refine wpAny_pure ?_
    have hin : k ∈ ks := (hm k).mpr ⟨i, c, hc, hkc⟩
    have := h s.heap false (Heap.SameBut.refl a s.heap) (by
      unfold dstep; rw [if_pos hin]; exact ⟨o, es, ep, t, ho, hex, hd, T, hE, hn, hm⟩)
    exact this
  · dsimp only
    have hnin : k ∉ ks := fun hin => by
      obtain ⟨i, c, hc, hkc⟩ := (hm k).mp hin
      exact hno i (T.reach i _ _ hc _ _ hw) c hc hkc
    refine wpAny_bind (wpAny_setState_of ho hd T.fits ?_)
    dsimp only
    rw [put_eq T]
    dsimp only
    obtain ⟨b1, _, _⟩ := below_ok T.ris e
    have b1' : below t.place e ≤ es.size := by rw [← T.sz]; exact b1
    have T0 := T.put (x := .ref b) hw
    have hsz : (insertAt es (below t.place e) (tupleKeyHash knd k, Value.ref b)).size = es.size + 1 := insert_size b1'
    have hperm := SetTable.insertAt_perm es (below t.place e) (tupleKeyHash knd k, Value.ref b)
    rw [Array.toList_push] at hperm
    have hfit0 : ({ t with place := insertAt t.place (below t.place e) e } : SetTable).fits (es.size + 1) = true := by
      unfold SetTable.fits SetTable.fill
      simp only [T.dm, insert_size b1, T.sz]
      have := T.room
      simp
      omega
    generalize hes1 : insertAt es (below t.place e) (tupleKeyHash knd k, Value.ref b) = es1 at T0 hsz hperm
    have hE1 : Tups knd s.heap es1 := fun i c v hi => by
      rcases List.mem_append.mp (hperm.mem_iff.mp (memList.mp ⟨i, hi⟩)) with q | q
      · obtain ⟨j, hj⟩ := memList.mpr q
        exact hE j c v hj
      · rw [List.mem_singleton] at q
        cases q
        exact ⟨k, b, rfl, rfl, hk⟩
    have hm1 : ∀ k', k' ∈ dstep ks k ↔ ∃ (i : Nat) (c : Addr), es1[i]? = some (tupleKeyHash knd k', .ref c) ∧ IsTupleKey knd s.heap k' c := by
      intro k'
      unfold dstep
      rw [if_neg hnin, List.mem_append, List.mem_singleton, hm k']
      constructor
      · rintro (⟨i, c, hc, hkc⟩ | rfl)
        · obtain ⟨j, hj⟩ := memList.mpr (hperm.mem_iff.mpr (List.mem_append_left _ (memList.mp ⟨i, hc⟩)))
          exact ⟨j, c, hj, hkc⟩
        · obtain ⟨j, hj⟩ := memList.mpr (hperm.mem_iff.mpr (List.mem_append_right _ List.mem_cons_self))
          exact ⟨j, b, hj, hk⟩
      · rintro ⟨i, c, hc, hkc⟩
        rcases List.mem_append.mp (hperm.mem_iff.mp (memList.mp ⟨i, hc⟩)) with q | q
        · obtain ⟨j, hj⟩ := memList.mpr q
          exact .inl ⟨j, c, hj, hkc⟩
        · rw [List.mem_singleton] at q
          have : c = b := Value.ref.inj (congrArg Prod.snd q)
          subst this
          exact .inr (hkc.inj hk)
    have hdl : (dstep ks k).length = es1.size := by unfold dstep; rw [if_neg hnin, hsz, hn]; simp
    have hfin : ∀ (pl : Bool), wpAny (model prog w) A (do
        storeSet a es1 { t with place := insertAt t.place (below t.place e) e, plain := pl }
        if (!false && ({ t with place := insertAt t.place (below t.place e) e, plain := pl } : SetTable).tooFull) = true then do
          setRelay a (SetTable.grown (es.size + 1))
          pure true
        else pure true) Q E s := by
      intro pl
      have T1 : Tab0 es1 { t with place := insertAt t.place (below t.place e) e, plain := pl } := ⟨T0.sz, T0.dm, T0.ris, T0.le, T0.m, T0.reach⟩
      have hf1 : ({ t with place := insertAt t.place (below t.place e) e, plain := pl } : SetTable).fits es1.size = true := by rw [hsz]; exact hfit0
      refine wpAny_bind (wpAny_storeSet_of ho hd ?_ (by rw [hsz, sizeLine_eq, hn]; omega))
      have hsb1 := Heap.SameBut.update s.heap a (Obj.putSet es1 { t with place := insertAt t.place (below t.place e) e, plain := pl })
      have hg : (s.heap.update a (Obj.putSet es1 { t with place := insertAt t.place (below t.place e) e, plain := pl })).get? a = some { o with data := .set es1 (ep + 1) { t with place := insertAt t.place (below t.place e) e, plain := pl } } := by
        have := Heap.get?_update_self (Obj.putSet es1 { t with place := insertAt t.place (below t.place e) e, plain := pl }) ho (by rw [putSet_of _ _ hd]; rfl)
        rw [putSet_of _ _ hd] at this; exact this
      have hfill : ({ t with place := insertAt t.place (below t.place e) e, plain := pl } : SetTable).fill = es.size + 1 := by
        unfold SetTable.fill
        simp only [T.dm, insert_size b1, T.sz]
        rfl
      have hk1 : ∀ k' c, IsTupleKey knd s.heap k' c → ∀ h', Heap.SameBut a s.heap h' → IsTupleKey knd h' k' c := fun k' c hc h' hs => IsTupleKey.kept hc fun o' ho' => by rw [hs.2 c (IsTupleKey.ne hc ho hd)]; exact ho'
      have hback : ∀ k' c, ∀ h', Heap.SameBut a s.heap h' → c ≠ a → IsTupleKey knd h' k' c → IsTupleKey knd s.heap k' c := fun k' c h' hs hne hc => IsTupleKey.kept hc fun o' ho' => by rw [hs.2 c hne] at ho'; exact ho'
      have hmk : ∀ (es2 : Array (Int × Value)) (h' : Heap), List.Perm es2.toList es1.toList → Heap.SameBut a s.heap h' → ∀ k', k' ∈ dstep ks k ↔ ∃ (i : Nat) (c : Addr), es2[i]? = some (tupleKeyHash knd k', .ref c) ∧ IsTupleKey knd h' k' c := by
        intro es2 h' hp hs k'
        rw [hm1 k']
        constructor
        · rintro ⟨i, c, hc, hkc⟩
          obtain ⟨j, hj⟩ := memList.mpr (hp.mem_iff.mpr (memList.mp ⟨i, hc⟩))
          exact ⟨j, c, hj, hk1 _ _ hkc _ hs⟩
        · rintro ⟨i, c, hc, hkc⟩
          obtain ⟨j, hj⟩ := memList.mpr (hp.mem_iff.mp (memList.mp ⟨i, hc⟩))
          obtain ⟨k2, b2, _, e2, hb2⟩ := hE1 _ _ _ hj
          have : c = b2 := Value.ref.inj e2
          subst this
          exact ⟨j, c, hj, hback _ _ _ hs (IsTupleKey.ne hb2 ho hd) hkc⟩
      split
      · rename_i hfull
        have hfull' : (es.size + 1) * 5 ≥ t.mask * 3 := by
          simp only [Bool.not_false, Bool.true_and] at hfull
          unfold SetTable.tooFull at hfull
          rw [hfill] at hfull
          simpa using hfull
        have hsz5 : es.size + 1 = 5 := by
          have := T.room
          rcases T.m with z | z
          · rw [z] at this hfull'; omega
          · rw [z] at this hfull'; omega
        refine wpAny_bind (relay hg rfl T1 (by omega) hf1 _ (by rw [hsz5]; decide) fun es' t' hp' hs' T' => ?_)
        refine wpAny_pure ?_
        have hsb2 := hsb1.trans (Heap.SameBut.update _ a (Obj.putSet es' t'))
        refine h _ true hsb2 ?_
        have hg2 : ((s.heap.update a (Obj.putSet es1 { t with place := insertAt t.place (below t.place e) e, plain := pl })).update a (Obj.putSet es' t')).get? a = some { o with data := .set es' (ep + 1 + 1) t' } := by
          have := Heap.get?_update_self (Obj.putSet es' t') hg (by rw [putSet_of _ _ rfl]; rfl)
          rw [putSet_of _ _ rfl] at this; exact this
        exact ⟨_, es', ep + 1 + 1, t', hg2, hex, rfl, T', (Tups.perm hp' hE1).kept ho hd hsb2, by rw [hdl, hs'], hmk es' _ hp' hsb2⟩
      · rename_i hfull
        have hfull' : ¬ (es.size + 1) * 5 ≥ t.mask * 3 := by
          simp only [Bool.not_false, Bool.true_and] at hfull
          unfold SetTable.tooFull at hfull
          rw [hfill] at hfull
          simpa using hfull
        refine wpAny_pure (h _ true hsb1 ?_)
        exact ⟨_, es1, ep + 1, _, hg, hex, rfl, T1.tab (by rw [hsz]; show (es.size + 1) * 5 < t.mask * 3; omega), hE1.kept ho hd hsb1, hdl.symm, hmk es1 _ .rfl hsb1⟩
    split
    · refine wpAny_bind (by_value hk fun q => ?_)
      cases q
      · exact hfin false
      · exact hfin t.plain
    · refine wpAny_bind (wpAny_pure ?_)
      exact hfin t.plain
end
end STb
set_option Elab.async false
set_option linter.all false
set_option maxRecDepth 100000
namespace STb
open PySem PySem.SetTable PySem.Spec PyProof.Rows
noncomputable def keysTo {K : Type} [DecidableEq K] (key : Nat → List K) : Nat → List (List K)
  | 0 => []
  | i + 1 => dstep (keysTo key i) (key i)
theorem keysTo_len {K : Type} [DecidableEq K] (key : Nat → List K) : ∀ i, (keysTo key i).length ≤ i
  | 0 => Nat.le_refl _
  | i + 1 => by
    have := keysTo_len key i
    show (dstep _ _).length ≤ _
    unfold dstep
    split
    · omega
    · rw [List.length_append, List.length_singleton]; omega
noncomputable abbrev emptySet (led : Bool) : Obj :=
  { cls := .type "set", dict := none, data := .set #[] 0 (.fresh 0 0 led) }
section
variable {prog : Program} {w : World} {K : Type} [DecidableEq K] {knd : KeyKind prog w K} {A : Around}
theorem SetT.kept {h h' : Heap} {a : Addr} {ks : List (List K)} (hS : SetT knd h a ks) (q : ∀ o, h.get? a = some o → h'.get? a = some o)
    (ht : ∀ k c, IsTupleKey knd h k c → ∀ o, h.get? c = some o → h'.get? c = some o) : SetT knd h' a ks := by
  obtain ⟨o, es, ep, t, ho, hex, hd, T, hE, hn, hm⟩ := hS
  refine ⟨o, es, ep, t, q o ho, hex, hd, T, fun i c v hi => ?_, hn, fun k => (hm k).trans ⟨fun ⟨i, c, a1, a2⟩ => ⟨i, c, a1, STb.IsTupleKey.kept a2 (ht k c a2)⟩, fun ⟨i, c, a1, a2⟩ => ⟨i, c, a1, ?_⟩⟩⟩
  · obtain ⟨k, b, e1, e2, hb⟩ := hE i c v hi
    exact ⟨k, b, e1, e2, STb.IsTupleKey.kept hb (ht k b hb)⟩
  · obtain ⟨k', b, _, e2, hb⟩ := hE i _ _ a1
    have : c = b := Value.ref.inj e2
    subst this
    have := (STb.IsTupleKey.kept hb (ht k' c hb)).inj a2
    rw [← this]; exact hb
theorem add_loop {R : Result → Shared → Prop} {I S : Addr} {fp wr : List Addr} {G : Array GenState → Array GenState → Prop} {n : Nat} {P : Nat → Value → Prop} {St : Nat → Shared → Prop}
    (W : WalksS prog w A.in1 I fp wr G n P St) (hSf : S ∉ fp) (hu : A.in1.units < cLine) (key : Nat → List K) (hn : n ≤ 18) (hwr : ∀ i s, St i s → ∀ b ∈ wr, ∀ k, ¬ IsTupleKey knd s.heap k b) :
    ∀ (k i : Nat) (s : Shared), n - i = k → i ≤ n → St i s → SetT knd s.heap S (keysTo key i) → (∀ j v, P j v → ∃ b, v = .ref b ∧ IsTupleKey knd s.heap (key j) b) →
      (∀ s', Moved (S :: wr) G s s' → SetT knd s'.heap S (keysTo key n) → R (.ok (.ret .none)) s') →
      codeAny (model prog w) A (.builtin "set.update.loop" ⟨[.ref S, .ref I], []⟩) R s := by
  have hSw : S ∉ wr := fun q => hSf (W.sub _ q)
  have up : ∀ b ∈ wr, b ∈ S :: wr := fun b q => List.mem_cons_of_mem _ q
  intro k
  induction k with
  | zero =>
    intro i s hk hi hst hS hP hR
    have e : i = n := by omega
    subst e
    refine codeAny_builtin F.entry_set_update_loop ?_
    rw [Around.under_plainId F.plain_set_update_loop _]
    refine wpAny_bind (W.done s _ _ hst fun s' hm => ?_)
    exact wpAny_pure (hR s' (hm.mono up) (hS.kept (fun o => hm.heap S o hSw) fun k c hc o => hm.heap c o fun q => hwr i s hst c q k hc))
  | succ k ih =>
    intro i s hk hi hst hS hP hR
    have hlt : i < n := by omega
    refine codeAny_builtin F.entry_set_update_loop ?_
    rw [Around.under_plainId F.plain_set_update_loop _]
    refine wpAny_bind (W.item i s _ _ hlt hst fun v s' hv hst' hm => ?_)
    obtain ⟨b, rfl, hb⟩ := hP i v hv
    have stay : ∀ k c, IsTupleKey knd s.heap k c → ∀ o, s.heap.get? c = some o → s'.heap.get? c = some o := fun k c hc o => hm.heap c o fun q => hwr i s hst c q k hc
    have hS' : SetT knd s'.heap S (keysTo key i) := hS.kept (fun o => hm.heap S o hSw) stay
    have hb' : IsTupleKey knd s'.heap (key i) b := STb.IsTupleKey.kept hb (stay _ _ hb)
    refine wpAny_bind (wpAny_holding ?_)
    unfold setAdd
    refine wpAny_holding (wpAny_bind (wpAny_pyHash_tuple hu hb' ?_))
    refine STb.add (s := { s' with toks := s'.toks + ((key i).length + 1) }) hu hS' hb' (by have := keysTo_len key i; omega) fun h' r hsb hS2 => ?_
    obtain ⟨oS, _, _, _, hoS, _, hdS, _⟩ := hS'
    have tk : ∀ k c, IsTupleKey knd s.heap k c → IsTupleKey knd h' k c := fun k c hc => by
      have h1 := STb.IsTupleKey.kept hc (stay k c hc)
      exact STb.IsTupleKey.kept h1 fun o ho => by rw [hsb.2 c (STb.IsTupleKey.ne h1 hoS hdS)]; exact ho
    refine wpAny_pure ⟨plainId_quiet F.plain_set_update_loop _, ih (i + 1) _ (by omega) hlt
      (W.frame _ s' _ _ hst' (Nat.le_add_right _ _) fun b hb o e => ?_) hS2 (fun j v hv => ?_) fun s'' hm'' hS'' => ?_⟩
    · rw [hsb.2 b (fun q : b = S => hSf (q ▸ hb))]; exact e
    · obtain ⟨b, e, hb⟩ := hP j v hv
      exact ⟨b, e, tk _ _ hb⟩
    · refine hR s'' (Moved.trans W.gtrans ((hm.mono up).then_heap (Nat.le_add_right _ _) fun b o hb e => ?_) hm'') hS''
      rw [hsb.2 b (fun q : b = S => hb (q ▸ List.mem_cons_self))]; exact e
end
end STb
set_option Elab.async false
set_option linter.all false
set_option maxRecDepth 100000
namespace STb
open PySem PySem.SetTable PySem.Spec PyProof.Rows
section
variable {prog : Program} {w : World} {K : Type} [DecidableEq K] {knd : KeyKind prog w K} {A : Around} {E : Value → Shared → Prop} {s : Shared}
set_option maxHeartbeats 3200000 in
theorem set_tuples {l : Addr} {items : Array Value} {key : Nat → List K} {Q : Value → Shared → Prop} (hh : A.handled = none) (hu : A.units + 8 < cLine) (hl : s.heap.IsList l items) (hn : items.size ≤ 18)
    (hi : ∀ (j : Nat) v, items[j]? = some v → ∃ b, v = .ref b ∧ IsTupleKey knd s.heap (key j) b)
    (h : ∀ (h' : Heap) (tk : Nat), SetT knd h' s.heap.objs.size (keysTo key items.size) → (∀ b o, b < s.heap.objs.size → s.heap.get? b = some o → h'.get? b = some o) →
      Q (.ref s.heap.objs.size) { s with heap := h', toks := tk }) :
    wpAny (model prog w) A (call (.type "set") [.ref l]) Q E s := by
  obtain ⟨c, tl, hmro⟩ := F.called_set.mro
  have hmade := F.called_set.made
  have hsub := F.called_set.sub
  have h1 := F.called_set.notType
  have h2 := F.called_set.canCreate
  have hct := F.typeCall_set_1 (.ref l)
  refine wpAny_call (codeAny_of_tree ?_)
  show wpAny _ _ (callAny (.type "set") _) _ _ _
  refine wpAny_pure ⟨Code.quiet_builtin _ (by decide +kernel), codeAny_builtin F.entry_type_call ?_⟩
  rw [Around.under_plain (weight_type_call_type "set" [.ref l] []) rfl]
  repeat (any_goals (first | assumption | wp_step))
  have new := code_set_new_1 (prog := prog) (w := w) (A := A.in1) (s := s) (E := E) (.ref l)
    (Q₁ := fun x s₁ => ∃ led : Bool, x = .ref s.heap.objs.size ∧ s₁ = { s with heap := s.heap.push (emptySet led) }) fun led => ⟨led, rfl, rfl⟩
  refine codeAny_mono new fun r s₁ hr => ?_
  match r, hr with
  | .error e, hr => exact hr
  | .ok (.ret x), hr =>
    obtain ⟨led, rfl, rfl⟩ := hr
    have hS : (s.heap.push (emptySet led)).get? s.heap.objs.size = some (emptySet led) := Heap.get?_push_size _ rfl
    have hT : Shared.TypeIs { s with heap := s.heap.push (emptySet led) } (.ref s.heap.objs.size) "set" := ⟨_, hS, rfl⟩
    have hli := F.called_set.init.lookup
    have hbi := F.called_set.init.bind (.ref s.heap.objs.size)
    repeat (any_goals (first | assumption | wp_step))
    refine codeAny_mono (codeAny_call_builtin (R := wants (fun r s₂ => r = .none ∧ ∃ h' tk, s₂ = { s with heap := h', toks := tk } ∧ SetT knd h' s.heap.objs.size (keysTo key items.size) ∧
        (∀ b o, b < s.heap.objs.size → s.heap.get? b = some o → h'.get? b = some o)) E) F.called_set.init.plain F.entry_set_init
      (check_set_init_1 hT ?_)) fun r₂ s₂ hr₂ => ?_
    · obtain ⟨⟨_, odict, _, oslots⟩, hol, hcl, nl, hdl⟩ := hl
      dsimp only at hcl hdl
      subst hcl hdl
      have hol' : (s.heap.push (emptySet led)).get? l = some { cls := .type "list", dict := odict, data := .seq items nl, slots := oslots } :=
        Heap.get?_push_of_some _ hol
      have hl1 : (s.heap.push (emptySet led)).IsList l items := ⟨_, hol', rfl, nl, rfl⟩
      have hsls := F.sub_list_set
      have hslf := F.sub_list_frozenset
      have hne : (Value.type "list" == Value.type "dict") = false := by decide
      unfold Builtin.«set.__init__»
      unfold noKeywords
      unfold Builtin.Frozenset.updateFrom
      generalize hPI : pyIter = PI
      wp_walk
      subst hPI
      refine wpAny_pyIter_list hl1 ?_
      refine wpAny_bind (wpAny_runValue ?_)
      have hlS : l < s.heap.objs.size := Heap.lt_size hol
      have hsz : (s.heap.push (emptySet led)).objs.size = s.heap.objs.size + 1 := Heap.size_push _ _
      have hneI : l ≠ (s.heap.push (emptySet led)).objs.size := by
        rw [hsz]; exact Nat.ne_of_lt (Nat.lt_succ_of_lt hlS)
      have hSf : s.heap.objs.size ∉ [(s.heap.push (emptySet led)).objs.size, l] := by
        rw [hsz]
        intro q
        rcases List.mem_cons.mp q with q | q
        · exact absurd q (Nat.ne_of_lt (Nat.lt_succ_self _))
        · exact absurd (List.mem_singleton.mp q) (Nat.ne_of_gt hlS)
      have W := (Walks.list (prog := prog) (w := w) (A := A.in1.in1.in1) (by simp [hh]) _ l hneI items).toS
      refine add_loop (knd := knd) W hSf (by simp; omega) key hn ?wr (items.size - 0) 0 _ (by omega) (Nat.zero_le _) ⟨⟨_, Heap.get?_push_size _ rfl, rfl, rfl⟩, hl1.push _⟩ ?S0 ?P0 ?R0
      case wr =>
        intro i s0 hst b hb k hk
        have hbI := List.mem_singleton.mp hb
        subst hbI
        obtain ⟨oI, hoI, hcI, hdI⟩ := hst.1
        obtain ⟨o2, it2, n2, ho2, hc2, _⟩ := hk
        rw [hoI] at ho2
        cases ho2
        rw [hcI] at hc2
        exact absurd hc2 (by decide)
      case S0 =>
        have hg : ((s.heap.push (emptySet led)).push { cls := .type "list_iterator", data := .fields #[.ref l, .int 0 0] }).get? s.heap.objs.size = some (emptySet led) := Heap.get?_push_of_some _ hS
        exact ⟨_, #[], 0, _, hg, ⟨rfl, rfl, rfl⟩, rfl, tab_fresh led, fun i c v hi => (by cases hi), rfl, fun k => ⟨fun q => (by cases q), fun ⟨i, c, q, _⟩ => (by cases q)⟩⟩
      case P0 =>
        intro j v hv
        obtain ⟨b, e, hb⟩ := hi j v hv
        exact ⟨b, e, STb.IsTupleKey.kept hb fun o ho => Heap.get?_push_of_some _ (Heap.get?_push_of_some _ ho)⟩
      case R0 =>
        intro s' hm hS'
        obtain ⟨h', g', d', tk', os'⟩ := s'
        have e1 : g' = s.gens := hm.gens
        have e2 : d' = s.drawn := hm.drawn
        have e3 : os' = s.os := hm.os
        subst e1 e2 e3
        show wpAny _ _ _ _ _ _
        refine wpAny_pure ?_
        refine wpAny_pure ⟨rfl, h', tk', rfl, hS', fun b o hb e => ?_⟩
        refine hm.heap b o (fun q => ?_) (Heap.get?_push_of_some _ (Heap.get?_push_of_some _ e))
        rcases List.mem_cons.mp q with q | q
        · exact Nat.ne_of_lt hb q
        · have := List.mem_singleton.mp q
          rw [hsz] at this
          exact Nat.ne_of_lt (Nat.lt_succ_of_lt hb) this
    · match r₂, hr₂ with
      | .error e, hr₂ => exact hr₂
      | .ok (.ret r), hr₂ =>
        obtain ⟨rfl, h', tk, rfl, hS', hk'⟩ := hr₂
        repeat (any_goals (first | assumption | wp_step))
        exact h _ _ hS' hk'
end
end STb
set_option Elab.async false
set_option linter.all false
set_option maxRecDepth 100000
namespace L2
open PySem PySem.Spec PyProof.Rows
noncomputable def SetN (a : Addr) (n : Nat) : HO := .ext fun h => ∃ o es ep t, h.get? a = some o ∧ o.ExactSet ∧ o.data = .set es ep t ∧ t.fits es.size = true ∧ es.size = n ∧ n ≤ 18
inductive TupsOf (H : Hp) : List V → List (List Int) → Prop
  | nil : TupsOf H [] []
  | cons {b : Addr} {k : List Int} {vs : List V} {ks : List (List Int)} : H b = some (.tup (k.map .int)) → TupsOf H vs ks → TupsOf H (.ref b :: vs) (k :: ks)
theorem TupsOf.length {H : Hp} {vs : List V} {ks : List (List Int)} (t : TupsOf H vs ks) : vs.length = ks.length := by
  induction t with
  | nil => rfl
  | cons _ _ ih => simp [ih]
theorem TupsOf.at {H : Hp} {vs : List V} {ks : List (List Int)} (t : TupsOf H vs ks) : ∀ (j : Nat) (v : V), vs[j]? = some v → ∃ b, v = .ref b ∧ H b = some (.tup ((ks.getD j []).map .int)) := by
  induction t with
  | nil => intro j v h; cases h
  | @cons b k vs ks h _ ih =>
    intro j v hv
    cases j with
    | zero => cases hv; exact ⟨b, rfl, h⟩
    | succ j => exact ih j v hv
noncomputable def dd (ks : List (List Int)) : List (List Int) := ks.foldl STb.dstep []
theorem keysTo_take (ks : List (List Int)) : ∀ i, i ≤ ks.length → STb.keysTo (fun j => ks.getD j []) i = dd (ks.take i)
  | 0, _ => rfl
  | i + 1, h => by
    show STb.dstep _ _ = _
    rw [keysTo_take ks i (by omega)]
    have hk : ks[i]? = some (ks.getD i []) := by
      rw [List.getElem?_eq_getElem (by omega), List.getD_eq_getElem?_getD, List.getElem?_eq_getElem (by omega)]; rfl
    unfold dd
    rw [List.take_add_one, hk, List.foldl_append]
    rfl
theorem items_are {P : Program} {w : World} : ∀ {ks : List Int} {its : List Value}, Vals (ks.map V.int) its → ItemsAre (intKind P w) ks its
  | [], _, r => by cases r; exact .nil
  | k :: ks, _, r => by
    cases r with
    | cons h t =>
      obtain ⟨t', rfl⟩ := h
      exact .cons (intKind_is _ _ _ _) (items_are t)
theorem call_setT {X : Cx} (hc : X.calm = true) (hu : X.A.units + 8 < cLine) : CallR X (.type "set") (fun xs H Q => ∃ p ys ks, xs = [.ref p] ∧ SqL X.K H p ys ∧ ys.length ≤ 18 ∧ TupsOf H ys ks ∧
    ∀ l, H l = none → Q (.ref l) (upd H l (SetN l (dd ks).length))) := by
  intro pins s σ H xs us Q I r h
  obtain ⟨p, ys, ks, rfl, hq, h18, ht, q⟩ := h
  obtain ⟨u, rfl, rx⟩ := vals1 r
  cases rx
  obtain ⟨its, r', pl, hz⟩ := I.list hq
  have hlen := r'.length
  refine STb.set_tuples (knd := intKind X.prog X.w) (key := fun j => ks.getD j []) (I.ok.hd hc) hu pl.isList (by simp; omega) (fun j v hv => ?_) (fun h' tk hS kp => ?_)
  · have hv' : its[j]? = some v := by simpa using hv
    cases hy : ys[j]? with
    | none => rw [r'.none_of hy] at hv'; cases hv'
    | some y =>
      obtain ⟨u, hu', ru⟩ := r'.get hy
      rw [hv'] at hu'
      cases hu'
      obtain ⟨b, rfl, hb⟩ := ht.at j y hy
      cases ru
      obtain ⟨_, it2, r2, o2, ho2, hc2, n2, hd2⟩ := I.hok b _ hb
      exact ⟨b, rfl, o2, it2.toArray, n2, ho2, hc2, hd2, by simpa using items_are r2⟩
  · have hl : (STb.keysTo (fun j => ks.getD j []) its.toArray.size).length = (dd ks).length := by
      have e : its.toArray.size = ks.length := by rw [← ht.length, hlen]; simp
      rw [e, keysTo_take ks _ (Nat.le_refl _), List.take_length]
    have hn : H s.heap.objs.size = none := I.hok.fresh (Nat.le_refl _)
    refine ⟨.ref s.heap.objs.size, _, I.laid (t' := tk) (fun b o e => kp b o (Heap.lt_size e) e) (Nat.le_refl _) ?_, rfl, q _ hn⟩
    obtain ⟨o, es, ep, t, ho, hex, hd, T, _, hsz, _⟩ := hS
    have h18' : (dd ks).length ≤ 18 := by
      rw [← hl]
      have := STb.keysTo_len (fun j => ks.getD j []) its.toArray.size
      have : its.toArray.size ≤ 18 := by simp; omega
      omega
    refine ⟨⟨o, es, ep, t, ho, hex, hd, T.fits, by rw [hsz, hl], h18'⟩, ⟨o, ho⟩, ?_⟩
    rintro h1 h2 ⟨o', es', ep', t', ho', rest⟩ kk
    exact ⟨o', es', ep', t', kk _ ho', rest⟩
theorem call_lenN {X : Cx} : CallR X (.builtin "len") (fun xs H Q => ∃ p n, xs = [.ref p] ∧ H p = some (SetN p n) ∧ Q (.int n) H) := by
  intro pins s σ H xs us Q I r h
  obtain ⟨p, n, rfl, hp, q⟩ := h
  obtain ⟨u, rfl, rx⟩ := vals1 r
  cases rx
  obtain ⟨⟨o, es, ep, t, ho, hex, hd, hf, hsz, h18⟩, _⟩ := I.hok p _ hp
  exact call_len_set ho hex hd hf (by rw [hsz]; omega) ⟨.int n, H, I.tok _, ⟨s.toks + 1, by rw [hsz]⟩, q⟩
theorem dd_nodup_aux : ∀ (ks σ : List (List Int)), (ks.foldl STb.dstep σ).length ≤ σ.length + ks.length ∧ ((ks.foldl STb.dstep σ).length = σ.length + ks.length ↔ ks.Nodup ∧ ∀ k ∈ ks, k ∉ σ)
  | [], σ => ⟨Nat.le_refl _, ⟨fun _ => ⟨List.nodup_nil, fun k h => (by cases h)⟩, fun _ => rfl⟩⟩
  | k :: ks, σ => by
    rw [List.foldl_cons, List.length_cons]
    by_cases h : k ∈ σ
    · have e : STb.dstep σ k = σ := by unfold STb.dstep; rw [if_pos h]
      rw [e]
      obtain ⟨a, b⟩ := dd_nodup_aux ks σ
      refine ⟨by omega, ⟨fun q => by omega, fun q => absurd h (q.2 k List.mem_cons_self)⟩⟩
    · have e : STb.dstep σ k = σ ++ [k] := by unfold STb.dstep; rw [if_neg h]
      rw [e]
      obtain ⟨a, b⟩ := dd_nodup_aux ks (σ ++ [k])
      rw [List.length_append, List.length_singleton] at a b
      refine ⟨by omega, ?_⟩
      rw [show σ.length + (ks.length + 1) = σ.length + 1 + ks.length by omega, b, List.nodup_cons]
      constructor
      · rintro ⟨h1, h2⟩
        refine ⟨⟨fun q => h2 k q (List.mem_append_right _ List.mem_cons_self), h1⟩, fun k' hk' => ?_⟩
        rcases List.mem_cons.mp hk' with rfl | hk'
        · exact h
        · exact fun q => h2 k' hk' (List.mem_append_left _ q)
      · rintro ⟨⟨h1, h2⟩, h3⟩
        refine ⟨h2, fun k' hk' q => ?_⟩
        rcases List.mem_append.mp q with q | q
        · exact h3 k' (List.mem_cons_of_mem _ hk') q
        · rw [List.mem_singleton] at q; subst q; exact h1 hk'
theorem dd_nodup (ks : List (List Int)) : (dd ks).length = ks.length ↔ ks.Nodup := by
  have := (dd_nodup_aux ks []).2
  simp only [List.length_nil, Nat.zero_add] at this
  rw [dd, this]
  exact ⟨fun h => h.1, fun h => ⟨h, fun k _ q => (by cases q)⟩⟩
end L2
set_option Elab.async false
set_option linter.all false
set_option maxRecDepth 100000
namespace L2
open PySem PySem.Spec PyProof.Rows
structure MetD (P : Program) (w : World) (K : PySem.W.Frag) (mg : Str → Option Value) (base : Heap) (C : Addr) (k : Nat) (m : Str) (ps : List Str) (sp : Sp) : Prop where
  ex : ∃ (f : Addr) (fd : FuncData), FnOk P w K mg base CX0 k f fd ps sp ∧ Meth K C m f ∧ Binds K fd ps []
structure MetX (P : Program) (w : World) (K : PySem.W.Frag) (mg : Str → Option Value) (base : Heap) (C : Addr) (k : Nat) (m : Str) (ps : List Str) (sp : Sp) : Prop where
  ex : ∃ (f : Addr) (fd : FuncData), FnOk P w K mg base (CX1 P w) k f fd ps sp ∧ Meth K C m f ∧ Binds K fd ps []
structure MakX (P : Program) (w : World) (K : PySem.W.Frag) (mg : Str → Option Value) (base : Heap) (C : Addr) (k : Nat) (x : Str) (ps : List Str) (sp : Sp) : Prop where
  ex : ∃ (f : Addr) (fd : FuncData), FnOk P w K mg base (CX1 P w) k f fd ps sp ∧ Mk K C f ∧ mg x = some (.ref C) ∧ Binds K fd ps []
noncomputable def tMethR (C : Addr) (m : Str) (sp : Sp) (R : St → XK) (ta : TE) (t : TA) : TE := fun σ H Q => ta σ H fun x H1 => ∃ a dx fs, x = .ref a ∧ H1 a = some (.ins C dx fs) ∧ fs.lookup m = none ∧
  t σ H1 fun vs H2 => sp (x :: vs) H2 Q (R σ)
noncomputable def tMakeR (C : Addr) (sp : Sp) (R : St → XK) (t : TA) : TE := fun σ H Q => t σ H fun vs H1 => ∀ x dx, H1 x = none → H1 dx = none → dx ≠ x →
  sp (.ref x :: vs) (upd (upd H1 dx (.own x)) x (.ins C dx [])) (fun v H2 => v = .non ∧ Q (.ref x) H2) (R σ)
section
variable {X : Cx} {k : Nat} {C : Addr} {m x : Str} {ps : List Str} {sp : Sp} {o e : Expr} {es : List Expr} {ta : TE} {t : TA} {p pos apos : Pos} {R : St → XK}
theorem pe_metD0 {pl : Sem Bool} (he : PE X o ta) (c : Cls X.K C) (D : MetD X.prog X.w X.K X.mg X.base C k m ps sp) (hr : Room k X.A)
    (ht : eval (.Call (.Attribute o m apos) [] [] pos) X.env = (do
      let ov ← eval o X.env
      standAt apos.atName
      let (f, first) ← holding [ov] (getMethod ov m pl)
      callWith pos f first (backTo pos (starEach [] X.env)) (backToKw pos (keywordEach [] X.env))) := by rfl) :
    PE X (.Call (.Attribute o m apos) [] [] pos) (tMeth C m sp [] E0 ta tNil) := by
  obtain ⟨f, fd, F, hm, hb⟩ := D.ex
  exact pe_meth0 he c hm F hr hb .nil pass0 ht
theorem run_fnR {f : Addr} {fd : FuncData} {pins : List (Addr × Obj)} {σ : St} {H : Hp} {s : Shared} {Q : VK} {us : List Value} {vs : List V} (F : FnOk X.prog X.w X.K X.mg X.base (CX1 X.prog X.w) k f fd ps sp) (hr : Room k X.A) (hb : Binds X.K fd ps []) (hx : PassesR (CX1 X.prog X.w) X R)
    (I : Inv X pins σ H s) (r : Vals vs us) (h : sp vs H Q (R σ)) : wpAny (model X.prog X.w) X.A (call (.ref f) us) (EP X pins σ Q) X.xe s := by
  have hl : us.length = ps.length := by rw [← r.length]; exact F.len _ _ _ _ h
  have hb' := hb s us I.kIn (by rw [List.append_nil]; exact hl)
  rw [List.append_nil] at hb'
  refine wpAny_call (codeAny_mono (F.run X.A X.stack s H ⟨us, []⟩ us vs Q (R σ) hr I.env0 hb' r h) fun res s' hq => ?_)
  cases res with
  | error er => exact hx pins σ H s er s' I hq
  | ok fl =>
    cases fl with
    | ret u => exact I.after hq
    | _ => exact False.elim hq
theorem pe_metX {pl : Sem Bool} (he : PE X o ta) (c : Cls X.K C) (D : MetX X.prog X.w X.K X.mg X.base C k m ps sp) (hr : Room k X.A) (hx : PassesR (CX1 X.prog X.w) X R) (ha : PA X (e :: es) t)
    (hst : starEach (e :: es) X.env = (false, eval e X.env) :: starEach es X.env := by rfl) (hpl : (backTo pos (starEach es X.env)).any (·.1) = false := by rfl)
    (ht : eval (.Call (.Attribute o m apos) (e :: es) [] pos) X.env = (do
      let ov ← eval o X.env
      standAt apos.atName
      let (f, first) ← holding [ov] (getMethod ov m pl)
      callWith pos f first (backTo pos (starEach (e :: es) X.env)) (backToKw pos (keywordEach [] X.env))) := by rfl) :
    PE X (.Call (.Attribute o m apos) (e :: es) [] pos) (tMethR C m sp R ta t) := by
  obtain ⟨f, fd, F, hm, hb⟩ := D.ex
  intro pins s σ H Q I h
  refine PySem.W.methodCall_KW (pl := pl) (thn (he pins s σ H _ I h) fun u s1 ⟨x, H1, I1, rx, a, dx, fs, ex, ea, l, q⟩ => ?_) ht
  subst ex
  obtain rfl : u = Value.ref a := rx
  refine getmeth_ok I1 ea c hm l ?_
  refine PySem.W.callWith_K (first := [.ref a]) (h₀ := X.base) I.ok.mod.kin hm.kp (thn (ha pos pins s1 σ H1 _ I1 q) fun us s2 ⟨vs, H2, I2, r, q2⟩ => ⟨I2.kIn, ?_⟩) hst hpl
  exact run_fnR (us := .ref a :: us) (vs := .ref a :: vs) F hr hb hx I2 (.cons rfl r) q2
theorem pe_makX (D : MakX X.prog X.w X.K X.mg X.base C k x ps sp) (hr : Room (k + 1) X.A) (hx : PassesR (CX1 X.prog X.w) X R) (hg : Gl X x)
    (ha : PA X (e :: es) t) (hdb : (x == ("__debug__" : Str)) = false := by decide) (he : starEach (e :: es) X.env = (false, eval e X.env) :: starEach es X.env := by rfl) (hpl : (backTo pos (starEach es X.env)).any (·.1) = false := by rfl) :
    PE X (.Call (.Name x p) (e :: es) [] pos) (tMakeR C sp R t) := by
  obtain ⟨f, fd, F, M, hm, hb⟩ := D.ex
  intro pins s0 σ H0 Q I0 h0
  refine wpAny_Call_Name_kw (ld_glob I0 hg hm ?_ hdb)
  refine PySem.W.callWith_K (h₀ := X.base) I0.ok.mod.kin M.kp (thn (ha pos pins s0 σ H0 _ I0 h0) fun us s ⟨vs, H, I, r, h⟩ => ⟨I.kIn, ?_⟩) he hpl
  have hq := h (s.heap.objs.size + 1) s.heap.objs.size (I.hok.fresh (Nat.le_succ _)) (I.hok.fresh (Nat.le_refl _)) (Nat.ne_of_lt (Nat.lt_succ_self _))
  have I2 := Inv.made (C := C) I
  have r2 : Vals (V.ref (s.heap.objs.size + 1) :: vs) (Value.ref (s.heap.objs.size + 1) :: us) := .cons rfl r
  have hl : (Value.ref (s.heap.objs.size + 1) :: us).length = ps.length := by
    have e := r2.length
    rw [F.len _ _ _ _ hq] at e
    exact e.symm
  have hb' := hb _ (Value.ref (s.heap.objs.size + 1) :: us) I2.kIn (by rw [List.append_nil]; exact hl)
  rw [List.append_nil] at hb'
  refine wpAny_call (make_map (f := f) I.kIn M.makes M.init (beq_iff_eq.mp M.fn) (codeAny_mono (F.run _ X.stack _ _ ⟨Value.ref (s.heap.objs.size + 1) :: us, []⟩ (Value.ref (s.heap.objs.size + 1) :: us) _ _ (R σ) (hr.make C us [])
    (I2.env0.make C us []) hb' r2 hq) fun r s' hq' => ?_))
  cases r with
  | error e => exact hx pins σ _ _ e s' I2 hq'
  | ok fl =>
    cases fl with
    | ret u =>
      obtain ⟨v, H', I3, rv, ev, q3⟩ := I2.after hq'
      subst ev
      exact ⟨rv, ⟨V.ref (s.heap.objs.size + 1), H', I3, rfl, q3⟩⟩
    | _ => exact False.elim hq'
end
end L2
set_option Elab.async false
set_option linter.all false
set_option maxRecDepth 100000
namespace L2
open PySem PySem.Spec PyProof.Rows
theorem comp_refs {J : It} {L : List V} {k : Nat} {te : TE} {D : Addr} {σ0 : St} {H : Hp} {Fn : Hp → Prop} (Pr : V → Addr → Hp → Prop) (mono : ∀ x q H1 H2, (∀ b o, H1 b = some o → b ≠ D → H2 b = some o) → Pr x q H1 → Pr x q H2)
    (S : Src J L H) (hn : L.length ≤ sizeLine) (hD : H D = none)
    (he : ∀ x ∈ L, ∀ (H' : Hp) (Q : VK), Same H H' → (∃ ys, H' D = some (.lst ys)) → (∀ q H'', Same H' H'' → Pr x q H'' → Q (.ref q) H'') → te (σ0.set k (some x)) H' Q)
    (hd : ∀ (qs : List Addr) H', Same H H' → H' D = some (.lst (qs.map V.ref)) → qs.length = L.length → (∀ (i : Nat) x q, L[i]? = some x → qs[i]? = some q → Pr x q H') → Fn H') :
    ∃ W : Nat → Nat → St → Hp → Prop, (∃ m, W 0 m σ0 (upd H D (.lst []))) ∧ ∀ i m σ' H', W i m σ' H' →
      (J.stop i H' ∧ Fn H') ∨ (J.go i H' ∧ ∃ N : St → Hp → Prop, (∀ σ2 H2, N σ2 H2 → ∃ m', m' < m ∧ W (i + 1) m' σ2 H2) ∧ ∀ x H2, J.yld i H' x H2 → gName k x σ' H2 fun σ3 H3 => tTrue σ3 H3 fun b H4 =>
        if b = true then te σ3 H4 fun v H5 => ∃ xs, H5 D = some (.lst xs) ∧ xs.length < sizeLine ∧ N σ3 (upd H5 D (.lst (xs ++ [v]))) else N σ3 H4) := by
  refine ⟨fun i m σ' H' => m = L.length - i ∧ i ≤ L.length ∧ (∀ y, σ'.set k y = σ0.set k y) ∧ Same H H' ∧ ∃ qs : List Addr, H' D = some (.lst (qs.map V.ref)) ∧ qs.length = i ∧ (∀ (j : Nat) x q, L[j]? = some x → qs[j]? = some q → Pr x q H'), ⟨L.length, rfl, Nat.zero_le _, fun _ => rfl, same_new hD, [], upd_same, rfl, fun _ _ _ _ z => nomatch z⟩, ?_⟩
  rintro i m σ' H' ⟨rfl, hi, hσ, sm, qs, hH, hl, pr⟩
  by_cases hlt : i < L.length
  · have hx : L[i]? = some L[i] := by simp [hlt]
    obtain ⟨go, yl⟩ := (S H' sm).1 i _ hx
    refine .inr ⟨go, fun σ2 H2 => (∀ y, σ2.set k y = σ0.set k y) ∧ Same H H2 ∧ ∃ qs : List Addr, H2 D = some (.lst (qs.map V.ref)) ∧ qs.length = i + 1 ∧ (∀ (j : Nat) x q, L[j]? = some x → qs[j]? = some q → Pr x q H2), ?_, ?_⟩
    · rintro σ2 H2 ⟨q1, q2, q3⟩
      exact ⟨L.length - (i + 1), by omega, rfl, hlt, q1, q2, q3⟩
    · intro x H2 y
      obtain ⟨rfl, rfl⟩ := yl x H2 y
      simp only [gName, tTrue, if_true]
      rw [hσ]
      have hm : L[i] ∈ L := List.getElem_mem hlt
      refine he _ hm H2 _ sm ⟨_, hH⟩ fun q H5 s5 hq => ⟨_, s5 D _ hH, by rw [List.length_map, hl]; omega, fun y => by rw [List.set_set], same_upd (sm.trans s5) hD, qs ++ [q], ?_, ?_, fun j x q' ex eq => ?_⟩
      · rw [upd_same, List.map_append]; rfl
      · rw [List.length_append, hl]; rfl
      · refine mono x q' H5 _ (fun b o e hb => by rw [upd_ne hb]; exact e) ?_
        by_cases hj : j < qs.length
        · rw [List.getElem?_append_left hj] at eq
          exact mono x q' H2 _ (fun b o e _ => s5 b o e) (pr j x q' ex eq)
        · rw [List.getElem?_append_right (by omega)] at eq
          cases ej : j - qs.length with
          | zero =>
            rw [ej] at eq
            cases eq
            have : j = i := by omega
            subst this
            rw [hx] at ex; cases ex
            exact hq
          | succ n => rw [ej] at eq; cases eq
  · have e : i = L.length := by omega
    subst e
    exact .inl ⟨(S H' sm).2, hd qs H' sm hH hl pr⟩
end L2
set_option Elab.async false
set_option linter.all false
set_option maxRecDepth 100000
namespace L2
open PySem PySem.Spec PyProof.Rows
noncomputable def toV : Value → V
  | .none => .non
  | .bool b => .bl b
  | .int i _ => .int i
  | .str x _ => .str x
  | .bytes b _ => .byt b
  | .float b _ => .flt b
  | .ref a => .ref a
  | .type n => .ty n
  | _ => .non
theorem toV_rel : ∀ {x : V} {u : Value}, RelV x u → toV u = x
  | .non, _, r => by cases r; rfl
  | .bl b, _, r => by cases r; rfl
  | .int i, _, ⟨t, e⟩ => by cases e; rfl
  | .str x, _, ⟨t, e⟩ => by cases e; rfl
  | .byt b, _, ⟨t, e⟩ => by cases e; rfl
  | .flt b, _, ⟨t, e⟩ => by cases e; rfl
  | .ref a, _, r => by cases r; rfl
  | .ty n, _, r => by cases r; rfl
noncomputable def rIndexL (K : PySem.W.Frag) (n : Nat) : V → List V → Hp → VK → Prop := fun x vs H Q => ∃ (l : Addr) (xs : List V) (y : V) (be : V → Bool) (j : Nat) (z : V), x = .ref l ∧ vs = [y] ∧ H l = some (.lst xs) ∧ (∀ z ∈ xs, EqD K H n z y (be z)) ∧ xs[j]? = some z ∧ be z = true ∧ (∀ (i : Nat) z, i < j → xs[i]? = some z → be z = false) ∧ Q (.int (j : Int)) H
section
variable {X : Cx}
theorem mt_indexL (K : PySem.W.Frag) (hK : X.K = K) (n : Nat) (hn : n ≤ 30) (hu : X.A.units + 64 < cLine) : MtR X "list.index" (rIndexL K n) := by
  subst hK
  intro pins s σ H x vs v us Q I rx rv h
  obtain ⟨l, xs, y, be, j, z, rfl, rfl, hH, he, hz, hb, hno, q⟩ := h
  cases rx
  obtain ⟨u, rfl, ru⟩ := rv.one
  obtain ⟨zz, its, m, r, hl, e⟩ := I.lstM hH
  have hj : j < xs.length := (List.getElem?_eq_some_iff.mp hz).1
  have at' : ∀ (i : Nat) (hi : i < its.length), ∃ x, xs[i]? = some x ∧ toV its[i] = x := fun i hi => by
    have hx : xs[i]? = some (xs[i]'(by omega)) := List.getElem?_eq_getElem _
    obtain ⟨w, hw, rw'⟩ := r.get hx
    rw [List.getElem?_eq_getElem hi] at hw
    cases hw
    exact ⟨_, hx, toV_rel rw'⟩
  have hsl : sizeLine ≤ 2 ^ 40 := by decide
  refine call_meets F.slot_list_index ⟨_, e, rfl⟩ F.entry_list_index (F.args_list_index_2 _ _) (SeqAt.list_indexAt l its.toArray m none #[] u (fun w => be (toV w)) j (by simpa [← hl] using hj) (by omega) ?_ ?_) ⟨e, fun w hw => ?_, ⟨.int _, H, I.tok _, ⟨_, rfl⟩, q⟩⟩
  · obtain ⟨x, h1, h2⟩ := at' j (by omega)
    rw [hz] at h1; cases h1
    show be (toV its[j]) = true
    rw [h2]; exact hb
  · intro i hi hlt
    have hi' : i < its.length := by simpa using hi
    obtain ⟨x, h1, h2⟩ := at' i hi'
    show be (toV its[i]) = false
    rw [h2]; exact hno i x hlt h1
  · have hw' : w ∈ its := by simpa using hw
    obtain ⟨i, hi⟩ := List.mem_iff_getElem?.mp hw'
    have hil : i < its.length := (List.getElem?_eq_some_iff.mp hi).1
    have hx : xs[i]? = some (xs[i]'(by omega)) := List.getElem?_eq_getElem _
    obtain ⟨w2, hw2, rw2⟩ := r.get hx
    rw [hi] at hw2; cases hw2
    have ev := toV_rel rw2
    show SeqAt.EqAt X.A.in1 s w u (be (toV w))
    rw [ev]
    refine eqD_at I n X.A.in1 ?_ _ _ _ _ _ (he _ (List.mem_of_getElem? hx)) rw2 ru
    show X.A.units + 1 + n < cLine
    omega
theorem argBest_le (bt : Nat → Nat → Bool) : ∀ n, argBest bt n ≤ n
  | 0 => Nat.le_refl _
  | n + 1 => by
    unfold argBest
    split
    · exact Nat.le_refl _
    · exact Nat.le_succ_of_le (argBest_le bt n)
end
end L2
set_option Elab.async false
set_option linter.all false
set_option maxRecDepth 100000
namespace L2
open PySem PySem.Spec PyProof.Rows
noncomputable def isT (H : Hp) : V → Bool
  | .ref a => match H a with
    | some (.tup _) => true
    | _ => false
  | _ => false
section
variable {K : PySem.W.Frag}
theorem k_nt : PySem.W.kitOne K (.type "NoneType") (.type "tuple") = some false := by kernel_rfl
theorem k_bt : PySem.W.kitOne K (.type "bool") (.type "tuple") = some false := by kernel_rfl
theorem k_it : PySem.W.kitOne K (.type "int") (.type "tuple") = some false := by kernel_rfl
theorem k_st : PySem.W.kitOne K (.type "str") (.type "tuple") = some false := by kernel_rfl
theorem k_lt : PySem.W.kitOne K (.type "list") (.type "tuple") = some false := by kernel_rfl
theorem k_tt : PySem.W.kitOne K (.type "tuple") (.type "tuple") = some true := by kernel_rfl
theorem k_dt : PySem.W.kitOne K (.type "dict") (.type "tuple") = some false := by kernel_rfl
variable {H : Hp} {x : V}
theorem Kd.isTuple (k : Kd K H x) : IsX K H x (.type "tuple") (isT H x) := by
  cases k with
  | non => exact ⟨_, .of .non, k_nt⟩
  | bl b => exact ⟨_, .of (.bl b), k_bt⟩
  | int i => exact ⟨_, .of (.int i), k_it⟩
  | str y => exact ⟨_, .of (.str y), k_st⟩
  | lst e => refine ⟨_, .of (.lst e), ?_⟩; simp only [isT, e]; exact k_lt
  | tup e => refine ⟨_, .of (.tup e), ?_⟩; simp only [isT, e]; exact k_tt
  | dict e => refine ⟨_, .dict e, ?_⟩; simp only [isT, e, DictO]; exact k_dt
end
section
variable {X : Cx}
end
end L2
set_option Elab.async false
set_option linter.all false
set_option maxRecDepth 100000
namespace L2
open PySem PySem.Spec PyProof.Rows
structure DefA (P : Program) (w : World) (K : PySem.W.Frag) (mg : Str → Option Value) (base : Heap) (k : Nat) (f : Addr) (ps : List Str) (ds : List V) (sp : Sp) : Prop where
  ex : ∃ (fd : FuncData) (dvs : List Value), FnOk P w K mg base CX0 k f fd ps sp ∧ PySem.W.keepIn K (.ref f) = true ∧ Binds K fd ps dvs ∧ Vals ds dvs
section
variable {P : Program} {w : World} {K : PySem.W.Frag} {mg : Str → Option Value} {base : Heap}
theorem FunD.defA {x qual : Str} {st : Stmt} {f : Addr} {fd : FuncData} {ps : List Str} {k : Nat} {sp : Sp} (F : FunD K x qual st .none f fd) (G : FnOk P w K mg base CX0 k f fd ps sp)
    (h : ∀ (kV doc pm : Value) (an : Option Addr) (cdv ct : Value) (us : List Value), us.length = ps.length → bindArgs (PySem.W.fnOf x qual (defArgs st) (defBody st) (defScope st) .none kV doc pm an cdv ct) ⟨us, []⟩ = pure (ps.zip us)) : DefA P w K mg base k f ps [] sp := by
  obtain ⟨oc, od, kV, doc, pm, an, cdv, ct, osl, rfl, lk, hcd⟩ := F.ex
  exact ⟨_, [], G, F.kp, .all (h kV doc pm an cdv ct), .nil⟩
end
section
variable {X : Cx}
theorem ld_var {E : Value → Shared → Prop} {pins : List (Addr × Obj)} {s : Shared} {σ : St} {H : Hp} {i : Nat} {x : Str} {v : V} {pos : Pos} {Q : Value → Shared → Prop} (I : Inv X pins σ H s) (hN : X.N[i]? = some x) (hv : Vis X.env.scope x) (e : σ[i]? = some (some v)) (h : ∀ u, RelV v u → Q u s)
    (hd : (x == ("__debug__" : Str)) = false := by decide) (hcd : (x == ("__classdict__" : Str)) = false := by decide) : wpAny (model X.prog X.w) X.A (eval (.Name x pos) X.env) Q E s := by
  obtain ⟨m, hn, hl⟩ := I.loc
  obtain ⟨u, r, l⟩ := hl i x v hN e hv
  have fin := h u r
  rcases l with ⟨hk, hm⟩ | ⟨hk, c, hc, hcell⟩
  · exact wpAny_Name (wpAny_loadName_local I.ok.kind hk hn hm fin) hd
  · rcases hk with hk | hk
    · exact wpAny_Name (wpAny_loadName_cell I.ok.kind hk hc hcell fin) hd
    · exact wpAny_Name (wpAny_loadName_free I.ok.kind hk hc hcell fin hcd) hd
noncomputable def tCallV (i : Nat) (f : Addr) (sp : Sp) (dvs : List V) (E : XK) (t : TA) : TE := fun σ H Q => σ[i]? = some (some (.ref f)) ∧ tCall sp dvs E t σ H Q
theorem pe_callV (i : Nat) {k : Nat} {x : Str} {f : Addr} {ps : List Str} {ds : List V} {sp : Sp} {e : Expr} {es : List Expr} {t : TA} {p pos : Pos} (D : DefA X.prog X.w X.K X.mg X.base k f ps ds sp) (hr : Room k X.A) (ha : PA X (e :: es) t)
    (hN : X.N[i]? = some x := by rfl) (hv : Vis X.env.scope x := by first | exact Or.inl rfl | exact Or.inr (Or.inl rfl) | exact Or.inr (Or.inr rfl)) (hdb : (x == ("__debug__" : Str)) = false := by decide) (hcd : (x == ("__classdict__" : Str)) = false := by decide)
    (he : starEach (e :: es) X.env = (false, eval e X.env) :: starEach es X.env := by rfl) (hpl : (backTo pos (starEach es X.env)).any (·.1) = false := by rfl) :
    PE X (.Call (.Name x p) (e :: es) [] pos) (tCallV i f sp ds E0 t) := by
  obtain ⟨fd, dvs, F, hk, hb, hd⟩ := D.ex
  intro pins s σ H Q I ⟨hi, h⟩
  refine wpAny_Call_Name_kw (ld_var I hN hv hi (fun u r => ?_) hdb hcd)
  obtain rfl : u = Value.ref f := r
  refine PySem.W.callWith_K (h₀ := X.base) I.ok.mod.kin hk (thn (ha pos pins s σ H _ I h) fun us s1 ⟨vs, H1, I1, r, q⟩ => ⟨I1.kIn, ?_⟩) he hpl
  exact run_fn F hr hb hd pass0 I1 r q
end
end L2
set_option Elab.async false
set_option linter.all false
set_option maxRecDepth 100000
namespace L2
open PySem PySem.Spec PyProof.Rows
noncomputable def minI (ns : List Int) : Int := ns.getD (argBest (fun i j => decide (ns.getD i 0 < ns.getD j 0)) (ns.length - 1)) 0
theorem minI_mem {ns : List Int} (h : ns ≠ []) : minI ns ∈ ns := by
  unfold minI
  have hl : 0 < ns.length := List.length_pos_iff.mpr h
  have hle := argBest_le (fun i j => decide (ns.getD i 0 < ns.getD j 0)) (ns.length - 1)
  have hlt : argBest (fun i j => decide (ns.getD i 0 < ns.getD j 0)) (ns.length - 1) < ns.length := by omega
  rw [List.getD_eq_getElem?_getD, List.getElem?_eq_getElem hlt]
  exact List.getElem_mem hlt
section
variable {X : Cx}
theorem call_minI (K : PySem.W.Frag) (hK : X.K = K) (hc : X.calm = true) : CallR X (.builtin "min") (fun xs H Q => ∃ p ns, xs = [.ref p] ∧ SqL K H p (ns.map V.int) ∧ ns ≠ [] ∧ Q (.int (minI ns)) H) := by
  subst hK
  intro pins s σ H xs us Q I r h
  obtain ⟨p, ns, rfl, hp, hne, q⟩ := h
  obtain ⟨u, rfl, ru⟩ := vals1 r
  cases ru
  obtain ⟨its, rv, pl, hz⟩ := I.list hp
  have hlen := rv.length
  rw [List.length_map] at hlen
  have hlt : @LT.lt Nat instLTNat p s.heap.objs.size := by obtain ⟨_, e, _⟩ := pl.isList; exact Heap.lt_size e
  have hyl : 0 < ns.length := List.length_pos_iff.mpr hne
  have val : ∀ (i : Nat) (v : Value), its.toArray[i]? = some v → ∃ t, v = Value.int (ns.getD i 0) t := fun i v hv => by
    have hv' : its[i]? = some v := by simpa using hv
    have hi : i < ns.length := by have := (List.getElem?_eq_some_iff.mp hv').1; omega
    obtain ⟨w, hw, rw'⟩ := rv.get (show (ns.map V.int)[i]? = some (.int ns[i]) by rw [List.getElem?_map, List.getElem?_eq_getElem hi]; rfl)
    rw [hv'] at hw; cases hw
    obtain ⟨t, rfl⟩ := rw'
    exact ⟨t, by simp [List.getD, hi]⟩
  refine call_min_walk (wpAny_pyIter_list pl.isList ?_)
  refine ⟨s.heap.objs.size, _, _, _, _, _, fun i j => decide (ns.getD i 0 < ns.getD j 0), rfl, Walks.list (A := X.A.in1) (I.ok.hd hc) _ p (Nat.ne_of_lt hlt) its.toArray, ⟨⟨_, Heap.get?_push_size _ rfl, rfl, rfl⟩, pl.isList.push _⟩, fun b hb => ?_, by simp; omega, fun i j vi vj s Q E hi hj h => ?_, fun v h' tk hP hk => ?_⟩
  · show @LT.lt Nat instLTNat b (s.heap.push _).objs.size
    rw [Heap.size_push]
    rcases List.mem_cons.mp hb with e | hb
    · rw [e]; exact Nat.lt_succ_self _
    · rw [List.mem_singleton.mp hb]; exact Nat.lt_succ_of_lt hlt
  · obtain ⟨t1, rfl⟩ := val i vi hi
    obtain ⟨t2, rfl⟩ := val j vj hj
    exact richCompare_gives (op := .Lt) (typeIs_int s _ t1) (typeIs_int s _ t2) F.slot_int_lt F.entry_int_lt (F.args_int_lt_2 _ _) (gives_int_lt _ _ t1 t2) (fun x => nomatch x) h
  · obtain ⟨t, rfl⟩ := val _ v hP
    have es : its.toArray.size - 1 = ns.length - 1 := by simp; omega
    rw [es]
    exact ⟨.int _, H, I.kept (t' := tk) fun b o e => hk b o (fun hm => by
      have := Heap.lt_size e
      rw [List.mem_singleton.mp hm] at this
      exact Nat.lt_irrefl _ this) (Heap.get?_push_of_some _ e), ⟨t, rfl⟩, q⟩
noncomputable def firstI (ns : List Int) : Nat := ns.findIdx fun t => decide (t = minI ns)
theorem firstI_at {ns : List Int} (h : ns ≠ []) : ns[firstI ns]? = some (minI ns) := by
  have hlt : firstI ns < ns.length := List.findIdx_lt_length_of_exists ⟨minI ns, minI_mem h, by simp⟩
  rw [List.getElem?_eq_getElem hlt]
  have := List.findIdx_getElem (p := fun t => decide (t = minI ns)) (xs := ns) (w := hlt)
  have e : ns[firstI ns] = minI ns := of_decide_eq_true this
  rw [e]
theorem firstI_before {ns : List Int} {i : Nat} {t : Int} (hi : i < firstI ns) (e : ns[i]? = some t) : t ≠ minI ns := by
  obtain ⟨hl, rfl⟩ := List.getElem?_eq_some_iff.mp e
  have := List.not_of_lt_findIdx hi
  simpa using this
theorem index_minI {K : PySem.W.Frag} {H : Hp} {Q : VK} {l : Addr} {ns : List Int} (e : H l = some (.lst (ns.map V.int))) (ne : ns ≠ []) (k : Q (.int (firstI ns : Int)) H) : rIndexL K 1 (.ref l) [.int (minI ns)] H Q := by
  refine ⟨l, ns.map V.int, .int (minI ns), fun v => decide (v = .int (minI ns)), firstI ns, .int (minI ns), rfl, rfl, e, fun z hz => ?_, ?_, decide_eq_true rfl, fun i x hi hx => ?_, k⟩
  · obtain ⟨t, _, rfl⟩ := List.mem_map.mp hz
    exact .inl (.inr ⟨rfl, rfl, by simp [eqV]; rw [Bool.eq_iff_iff]; simp⟩)
  · rw [List.getElem?_map, firstI_at ne]; rfl
  · rw [List.getElem?_map] at hx
    cases et : ns[i]? with
    | none => rw [et] at hx; cases hx
    | some t =>
      rw [et] at hx
      cases hx
      refine decide_eq_false fun z => firstI_before hi et ?_
      injection z
noncomputable def rIsXE (K : PySem.W.Frag) : List V → Hp → VK → Prop := fun xs H Q => ∃ (a C tp : Addr) (Cs : List Addr) (b : Bool), xs = [.ref a, .ref tp] ∧ H a = some (ExcO a C) ∧ XCls K C ∧ SqT K H tp (Cs.map V.ref) ∧ PySem.W.kitAny K (.ref C) (Cs.map Value.ref) = some b ∧ Q (.bl b) H
theorem vals_refs : ∀ {Cs : List Addr} {us : List Value}, Vals (Cs.map V.ref) us → us = Cs.map Value.ref
  | [], _, r => by cases r; rfl
  | C :: Cs, _, .cons r t => by rw [show _ = Value.ref C from r, vals_refs t]; rfl
theorem call_isXE (K : PySem.W.Frag) (hK : X.K = K) : CallR X (.builtin "isinstance") (rIsXE K) := by
  subst hK
  intro pins s σ H xs us Q I rs h
  obtain ⟨a, C, tp, Cs, b, rfl, ea, cc, ht, e, q⟩ := h
  obtain ⟨u, w', rfl, r1, r2⟩ := vals2 rs
  cases r1
  cases r2
  obtain ⟨its, r, p1, _⟩ := I.tuple ht
  have ei := vals_refs r
  subst ei
  obtain ⟨⟨oc, od, odt, osl⟩, e1, ec, n, ed⟩ := p1
  cases ec
  cases ed
  obtain ⟨⟨ox, vx, p1, p2, p3, _⟩, _, _⟩ := (show ObjOk X.prog X.w H s.heap a (ExcO a C) from I.hok a _ ea)
  have p : ∃ o vs, s.heap.get? a = some o ∧ o.cls = Value.ref C ∧ o.data = Data.fields vs := ⟨ox, vx, p1, p2, p3⟩
  exact PySem.W.kia_tup (kitx_exc cc) I.kIn p e1 e (fun z => nomatch z) fun tk => ⟨.bl b, H, I.tok tk, rfl, q⟩
theorem kitAny_none {K : PySem.W.Frag} {t : Value} : ∀ {Cs : List Addr}, (∀ c ∈ Cs, PySem.W.kitOne K t (.ref c) = some false) → PySem.W.kitAny K t (Cs.map Value.ref) = some false
  | [], _ => rfl
  | c :: r, h => by
    rw [List.map_cons]
    unfold PySem.W.kitAny
    rw [h c List.mem_cons_self]
    exact kitAny_none fun d hd => h d (List.mem_cons_of_mem _ hd)
end
end L2
set_option Elab.async false
set_option linter.all false
set_option maxRecDepth 100000
namespace L2
open PySem PySem.Spec PyProof.Rows
section
variable {X : Cx} {tg : Expr}
end
end L2
set_option Elab.async false
set_option linter.all false
set_option maxRecDepth 100000
namespace L2
open PySem PySem.Spec PyProof.Rows
section
variable {X : Cx}
end
end L2
set_option Elab.async false
set_option linter.all false
set_option maxRecDepth 100000
namespace L2
open PySem PySem.Spec PyProof.Rows
structure FnOkM (P : Program) (w : World) (K : PySem.W.Frag) (mg : Str → Option Value) (base : Heap) (k : Nat) (f : Addr) (fd : FuncData) (ps : List Str) (sp : Addr → Sp) : Prop where
  len : ∀ ea vs H Q E, sp ea vs H Q E → vs.length = ps.length
  run : ∀ (A : Around) (ea : Addr) (outer : List Env) (s : Shared) (H : Hp) (args : Args) (us : List Value) (vs : List V) (Q : VK) (E : XK), Room k A → Env0 P w K mg base (A.mark (some (.ref ea))) outer s H → BindsTo s fd args (ps.zip us) → Vals vs us → sp ea vs H Q E →
    codeAny (model P w) (A.mark (some (.ref ea))) (.call (.ref f) args) (CR CX0 outer P w H s Q E) s
structure DefM (P : Program) (w : World) (K : PySem.W.Frag) (mg : Str → Option Value) (base : Heap) (k : Nat) (x : Str) (ps : List Str) (ds : List V) (sp : Addr → Sp) : Prop where
  ex : ∃ (f : Addr) (fd : FuncData) (dvs : List Value), FnOkM P w K mg base k f fd ps sp ∧ mg x = some (.ref f) ∧ PySem.W.keepIn K (.ref f) = true ∧ Binds K fd ps dvs ∧ Vals ds dvs
section
variable {P : Program} {w : World} {K : PySem.W.Frag} {mg : Str → Option Value} {base : Heap}
theorem Env0.unmark {A : Around} {ea : Addr} {outer : List Env} {s : Shared} {H : Hp} (e : Env0 P w K mg base (A.mark (some (.ref ea))) outer s H) : Env0 P w K mg base A outer s H := ⟨e.frames, e.mod, e.bs, e.bsz, e.funs, e.frf, e.hok, e.bare⟩
theorem FunD.okM {x qual : Str} {st : Stmt} {dV : Value} {f : Addr} {fd : FuncData} {N ps : List Str} {k : Nat} {sp : Addr → Sp} (F : FunD K x qual st dV f fd) (S : FnScope N ps (defScope st)) (len : ∀ ea vs H Q E, sp ea vs H Q E → vs.length = ps.length)
    (hbody : ∀ (cdv : Value) (A : Around) (ea : Addr) (outer : List Env) (s : Shared) (H : Hp) (vs : List V) (Q : VK) (E : XK), Room k (A.deeper (envOfC qual (defScope st) s.heap.objs.size f cdv)) → sp ea vs H Q E →
      ∃ t, PSs ((cxOf CX0 P w K mg base N qual (defScope st) f cdv A outer s H E).marked ea) (defBody st) t ∧ t { nx := fun _ H' => Q .non H', rt := Q } (start N vs) H) : FnOkM P w K mg base (k + 1) f fd ps sp := by
  obtain ⟨oc, od, kV, doc, pm, an, cdv, ct, osl, rfl, lk, hcd⟩ := F.ex
  refine ⟨len, fun A ea outer s H args us vs Q E hr e0 hb r hsp => ?_⟩
  have hl := len _ _ _ _ _ hsp
  have KX : K.In s.heap := e0.mod.kin.keeps fun b o e => (e0.bs b o e).1
  have lim : s.heap.NoLimit := e0.mod.nolimit.keeps fun b o e => (e0.bs b o e).1
  have hkind : ∀ y ∈ ps.zip us, (defScope st).names.lookup y.1 = some .local ∨ ((defScope st).names.lookup y.1 = some .cell ∧ ((cellsFrom (s.heap.objs.size + 1) (defScope st).names []).lookup y.1).isSome = true) := fun ⟨n, v⟩ hy => by
    rcases S.par n (List.of_mem_zip hy).1 with q | q
    · exact .inl q
    · exact .inr ⟨q, PySem.W.cellsFrom_some _ _ _ (.inl q)⟩
  refine codeAny_call_function (A := A.mark (some (.ref ea))) hr.depth (KX _ _ lk) rfl S.co S.gen rfl (PySem.W.codeRec_of KX hcd) (hb _ _ _ _ ?_)
  refine wpAny_newFunctionEnv_cells S.kind hkind fun env he s1 x => ?_
  subst he
  refine ⟨lim.keeps x.toInCall.keep, codeAny_func ?_⟩
  obtain ⟨t, ht, hq⟩ := hbody cdv A ea outer s H vs Q E (hr.deeper _) hsp
  have I : Inv ((cxOf CX0 P w K mg base N qual (defScope st) f cdv A outer s H E).marked ea) [] (start N vs) H s1 := (inv_start S hr.hd e0.unmark hl r x).marked ea
  refine wpAny_mono (ht [] s1 (start N vs) H _ I hq) (fun fl s' hs => ?_) fun e s' hs => False.elim hs
  have fin : ∀ {σ' : St} {H' : Hp} {v : V} {u : Value}, Inv ((cxOf CX0 P w K mg base N qual (defScope st) f cdv A outer s H E).marked ea) [] σ' H' s' → RelV v u → Q v H' → CE outer P w H s Q u s' :=
    fun {σ' H' v u} J rv q => ⟨v, H', J.os, J.bare, J.base, J.hok, rv, q⟩
  cases fl with
  | ret u =>
    obtain ⟨v, σ', H', J, rv, q⟩ := hs
    exact fin J rv q
  | next =>
    obtain ⟨σ', H', J, q⟩ := hs
    exact fin (v := V.non) (u := Value.none) J rfl q
  | brk =>
    obtain ⟨_, _, _, q⟩ := hs
    exact False.elim q
  | cont =>
    obtain ⟨_, _, _, q⟩ := hs
    exact False.elim q
theorem FunD.defM {x qual : Str} {st : Stmt} {f : Addr} {fd : FuncData} {ps : List Str} {k : Nat} {sp : Addr → Sp} (F : FunD K x qual st .none f fd) (G : FnOkM P w K mg base k f fd ps sp) (hm : mg x = some (.ref f))
    (h : ∀ (kV doc pm : Value) (an : Option Addr) (cdv ct : Value) (us : List Value), us.length = ps.length → bindArgs (PySem.W.fnOf x qual (defArgs st) (defBody st) (defScope st) .none kV doc pm an cdv ct) ⟨us, []⟩ = pure (ps.zip us)) : DefM P w K mg base k x ps [] sp := by
  obtain ⟨oc, od, kV, doc, pm, an, cdv, ct, osl, rfl, lk, hcd⟩ := F.ex
  exact ⟨f, _, [], G, hm, F.kp, .all (h kV doc pm an cdv ct), .nil⟩
end
section
variable {X : Cx}
theorem pe_callM {k : Nat} {x : Str} {ps : List Str} {ds : List V} {sp : Addr → Sp} {e : Expr} {es : List Expr} {t : TA} {p pos : Pos} {ea : Addr} (D : DefM X.prog X.w X.K X.mg X.base k x ps ds sp) (hr : Room k X.A) (hg : Gl (X.marked ea) x)
    (ha : PA (X.marked ea) (e :: es) t) (hdb : (x == ("__debug__" : Str)) = false := by decide) (he : starEach (e :: es) X.env = (false, eval e X.env) :: starEach es X.env := by rfl) (hpl : (backTo pos (starEach es X.env)).any (·.1) = false := by rfl) :
    PE (X.marked ea) (.Call (.Name x p) (e :: es) [] pos) (tCall (sp ea) ds E0 t) := by
  obtain ⟨f, fd, dvs, F, hm, hk, hb, hd⟩ := D.ex
  intro pins s σ H Q I h
  refine wpAny_Call_Name_kw (ld_glob I hg hm ?_ hdb)
  refine PySem.W.callWith_K (h₀ := X.base) I.ok.mod.kin hk (thn (ha pos pins s σ H _ I h) fun us s1 ⟨vs, H1, I1, r, q⟩ => ⟨I1.kIn, ?_⟩) he hpl
  have r2 : Vals (vs ++ ds) (us ++ dvs) := r.append hd
  have hl : (us ++ dvs).length = ps.length := by rw [← r2.length]; exact F.len _ _ _ _ _ q
  refine wpAny_call (codeAny_mono (F.run X.A ea X.stack s1 H1 ⟨us, []⟩ (us ++ dvs) (vs ++ ds) Q E0 hr I1.env0 (hb s1 us I1.kIn hl) r2 q) fun r s' hq => ?_)
  cases r with
  | error e => exact False.elim hq
  | ok fl =>
    cases fl with
    | ret u => exact I1.after hq
    | next => exact False.elim hq
    | brk => exact False.elim hq
    | cont => exact False.elim hq
end
end L2
set_option Elab.async false
set_option linter.all false
set_option maxRecDepth 100000
namespace L2
open PySem PySem.Spec PyProof.Rows
set_option maxHeartbeats 1600000
section
variable {X : Cx}
end
end L2
set_option Elab.async false
set_option linter.all false
set_option maxRecDepth 100000
namespace L2
open PySem PySem.Spec PyProof.Rows
theorem tuple_addW0 (l b : Addr) (items items2 : Array Value) (n n2 : Nat) (dd dd2 : Option Addr) (sl sl2 : Array (Option Value)) (hc0 : items.isEmpty = true) :
    Meets (Builtin.«tuple.__add__» ⟨[.ref l, .ref b], []⟩) (fun _ R s => s.heap.get? l = some { cls := .type "tuple", dict := dd, data := .seq items n, slots := sl } ∧ s.heap.get? b = some { cls := .type "tuple", dict := dd2, data := .seq items2 n2, slots := sl2 } ∧ R (.ok (.ret (Value.ref b))) { s with heap := s.heap, toks := s.toks }) :=
  .of_wp fun prog w A R s h => by obtain ⟨hp, g, d, tk, os⟩ := s; obtain ⟨hl, hb, h⟩ := h; have f2 := PySem.AutoSeq1.sub_tuple_tuple; wp_walk using wpAny_loadPart' hl, wpAny_loadPart' hb; exact ⟨_, rfl, h⟩
section
variable {X : Cx}
noncomputable def rCatA (K : PySem.W.Frag) : R2 := fun x y H Q => ∃ a b xs ys, x = .ref a ∧ y = .ref b ∧ SqT K H a xs ∧ SqT K H b ys ∧ xs.length + ys.length ≤ sizeLine ∧
  (xs = [] → Q (.ref b) H) ∧ (xs ≠ [] → ys = [] → Q (.ref a) H) ∧ (xs ≠ [] → ys ≠ [] → ∀ p, H p = none → Q (.ref p) (upd H p (.tup (xs ++ ys))))
theorem op_catA : OpR X (binaryOp .Add) (rCatA X.K) := by
  intro pins s σ H x y v u Q I rx ry h
  obtain ⟨a, b, xs, ys, rfl, rfl, ha, hb, hz, q0, q1, q2⟩ := h
  by_cases hx : xs = []
  · cases rx
    cases ry
    obtain ⟨its, r1, p1, _⟩ := I.tuple ha
    obtain ⟨its2, r2, p2, _⟩ := I.tuple hb
    obtain ⟨⟨cls, dd, data, sl⟩, ho, hc, n, hd⟩ := id p1
    obtain ⟨⟨cls2, dd2, data2, sl2⟩, ho2, hc2, n2, hd2⟩ := id p2
    simp only at hc hd hc2 hd2
    subst hc hd hc2 hd2
    exact concat_meets ⟨_, ho, rfl⟩ ⟨_, ho2, rfl⟩ noFill_tuple_add seq_tuple_add PySem.F.slot_tuple_add PySem.F.entry_tuple_add (PySem.F.args_tuple_add_2 _ _)
      (tuple_addW0 a b its.toArray its2.toArray n n2 dd dd2 sl sl2 (by rw [r1.nil_iff.mpr hx]; rfl)) ⟨ho, ho2, ⟨.ref b, H, I, rfl, q0 hx⟩⟩
  · exact op_catT pins s σ H _ _ v u Q I rx ry ⟨a, b, xs, ys, rfl, rfl, ha, hb, hx, hz, q1 hx, q2 hx⟩
end
end L2
set_option Elab.async false
set_option linter.all false
namespace L2
open PySem PySem.Spec PyProof.Rows
section
variable {X : Cx} {e : Expr} {te : TE} {e3 : Expr} {ts : TO} {pos p2 : Pos}
noncomputable def tSlRev (K : PySem.W.Frag) (te : TE) (ts : TO) : TE := fun σ H Q => te σ H fun x H1 => ts σ H1 fun o H2 => o = some (-1) ∧ ∃ a xs, x = .ref a ∧ SqL K H2 a xs ∧ ∀ p, H2 p = none → Q (.ref p) (upd H2 p (.lst xs.reverse))
theorem vals_reverse {xs : List V} {us : List Value} (r : Vals xs us) : Vals xs.reverse us.reverse := by
  induction r with
  | nil => exact .nil
  | cons h t ih =>
    rw [List.reverse_cons, List.reverse_cons]
    exact ih.append (.cons h .nil)
theorem pe_sliceRev (K : PySem.W.Frag) (hK : X.K = K) (he : PE X e te) (hs : PO X (some e3) ts) : PE X (.Subscript e (.Slice none none (some e3) p2) pos) (tSlRev K te ts) := by
  subst hK
  intro pins s σ H Q I h
  refine Subscript_ (thn (he pins s σ H _ I h) fun v s1 ⟨x, H1, I1, r1, q1⟩ => ?_)
  refine wpAny_Slice ?_
  rw [evalPart_none]
  refine wpAny_pure (wpAny_pure ?_)
  refine thn (hs pins s1 σ H1 _ I1 q1) fun vk s3 ⟨o, H3, I3, pk, q3⟩ => ?_
  obtain ⟨rfl, a, xs, rfl, hx, q⟩ := q3
  cases r1
  have I4 : Inv X pins σ H3 { s3 with heap := s3.heap.push { cls := .type "slice", data := .fields #[.none, .none, vk] } } := I3.kept (t' := s3.toks) fun b ob q => Heap.get?_push_of_some _ q
  show wpAny (model X.prog X.w) X.A (subscriptTail e (.Slice none none (some e3) p2) (.ref a) (.ref s3.heap.objs.size)) (EP X pins σ Q) X.xe { s3 with heap := s3.heap.push { cls := .type "slice", data := .fields #[.none, .none, vk] } }
  obtain ⟨its, r, ht, hz⟩ := I4.list hx
  have hlen := r.length
  refine tail_any (ops := [.ref a, .ref s3.heap.objs.size]) ht.isList.typeIs slot_list_getitem.lookup ?_ (by with_unfolding_all rfl)
  refine wpAny_getItem_list_slice ht.isList (Heap.IsSliceOf.new ..) .none .none pk (by decide) ?_ (by rw [List.size_toArray] <;> omega)
  rw [PySem.W.krv_pick]
  refine ⟨.ref _, _, I4.laid (t' := s3.toks) (o := .lst xs.reverse) (fun b ob q => Heap.get?_push_of_some _ q) (Nat.le_refl _) ?_, rfl, q _ (I4.hok.fresh (Nat.le_refl _))⟩
  exact ⟨by rw [List.length_reverse]; exact hz, _, 0, vals_reverse r, Heap.get?_push_size _ rfl⟩
end
end L2
set_option Elab.async false
set_option linter.all false
set_option maxRecDepth 100000
namespace L2
open PySem PySem.Spec PyProof.Rows
section
variable {P : Program} {w : World} {H : Hp} {h : Heap}
end
section
variable {X : Cx}
end
end L2
set_option Elab.async false
set_option linter.all false
set_option maxRecDepth 100000
namespace L2
open PySem PySem.Spec PyProof.Rows
section
variable {P : Program} {w : World} {K : PySem.W.Frag} {mg : Str → Option Value} {base : Heap}
end
section
variable {X : Cx}
end
end L2
set_option Elab.async false
set_option linter.all false
set_option maxRecDepth 100000
namespace L2
open PySem PySem.Spec PyProof.Rows
section
variable {P : Program} {w : World} {K : PySem.W.Frag} {mg : Str → Option Value} {base : Heap}
end
end L2
set_option Elab.async false
set_option linter.all false
set_option maxRecDepth 100000
namespace L2
open PySem PySem.Spec PyProof.Rows
section
variable {X : Cx}
end
end L2
set_option Elab.async false
set_option linter.all false
set_option maxRecDepth 100000
namespace L2
open PySem PySem.Spec PyProof.Rows
set_option maxHeartbeats 1600000
section
variable {X : Cx}
end
end L2
set_option Elab.async false
set_option linter.all false
set_option maxRecDepth 100000
namespace L2
open PySem PySem.Spec PyProof.Rows
noncomputable def rInD (K : PySem.W.Frag) (neg : Bool) (n : Nat) : R2 := fun x y H Q => ∃ (p : Addr) (xs : List V) (be : V → Bool), y = .ref p ∧ SqL K H p xs ∧ (∀ z ∈ xs, EqD K H n z x (be z)) ∧ Q (.bl (if neg then !(xs.any be) else xs.any be)) H
theorem any_toV {be : V → Bool} : ∀ {xs : List V} {us : List Value}, Vals xs us → us.any (fun w => be (toV w)) = xs.any be
  | _, _, .nil => rfl
  | _, _, .cons r t => by rw [List.any_cons, List.any_cons, any_toV t, toV_rel r]
section
variable {X : Cx}
theorem inD_at {pins : List (Addr × Obj)} {s : Shared} {σ : St} {H : Hp} {n : Nat} (hn : n ≤ 30) (hu : X.A.units + 64 < cLine) (I : Inv X pins σ H s) {x : V} {v : Value} (rx : RelV x v) {be : V → Bool} : ∀ {xs : List V} {us : List Value}, Vals xs us → (∀ z ∈ xs, EqD X.K H n z x (be z)) → ∀ u ∈ us, SeqAt.EqAt X.A.in1 s u v (be (toV u))
  | _, _, .nil, _, u, hu' => nomatch hu'
  | z :: xs, w :: us, .cons r t, he, u, hu' => by
    rcases List.mem_cons.mp hu' with e | hm
    · rw [e, toV_rel r]
      refine eqD_at I n X.A.in1 ?_ _ _ _ _ _ (he z List.mem_cons_self) r rx
      show X.A.units + 1 + n < cLine
      omega
    · exact inD_at hn hu I rx t (fun z hz => he z (List.mem_cons_of_mem _ hz)) u hm
theorem op_inD (K : PySem.W.Frag) (hK : X.K = K) (n : Nat) (hn : n ≤ 30) (hu : X.A.units + 64 < cLine) : OpR X (compareOp .In) (rInD K false n) := by
  subst hK
  intro pins s σ H x y v u Q I rx ry h
  obtain ⟨p, xs, be, rfl, hq, he, q⟩ := h
  cases ry
  obtain ⟨its, r, pl, hz⟩ := I.list hq
  refine SeqAt.in_listAt (fun w => be (toV w)) pl.isList (fun w hw => inD_at hn hu I rx r he w (by simpa using hw)) ⟨.bl _, H, I, rfl, ?_⟩
  rw [show its.toArray.any (fun w => be (toV w)) = its.any (fun w => be (toV w)) by simp, any_toV r]
  exact q
theorem op_notInD (K : PySem.W.Frag) (hK : X.K = K) (n : Nat) (hn : n ≤ 30) (hu : X.A.units + 64 < cLine) : OpR X (compareOp .NotIn) (rInD K true n) := by
  subst hK
  intro pins s σ H x y v u Q I rx ry h
  obtain ⟨p, xs, be, rfl, hq, he, q⟩ := h
  cases ry
  obtain ⟨its, r, pl, hz⟩ := I.list hq
  refine SeqAt.notIn_listAt (fun w => be (toV w)) pl.isList (fun w hw => inD_at hn hu I rx r he w (by simpa using hw)) ⟨.bl _, H, I, rfl, ?_⟩
  rw [show its.toArray.any (fun w => be (toV w)) = its.any (fun w => be (toV w)) by simp, any_toV r]
  exact q
end
end L2
namespace M4
end M4
set_option Elab.async false
set_option linter.all false
set_option maxRecDepth 100000
set_option maxHeartbeats 4000000
namespace K16
open PySem L2 M4
noncomputable def top (i : Nat) : Stmt := PySem.Challenge.pw_cellfolio_k16_a_palette_kept.main.body.getD i (.Pass ⟨0, 0, 0, 0⟩)
noncomputable abbrev s_is_whole_from : Stmt := top 26
noncomputable abbrev s_is_whole_within : Stmt := top 27
noncomputable abbrev s_is_list_of : Stmt := top 28
noncomputable abbrev s_is_colour : Stmt := top 31
noncomputable abbrev s_need_colour : Stmt := top 32
noncomputable abbrev s_apart : Stmt := top 33
noncomputable abbrev s_Palette.__init__ : Stmt := inClass (top 36) 0
noncomputable abbrev s_Palette.colours : Stmt := inClass (top 36) 1
noncomputable abbrev s_Palette.many : Stmt := inClass (top 36) 2
noncomputable abbrev s_Palette.colour_of : Stmt := inClass (top 36) 3
noncomputable abbrev s_Palette.cell_of : Stmt := inClass (top 36) 4
noncomputable abbrev s_Palette.add_colour : Stmt := inClass (top 36) 5
noncomputable abbrev s_Palette.nearest_cell : Stmt := inClass (top 36) 6
noncomputable abbrev s_law_draw : Stmt := top 38
noncomputable abbrev s_law_whole : Stmt := top 39
noncomputable abbrev s_law_word : Stmt := top 40
noncomputable abbrev s_law_colour : Stmt := top 41
noncomputable abbrev s_law_apart : Stmt := top 42
noncomputable abbrev s_law_odd : Stmt := top 43
noncomputable abbrev s_law_pool : Stmt := top 44
noncomputable abbrev s_law_nearest : Stmt := top 45
noncomputable abbrev s_law_asked : Stmt := top 46
noncomputable abbrev s_law_is : Stmt := top 47
noncomputable abbrev s_law_colours_good : Stmt := top 48
noncomputable abbrev s_law_one_good : Stmt := top 49
noncomputable abbrev s_law_stands : Stmt := top 50
noncomputable abbrev s_law_given : Stmt := top 51
noncomputable abbrev s_law_no_palette : Stmt := top 52
noncomputable abbrev s_law : Stmt := top 53
theorem iteB {b : Bool} {A B : Prop} (h1 : b = true → A) (h2 : b = false → B) : if b = true then A else B := by
  cases b with
  | true => exact iteT (h1 rfl)
  | false => exact iteF (h2 rfl)
theorem iteN {b : Bool} {A B : Prop} (h1 : b = false → A) (h2 : b = true → B) : if (!b) = true then A else B := by
  cases b with
  | true => exact iteF (h2 rfl)
  | false => exact iteT (h1 rfl)
noncomputable def isWh (lo hi : Int) : V → Bool
  | .int i => decide (lo ≤ i) && decide (i ≤ hi)
  | _ => false
noncomputable def isWf (lo : Int) : V → Bool
  | .int i => decide (lo ≤ i)
  | _ => false
noncomputable def spWf (K : PySem.W.Frag) : Sp := fun vs H Q _ => ∃ x lo, vs = [x, .int lo] ∧ Kd K H x ∧ Q (.bl (isWf lo x)) H
noncomputable def spWh (K : PySem.W.Frag) : Sp := fun vs H Q _ => ∃ x lo hi, vs = [x, .int lo, .int hi] ∧ Kd K H x ∧ Q (.bl (isWh lo hi x)) H
structure Txt (K : PySem.W.Frag) (mg : Str → Option Value) (cFE cC cN cM cP cL : Addr) (tP tS : Tok) : Prop where
  len : mg "len" = none
  range : mg "range" = none
  isinstance : mg "isinstance" = none
  int : mg "int" = none
  bool : mg "bool" = none
  list : mg "list" = none
  all : mg "all" = none
  enumerate : mg "enumerate" = none
  min : mg "min" = none
  sum : mg "sum" = none
  tuple : mg "tuple" = none
  set : mg "set" = none
  ValueError : mg "ValueError" = none
  MOST_PART : mg "MOST_PART" = some (.int 255 tP)
  MOST_COLOURS : mg "MOST_COLOURS" = some (.int 16 tS)
  FolioError : mg "FolioError" = some (.ref cFE)
  BadColour : mg "BadColour" = some (.ref cC)
  xBadColour : PySem.W.excIn K cC mroVE "ValueError.__new__" = true
  kC : XCls K cC
  eC : PySem.W.exmOne K (.ref cC) (.ref cFE) = some true
  NoColour : mg "NoColour" = some (.ref cN)
  xNoColour : PySem.W.excIn K cN mroVE "ValueError.__new__" = true
  kN : XCls K cN
  eN : PySem.W.exmOne K (.ref cN) (.ref cFE) = some true
  TooMany : mg "TooMany" = some (.ref cM)
  xTooMany : PySem.W.excIn K cM mroVE "ValueError.__new__" = true
  kM : XCls K cM
  eM : PySem.W.exmOne K (.ref cM) (.ref cFE) = some true
  BadPalette : mg "BadPalette" = some (.ref cP)
  xBadPalette : PySem.W.excIn K cP mroVE "ValueError.__new__" = true
  kP : XCls K cP
  eP : PySem.W.exmOne K (.ref cP) (.ref cFE) = some true
  cl : Cls K cL
  nK : NoAttr K cL "kept"
theorem boot_VE : bootBuiltins "ValueError" = some (.type "ValueError") := by decide +kernel
section
variable {P : Program} {w : World} {K : PySem.W.Frag} {mg : Str → Option Value} {base : Heap} {cFE cC cN cM cP cL : Addr} {tP tS : Tok}
theorem sc_is_whole_from : FnScope ["thing", "least"] ["thing", "least"] (defScope s_is_whole_from) := ⟨rfl, rfl, rfl, by decide +kernel, rfl, by decide +kernel, by decide +kernel⟩
theorem ok_is_whole_from {f : Addr} {fd : FuncData} (F : FunD K "is_whole_from" "is_whole_from" s_is_whole_from .none f fd) (T : Txt K mg cFE cC cN cM cP cL tP tS) : FnOk P w K mg base CX0 1 f fd ["thing", "least"] (spWf K) := by
  refine F.ok sc_is_whole_from (fun vs H Q E h => ?_) (fun cdv A outer s H vs Q E hr h => ?_)
  · obtain ⟨x, lo, rfl, _⟩ := h; rfl
  · obtain ⟨x, lo, rfl, kd, k⟩ := h
    refine ⟨_, (pss_cons (ps_if (PW.pt (pw_or (pt_not (pt_val (isiK K rfl (pv 0) rfl T.isinstance rfl T.int PyProof.Rows.boot_int))) (pw_or1 (pt_val (isiK K rfl (pv 0) rfl T.isinstance rfl T.bool PyProof.Rows.boot_bool))))) (pss_one (ps_ret pe_bl)) pss_nil)
        (pss_one (ps_ret (pe_cmpR op_le (pv 1) (pv 0) (nomark _))))), ?_⟩
    have fl : isWf lo x = false → Q (.bl false) H := fun e => by rw [e] at k; exact k
    refine ⟨_, rfl, _, kd.isInt, _, rfl, iteN (fun hI => (fl ?_)) (fun hI => ⟨_, rfl, _, kd.isBool, _, rfl, iteB (fun hB => (fl ?_)) (fun hB => ?_)⟩)⟩
    · cases x <;> first | rfl | cases hI
    · cases x <;> first | rfl | cases hB
    · cases x with
      | int i => exact ⟨_, rfl, _, rfl, _, _, rfl, rfl, k⟩
      | bl b => cases hB
      | _ => cases hI
theorem sc_is_whole_within : FnScope ["thing", "least", "most"] ["thing", "least", "most"] (defScope s_is_whole_within) := ⟨rfl, rfl, rfl, by decide +kernel, rfl, by decide +kernel, by decide +kernel⟩
theorem ok_is_whole_within {f : Addr} {fd : FuncData} (F : FunD K "is_whole_within" "is_whole_within" s_is_whole_within .none f fd) (g_is_whole_from : Def P w K mg base 1 "is_whole_from" ["thing", "least"] [] (spWf K)) : FnOk P w K mg base CX0 2 f fd ["thing", "least", "most"] (spWh K) := by
  refine F.ok sc_is_whole_within (fun vs H Q E h => ?_) (fun cdv A outer s H vs Q E hr h => ?_)
  · obtain ⟨x, lo, hi, rfl, _⟩ := h; rfl
  · obtain ⟨x, lo, hi, rfl, kd, k⟩ := h
    refine ⟨_, (pss_one (ps_ret (pe_and (pe_callD g_is_whole_from (hr.mono (by decide)) rfl (pa_cons (pv 0) (pa_cons (pv 1) pa_nil))) (pe_one (pe_cmpR op_le (pv 0) (pv 2) (nomark _)))))), ?_⟩
    refine ⟨_, rfl, _, rfl, x, lo, rfl, kd, _, rfl, iteB (fun h1 => ?_) (fun h1 => ?_)⟩
    · cases x with
      | int i =>
        refine ⟨_, rfl, _, rfl, _, _, rfl, rfl, ?_⟩
        have h2 : decide (lo ≤ i) = true := h1
        simpa only [isWh, h2, Bool.true_and] using k
      | _ => cases h1
    · have e : isWh lo hi x = false := by
        cases x with
        | int i =>
          have h2 : decide (lo ≤ i) = false := h1
          simp only [isWh, h2, Bool.false_and]
        | _ => rfl
      rw [e] at k
      exact k
theorem all_map_id {α : Type} (f : α → Bool) (xs : List α) : (xs.map f).all id = xs.all f := by
  induction xs with
  | nil => rfl
  | cons x r ih => rw [List.map_cons, List.all_cons, List.all_cons, ih]; rfl
theorem filter_t {α : Type} (xs : List α) : xs.filter (fun _ => true) = xs := List.filter_eq_self.mpr fun _ _ => rfl
end
end K16
set_option Elab.async false
set_option linter.all false
set_option maxRecDepth 100000
set_option maxHeartbeats 1600000
namespace K16
open PySem L2 M4
theorem piTK {X : Cx} {tg : Expr} (K : PySem.W.Frag) (h : X.K = K) {e : Expr} {te : TE} (he : PE X e te) : PI X tg e (iTup K te) := by subst h; exact pi_tup he
theorem ixTK {X : Cx} (K : PySem.W.Frag) (h : X.K = K) : IxR X (rIxT K) := by subst h; exact ix_tup
theorem src_tup {K : PySem.W.Frag} {a : Addr} {xs : List V} {H : Hp} (h : SqT K H a xs) : Src (Itt K a) xs H := fun H' sm =>
  ⟨fun i x e => ⟨⟨xs, x, sm.seqT h, e⟩, fun y H2 ⟨q1, q2⟩ => ⟨by have := q2 xs (sm.seqT h); rw [e] at this; exact (Option.some.inj this).symm, q1⟩⟩, ⟨xs, sm.seqT h, Nat.le_refl _⟩⟩
noncomputable def tupOf (H : Hp) : V → Option (List V)
  | .ref b => match H b with
    | some (.tup xs) => some xs
    | _ => none
  | _ => none
noncomputable def colB (H : Hp) (v : V) : Bool := match tupOf H v with
  | some xs => decide (xs.length = 3) && xs.all (isWh 0 255)
  | none => false
structure TC (K : PySem.W.Frag) (H : Hp) (v : V) : Prop where
  kd : Kd K H v
  len : ∀ xs, tupOf H v = some xs → xs.length ≤ 1000
  it : ∀ xs, tupOf H v = some xs → ∀ x ∈ xs, Kd K H x
section
variable {K : PySem.W.Frag} {H H' : Hp} {v : V}
theorem tupOf_tup {a : Addr} {xs : List V} (e : H a = some (.tup xs)) : tupOf H (.ref a) = some xs := by simp only [tupOf, e]
theorem tupOf_ref {xs : List V} (h : tupOf H v = some xs) : ∃ a, v = .ref a ∧ H a = some (.tup xs) := by
  cases v with
  | ref a =>
    simp only [tupOf] at h
    cases e : H a with
    | none => rw [e] at h; cases h
    | some o =>
      rw [e] at h
      cases o with
      | tup ys => cases h; exact ⟨a, rfl, e⟩
      | _ => cases h
  | _ => cases h
theorem tupOf_mono (k : Kd K H v) (s : Same H H') : tupOf H' v = tupOf H v := by
  cases k with
  | lst e => simp only [tupOf, e, s _ _ e]
  | tup e => simp only [tupOf, e, s _ _ e]
  | dict e => simp only [tupOf, e, s _ _ e, DictO]
  | _ => rfl
theorem isT_tup (k : Kd K H v) : isT H v = (tupOf H v).isSome := by
  cases k with
  | lst e => simp only [isT, tupOf, e]; rfl
  | tup e => simp only [isT, tupOf, e]; rfl
  | dict e => simp only [isT, tupOf, e, DictO]; rfl
  | _ => rfl
theorem TC.mono (t : TC K H v) (s : Same H H') : TC K H' v := by
  have e := tupOf_mono t.kd s
  exact ⟨t.kd.mono s, fun xs h => t.len xs (by rw [← e]; exact h), fun xs h x hx => (t.it xs (by rw [← e]; exact h) x hx).mono s⟩
theorem colB_mono (t : TC K H v) (s : Same H H') : colB H' v = colB H v := by unfold colB; rw [tupOf_mono t.kd s]
theorem TC.other (k : Kd K H v) (h : tupOf H v = none) : TC K H v := ⟨k, fun xs e => (by rw [h] at e; cases e), fun xs e => (by rw [h] at e; cases e)⟩
theorem TC.tup {a : Addr} {xs : List V} (e : H a = some (.tup xs)) (hl : xs.length ≤ 1000) (hk : ∀ x ∈ xs, Kd K H x) : TC K H (.ref a) :=
  ⟨.tup e, fun ys h => (by rw [tupOf_tup e] at h; cases h; exact hl), fun ys h => (by rw [tupOf_tup e] at h; cases h; exact hk)⟩
end
structure Col (H : Hp) (a : Addr) (r g b : Nat) : Prop where
  top : H a = some (.tup [.int (r : Int), .int (g : Int), .int (b : Int)])
  lr : r ≤ 255
  lg : g ≤ 255
  lb : b ≤ 255
section
variable {K : PySem.W.Frag} {H H' : Hp} {a : Addr} {r g b : Nat}
theorem Col.mono (c : Col H a r g b) (s : Same H H') : Col H' a r g b := ⟨s _ _ c.top, c.lr, c.lg, c.lb⟩
theorem Col.tc (c : Col H a r g b) : TC K H (.ref a) := TC.tup c.top (by show 3 ≤ 1000; decide) fun x hx => by
  simp only [List.mem_cons, List.not_mem_nil, or_false] at hx
  rcases hx with rfl | rfl | rfl <;> exact .int _
theorem wh255 {n : Nat} (h : n ≤ 255) : isWh 0 255 (.int (n : Int)) = true := by simp only [isWh, Bool.and_eq_true, decide_eq_true_eq]; omega
theorem Col.yes (c : Col H a r g b) : colB H (.ref a) = true := by
  unfold colB
  rw [tupOf_tup c.top]
  simp only [List.all_cons, List.all_nil, wh255 c.lr, wh255 c.lg, wh255 c.lb]
  rfl
theorem wh_nat {lo hi : Nat} {v : V} (h : isWh lo hi v = true) : ∃ n : Nat, v = .int (n : Int) ∧ lo ≤ n ∧ n ≤ hi := by
  cases v with
  | int i =>
    simp only [isWh, Bool.and_eq_true, decide_eq_true_eq] at h
    exact ⟨i.toNat, by congr 1; omega, by omega, by omega⟩
  | _ => cases h
theorem col_of {v : V} (h : colB H v = true) : ∃ a r g b, v = .ref a ∧ Col H a r g b := by
  unfold colB at h
  cases hx : tupOf H v with
  | none => rw [hx] at h; cases h
  | some xs =>
    rw [hx] at h
    obtain ⟨a, rfl, e⟩ := tupOf_ref hx
    have h := Bool.and_eq_true_iff.mp h
    have hl := of_decide_eq_true h.1
    obtain ⟨x, y, z, rfl⟩ : ∃ x y z, xs = [x, y, z] := by
      match xs, hl with
      | [x, y, z], _ => exact ⟨x, y, z, rfl⟩
    simp only [List.all_cons, List.all_nil, Bool.and_true, Bool.and_eq_true] at h
    obtain ⟨r, rfl, _, lr⟩ := wh_nat (lo := 0) (hi := 255) h.2.1
    obtain ⟨g, rfl, _, lg⟩ := wh_nat (lo := 0) (hi := 255) h.2.2.1
    obtain ⟨b, rfl, _, lb⟩ := wh_nat (lo := 0) (hi := 255) h.2.2.2
    exact ⟨a, r, g, b, rfl, e, lr, lg, lb⟩
theorem Col.inj {r' g' b' : Nat} (c : Col H a r g b) (c' : Col H a r' g' b') : r = r' ∧ g = g' ∧ b = b' := by
  have e := c.top
  rw [c'.top] at e
  simp only [Option.some.injEq, HO.tup.injEq, List.cons.injEq, V.int.injEq, and_true] at e
  omega
end
noncomputable def spIsCol (K : PySem.W.Frag) : Sp := fun vs H Q _ => ∃ v, vs = [v] ∧ TC K H v ∧ ∀ H', Same H H' → Q (.bl (colB H v)) H'
noncomputable def spNeedC (K : PySem.W.Frag) (cC : Addr) : Sp := fun vs H Q E => ∃ v, vs = [v] ∧ TC K H v ∧ (colB H v = true → ∀ H', Same H H' → Q .non H') ∧ (colB H v = false → ∀ H', Same H H' → E (.ref cC) none H')
noncomputable def rowOf (H : Hp) : V → Option (List V)
  | .ref b => match H b with
    | some (.lst ys) => some ys
    | _ => none
  | _ => none
section
variable {K : PySem.W.Frag} {H H' : Hp} {x : V}
theorem rowOf_lst {a : Addr} {ys : List V} (e : H a = some (.lst ys)) : rowOf H (.ref a) = some ys := by simp only [rowOf, e]
theorem rowOf_ref {ys : List V} (h : rowOf H x = some ys) : ∃ a, x = .ref a ∧ H a = some (.lst ys) := by
  cases x with
  | ref a =>
    refine ⟨a, rfl, ?_⟩
    unfold rowOf at h
    dsimp only at h
    split at h
    · rename_i zs e; cases h; exact e
    · cases h
  | _ => cases h
theorem rowOf_mono (k : Kd K H x) (s : Same H H') : rowOf H' x = rowOf H x := by
  cases k with
  | lst e => rw [rowOf_lst e, rowOf_lst (s _ _ e)]
  | tup e => simp only [rowOf, e, s _ _ e]
  | dict e => simp only [rowOf, e, s _ _ e, DictO]
  | _ => rfl
theorem isL_row (k : Kd K H x) : isL H x = (rowOf H x).isSome := by
  cases k with
  | lst e => simp only [isL, rowOf, e]; rfl
  | tup e => simp only [isL, rowOf, e]; rfl
  | dict e => simp only [isL, rowOf, e, DictO]; rfl
  | _ => rfl
end
noncomputable def sq2 (x y : Nat) : Int := ((x : Int) - (y : Int)) ^ 2
noncomputable def distI (r g b r' g' b' : Nat) : Int := [sq2 r r', sq2 g g', sq2 b b'].sum
noncomputable def ColsV (H : Hp) (a : Addr) (cs : List (Addr × Nat × Nat × Nat)) : Prop := H a = some (.lst (cs.map fun c => V.ref c.1)) ∧ ∀ c ∈ cs, Col H c.1 c.2.1 c.2.2.1 c.2.2.2
theorem ColsV.mono {H H' : Hp} {a : Addr} {cs : List (Addr × Nat × Nat × Nat)} (v : ColsV H a cs) (s : Same H H') : ColsV H' a cs := ⟨s _ _ v.1, fun c hc => (v.2 c hc).mono s⟩
theorem cols_of {H : Hp} : ∀ {xs : List V}, xs.all (colB H) = true → ∃ cs : List (Addr × Nat × Nat × Nat), xs = cs.map (fun c => V.ref c.1) ∧ ∀ c ∈ cs, Col H c.1 c.2.1 c.2.2.1 c.2.2.2
  | [], _ => ⟨[], rfl, fun c hc => nomatch hc⟩
  | x :: r, h => by
    rw [List.all_cons, Bool.and_eq_true] at h
    obtain ⟨a, p, q, s, rfl, c⟩ := col_of h.1
    obtain ⟨cs, rfl, hc⟩ := cols_of h.2
    refine ⟨(a, p, q, s) :: cs, rfl, fun d hd => ?_⟩
    rcases List.mem_cons.mp hd with rfl | hd
    · exact c
    · exact hc d hd
theorem ColsV.yes {H : Hp} {a : Addr} {cs : List (Addr × Nat × Nat × Nat)} (v : ColsV H a cs) : (cs.map fun c => V.ref c.1).all (colB H) = true := by
  rw [List.all_eq_true]
  intro x hx
  obtain ⟨c, hc, rfl⟩ := List.mem_map.mp hx
  exact (v.2 c hc).yes
noncomputable def spApart (K : PySem.W.Frag) (cC : Addr) : Sp := fun vs H Q E => ∃ u v, vs = [u, v] ∧ TC K H u ∧ TC K H v ∧ (∀ a r g b a' r' g' b', u = .ref a → Col H a r g b → v = .ref a' → Col H a' r' g' b' → ∀ H', Same H H' → Q (.int (distI r g b r' g' b')) H') ∧ ((colB H u && colB H v) = false → ∀ H', Same H H' → E (.ref cC) none H')
noncomputable def spLocC (K : PySem.W.Frag) (fC : Addr) : Sp := fun vs H Q _ => ∃ x, vs = [x, .ref fC] ∧ ((∃ a xs, x = .ref a ∧ H a = some (.lst xs) ∧ xs.length ≤ 1000000 ∧ (∀ y ∈ xs, TC K H y) ∧ ∀ H', Same H H' → Q (.bl (xs.all (colB H))) H') ∨ (Kd K H x ∧ isL H x = false ∧ Q (.bl false) H))
section
variable {P : Program} {w : World} {K : PySem.W.Frag} {mg : Str → Option Value} {base : Heap} {cFE cC cN cM cP cL : Addr} {tP tS : Tok}
theorem sc_is_colour : FnScope ["thing"] ["thing"] (defScope s_is_colour) := ⟨rfl, rfl, rfl, by decide +kernel, rfl, by decide +kernel, by decide +kernel⟩
theorem ok_is_colour {f : Addr} {fd : FuncData} (F : FunD K "is_colour" "is_colour" s_is_colour .none f fd) (T : Txt K mg cFE cC cN cM cP cL tP tS) (g_is_whole_within : Def P w K mg base 2 "is_whole_within" ["thing", "least", "most"] [] (spWh K)) : FnOk P w K mg base CX0 3 f fd ["thing"] (spIsCol K) := by
  refine F.ok sc_is_colour (fun vs H Q E h => ?_) (fun cdv A outer s H vs Q E hr h => ?_)
  · obtain ⟨v, rfl, _⟩ := h; rfl
  · obtain ⟨v, rfl, t, k⟩ := h
    refine ⟨_, (pss_cons (ps_if (PW.pt (pw_or (pt_not (pt_val (isiK K rfl (pv 0) rfl T.isinstance rfl T.tuple PyProof.Rows.boot_tuple))) (pw_or1 (pt_cmpR op_ne (pe_callB (lenK K rfl) rfl T.len PySem.boot_len (pa_cons (pv 0) pa_nil)) pe_int (nomark _))))) (pss_one (ps_ret pe_bl)) pss_nil)
        (pss_one (ps_ret (pe_callB (allK K rfl rfl) rfl T.all PyProof.Rows.boot_all (pa_cons (pe_comp (N := ["part"]) (src := [none]) rfl ⟨rfl, rfl, rfl, rfl, rfl, by decide +kernel⟩ (piTK K rfl (pv 0)) (fun s H C fp => pg_name (i := 0) (show (["part"] : List Str).Nodup by decide +kernel) rfl (by first | exact Or.inl rfl | exact Or.inr rfl)) (fun s H C fp => pts_nil) (fun s H C fp => (pe_callD g_is_whole_within (hr.mono (by decide)) rfl (pa_cons (pv 0) (pa_cons pe_int (pa_cons (pe_glob (v := .int 255) rfl T.MOST_PART ⟨_, rfl⟩) pa_nil)))))) pa_nil))))), ?_⟩
    cases hx : tupOf H v with
    | none =>
      have e : colB H v = false := by unfold colB; rw [hx]
      rw [e] at k
      refine ⟨_, rfl, _, t.kd.isTuple, _, rfl, ?_⟩
      rw [isT_tup t.kd, hx]
      exact k H (Same.refl H)
    | some xs =>
      obtain ⟨a, rfl, e⟩ := tupOf_ref hx
      have eb : colB H (.ref a) = (decide (xs.length = 3) && xs.all (isWh 0 255)) := by unfold colB; rw [hx]
      rw [eb] at k
      refine ⟨_, rfl, _, t.kd.isTuple, _, rfl, ?_⟩
      rw [isT_tup t.kd, hx]
      refine ⟨_, rfl, a, _, rfl, .inr (SqT.of e), rfl, _, rfl, iteN (fun h => ?_) (fun h => ?_)⟩
      · have : xs.length ≠ 3 := fun z => of_decide_eq_false h (by rw [z]; rfl)
        rw [decide_eq_false this, Bool.false_and] at k
        exact k H (Same.refl H)
      have h3 : xs.length = 3 := by
        have := of_decide_eq_true h
        injection this with this
        omega
      rw [decide_eq_true h3, Bool.true_and] at k
      refine ⟨_, rfl, a, rfl, ⟨_, SqT.of e⟩, fun D hD => ?_⟩
      refine comp_fm (k := 0) (fun x => .bl (isWh 0 255 x)) (fun _ => true) (src_tup (SqT.of e)) (by rw [h3]; decide) hD (fun x _ H' Qb _ kk => kk H' (Same.refl _)) (fun x hx2 _ H' Q' sm kk => ⟨_, rfl, x, 0, 255, rfl, (t.it xs hx x hx2).mono sm, kk H' (Same.refl _)⟩) fun H1 s1 hD1 => ?_
      refine ⟨D, xs.map (isWh 0 255), rfl, SqL.of (by rw [hD1, filter_t, List.map_map]; rfl), ?_⟩
      rw [all_map_id]
      exact k H1 s1
theorem sc_need_colour : FnScope ["colour"] ["colour"] (defScope s_need_colour) := ⟨rfl, rfl, rfl, by decide +kernel, rfl, by decide +kernel, by decide +kernel⟩
theorem ok_need_colour {f : Addr} {fd : FuncData} (F : FunD K "need_colour" "need_colour" s_need_colour .none f fd) (T : Txt K mg cFE cC cN cM cP cL tP tS) (g_is_colour : Def P w K mg base 3 "is_colour" ["thing"] [] (spIsCol K)) : FnOk P w K mg base (CX1 P w) 4 f fd ["colour"] (spNeedC K cC) := by
  refine F.okX sc_need_colour (fun vs H Q E h => ?_) (fun cdv A outer s H vs Q E hr h => ?_)
  · obtain ⟨v, rfl, _⟩ := h; rfl
  · obtain ⟨v, rfl, t, kY, kN⟩ := h
    refine ⟨_, (pss_one (ps_if (pt_not (pt_val (pe_callD g_is_colour (hr.mono (by decide)) rfl (pa_cons (pv 0) pa_nil)))) (pss_one (ps_raise rfl raises1 rfl T.BadColour T.xBadColour (pa_cons pe_str pa_nil))) pss_nil)), ?_⟩
    exact ⟨_, rfl, v, rfl, t, fun H1 s1 => ⟨_, rfl, iteN (fun h => ⟨by show 1 ≤ sizeLine; decide, kN h H1 s1⟩) (fun h => kY h H1 s1)⟩⟩
theorem sc_apart : FnScope ["one", "other"] ["one", "other"] (defScope s_apart) := ⟨rfl, rfl, rfl, by decide +kernel, rfl, by decide +kernel, by decide +kernel⟩
theorem ok_apart {f : Addr} {fd : FuncData} (F : FunD K "apart" "apart" s_apart .none f fd) (T : Txt K mg cFE cC cN cM cP cL tP tS) (g_need_colour : DefX P w K mg base 4 "need_colour" ["colour"] [] (spNeedC K cC)) : FnOk P w K mg base (CX1 P w) 5 f fd ["one", "other"] (spApart K cC) := by
  refine F.okX sc_apart (fun vs H Q E h => ?_) (fun cdv A outer s H vs Q E hr h => ?_)
  · obtain ⟨u, v, rfl, _⟩ := h; rfl
  · obtain ⟨u, v, rfl, tu, tv, kY, kN⟩ := h
    refine ⟨_, (pss_cons (ps_expr (pe_callX g_need_colour (hr.mono (by decide)) passes1R rfl (pa_cons (pv 0) pa_nil)))
        (pss_cons (ps_expr (pe_callX g_need_colour (hr.mono (by decide)) passes1R rfl (pa_cons (pv 1) pa_nil)))
        (pss_one (ps_ret (pe_callB (call_sum rfl) rfl T.sum PyProof.Rows.boot_sum (pa_cons (pe_comp (N := ["place", "part", "other"]) (src := [none, none, some 1]) rfl ⟨rfl, rfl, rfl, rfl, rfl, by decide +kernel⟩ (pi_enumT K rfl rfl T.enumerate (pa_cons (pv 0) pa_nil)) (fun s H C fp => (pg_tupK (n := 2) K rfl rfl (pgs_cons (pg_name (i := 0) (show (["place", "part", "other"] : List Str).Nodup by decide +kernel) rfl (by first | exact Or.inl rfl | exact Or.inr rfl)) (pgs_cons (pg_name (i := 1) (show (["place", "part", "other"] : List Str).Nodup by decide +kernel) rfl (by first | exact Or.inl rfl | exact Or.inr rfl)) pgs_nil)))) (fun s H C fp => pts_nil) (fun s H C fp => (pe_op op_pow (pe_op op_sub (pv 1) (pe_ix (ixTK K rfl) (pv 2) (pv 0) (fun _ _ => rfl))) pe_int))) pa_nil)))))), ?_⟩
    refine ⟨_, rfl, u, rfl, tu, fun hu H1 s1 => ?_, fun hu => kN (by rw [hu]; rfl)⟩
    refine ⟨_, rfl, v, rfl, tv.mono s1, fun hv H2 s2 => ?_, fun hv H2 s2 => kN (by rw [colB_mono tv s1] at hv; rw [hv, Bool.and_false]) H2 (s1.trans s2)⟩
    rw [colB_mono tv s1] at hv
    obtain ⟨a, r, g, b, rfl, c⟩ := col_of hu
    obtain ⟨a', r', g', b', rfl, c'⟩ := col_of hv
    have s12 := s1.trans s2
    have d := c.mono s12
    have d' := c'.mono s12
    have kY := kY a r g b a' r' g' b' rfl c rfl c'
    refine ⟨_, rfl, a, rfl, ⟨_, SqT.of d.top⟩, fun D hD => ?_⟩
    refine comp2_fm (k1 := 0) (k2 := 1) (fun p => match p with | (.int i, .int x) => .int ((x - (([r', g', b'].getD i.toNat 0 : Nat) : Int)) ^ 2) | _ => .non) (fun _ => true) (src2_enumT (SqT.of d.top)) (by rw [enumL_len]; show 3 ≤ sizeLine; decide) hD (fun x _ H' Qb _ kk => kk H' (Same.refl _)) (fun x hx _ H' Q' sm kk => ?_) fun H3 s3 hD3 => ?_
    · obtain ⟨i, hi⟩ := List.mem_iff_getElem?.mp hx
      obtain ⟨y, e1, rfl⟩ := enumL_at hi
      have tt := kk H' (Same.refl _)
      have top' := sm _ _ d'.top
      have bd : ∀ {m n : Nat}, m ≤ 255 → n ≤ 255 → ((m : Int) - (n : Int)).natAbs < 2 ^ 64 := fun {m n} h1 h2 => by omega
      match i, e1 with
      | 0, e1 => cases e1; exact ⟨_, rfl, _, rfl, _, rfl, a', _, _, _, rfl, rfl, SqT.of top', atI_nat (j := 0) rfl, _, _, rfl, rfl, _, _, rfl, rfl, ⟨by decide, by decide, bd c.lr c'.lr⟩, tt⟩
      | 1, e1 => cases e1; exact ⟨_, rfl, _, rfl, _, rfl, a', _, _, _, rfl, rfl, SqT.of top', atI_nat (j := 1) rfl, _, _, rfl, rfl, _, _, rfl, rfl, ⟨by decide, by decide, bd c.lg c'.lg⟩, tt⟩
      | 2, e1 => cases e1; exact ⟨_, rfl, _, rfl, _, rfl, a', _, _, _, rfl, rfl, SqT.of top', atI_nat (j := 2) rfl, _, _, rfl, rfl, _, _, rfl, rfl, ⟨by decide, by decide, bd c.lb c'.lb⟩, tt⟩
      | i + 3, e1 => cases e1
    · exact ⟨D, [sq2 r r', sq2 g g', sq2 b b'], rfl, SqL.of hD3, kY H3 (s12.trans s3)⟩
theorem sc_is_list_of : FnScope ["thing", "is_one"] ["thing", "is_one"] (defScope s_is_list_of) := ⟨rfl, rfl, rfl, by decide +kernel, rfl, by decide +kernel, by decide +kernel⟩
theorem ok_is_list_of {fC f : Addr} {fd : FuncData} (F : FunD K "is_list_of" "is_list_of" s_is_list_of .none f fd) (T : Txt K mg cFE cC cN cM cP cL tP tS) (g_is_one : DefA P w K mg base 3 fC ["thing"] [] (spIsCol K)) : FnOk P w K mg base CX0 4 f fd ["thing", "is_one"] (spLocC K fC) := by
  refine F.ok sc_is_list_of (fun vs H Q E h => ?_) (fun cdv A outer s H vs Q E hr h => ?_)
  · obtain ⟨x, rfl, _⟩ := h; rfl
  · obtain ⟨x, rfl, h⟩ := h
    refine ⟨_, (pss_one (ps_ret (pe_and (isiK K rfl (pv 0) rfl T.isinstance rfl T.list PyProof.Rows.boot_list) (pe_one (pe_callB (allK K rfl rfl) rfl T.all PyProof.Rows.boot_all (pa_cons (pe_comp (N := ["part", "is_one"]) (src := [none, some 1]) rfl ⟨rfl, rfl, rfl, rfl, rfl, by decide +kernel⟩ (piK K rfl (pv 0)) (fun s H C fp => pg_name (i := 0) (show (["part", "is_one"] : List Str).Nodup by decide +kernel) rfl (by first | exact Or.inl rfl | exact Or.inr rfl)) (fun s H C fp => pts_nil) (fun s H C fp => (pe_callV 1 g_is_one (hr.mono (by decide)) (pa_cons (pv 0) pa_nil)))) pa_nil)))))), ?_⟩
    rcases h with ⟨a, xs, rfl, hH, hl, kds, k⟩ | ⟨kd, hL, k⟩
    · refine ⟨_, rfl, true, isList_lst hH, _, rfl, ⟨_, rfl, a, rfl, ⟨_, SqL.of hH⟩, fun D hD => ?_⟩⟩
      refine comp_fm (k := 0) (fun x => .bl (colB H x)) (fun _ => true) (src_list (SqL.of hH)) (Nat.le_trans hl (by decide)) hD (fun x _ H' Qb _ kk => kk H' (Same.refl _)) (fun x hx _ H' Q sm kk => ⟨rfl, _, rfl, x, rfl, (kds x hx).mono sm, fun H2 s2 => (by rw [colB_mono (kds x hx) sm]; exact kk H2 s2)⟩) fun H' sm hD' => ?_
      refine ⟨D, xs.map (colB H), rfl, SqL.of (by rw [hD', filter_t, List.map_map]; rfl), ?_⟩
      rw [all_map_id]
      exact k H' sm
    · refine ⟨_, rfl, _, kd.isList, _, rfl, iteB (fun z => ?_) (fun _ => k)⟩
      rw [hL] at z; cases z
end
end K16
set_option Elab.async false
set_option linter.all false
set_option maxRecDepth 100000
set_option maxHeartbeats 1600000
namespace K16
open PySem L2 M4
structure TM (K : PySem.W.Frag) (H : Hp) (v : V) : Prop where
  kd : Kd K H v
  len : ∀ xs, rowOf H v = some xs → xs.length ≤ 1000000
  it : ∀ xs, rowOf H v = some xs → ∀ x ∈ xs, TC K H x
noncomputable def kc (c : Addr × Nat × Nat × Nat) : List Int := [(c.2.1 : Int), (c.2.2.1 : Int), (c.2.2.2 : Int)]
noncomputable def PalV (cL : Addr) (H : Hp) (p l : Addr) (cs : List (Addr × Nat × Nat × Nat)) : Prop := (∃ dx, H p = some (.ins cL dx [("kept", .ref l)])) ∧ ColsV H l cs
noncomputable def Good (H : Hp) (v : V) : Prop := ∃ a cs, v = .ref a ∧ ColsV H a cs ∧ 1 ≤ cs.length ∧ cs.length ≤ 16 ∧ (cs.map kc).Nodup
noncomputable def isC (r g b : Nat) (c : Addr × Nat × Nat × Nat) : Bool := decide (c.2 = (r, g, b))
noncomputable def cellV (cs : List (Addr × Nat × Nat × Nat)) (r g b : Nat) : V := match cs.findIdx? (isC r g b) with
  | some j => .int (j : Int)
  | none => .non
noncomputable def dsts (cs : List (Addr × Nat × Nat × Nat)) (r g b : Nat) : List Int := cs.map fun c => distI r g b c.2.1 c.2.2.1 c.2.2.2
noncomputable def spInit (K : PySem.W.Frag) (cP cL : Addr) : Sp := fun vs H Q E => ∃ p dx v, vs = [.ref p, v] ∧ H p = some (.ins cL dx []) ∧ TM K H v ∧
  (∀ a cs, v = .ref a → ColsV H a cs → 1 ≤ cs.length → cs.length ≤ 16 → (cs.map kc).Nodup → ∀ l H', H l = none → (∀ b o, H b = some o → b ≠ p → H' b = some o) → PalV cL H' p l cs → Q .non H') ∧
  (¬ Good H v → ∀ H', Same H H' → E (.ref cP) none H')
noncomputable def spCols (cL : Addr) : Sp := fun vs H Q _ => ∃ p l cs, vs = [.ref p] ∧ PalV cL H p l cs ∧ ∀ q, H q = none → Q (.ref q) (upd H q (.lst (cs.map fun c => V.ref c.1)))
noncomputable def spMany (cL : Addr) : Sp := fun vs H Q _ => ∃ p l cs, vs = [.ref p] ∧ PalV cL H p l cs ∧ Q (.int (cs.length : Int)) H
noncomputable def spColOf (K : PySem.W.Frag) (cN cL : Addr) : Sp := fun vs H Q E => ∃ p l cs v, vs = [.ref p, v] ∧ PalV cL H p l cs ∧ Kd K H v ∧ (∀ (n : Nat) c, v = .int (n : Int) → cs[n]? = some c → Q (.ref c.1) H) ∧ (isWh 0 ((cs.length : Int) - 1) v = false → E (.ref cN) none H)
noncomputable def spCellOf (K : PySem.W.Frag) (cC cL : Addr) : Sp := fun vs H Q E => ∃ p l cs v, vs = [.ref p, v] ∧ PalV cL H p l cs ∧ TC K H v ∧ (∀ a r g b, v = .ref a → Col H a r g b → ∀ H', Same H H' → Q (cellV cs r g b) H') ∧ (colB H v = false → ∀ H', Same H H' → E (.ref cC) none H')
noncomputable def spAdd (K : PySem.W.Frag) (cC cM cL : Addr) : Sp := fun vs H Q E => ∃ p l cs v, vs = [.ref p, v] ∧ PalV cL H p l cs ∧ cs.length ≤ 16 ∧ TC K H v ∧
  (∀ a r g b, v = .ref a → Col H a r g b → (∀ j, cs.findIdx? (isC r g b) = some j → ∀ H', Same H H' → Q (.int (j : Int)) H') ∧ (cs.findIdx? (isC r g b) = none → cs.length = 16 → ∀ H', Same H H' → E (.ref cM) none H') ∧
    (cs.findIdx? (isC r g b) = none → cs.length < 16 → ∀ H', (∀ b o, H b = some o → b ≠ l → H' b = some o) → H' l = some (.lst (cs.map (fun c => V.ref c.1) ++ [V.ref a])) → Q (.int (cs.length : Int)) H')) ∧
  (colB H v = false → ∀ H', Same H H' → E (.ref cC) none H')
noncomputable def spNear (K : PySem.W.Frag) (cC cL : Addr) : Sp := fun vs H Q E => ∃ p l cs v, vs = [.ref p, v] ∧ PalV cL H p l cs ∧ 1 ≤ cs.length ∧ cs.length ≤ 1000 ∧ TC K H v ∧ (∀ a r g b, v = .ref a → Col H a r g b → ∀ H', Same H H' → Q (.int (firstI (dsts cs r g b) : Int)) H') ∧ (colB H v = false → ∀ H', Same H H' → E (.ref cC) none H')
theorem PalV.mono {cL : Addr} {H H' : Hp} {p l : Addr} {cs : List (Addr × Nat × Nat × Nat)} (v : PalV cL H p l cs) (s : Same H H') : PalV cL H' p l cs := by
  obtain ⟨⟨dx, h⟩, c⟩ := v
  exact ⟨⟨dx, s _ _ h⟩, c.mono s⟩
theorem ColsV.tups {H : Hp} {cs : List (Addr × Nat × Nat × Nat)} (h : ∀ c ∈ cs, Col H c.1 c.2.1 c.2.2.1 c.2.2.2) : TupsOf H (cs.map fun c => V.ref c.1) (cs.map kc) := by
  induction cs with
  | nil => exact .nil
  | cons c cs ih =>
    obtain ⟨a, r, g, b⟩ := c
    exact .cons (h _ List.mem_cons_self).top (ih fun c hc => h c (List.mem_cons_of_mem _ hc))
theorem lk_kept {l : Addr} {m : Str} (h : ¬ (m = "kept")) : ([("kept", V.ref l)] : List (Str × V)).lookup m = none := by
  show (putF "kept" (V.ref l) []).lookup m = none
  rw [lookup_putF, if_neg h]; rfl
theorem lk_kept1 {l : Addr} : ([("kept", V.ref l)] : List (Str × V)).lookup ("kept" : Str) = some (V.ref l) := by
  show (putF "kept" (V.ref l) []).lookup ("kept" : Str) = some (V.ref l)
  rw [lookup_putF, if_pos rfl]
theorem cols_inj {H : Hp} : ∀ {cs ds : List (Addr × Nat × Nat × Nat)}, cs.map (fun c => V.ref c.1) = ds.map (fun c => V.ref c.1) → (∀ c ∈ cs, Col H c.1 c.2.1 c.2.2.1 c.2.2.2) → (∀ c ∈ ds, Col H c.1 c.2.1 c.2.2.1 c.2.2.2) → cs = ds
  | [], [], _, _, _ => rfl
  | [], _ :: _, e, _, _ => nomatch e
  | _ :: _, [], e, _, _ => nomatch e
  | (p, r, g, b) :: cs, (p', r', g', b') :: ds, e, h1, h2 => by
    rw [List.map_cons, List.map_cons] at e
    injection e with e1 e2
    have e1 : p = p' := by injection e1
    subst e1
    obtain ⟨rfl, rfl, rfl⟩ := (h1 (p, r, g, b) List.mem_cons_self).inj (h2 (p, r', g', b') List.mem_cons_self)
    rw [cols_inj e2 (fun c hc => h1 c (List.mem_cons_of_mem _ hc)) (fun c hc => h2 c (List.mem_cons_of_mem _ hc))]
theorem ColsV.inj {H : Hp} {a : Addr} {cs ds : List (Addr × Nat × Nat × Nat)} (v : ColsV H a cs) (w : ColsV H a ds) : cs = ds := by
  have e := v.1
  rw [w.1] at e
  have e : ds.map (fun c => V.ref c.1) = cs.map (fun c => V.ref c.1) := by injection e with e; injection e
  exact cols_inj e.symm v.2 w.2
section
variable {P : Program} {w : World} {K : PySem.W.Frag} {mg : Str → Option Value} {base : Heap} {cFE cC cN cM cP cL : Addr} {tP tS : Tok}
theorem sc_Palette.__init__ : FnScope ["self", "colours"] ["self", "colours"] (defScope s_Palette.__init__) := ⟨rfl, rfl, rfl, by decide +kernel, rfl, by decide +kernel, by decide +kernel⟩
theorem ok_Palette.__init__ {f : Addr} {fd : FuncData} (F : FunD K "__init__" "Palette.__init__" s_Palette.__init__ .none f fd) {fC : Addr} (T : Txt K mg cFE cC cN cM cP cL tP tS) (g_is_list_of : Def P w K mg base 4 "is_list_of" ["thing", "is_one"] [] (spLocC K fC)) (hC : mg "is_colour" = some (.ref fC)) (g_is_whole_within : Def P w K mg base 2 "is_whole_within" ["thing", "least", "most"] [] (spWh K)) : FnOk P w K mg base (CX1 P w) 5 f fd ["self", "colours"] (spInit K cP cL) := by
  refine F.okX sc_Palette.__init__ (fun vs H Q E h => ?_) (fun cdv A outer s H vs Q E hr h => ?_)
  · obtain ⟨p, dx, v, rfl, _⟩ := h; rfl
  · obtain ⟨p, dx, v, rfl, hp, t, kY, kN⟩ := h
    refine ⟨_, (pss_cons (ps_if (PW.pt (pw_or (pt_not (pt_val (pe_callD g_is_list_of (hr.mono (by decide)) rfl (pa_cons (pv 1) (pa_cons (pe_glob (v := .ref fC) rfl hC rfl) pa_nil))))) (pw_or1 (pt_not (pt_val (pe_callD g_is_whole_within (hr.mono (by decide)) rfl (pa_cons (pe_callB (lenK K rfl) rfl T.len PySem.boot_len (pa_cons (pv 1) pa_nil)) (pa_cons pe_int (pa_cons (pe_glob (v := .int 16) rfl T.MOST_COLOURS ⟨_, rfl⟩) pa_nil))))))))) (pss_one (ps_raise rfl raises1 rfl T.BadPalette T.xBadPalette (pa_cons pe_str pa_nil))) pss_nil)
        (pss_cons (ps_if (pt_cmpR op_ne (pe_callB call_lenN rfl T.len PySem.boot_len (pa_cons (pe_callTy (call_setT rfl (Nat.lt_of_le_of_lt (Nat.add_le_add_left (by decide : 8 ≤ 64) _) hr.units)) rfl T.set PyProof.Rows.boot_set (pa_cons (pv 1) pa_nil)) pa_nil)) (pe_callB (lenK K rfl) rfl T.len PySem.boot_len (pa_cons (pv 1) pa_nil)) (nomark _)) (pss_one (ps_raise rfl raises1 rfl T.BadPalette T.xBadPalette (pa_cons pe_str pa_nil))) pss_nil)
        (pss_one (ps_fld (pv 0) (pe_callTy (listK K rfl) rfl T.list PyProof.Rows.boot_list (pa_cons (pv 1) pa_nil)) rfl)))), ?_⟩
    cases hx : rowOf H v with
    | none =>
      have ng : ¬ Good H v := by
        rintro ⟨a, cs, rfl, cv, _⟩
        rw [rowOf_lst cv.1] at hx; cases hx
      exact ⟨_, rfl, v, rfl, .inr ⟨t.kd, by rw [isL_row t.kd, hx]; rfl, _, rfl, ⟨by show 1 ≤ sizeLine; decide, kN ng H (Same.refl H)⟩⟩⟩
    | some xs =>
      obtain ⟨a, rfl, e⟩ := rowOf_ref hx
      refine ⟨_, rfl, _, rfl, .inl ⟨a, xs, rfl, e, t.len xs hx, t.it xs hx, fun H1 s1 => ⟨_, rfl, iteN (fun h => ?_) (fun h => ?_)⟩⟩⟩
      · refine ⟨by show 1 ≤ sizeLine; decide, kN ?_ H1 s1⟩
        rintro ⟨a', cs, ea, cv, _⟩
        cases ea
        have := cv.1
        rw [e] at this
        have : xs = cs.map fun c => V.ref c.1 := by injection this with q; injection q
        rw [this, cv.yes] at h
        cases h
      obtain ⟨cs, rfl, hcs⟩ := cols_of h
      have cv : ColsV H a cs := ⟨e, hcs⟩
      have c1 := cv.mono s1
      have hlen : (cs.map fun c => V.ref c.1).length = cs.length := List.length_map _
      refine ⟨_, rfl, a, _, rfl, .inl (SqL.of c1.1), _, 1, 16, rfl, .int _, _, rfl, iteN (fun hw => ?_) (fun hw => ?_)⟩
      · refine ⟨by show 1 ≤ sizeLine; decide, kN ?_ H1 s1⟩
        rintro ⟨a', cs', ea, cv', l1, l16, _⟩
        cases ea
        cases cv.inj cv'
        rw [hlen] at hw
        have : isWh 1 16 (.int (cs.length : Int)) = true := by simp only [isWh, Bool.and_eq_true, decide_eq_true_eq]; omega
        rw [this] at hw; cases hw
      have hb : 1 ≤ cs.length ∧ cs.length ≤ 16 := by
        rw [hlen] at hw
        simp only [isWh, Bool.and_eq_true, decide_eq_true_eq] at hw
        omega
      refine ⟨_, rfl, a, _, cs.map kc, rfl, SqL.of c1.1, by rw [hlen]; omega, ColsV.tups c1.2, fun q hq => ?_⟩
      have z2 := same_new (o := SetN q (dd (cs.map kc)).length) hq
      have c2 := c1.mono z2
      refine ⟨q, _, rfl, upd_same, _, rfl, a, _, rfl, .inl (SqL.of c2.1), rfl, _, rfl, iteN (fun hn => ?_) (fun hn => ?_)⟩
      · refine ⟨by show 1 ≤ sizeLine; decide, kN ?_ _ (s1.trans z2)⟩
        rintro ⟨a', cs', ea, cv', _, _, nd⟩
        cases ea
        cases cv.inj cv'
        have := (dd_nodup (cs.map kc)).mpr nd
        rw [this, hlen, List.length_map] at hn
        simp at hn
      have nd : (cs.map kc).Nodup := (dd_nodup _).mp (by
        have := of_decide_eq_true hn
        rw [hlen] at this
        rw [List.length_map]
        injection this with this
        omega)
      have s12 := s1.trans z2
      refine ⟨_, rfl, a, _, rfl, .inl (SqL.of c2.1), fun l hl => ?_⟩
      have npl : p ≠ l := ne_of_none (s12 _ _ hp) hl
      refine ⟨_, rfl, p, cL, dx, [], rfl, by rw [upd_ne npl]; exact s12 _ _ hp, T.cl, T.nK, (by show 0 < 1000; decide), ?_⟩
      refine kY a cs rfl cv hb.1 hb.2 nd l _ (s12.free hl) (fun b o hb' hne => ?_) ⟨⟨dx, upd_same⟩, ?_, fun c hc => ?_⟩
      · rw [upd_ne hne]
        exact (s12.trans (same_new hl)) b o hb'
      · rw [upd_ne npl.symm, upd_same]
      · have cc := c2.2 c hc
        have ne : c.1 ≠ p := ne_of cc.top (s12 _ _ hp) (by intro z; cases z)
        exact ⟨by rw [upd_ne ne]; exact same_new hl _ _ cc.top, cc.lr, cc.lg, cc.lb⟩
end
end K16
set_option Elab.async false
set_option linter.all false
set_option maxRecDepth 100000
set_option maxHeartbeats 1600000
namespace K16
open PySem L2 M4
theorem colour_eqD {K : PySem.W.Frag} {H : Hp} {a a' : Addr} {r g b r' g' b' : Nat} (c' : Col H a' r' g' b') (c : Col H a r g b) : EqD K H 1 (.ref a') (.ref a) (decide ((r', g', b') = (r, g, b))) := by
  by_cases h : a' = a
  · subst h
    obtain ⟨rfl, rfl, rfl⟩ := c.inj c'
    exact .inl (.inl ⟨a', rfl, rfl, by simp⟩)
  · refine .inr ⟨a', a, rfl, rfl, h, _, _, .inr ⟨.inr ⟨SqT.of c'.top, SqT.of c.top⟩, rfl, fun i => [decide (r' = r), decide (g' = g), decide (b' = b)].getD i true, fun i x y hx hy => ?_, ?_⟩⟩
    · match i, hx, hy with
      | 0, hx, hy => cases hx; cases hy; exact .inr ⟨rfl, rfl, by simp [eqV]; rw [Bool.eq_iff_iff]; simp; omega⟩
      | 1, hx, hy => cases hx; cases hy; exact .inr ⟨rfl, rfl, by simp [eqV]; rw [Bool.eq_iff_iff]; simp; omega⟩
      | 2, hx, hy => cases hx; cases hy; exact .inr ⟨rfl, rfl, by simp [eqV]; rw [Bool.eq_iff_iff]; simp; omega⟩
      | i + 3, hx, hy => cases hx
    · show _ = ([decide (r' = r), decide (g' = g), decide (b' = b)].getD 0 true && ([decide (r' = r), decide (g' = g), decide (b' = b)].getD 1 true && ([decide (r' = r), decide (g' = g), decide (b' = b)].getD 2 true && true)))
      rw [Bool.eq_iff_iff]; simp
noncomputable def beC (H : Hp) (r g b : Nat) (z : V) : Bool := decide (tupOf H z = some [.int (r : Int), .int (g : Int), .int (b : Int)])
theorem beC_col {H : Hp} {c : Addr × Nat × Nat × Nat} {r g b : Nat} (h : Col H c.1 c.2.1 c.2.2.1 c.2.2.2) : beC H r g b (.ref c.1) = isC r g b c := by
  obtain ⟨a, r', g', b'⟩ := c
  unfold beC isC
  rw [tupOf_tup h.top, Bool.eq_iff_iff, decide_eq_true_iff, decide_eq_true_iff]
  simp
  omega
theorem in_cols {K : PySem.W.Frag} {H : Hp} {l a : Addr} {cs : List (Addr × Nat × Nat × Nat)} {r g b : Nat} {neg : Bool} {Q : VK} (v : ColsV H l cs) (c : Col H a r g b) (k : Q (.bl (if neg then !(cs.findIdx? (isC r g b)).isSome else (cs.findIdx? (isC r g b)).isSome)) H) : rInD K neg 1 (.ref a) (.ref l) H Q := by
  refine ⟨l, _, beC H r g b, rfl, SqL.of v.1, fun z hz => ?_, ?_⟩
  · obtain ⟨c', hc', rfl⟩ := List.mem_map.mp hz
    have cc := v.2 c' hc'
    rw [beC_col cc]
    obtain ⟨a', r', g', b'⟩ := c'
    exact colour_eqD cc c
  · have e : (cs.map fun c => V.ref c.1).any (beC H r g b) = (cs.findIdx? (isC r g b)).isSome := by
      rw [List.any_map, List.findIdx?_isSome]
      have : ∀ ds : List (Addr × Nat × Nat × Nat), (∀ c ∈ ds, Col H c.1 c.2.1 c.2.2.1 c.2.2.2) → ds.any ((beC H r g b) ∘ fun c => V.ref c.1) = ds.any (isC r g b) := by
        intro ds
        induction ds with
        | nil => intro _; rfl
        | cons d ds ih =>
          intro h
          rw [List.any_cons, List.any_cons, ih fun c hc => h c (List.mem_cons_of_mem _ hc)]
          congr 1
          exact beC_col (h d List.mem_cons_self)
      exact this cs v.2
    rw [e]; exact k
theorem index_cols {K : PySem.W.Frag} {H : Hp} {l a : Addr} {cs : List (Addr × Nat × Nat × Nat)} {r g b j : Nat} {Q : VK} (v : ColsV H l cs) (c : Col H a r g b) (h : cs.findIdx? (isC r g b) = some j) (k : Q (.int (j : Int)) H) : rIndexL K 1 (.ref l) [.ref a] H Q := by
  obtain ⟨hj, hp, hb⟩ := List.findIdx?_eq_some_iff_getElem.mp h
  have hat : ∀ i (hi : i < cs.length), beC H r g b (.ref (cs[i]).1) = isC r g b cs[i] := fun i hi => beC_col (v.2 _ (List.getElem_mem hi))
  refine ⟨l, _, .ref a, beC H r g b, j, .ref (cs[j]).1, rfl, rfl, v.1, fun z hz => ?_, by rw [List.getElem?_map, List.getElem?_eq_getElem hj]; rfl, by rw [hat j hj]; exact hp, fun i z hi hz => ?_, k⟩
  · obtain ⟨c', hc', rfl⟩ := List.mem_map.mp hz
    have cc := v.2 c' hc'
    rw [beC_col cc]
    obtain ⟨a', r', g', b'⟩ := c'
    exact colour_eqD cc c
  · rw [List.getElem?_map, List.getElem?_eq_getElem (by omega)] at hz
    cases hz
    rw [hat i (by omega)]
    have := hb i hi
    simpa using this
section
variable {P : Program} {w : World} {K : PySem.W.Frag} {mg : Str → Option Value} {base : Heap} {cFE cC cN cM cP cL : Addr} {tP tS : Tok}
theorem sc_Palette.colours : FnScope ["self"] ["self"] (defScope s_Palette.colours) := ⟨rfl, rfl, rfl, by decide +kernel, rfl, by decide +kernel, by decide +kernel⟩
theorem ok_Palette.colours {f : Addr} {fd : FuncData} (F : FunD K "colours" "Palette.colours" s_Palette.colours .none f fd) (T : Txt K mg cFE cC cN cM cP cL tP tS) : FnOk P w K mg base CX0 1 f fd ["self"] (spCols cL) := by
  refine F.ok sc_Palette.colours (fun vs H Q E h => ?_) (fun cdv A outer s H vs Q E hr h => ?_)
  · obtain ⟨p, l, cs, rfl, _⟩ := h; rfl
  · obtain ⟨p, l, cs, rfl, ⟨⟨dx, hp⟩, cv⟩, k⟩ := h
    refine ⟨_, (pss_one (ps_ret (pe_callTy (listK K rfl) rfl T.list PyProof.Rows.boot_list (pa_cons (pe_fld (pv 0) rfl) pa_nil)))), ?_⟩
    exact ⟨_, rfl, p, cL, dx, _, _, rfl, hp, T.cl, T.nK, lk_kept1, l, _, rfl, .inl (SqL.of cv.1), fun q hq => k q hq⟩
theorem sc_Palette.many : FnScope ["self"] ["self"] (defScope s_Palette.many) := ⟨rfl, rfl, rfl, by decide +kernel, rfl, by decide +kernel, by decide +kernel⟩
theorem ok_Palette.many {f : Addr} {fd : FuncData} (F : FunD K "many" "Palette.many" s_Palette.many .none f fd) (T : Txt K mg cFE cC cN cM cP cL tP tS) : FnOk P w K mg base CX0 1 f fd ["self"] (spMany cL) := by
  refine F.ok sc_Palette.many (fun vs H Q E h => ?_) (fun cdv A outer s H vs Q E hr h => ?_)
  · obtain ⟨p, l, cs, rfl, _⟩ := h; rfl
  · obtain ⟨p, l, cs, rfl, ⟨⟨dx, hp⟩, cv⟩, k⟩ := h
    refine ⟨_, (pss_one (ps_ret (pe_callB (lenK K rfl) rfl T.len PySem.boot_len (pa_cons (pe_fld (pv 0) rfl) pa_nil)))), ?_⟩
    refine ⟨_, rfl, p, cL, dx, _, _, rfl, hp, T.cl, T.nK, lk_kept1, l, _, rfl, .inl (SqL.of cv.1), ?_⟩
    rw [List.length_map]
    exact k
theorem sc_Palette.colour_of : FnScope ["self", "cell"] ["self", "cell"] (defScope s_Palette.colour_of) := ⟨rfl, rfl, rfl, by decide +kernel, rfl, by decide +kernel, by decide +kernel⟩
theorem ok_Palette.colour_of {f : Addr} {fd : FuncData} (F : FunD K "colour_of" "Palette.colour_of" s_Palette.colour_of .none f fd) (T : Txt K mg cFE cC cN cM cP cL tP tS) (g_is_whole_within : Def P w K mg base 2 "is_whole_within" ["thing", "least", "most"] [] (spWh K)) (g_m_many : MetD P w K mg base cL 1 "many" ["self"] (spMany cL)) : FnOk P w K mg base (CX1 P w) 3 f fd ["self", "cell"] (spColOf K cN cL) := by
  refine F.okX sc_Palette.colour_of (fun vs H Q E h => ?_) (fun cdv A outer s H vs Q E hr h => ?_)
  · obtain ⟨p, l, cs, v, rfl, _⟩ := h; rfl
  · obtain ⟨p, l, cs, v, rfl, pq, kd, kY, kN⟩ := h
    obtain ⟨⟨dx, hp⟩, cv⟩ := id pq
    refine ⟨_, (pss_cons (ps_if (pt_not (pt_val (pe_callD g_is_whole_within (hr.mono (by decide)) rfl (pa_cons (pv 1) (pa_cons pe_int (pa_cons (pe_op op_sub (pe_metD0 (pv 0) T.cl g_m_many (hr.mono (by decide))) pe_int) pa_nil)))))) (pss_one (ps_raise rfl raises1 rfl T.NoColour T.xNoColour (pa_cons pe_str pa_nil))) pss_nil)
        (pss_one (ps_ret (pe_ix (ixK K rfl) (pe_fld (pv 0) rfl) (pv 1) (fun _ _ => rfl))))), ?_⟩
    refine ⟨_, rfl, _, rfl, p, dx, _, rfl, hp, lk_kept (by decide +kernel), p, l, cs, rfl, pq, _, _, rfl, rfl, v, 0, _, rfl, kd, _, rfl, iteN (fun h => ⟨by show 1 ≤ sizeLine; decide, kN h⟩) (fun h => ?_)⟩
    obtain ⟨n, rfl, hn⟩ : ∃ n : Nat, v = .int (n : Int) ∧ n < cs.length := by
      cases v with
      | int i =>
        simp only [isWh, Bool.and_eq_true, decide_eq_true_eq] at h
        exact ⟨i.toNat, by rw [Int.toNat_of_nonneg h.1], by omega⟩
      | _ => cases h
    exact ⟨_, rfl, p, cL, dx, _, _, rfl, hp, T.cl, T.nK, lk_kept1, _, rfl, l, _, _, _, rfl, rfl, SqL.of cv.1, atI_nat (j := n) (by rw [List.getElem?_map, List.getElem?_eq_getElem hn]; rfl), kY n cs[n] rfl (List.getElem?_eq_getElem hn)⟩
theorem sc_Palette.cell_of : FnScope ["self", "colour"] ["self", "colour"] (defScope s_Palette.cell_of) := ⟨rfl, rfl, rfl, by decide +kernel, rfl, by decide +kernel, by decide +kernel⟩
theorem ok_Palette.cell_of {f : Addr} {fd : FuncData} (F : FunD K "cell_of" "Palette.cell_of" s_Palette.cell_of .none f fd) (T : Txt K mg cFE cC cN cM cP cL tP tS) (g_need_colour : DefX P w K mg base 4 "need_colour" ["colour"] [] (spNeedC K cC)) : FnOk P w K mg base (CX1 P w) 5 f fd ["self", "colour"] (spCellOf K cC cL) := by
  refine F.okX sc_Palette.cell_of (fun vs H Q E h => ?_) (fun cdv A outer s H vs Q E hr h => ?_)
  · obtain ⟨p, l, cs, v, rfl, _⟩ := h; rfl
  · obtain ⟨p, l, cs, v, rfl, pq, tc, kY, kN⟩ := h
    have hu : _ + 64 < cLine := hr.units
    refine ⟨_, (pss_cons (ps_expr (pe_callX g_need_colour (hr.mono (by decide)) passes1R rfl (pa_cons (pv 1) pa_nil)))
        (pss_one (ps_ret (pe_ifExp (pt_cmpR (op_inD K rfl 1 (by decide) hu) (pv 1) (pe_fld (pv 0) rfl) (by with_unfolding_all rfl)) (pe_bm PySem.F.plainAttrs_list PySem.F.slot_list_index PySem.F.type_list_index (mt_indexL K rfl 1 (by decide) hu) (pe_fld (pv 0) rfl) (pa_cons (pv 1) pa_nil)) pe_non)))), ?_⟩
    refine ⟨_, rfl, v, rfl, tc, fun hc H1 s1 => ?_, fun hc => kN hc⟩
    obtain ⟨a, r, g, b, rfl, c⟩ := col_of hc
    have kY := kY a r g b rfl c H1 s1
    obtain ⟨⟨dx, hp⟩, cv⟩ := pq.mono s1
    have c1 := c.mono s1
    refine ⟨_, rfl, _, rfl, p, cL, dx, _, _, rfl, hp, T.cl, T.nK, lk_kept1, in_cols (neg := false) cv c1 ⟨_, rfl, ?_⟩⟩
    cases hf : cs.findIdx? (isC r g b) with
    | none =>
      rw [cellV, hf] at kY
      exact kY
    | some j =>
      rw [cellV, hf] at kY
      exact ⟨_, rfl, p, cL, dx, _, _, rfl, hp, T.cl, T.nK, lk_kept1, .inl ⟨rfl, _, SqL.of cv.1⟩, _, rfl, index_cols cv c1 hf kY⟩
theorem sc_Palette.add_colour : FnScope ["self", "colour", "cell"] ["self", "colour"] (defScope s_Palette.add_colour) := ⟨rfl, rfl, rfl, by decide +kernel, rfl, by decide +kernel, by decide +kernel⟩
theorem ok_Palette.add_colour {f : Addr} {fd : FuncData} (F : FunD K "add_colour" "Palette.add_colour" s_Palette.add_colour .none f fd) (T : Txt K mg cFE cC cN cM cP cL tP tS) (g_m_cell_of : MetX P w K mg base cL 5 "cell_of" ["self", "colour"] (spCellOf K cC cL)) (g_m_many : MetD P w K mg base cL 1 "many" ["self"] (spMany cL)) : FnOk P w K mg base (CX1 P w) 6 f fd ["self", "colour"] (spAdd K cC cM cL) := by
  refine F.okX sc_Palette.add_colour (fun vs H Q E h => ?_) (fun cdv A outer s H vs Q E hr h => ?_)
  · obtain ⟨p, l, cs, v, rfl, _⟩ := h; rfl
  · obtain ⟨p, l, cs, v, rfl, pq, h16, tc, kY, kN⟩ := h
    refine ⟨_, (pss_cons (ps_set (i := 2) sc_Palette.add_colour.nd rfl (by first | exact Or.inl rfl | exact Or.inr rfl) (pe_metX (pv 0) T.cl g_m_cell_of (hr.mono (by decide)) passes1R (pa_cons (pv 1) pa_nil)))
        (pss_cons (ps_if (pt_cmp (pc_notN (pv 2))) (pss_one (ps_ret (pv 2))) pss_nil)
        (pss_cons (ps_if (pt_cmpR op_eq (pe_metD0 (pv 0) T.cl g_m_many (hr.mono (by decide))) (pe_glob (v := .int 16) rfl T.MOST_COLOURS ⟨_, rfl⟩) (nomark _)) (pss_one (ps_raise rfl raises1 rfl T.TooMany T.xTooMany (pa_cons pe_str pa_nil))) pss_nil)
        (pss_cons (ps_expr (pe_bm PySem.F.plainAttrs_list PySem.F.slot_list_append PySem.F.type_list_append mt_append (pe_fld (pv 0) rfl) (pa_cons (pv 1) pa_nil)))
        (pss_one (ps_ret (pe_op op_sub (pe_metD0 (pv 0) T.cl g_m_many (hr.mono (by decide))) pe_int))))))), ?_⟩
    obtain ⟨⟨dx, hp⟩, cv⟩ := id pq
    refine ⟨_, rfl, p, dx, _, rfl, hp, lk_kept (by decide +kernel), _, rfl, p, l, cs, v, rfl, pq, tc, fun a r g b e c H1 s1 => ?_, fun hc => kN hc⟩
    subst e
    obtain ⟨kA, kB, kC⟩ := kY a r g b rfl c
    obtain ⟨⟨dx, hp⟩, cv⟩ := pq.mono s1
    have c1 := c.mono s1
    have pq1 := pq.mono s1
    cases hf : cs.findIdx? (isC r g b) with
    | some j =>
      have e : cellV cs r g b = .int (j : Int) := by unfold cellV; rw [hf]
      rw [e]
      exact ⟨_, rfl, _, rfl, ⟨_, rfl, kA j hf H1 s1⟩⟩
    | none =>
      have e : cellV cs r g b = .non := by unfold cellV; rw [hf]
      rw [e]
      refine ⟨_, rfl, _, rfl, _, rfl, p, dx, _, rfl, hp, lk_kept (by decide +kernel), p, l, cs, rfl, pq1, rfl, _, rfl, ite2 (fun h => ?_) (fun h => ?_)⟩
      · exact ⟨by show 1 ≤ sizeLine; decide, kB hf (by have h := of_decide_eq_true h; injection h with h; omega) H1 s1⟩
      · have hl : cs.length < 16 := by
          rcases Nat.lt_or_ge cs.length 16 with q | q
          · exact q
          · exact absurd (by rw [show cs.length = 16 by omega]; rfl) h
        refine ⟨_, rfl, p, cL, dx, _, _, rfl, hp, T.cl, T.nK, lk_kept1, .inl ⟨rfl, _, SqL.of cv.1⟩, _, rfl, l, _, _, rfl, rfl, cv.1, Nat.lt_of_lt_of_le (by rw [List.length_map]; omega : _ < 5000) (by decide), ?_⟩
        have npl : p ≠ l := ne_of hp cv.1 (by intro z; cases z)
        have cv2 : ColsV (upd H1 l (.lst (cs.map (fun c => V.ref c.1) ++ [V.ref a]))) l (cs ++ [(a, r, g, b)]) := by
          refine ⟨by rw [upd_same, List.map_append]; rfl, fun d hd => ?_⟩
          have cd : Col H1 d.1 d.2.1 d.2.2.1 d.2.2.2 := by
            rcases List.mem_append.mp hd with hd | hd
            · exact cv.2 d hd
            · rw [List.mem_singleton.mp hd]; exact c1
          exact ⟨by rw [upd_ne (ne_of cd.top cv.1 (by intro z; cases z))]; exact cd.top, cd.lr, cd.lg, cd.lb⟩
        refine ⟨_, rfl, p, dx, _, rfl, by rw [upd_ne npl]; exact hp, lk_kept (by decide +kernel), p, l, _, rfl, ⟨⟨dx, by rw [upd_ne npl]; exact hp⟩, cv2⟩, _, _, rfl, rfl, ?_⟩
        have e3 : (((cs ++ [(a, r, g, b)]).length : Nat) : Int) - 1 = (cs.length : Int) := by rw [List.length_append]; show ((cs.length + 1 : Nat) : Int) - 1 = _; omega
        show Q (.int ((((cs ++ [(a, r, g, b)]).length : Nat) : Int) - 1)) _
        rw [e3]
        exact kC hf hl _ (fun b o hb hne => by rw [upd_ne hne]; exact s1 b o hb) upd_same
theorem sc_Palette.nearest_cell : FnScope ["self", "colour", "ways"] ["self", "colour"] (defScope s_Palette.nearest_cell) := ⟨rfl, rfl, rfl, by decide +kernel, rfl, by decide +kernel, by decide +kernel⟩
theorem ok_Palette.nearest_cell {f : Addr} {fd : FuncData} (F : FunD K "nearest_cell" "Palette.nearest_cell" s_Palette.nearest_cell .none f fd) (T : Txt K mg cFE cC cN cM cP cL tP tS) (g_need_colour : DefX P w K mg base 4 "need_colour" ["colour"] [] (spNeedC K cC)) (g_apart : DefX P w K mg base 5 "apart" ["one", "other"] [] (spApart K cC)) : FnOk P w K mg base (CX1 P w) 6 f fd ["self", "colour"] (spNear K cC cL) := by
  refine F.okX sc_Palette.nearest_cell (fun vs H Q E h => ?_) (fun cdv A outer s H vs Q E hr h => ?_)
  · obtain ⟨p, l, cs, v, rfl, _⟩ := h; rfl
  · obtain ⟨p, l, cs, v, rfl, pq, l1, l2, tc, kY, kN⟩ := h
    have hu : _ + 64 < cLine := hr.units
    refine ⟨_, (pss_cons (ps_expr (pe_callX g_need_colour (hr.mono (by decide)) passes1R rfl (pa_cons (pv 1) pa_nil)))
        (pss_cons (PS.nox (ps_setC (ix := 2) (N := ["own", "colour"]) (src := [none, some 1]) sc_Palette.nearest_cell.nd rfl rfl rfl ⟨rfl, rfl, rfl, rfl, rfl, by decide +kernel⟩ (piK K rfl (pe_fld (pv 0) rfl)) (fun s H C fp => pg_name (i := 0) (show (["own", "colour"] : List Str).Nodup by decide +kernel) rfl (by first | exact Or.inl rfl | exact Or.inr rfl)) (fun s H C fp => pts_nil) (fun s H C fp => (pe_callX g_apart (hr.mono (by decide)) passF rfl (pa_cons (pv 1) (pa_cons (pv 0) pa_nil))))))
        (pss_one (ps_ret (pe_bm PySem.F.plainAttrs_list PySem.F.slot_list_index PySem.F.type_list_index (mt_indexL K rfl 1 (by decide) hu) (pv 2) (pa_cons (pe_callB (call_minI K rfl rfl) rfl T.min PyProof.Rows.boot_min (pa_cons (pv 2) pa_nil)) pa_nil)))))), ?_⟩
    refine ⟨_, rfl, v, rfl, tc, fun hc H1 s1 => ?_, fun hc => kN hc⟩
    obtain ⟨a, r, g, b, rfl, c⟩ := col_of hc
    obtain ⟨⟨dx, hp⟩, cv⟩ := pq.mono s1
    have c1 := c.mono s1
    refine ⟨_, rfl, p, cL, dx, _, _, rfl, hp, T.cl, T.nK, lk_kept1, l, rfl, ⟨_, SqL.of cv.1⟩, fun D hD => ?_⟩
    refine comp_fm (k := 0) (fun x => match tupOf H1 x with | some [.int r', .int g', .int b'] => .int (distI r g b r'.toNat g'.toNat b'.toNat) | _ => .non) (fun _ => true) (src_list (SqL.of cv.1)) (by rw [List.length_map]; exact Nat.le_trans l2 (by decide)) hD (fun x _ H' Qb _ kk => kk H' (Same.refl _)) (fun x hx _ H' Q' sm kk => ?_) fun H2 s2 hD2 => ?_
    · obtain ⟨d, hd, rfl⟩ := List.mem_map.mp hx
      have cd := cv.2 d hd
      have cm := cd.mono sm
      have ca := c1.mono sm
      refine ⟨_, rfl, _, rfl, _, _, rfl, ca.tc, cm.tc, fun a1 r1 g1 b1 a2 r2 g2 b2 e1 q1 e2 q2 H3 s3 => ?_, fun hb => (by rw [ca.yes, cm.yes] at hb; cases hb)⟩
      cases e1; cases e2
      obtain ⟨rfl, rfl, rfl⟩ := ca.inj q1
      obtain ⟨rfl, rfl, rfl⟩ := cm.inj q2
      have := kk H3 s3
      rw [tupOf_tup cd.top] at this
      exact this
    · have e : H2 D = some (.lst ((dsts cs r g b).map V.int)) := by
        rw [hD2, filter_t, List.map_map, dsts, List.map_map]
        congr 2
        refine List.map_congr_left fun d hd => ?_
        show (match tupOf H1 (.ref d.1) with | some [.int r', .int g', .int b'] => V.int (distI r g b r'.toNat g'.toNat b'.toNat) | _ => .non) = _
        rw [tupOf_tup (cv.2 d hd).top]; rfl
      have ne : dsts cs r g b ≠ [] := fun z => by
        have := congrArg List.length z
        rw [dsts, List.length_map] at this
        simp at this
        rw [this] at l1
        simp at l1
      refine ⟨_, rfl, .inl ⟨rfl, _, SqL.of e⟩, _, rfl, D, _, rfl, SqL.of e, ne, index_minI e ne (kY a r g b rfl c H2 (s1.trans s2))⟩
end
end K16
set_option Elab.async false
set_option linter.all false
set_option maxRecDepth 100000
set_option maxHeartbeats 1600000
namespace K16
open PySem L2 M4
noncomputable def Clb (K : PySem.W.Frag) (mg : Str → Option Value) (c : Addr) (n : Str) (b : Bool) : Prop := ∃ a : Addr, mg n = some (.ref a) ∧ PySem.W.kitOne K (.ref c) (.ref a) = some b
structure TxtW (K : PySem.W.Frag) (mg : Str → Option Value) (c : Addr) (word : Str) (b1 b2 b3 b4 b5 b6 b7 b8 b9 : Bool) : Prop where
  kX : XCls K c
  iV : PySem.W.kitOne K (.ref c) (.type "ValueError") = some true
  hw : ∀ t1 t2 t3 t4 t5 t6 t7 t8 t9 : Addr, (([(t1, ("cell" : Str), b1), (t2, ("colour" : Str), b2), (t3, ("pack" : Str), b3), (t4, ("palette" : Str), b4), (t5, ("picture" : Str), b5), (t6, ("size" : Str), b6), (t7, ("none" : Str), b7), (t8, ("many" : Str), b8), (t9, ("runs" : Str), b9)] : List (Addr × Str × Bool)).filter fun t => t.2.2).map (fun t => V.str t.2.1) = [V.str word]
  BadCell : Clb K mg c "BadCell" b1
  BadColour : Clb K mg c "BadColour" b2
  BadPack : Clb K mg c "BadPack" b3
  BadPalette : Clb K mg c "BadPalette" b4
  BadPicture : Clb K mg c "BadPicture" b5
  BadSize : Clb K mg c "BadSize" b6
  NoColour : Clb K mg c "NoColour" b7
  TooMany : Clb K mg c "TooMany" b8
  BadRuns : Clb K mg c "BadRuns" b9
  BadCheck : Clb K mg c "BadCheck" false
  BadDeed : Clb K mg c "BadDeed" false
  BadEdge : Clb K mg c "BadEdge" false
  BadHead : Clb K mg c "BadHead" false
  BadMask : Clb K mg c "BadMask" false
  BadName : Clb K mg c "BadName" false
  BadPart : Clb K mg c "BadPart" false
  BadRule : Clb K mg c "BadRule" false
  BadText : Clb K mg c "BadText" false
  NoPart : Clb K mg c "NoPart" false
  NoPicture : Clb K mg c "NoPicture" false
  NothingDone : Clb K mg c "NothingDone" false
  OutOfPlace : Clb K mg c "OutOfPlace" false
  Twice : Clb K mg c "Twice" false
noncomputable def spWhole : Sp := fun vs H Q _ => ∃ i : Int, vs = [.int i] ∧ Q (.bl true) H
noncomputable def spDraw (K : PySem.W.Frag) : Sp := fun vs H Q _ => ∃ (a : Addr) (ns : List Int) (k : Nat), vs = [.ref a, .int (k : Int)] ∧ SqL K H a (ns.map V.int) ∧ k ≤ 1000 ∧ ∀ (n : Nat) H', n < 2147483647 → Same H H' → Q (.int (n : Int)) H'
noncomputable def spW (c : Addr) (word : Str) (ea : Addr) : Sp := fun vs H Q _ => vs = [.ref ea] ∧ H ea = some (ExcO ea c) ∧ ∀ t H', Same H H' → H t = none → H' t = some (.tup [.str word]) → Q (.ref t) H'
theorem wordB {P : Program} {w : World} {K : PySem.W.Frag} {mg : Str → Option Value} {base : Heap} {k : Nat} {f : Addr} {fd : FuncData} {ps : List Str} {s1 s2 : Addr → Sp} (a : FnOkM P w K mg base k f fd ps s1) (b : FnOkM P w K mg base k f fd ps s2) : FnOkM P w K mg base k f fd ps (fun ea vs H Q E => s1 ea vs H Q E ∨ s2 ea vs H Q E) :=
  ⟨fun ea vs H Q E h => h.elim (a.len ea vs H Q E) (b.len ea vs H Q E), fun A ea outer s H args us vs Q E r e bn v h => h.elim (a.run A ea outer s H args us vs Q E r e bn v) (b.run A ea outer s H args us vs Q E r e bn v)⟩
theorem EqL.nil {K : PySem.W.Frag} {H : Hp} {a p : Addr} {xs : List V} {rec : V → V → Bool → Prop} (ha : SqL K H a xs) (hp : SqL K H p []) : EqL K H rec a p (decide (xs = [])) := by
  cases xs with
  | nil => exact ⟨[], [], .inr ⟨.inl ⟨ha, hp⟩, rfl, fun _ => true, (fun i x y e => by simp at e), rfl⟩⟩
  | cons x r => exact ⟨_, [], .inl ⟨ha, hp, by simp, rfl⟩⟩
theorem tupleK {X : Cx} (K : PySem.W.Frag) (hK : X.K = K) : CallR X (.type "tuple") (fun xs H Q => ∃ p ys, xs = [V.ref p] ∧ ((SqL K H p ys ∧ ∀ (l : Addr), H l = none → Q (V.ref l) (upd H l (HO.tup ys))) ∨ SqT K H p ys ∧ Q (V.ref p) H)) := by
  subst hK
  exact call_tuple_of
section
variable {P : Program} {w : World} {K : PySem.W.Frag} {mg : Str → Option Value} {base : Heap} {cFE cC cN cM cP cL : Addr} {tP tS : Tok}
theorem sc_law_draw : FnScope ["_law_script", "_law_k", "_law_cell", "_law_base"] ["_law_script", "_law_k"] (defScope s_law_draw) := ⟨rfl, rfl, rfl, by decide +kernel, rfl, by decide +kernel, by decide +kernel⟩
theorem ok_law_draw {f : Addr} {fd : FuncData} (F : FunD K "_law_draw" "_law_draw" s_law_draw .none f fd) (T : Txt K mg cFE cC cN cM cP cL tP tS) : FnOk P w K mg base CX0 1 f fd ["_law_script", "_law_k"] (spDraw K) := by
  refine F.ok sc_law_draw (fun vs H Q E h => ?_) (fun cdv A outer s H vs Q E hr h => ?_)
  · obtain ⟨a, ns, k, rfl, _⟩ := h; rfl
  · obtain ⟨a, ns, k, rfl, hS, hk, kk⟩ := h
    have hu : _ + 64 < cLine := hr.units
    obtain ⟨t2, r2, k2⟩ : ∃ tr, PSs ((cxOf CX0 P w K mg base ["_law_script", "_law_k", "_law_cell", "_law_base"] "_law_draw" (defScope s_law_draw) f cdv A outer s H E).nox) ((defBody s_law_draw).drop 2) tr ∧
        ∀ (c : Int) (H1 : Hp), Same H H1 → tr { nx := fun _ H' => Q .non H', rt := Q } [some (.ref a), some (.int (k : Int)), some (.int c), none] H1 := by
      refine ⟨_, (pss_cons (ps_set (i := 3) sc_law_draw.nd rfl (by first | exact Or.inl rfl | exact Or.inr rfl) (pe_op op_mod (pe_op op_mul (pe_op op_add (pe_op op_add (pe_op op_add (pv 2) (pe_op op_mul (pe_op op_mul pe_int (pv 1)) (pv 1))) (pe_op op_mul pe_int (pv 1))) pe_int) pe_int) pe_int))
        (pss_one (ps_ret (pe_op op_mod (pe_op op_mul (pv 3) (pe_op op_add pe_int (pe_op op_mul (pv 1) (pv 1)))) pe_int)))), ?_⟩
      intro c H1 s1
      refine ⟨_, rfl, _, rfl, _, _, rfl, rfl, .inl ⟨by decide, by decide⟩, _, rfl, _, _, rfl, rfl, .inr ⟨by omega, by omega⟩, _, _, rfl, rfl, _, rfl, _, _, rfl, rfl, .inl ⟨by decide, by decide⟩, _, _, rfl, rfl, _, _, rfl, rfl, _, _, rfl, rfl, .inr ⟨by decide, by decide⟩, _, _, rfl, rfl, (by show (0 : Int) < 2147483647; decide), ?_⟩
      have f0 := Int.emod_nonneg ((c + 1009 * (k : Int) * (k : Int) + 31 * (k : Int) + 11) * 1103515245) (show (2147483647 : Int) ≠ 0 by decide)
      have f1 := Int.emod_lt_of_pos ((c + 1009 * (k : Int) * (k : Int) + 31 * (k : Int) + 11) * 1103515245) (show (0 : Int) < 2147483647 by decide)
      show gName 3 (.int ((c + 1009 * (k : Int) * (k : Int) + 31 * (k : Int) + 11) * 1103515245 % 2147483647)) _ H1 _
      generalize (c + 1009 * (k : Int) * (k : Int) + 31 * (k : Int) + 11) * 1103515245 % 2147483647 = bs at f0 f1 ⊢
      refine ⟨_, rfl, _, rfl, _, rfl, _, _, rfl, rfl, .inl ⟨by omega, by omega⟩, _, _, rfl, rfl, _, _, rfl, rfl, .inl ⟨by omega, by omega⟩, _, _, rfl, rfl, (by show (0 : Int) < 2147483647; decide), ?_⟩
      have g0 := Int.emod_nonneg (bs * (48271 + (k : Int) * (k : Int))) (show (2147483647 : Int) ≠ 0 by decide)
      have g1 := Int.emod_lt_of_pos (bs * (48271 + (k : Int) * (k : Int))) (show (0 : Int) < 2147483647 by decide)
      show Q (.int (bs * (48271 + (k : Int) * (k : Int)) % 2147483647)) H1
      obtain ⟨n, en, hn⟩ : ∃ n : Nat, bs * (48271 + (k : Int) * (k : Int)) % 2147483647 = (n : Int) ∧ n < 2147483647 := ⟨(bs * (48271 + (k : Int) * (k : Int)) % 2147483647).toNat, by omega, by omega⟩
      rw [en]
      exact kk n H1 hn s1
    refine ⟨_, (pss_cons (ps_set (i := 2) sc_law_draw.nd rfl (by first | exact Or.inl rfl | exact Or.inr rfl) pe_int)
        (pss_cons (ps_if (pt_cmpR (neDK K rfl hu) (pv 0) (pe_lst pa_nil) (nomark _)) (pss_one (ps_set (i := 2) sc_law_draw.nd rfl (by first | exact Or.inl rfl | exact Or.inr rfl) (pe_ix (ixK K rfl) (pv 0) (pe_op op_mod (pv 1) (pe_callB (lenK K rfl) rfl T.len PySem.boot_len (pa_cons (pv 0) pa_nil))) (fun _ _ => rfl)))) pss_nil)
        (@r2))), ?_⟩
    refine ⟨_, rfl, Nat.zero_le _, fun p hp => ?_⟩
    have z := same_new (o := HO.lst []) hp
    refine ⟨1, a, p, _, by decide, rfl, rfl, EqL.nil (z.seq hS) (SqL.of upd_same), _, rfl, ?_⟩
    cases ns with
    | nil => exact k2 0 _ z
    | cons x r =>
      refine ⟨_, rfl, _, rfl, _, rfl, a, _, rfl, .inl (z.seq hS), _, _, rfl, rfl, (by show (0 : Int) < (((x :: r).map V.int).length : Int); rw [List.length_map, List.length_cons]; omega), ?_⟩
      have f0 := Int.emod_nonneg (k : Int) (show (((x :: r).map V.int).length : Int) ≠ 0 by rw [List.length_map, List.length_cons]; omega)
      have f1 := Int.emod_lt_of_pos (k : Int) (show (0 : Int) < (((x :: r).map V.int).length : Int) by rw [List.length_map, List.length_cons]; omega)
      obtain ⟨v, hv, hvm⟩ : ∃ v, atI ((x :: r).map V.int) ((k : Int) % (((x :: r).map V.int).length : Int)) = some v ∧ v ∈ (x :: r).map V.int := by
        obtain ⟨j, ej⟩ : ∃ j : Nat, (k : Int) % (((x :: r).map V.int).length : Int) = (j : Int) := ⟨((k : Int) % (((x :: r).map V.int).length : Int)).toNat, by omega⟩
        rw [ej] at f1 ⊢
        have hj : j < ((x :: r).map V.int).length := by omega
        exact ⟨_, atI_nat (List.getElem?_eq_getElem hj), List.getElem_mem hj⟩
      obtain ⟨c, _, rfl⟩ := List.mem_map.mp hvm
      exact ⟨a, _, _, _, rfl, rfl, z.seq hS, hv, k2 c _ z⟩
theorem sc_law_whole : FnScope ["_law_found"] ["_law_found"] (defScope s_law_whole) := ⟨rfl, rfl, rfl, by decide +kernel, rfl, by decide +kernel, by decide +kernel⟩
theorem ok_law_whole {f : Addr} {fd : FuncData} (F : FunD K "_law_whole" "_law_whole" s_law_whole .none f fd) (T : Txt K mg cFE cC cN cM cP cL tP tS) : FnOk P w K mg base CX0 1 f fd ["_law_found"] spWhole := by
  refine F.ok sc_law_whole (fun vs H Q E h => ?_) (fun cdv A outer s H vs Q E hr h => ?_)
  · obtain ⟨i, rfl, _⟩ := h; rfl
  · obtain ⟨i, rfl, k⟩ := h
    refine ⟨_, (pss_one (ps_ret (pe_and (isiK K rfl (pv 0) rfl T.isinstance rfl T.int PyProof.Rows.boot_int) (pe_one (pe_not (isiK K rfl (pv 0) rfl T.isinstance rfl T.bool PyProof.Rows.boot_bool)))))), ?_⟩
    exact ⟨_, rfl, _, (Kd.int (K := K) (H := H) i).isInt, _, rfl, iteT ⟨_, rfl, _, (Kd.int (K := K) (H := H) i).isBool, _, rfl, k⟩⟩
theorem sc_law_word : FnScope ["_law_e", "_law_some", "_law_found"] ["_law_e"] (defScope s_law_word) := ⟨rfl, rfl, rfl, by decide +kernel, rfl, by decide +kernel, by decide +kernel⟩
theorem ok_law_word {c f : Addr} {fd : FuncData} {word : Str} {b1 b2 b3 b4 b5 b6 b7 b8 b9 : Bool} (F : FunD K "_law_word" "_law_word" s_law_word .none f fd) (T : Txt K mg cFE cC cN cM cP cL tP tS) (TW : TxtW K mg c word b1 b2 b3 b4 b5 b6 b7 b8 b9) : FnOkM P w K mg base 2 f fd ["_law_e"] (spW c word) := by
  refine F.okM sc_law_word (fun ea vs H Q E h => ?_) (fun cdv A ea outer s H vs Q E hr h => ?_)
  · obtain ⟨rfl, _⟩ := h; rfl
  · obtain ⟨rfl, ex, k⟩ := h
    obtain ⟨cBadCell, mBadCell, nBadCell⟩ := TW.BadCell
    obtain ⟨cBadColour, mBadColour, nBadColour⟩ := TW.BadColour
    obtain ⟨cBadPack, mBadPack, nBadPack⟩ := TW.BadPack
    obtain ⟨cBadPalette, mBadPalette, nBadPalette⟩ := TW.BadPalette
    obtain ⟨cBadPicture, mBadPicture, nBadPicture⟩ := TW.BadPicture
    obtain ⟨cBadSize, mBadSize, nBadSize⟩ := TW.BadSize
    obtain ⟨cNoColour, mNoColour, nNoColour⟩ := TW.NoColour
    obtain ⟨cTooMany, mTooMany, nTooMany⟩ := TW.TooMany
    obtain ⟨cBadRuns, mBadRuns, nBadRuns⟩ := TW.BadRuns
    obtain ⟨cBadCheck, mBadCheck, nBadCheck⟩ := TW.BadCheck
    obtain ⟨cBadDeed, mBadDeed, nBadDeed⟩ := TW.BadDeed
    obtain ⟨cBadEdge, mBadEdge, nBadEdge⟩ := TW.BadEdge
    obtain ⟨cBadHead, mBadHead, nBadHead⟩ := TW.BadHead
    obtain ⟨cBadMask, mBadMask, nBadMask⟩ := TW.BadMask
    obtain ⟨cBadName, mBadName, nBadName⟩ := TW.BadName
    obtain ⟨cBadPart, mBadPart, nBadPart⟩ := TW.BadPart
    obtain ⟨cBadRule, mBadRule, nBadRule⟩ := TW.BadRule
    obtain ⟨cBadText, mBadText, nBadText⟩ := TW.BadText
    obtain ⟨cNoPart, mNoPart, nNoPart⟩ := TW.NoPart
    obtain ⟨cNoPicture, mNoPicture, nNoPicture⟩ := TW.NoPicture
    obtain ⟨cNothingDone, mNothingDone, nNothingDone⟩ := TW.NothingDone
    obtain ⟨cOutOfPlace, mOutOfPlace, nOutOfPlace⟩ := TW.OutOfPlace
    obtain ⟨cTwice, mTwice, nTwice⟩ := TW.Twice
    refine ⟨_, (pss_cons (ps_set (i := 1) sc_law_word.nd rfl (by first | exact Or.inl rfl | exact Or.inr rfl) (pe_lst (pa_cons (pe_tup (pa_cons pe_str (pa_cons (isiCK K rfl (pv 0) rfl T.isinstance rfl mBadCell) pa_nil))) (pa_cons (pe_tup (pa_cons pe_str (pa_cons (isiCK K rfl (pv 0) rfl T.isinstance rfl mBadColour) pa_nil))) (pa_cons (pe_tup (pa_cons pe_str (pa_cons (isiCK K rfl (pv 0) rfl T.isinstance rfl mBadPack) pa_nil))) pa_nil)))))
        (pss_cons (ps_set (i := 1) sc_law_word.nd rfl (by first | exact Or.inl rfl | exact Or.inr rfl) (pe_op op_cat (pv 1) (pe_lst (pa_cons (pe_tup (pa_cons pe_str (pa_cons (isiCK K rfl (pv 0) rfl T.isinstance rfl mBadPalette) pa_nil))) (pa_cons (pe_tup (pa_cons pe_str (pa_cons (isiCK K rfl (pv 0) rfl T.isinstance rfl mBadPicture) pa_nil))) pa_nil)))))
        (pss_cons (ps_set (i := 1) sc_law_word.nd rfl (by first | exact Or.inl rfl | exact Or.inr rfl) (pe_op op_cat (pv 1) (pe_lst (pa_cons (pe_tup (pa_cons pe_str (pa_cons (isiCK K rfl (pv 0) rfl T.isinstance rfl mBadSize) pa_nil))) (pa_cons (pe_tup (pa_cons pe_str (pa_cons (isiCK K rfl (pv 0) rfl T.isinstance rfl mNoColour) pa_nil))) pa_nil)))))
        (pss_cons (ps_set (i := 1) sc_law_word.nd rfl (by first | exact Or.inl rfl | exact Or.inr rfl) (pe_op op_cat (pv 1) (pe_lst (pa_cons (pe_tup (pa_cons pe_str (pa_cons (isiCK K rfl (pv 0) rfl T.isinstance rfl mTooMany) pa_nil))) (pa_cons (pe_tup (pa_cons pe_str (pa_cons (isiCK K rfl (pv 0) rfl T.isinstance rfl mBadRuns) pa_nil))) pa_nil)))))
        (pss_cons (ps_setCG (Marked ea) (ix := 2) (N := ["_law_word_here", "_law_fits"]) (src := [none, none]) sc_law_word.nd rfl rfl (fun _ _ _ _ => rfl) ⟨rfl, rfl, rfl, rfl, rfl, by decide +kernel⟩ (pi_listM K rfl (pv 1)) (fun s H C fp => pg_tupM (n := 2) K rfl rfl (pgs_cons (pg_name (i := 0) (show (["_law_word_here", "_law_fits"] : List Str).Nodup by decide +kernel) rfl (by first | exact Or.inl rfl | exact Or.inr rfl)) (pgs_cons (pg_name (i := 1) (show (["_law_word_here", "_law_fits"] : List Str).Nodup by decide +kernel) rfl (by first | exact Or.inl rfl | exact Or.inr rfl)) pgs_nil))) (fun s H C fp => (pts_one (pt_val (pv 1)))) (fun s H C fp => (pv 0)))
        (pss_cons (ps_if (pt_val (pe_callB (call_isXE K rfl) rfl T.isinstance PyProof.Rows.boot_isinstance (pa_cons (pv 0) (pa_cons (pe_tup (pa_cons (pe_glob (v := .ref cBadCheck) rfl mBadCheck rfl) (pa_cons (pe_glob (v := .ref cBadDeed) rfl mBadDeed rfl) (pa_cons (pe_glob (v := .ref cBadEdge) rfl mBadEdge rfl) (pa_cons (pe_glob (v := .ref cBadHead) rfl mBadHead rfl) (pa_cons (pe_glob (v := .ref cBadMask) rfl mBadMask rfl) (pa_cons (pe_glob (v := .ref cBadName) rfl mBadName rfl) (pa_cons (pe_glob (v := .ref cBadPart) rfl mBadPart rfl) (pa_cons (pe_glob (v := .ref cBadRule) rfl mBadRule rfl) (pa_cons (pe_glob (v := .ref cBadText) rfl mBadText rfl) pa_nil)))))))))) pa_nil)))) (pss_one (ps_expr (pe_bm PySem.F.plainAttrs_list PySem.F.slot_list_append PySem.F.type_list_append mt_append (pv 2) (pa_cons pe_str pa_nil)))) pss_nil)
        (pss_cons (ps_if (PW.pt (pw_or (pt_val (pe_callB (call_isXE K rfl) rfl T.isinstance PyProof.Rows.boot_isinstance (pa_cons (pv 0) (pa_cons (pe_tup (pa_cons (pe_glob (v := .ref cNoPart) rfl mNoPart rfl) (pa_cons (pe_glob (v := .ref cNoPicture) rfl mNoPicture rfl) (pa_cons (pe_glob (v := .ref cNothingDone) rfl mNothingDone rfl) (pa_cons (pe_glob (v := .ref cOutOfPlace) rfl mOutOfPlace rfl) (pa_cons (pe_glob (v := .ref cTwice) rfl mTwice rfl) pa_nil)))))) pa_nil)))) (pw_or1 (pt_not (pt_val (isiK K rfl (pv 0) rfl T.isinstance rfl T.ValueError boot_VE)))))) (pss_one (ps_expr (pe_bm PySem.F.plainAttrs_list PySem.F.slot_list_append PySem.F.type_list_append mt_append (pv 2) (pa_cons pe_str pa_nil)))) pss_nil)
        (pss_one (ps_ret (pe_callTy (tupleK K rfl) rfl T.tuple PyProof.Rows.boot_tuple (pa_cons (pv 2) pa_nil))))))))))), ?_⟩
    have sm := Same.refl H
    refine ⟨_, rfl, b1, ⟨_, .exc ex TW.kX, nBadCell⟩, (by show 2 ≤ sizeLine; decide), fun t1 h_ => ?_⟩
    have z_ := same_new (o := HO.tup [V.str "cell", .bl b1]) h_
    have ft1 : H t1 = none := sm.free h_
    have sm := sm.trans z_
    have ex := z_ _ _ ex
    have et1 : upd H t1 (HO.tup [V.str "cell", .bl b1]) t1 = some (HO.tup [V.str "cell", .bl b1]) := upd_same
    clear z_
    generalize upd H t1 (HO.tup [V.str "cell", .bl b1]) = G1 at sm ex et1 h_ ⊢
    clear h_
    refine ⟨_, rfl, b2, ⟨_, .exc ex TW.kX, nBadColour⟩, (by show 2 ≤ sizeLine; decide), fun t2 h_ => ?_⟩
    have z_ := same_new (o := HO.tup [V.str "colour", .bl b2]) h_
    have ft2 : H t2 = none := sm.free h_
    have sm := sm.trans z_
    have ex := z_ _ _ ex
    have et1 := z_ _ _ et1
    have et2 : upd G1 t2 (HO.tup [V.str "colour", .bl b2]) t2 = some (HO.tup [V.str "colour", .bl b2]) := upd_same
    clear z_
    generalize upd G1 t2 (HO.tup [V.str "colour", .bl b2]) = G2 at sm ex et1 et2 h_ ⊢
    clear h_
    refine ⟨_, rfl, b3, ⟨_, .exc ex TW.kX, nBadPack⟩, (by show 2 ≤ sizeLine; decide), fun t3 h_ => ?_⟩
    have z_ := same_new (o := HO.tup [V.str "pack", .bl b3]) h_
    have ft3 : H t3 = none := sm.free h_
    have sm := sm.trans z_
    have ex := z_ _ _ ex
    have et1 := z_ _ _ et1
    have et2 := z_ _ _ et2
    have et3 : upd G2 t3 (HO.tup [V.str "pack", .bl b3]) t3 = some (HO.tup [V.str "pack", .bl b3]) := upd_same
    clear z_
    generalize upd G2 t3 (HO.tup [V.str "pack", .bl b3]) = G3 at sm ex et1 et2 et3 h_ ⊢
    clear h_
    refine ⟨(by show 3 ≤ sizeLine; decide), fun l1 h_ => ?_⟩
    have z_ := same_new (o := HO.lst [V.ref t1, .ref t2, .ref t3]) h_
    have fl1 : H l1 = none := sm.free h_
    have sm := sm.trans z_
    have ex := z_ _ _ ex
    have et1 := z_ _ _ et1
    have et2 := z_ _ _ et2
    have et3 := z_ _ _ et3
    have el1 : upd G3 l1 (HO.lst [V.ref t1, .ref t2, .ref t3]) l1 = some (HO.lst [V.ref t1, .ref t2, .ref t3]) := upd_same
    clear z_
    generalize upd G3 l1 (HO.lst [V.ref t1, .ref t2, .ref t3]) = G4 at sm ex et1 et2 et3 el1 h_ ⊢
    clear h_
    refine ⟨_, rfl, ?_⟩
    refine ⟨_, rfl, b4, ⟨_, .exc ex TW.kX, nBadPalette⟩, (by show 2 ≤ sizeLine; decide), fun t4 h_ => ?_⟩
    have z_ := same_new (o := HO.tup [V.str "palette", .bl b4]) h_
    have ft4 : H t4 = none := sm.free h_
    have sm := sm.trans z_
    have ex := z_ _ _ ex
    have et1 := z_ _ _ et1
    have et2 := z_ _ _ et2
    have et3 := z_ _ _ et3
    have el1 := z_ _ _ el1
    have et4 : upd G4 t4 (HO.tup [V.str "palette", .bl b4]) t4 = some (HO.tup [V.str "palette", .bl b4]) := upd_same
    clear z_
    generalize upd G4 t4 (HO.tup [V.str "palette", .bl b4]) = G5 at sm ex et1 et2 et3 el1 et4 h_ ⊢
    clear h_
    refine ⟨_, rfl, b5, ⟨_, .exc ex TW.kX, nBadPicture⟩, (by show 2 ≤ sizeLine; decide), fun t5 h_ => ?_⟩
    have z_ := same_new (o := HO.tup [V.str "picture", .bl b5]) h_
    have ft5 : H t5 = none := sm.free h_
    have sm := sm.trans z_
    have ex := z_ _ _ ex
    have et1 := z_ _ _ et1
    have et2 := z_ _ _ et2
    have et3 := z_ _ _ et3
    have el1 := z_ _ _ el1
    have et4 := z_ _ _ et4
    have et5 : upd G5 t5 (HO.tup [V.str "picture", .bl b5]) t5 = some (HO.tup [V.str "picture", .bl b5]) := upd_same
    clear z_
    generalize upd G5 t5 (HO.tup [V.str "picture", .bl b5]) = G6 at sm ex et1 et2 et3 el1 et4 et5 h_ ⊢
    clear h_
    refine ⟨(by show 2 ≤ sizeLine; decide), fun m2 h_ => ?_⟩
    have z_ := same_new (o := HO.lst [V.ref t4, .ref t5]) h_
    have fm2 : H m2 = none := sm.free h_
    have sm := sm.trans z_
    have ex := z_ _ _ ex
    have et1 := z_ _ _ et1
    have et2 := z_ _ _ et2
    have et3 := z_ _ _ et3
    have el1 := z_ _ _ el1
    have et4 := z_ _ _ et4
    have et5 := z_ _ _ et5
    have em2 : upd G6 m2 (HO.lst [V.ref t4, .ref t5]) m2 = some (HO.lst [V.ref t4, .ref t5]) := upd_same
    clear z_
    generalize upd G6 m2 (HO.lst [V.ref t4, .ref t5]) = G7 at sm ex et1 et2 et3 el1 et4 et5 em2 h_ ⊢
    clear h_
    refine ⟨l1, m2, _, _, rfl, rfl, el1, em2, (by show 3 + 2 ≤ sizeLine; decide), fun l2 h_ => ?_⟩
    have z_ := same_new (o := HO.lst ([V.ref t1, .ref t2, .ref t3] ++ [V.ref t4, .ref t5])) h_
    have fl2 : H l2 = none := sm.free h_
    have sm := sm.trans z_
    have ex := z_ _ _ ex
    have et1 := z_ _ _ et1
    have et2 := z_ _ _ et2
    have et3 := z_ _ _ et3
    have el1 := z_ _ _ el1
    have et4 := z_ _ _ et4
    have et5 := z_ _ _ et5
    have em2 := z_ _ _ em2
    have el2 : upd G7 l2 (HO.lst ([V.ref t1, .ref t2, .ref t3] ++ [V.ref t4, .ref t5])) l2 = some (HO.lst ([V.ref t1, .ref t2, .ref t3] ++ [V.ref t4, .ref t5])) := upd_same
    clear z_
    generalize upd G7 l2 (HO.lst ([V.ref t1, .ref t2, .ref t3] ++ [V.ref t4, .ref t5])) = G8 at sm ex et1 et2 et3 el1 et4 et5 em2 el2 h_ ⊢
    clear h_
    have el2 : G8 l2 = some (.lst [V.ref t1, .ref t2, .ref t3, .ref t4, .ref t5]) := el2
    refine ⟨_, rfl, ?_⟩
    refine ⟨_, rfl, b6, ⟨_, .exc ex TW.kX, nBadSize⟩, (by show 2 ≤ sizeLine; decide), fun t6 h_ => ?_⟩
    have z_ := same_new (o := HO.tup [V.str "size", .bl b6]) h_
    have ft6 : H t6 = none := sm.free h_
    have sm := sm.trans z_
    have ex := z_ _ _ ex
    have et1 := z_ _ _ et1
    have et2 := z_ _ _ et2
    have et3 := z_ _ _ et3
    have et4 := z_ _ _ et4
    have et5 := z_ _ _ et5
    have el2 := z_ _ _ el2
    have et6 : upd G8 t6 (HO.tup [V.str "size", .bl b6]) t6 = some (HO.tup [V.str "size", .bl b6]) := upd_same
    clear z_
    generalize upd G8 t6 (HO.tup [V.str "size", .bl b6]) = G9 at sm ex et1 et2 et3 et4 et5 el2 et6 h_ ⊢
    clear h_
    refine ⟨_, rfl, b7, ⟨_, .exc ex TW.kX, nNoColour⟩, (by show 2 ≤ sizeLine; decide), fun t7 h_ => ?_⟩
    have z_ := same_new (o := HO.tup [V.str "none", .bl b7]) h_
    have ft7 : H t7 = none := sm.free h_
    have sm := sm.trans z_
    have ex := z_ _ _ ex
    have et1 := z_ _ _ et1
    have et2 := z_ _ _ et2
    have et3 := z_ _ _ et3
    have et4 := z_ _ _ et4
    have et5 := z_ _ _ et5
    have el2 := z_ _ _ el2
    have et6 := z_ _ _ et6
    have et7 : upd G9 t7 (HO.tup [V.str "none", .bl b7]) t7 = some (HO.tup [V.str "none", .bl b7]) := upd_same
    clear z_
    generalize upd G9 t7 (HO.tup [V.str "none", .bl b7]) = G10 at sm ex et1 et2 et3 et4 et5 el2 et6 et7 h_ ⊢
    clear h_
    refine ⟨(by show 2 ≤ sizeLine; decide), fun m3 h_ => ?_⟩
    have z_ := same_new (o := HO.lst [V.ref t6, .ref t7]) h_
    have fm3 : H m3 = none := sm.free h_
    have sm := sm.trans z_
    have ex := z_ _ _ ex
    have et1 := z_ _ _ et1
    have et2 := z_ _ _ et2
    have et3 := z_ _ _ et3
    have et4 := z_ _ _ et4
    have et5 := z_ _ _ et5
    have el2 := z_ _ _ el2
    have et6 := z_ _ _ et6
    have et7 := z_ _ _ et7
    have em3 : upd G10 m3 (HO.lst [V.ref t6, .ref t7]) m3 = some (HO.lst [V.ref t6, .ref t7]) := upd_same
    clear z_
    generalize upd G10 m3 (HO.lst [V.ref t6, .ref t7]) = G11 at sm ex et1 et2 et3 et4 et5 el2 et6 et7 em3 h_ ⊢
    clear h_
    refine ⟨l2, m3, _, _, rfl, rfl, el2, em3, (by show 5 + 2 ≤ sizeLine; decide), fun l3 h_ => ?_⟩
    have z_ := same_new (o := HO.lst ([V.ref t1, .ref t2, .ref t3, .ref t4, .ref t5] ++ [V.ref t6, .ref t7])) h_
    have fl3 : H l3 = none := sm.free h_
    have sm := sm.trans z_
    have ex := z_ _ _ ex
    have et1 := z_ _ _ et1
    have et2 := z_ _ _ et2
    have et3 := z_ _ _ et3
    have et4 := z_ _ _ et4
    have et5 := z_ _ _ et5
    have el2 := z_ _ _ el2
    have et6 := z_ _ _ et6
    have et7 := z_ _ _ et7
    have em3 := z_ _ _ em3
    have el3 : upd G11 l3 (HO.lst ([V.ref t1, .ref t2, .ref t3, .ref t4, .ref t5] ++ [V.ref t6, .ref t7])) l3 = some (HO.lst ([V.ref t1, .ref t2, .ref t3, .ref t4, .ref t5] ++ [V.ref t6, .ref t7])) := upd_same
    clear z_
    generalize upd G11 l3 (HO.lst ([V.ref t1, .ref t2, .ref t3, .ref t4, .ref t5] ++ [V.ref t6, .ref t7])) = G12 at sm ex et1 et2 et3 et4 et5 el2 et6 et7 em3 el3 h_ ⊢
    clear h_
    have el3 : G12 l3 = some (.lst [V.ref t1, .ref t2, .ref t3, .ref t4, .ref t5, .ref t6, .ref t7]) := el3
    refine ⟨_, rfl, ?_⟩
    refine ⟨_, rfl, b8, ⟨_, .exc ex TW.kX, nTooMany⟩, (by show 2 ≤ sizeLine; decide), fun t8 h_ => ?_⟩
    have z_ := same_new (o := HO.tup [V.str "many", .bl b8]) h_
    have ft8 : H t8 = none := sm.free h_
    have sm := sm.trans z_
    have ex := z_ _ _ ex
    have et1 := z_ _ _ et1
    have et2 := z_ _ _ et2
    have et3 := z_ _ _ et3
    have et4 := z_ _ _ et4
    have et5 := z_ _ _ et5
    have et6 := z_ _ _ et6
    have et7 := z_ _ _ et7
    have el3 := z_ _ _ el3
    have et8 : upd G12 t8 (HO.tup [V.str "many", .bl b8]) t8 = some (HO.tup [V.str "many", .bl b8]) := upd_same
    clear z_
    generalize upd G12 t8 (HO.tup [V.str "many", .bl b8]) = G13 at sm ex et1 et2 et3 et4 et5 et6 et7 el3 et8 h_ ⊢
    clear h_
    refine ⟨_, rfl, b9, ⟨_, .exc ex TW.kX, nBadRuns⟩, (by show 2 ≤ sizeLine; decide), fun t9 h_ => ?_⟩
    have z_ := same_new (o := HO.tup [V.str "runs", .bl b9]) h_
    have ft9 : H t9 = none := sm.free h_
    have sm := sm.trans z_
    have ex := z_ _ _ ex
    have et1 := z_ _ _ et1
    have et2 := z_ _ _ et2
    have et3 := z_ _ _ et3
    have et4 := z_ _ _ et4
    have et5 := z_ _ _ et5
    have et6 := z_ _ _ et6
    have et7 := z_ _ _ et7
    have el3 := z_ _ _ el3
    have et8 := z_ _ _ et8
    have et9 : upd G13 t9 (HO.tup [V.str "runs", .bl b9]) t9 = some (HO.tup [V.str "runs", .bl b9]) := upd_same
    clear z_
    generalize upd G13 t9 (HO.tup [V.str "runs", .bl b9]) = G14 at sm ex et1 et2 et3 et4 et5 et6 et7 el3 et8 et9 h_ ⊢
    clear h_
    refine ⟨(by show 2 ≤ sizeLine; decide), fun m4 h_ => ?_⟩
    have z_ := same_new (o := HO.lst [V.ref t8, .ref t9]) h_
    have fm4 : H m4 = none := sm.free h_
    have sm := sm.trans z_
    have ex := z_ _ _ ex
    have et1 := z_ _ _ et1
    have et2 := z_ _ _ et2
    have et3 := z_ _ _ et3
    have et4 := z_ _ _ et4
    have et5 := z_ _ _ et5
    have et6 := z_ _ _ et6
    have et7 := z_ _ _ et7
    have el3 := z_ _ _ el3
    have et8 := z_ _ _ et8
    have et9 := z_ _ _ et9
    have em4 : upd G14 m4 (HO.lst [V.ref t8, .ref t9]) m4 = some (HO.lst [V.ref t8, .ref t9]) := upd_same
    clear z_
    generalize upd G14 m4 (HO.lst [V.ref t8, .ref t9]) = G15 at sm ex et1 et2 et3 et4 et5 et6 et7 el3 et8 et9 em4 h_ ⊢
    clear h_
    refine ⟨l3, m4, _, _, rfl, rfl, el3, em4, (by show 7 + 2 ≤ sizeLine; decide), fun l4 h_ => ?_⟩
    have z_ := same_new (o := HO.lst ([V.ref t1, .ref t2, .ref t3, .ref t4, .ref t5, .ref t6, .ref t7] ++ [V.ref t8, .ref t9])) h_
    have fl4 : H l4 = none := sm.free h_
    have sm := sm.trans z_
    have ex := z_ _ _ ex
    have et1 := z_ _ _ et1
    have et2 := z_ _ _ et2
    have et3 := z_ _ _ et3
    have et4 := z_ _ _ et4
    have et5 := z_ _ _ et5
    have et6 := z_ _ _ et6
    have et7 := z_ _ _ et7
    have el3 := z_ _ _ el3
    have et8 := z_ _ _ et8
    have et9 := z_ _ _ et9
    have em4 := z_ _ _ em4
    have el4 : upd G15 l4 (HO.lst ([V.ref t1, .ref t2, .ref t3, .ref t4, .ref t5, .ref t6, .ref t7] ++ [V.ref t8, .ref t9])) l4 = some (HO.lst ([V.ref t1, .ref t2, .ref t3, .ref t4, .ref t5, .ref t6, .ref t7] ++ [V.ref t8, .ref t9])) := upd_same
    clear z_
    generalize upd G15 l4 (HO.lst ([V.ref t1, .ref t2, .ref t3, .ref t4, .ref t5, .ref t6, .ref t7] ++ [V.ref t8, .ref t9])) = G16 at sm ex et1 et2 et3 et4 et5 et6 et7 el3 et8 et9 em4 el4 h_ ⊢
    clear h_
    have el4 : G16 l4 = some (.lst [V.ref t1, .ref t2, .ref t3, .ref t4, .ref t5, .ref t6, .ref t7, .ref t8, .ref t9]) := el4
    refine ⟨_, rfl, l4, rfl, ⟨_, SqL.of el4⟩, fun D h_ => ?_⟩
    have hT : ∀ t ∈ ([(t1, ("cell" : Str), b1), (t2, ("colour" : Str), b2), (t3, ("pack" : Str), b3), (t4, ("palette" : Str), b4), (t5, ("picture" : Str), b5), (t6, ("size" : Str), b6), (t7, ("none" : Str), b7), (t8, ("many" : Str), b8), (t9, ("runs" : Str), b9)] : List (Addr × Str × Bool)), SqT K G16 t.1 [.str t.2.1, .bl t.2.2] := fun t ht => by
      simp only [List.mem_cons, List.not_mem_nil, or_false] at ht
      rcases ht with rfl | rfl | rfl | rfl | rfl | rfl | rfl | rfl | rfl
      · exact SqT.of et1
      · exact SqT.of et2
      · exact SqT.of et3
      · exact SqT.of et4
      · exact SqT.of et5
      · exact SqT.of et6
      · exact SqT.of et7
      · exact SqT.of et8
      · exact SqT.of et9
    refine comp_word (L := [(t1, ("cell" : Str), b1), (t2, ("colour" : Str), b2), (t3, ("pack" : Str), b3), (t4, ("palette" : Str), b4), (t5, ("picture" : Str), b5), (t6, ("size" : Str), b6), (t7, ("none" : Str), b7), (t8, ("many" : Str), b8), (t9, ("runs" : Str), b9)]) (SqL.of el4) hT ⟨c, ex⟩ (by show 9 ≤ sizeLine; decide) rfl h_ fun H5 s5 eD => ?_
    have fD : H D = none := sm.free h_
    have eD : H5 D = some (.lst [.str word]) := by rw [eD, TW.hw]
    have ex := s5 _ _ ex
    have sm := sm.trans s5
    refine ⟨_, rfl, (by show 9 ≤ sizeLine; decide), fun p1 hp1 => ?_⟩
    have y1 := same_new (o := HO.tup [V.ref cBadCheck, V.ref cBadDeed, V.ref cBadEdge, V.ref cBadHead, V.ref cBadMask, V.ref cBadName, V.ref cBadPart, V.ref cBadRule, V.ref cBadText]) hp1
    refine ⟨ea, c, p1, [cBadCheck, cBadDeed, cBadEdge, cBadHead, cBadMask, cBadName, cBadPart, cBadRule, cBadText], false, rfl, y1 _ _ ex, TW.kX, SqT.of upd_same, kitAny_none (fun c hc => ?_), ?_⟩
    · simp only [List.mem_cons, List.not_mem_nil, or_false] at hc
      rcases hc with rfl | rfl | rfl | rfl | rfl | rfl | rfl | rfl | rfl <;> assumption
    have ex := y1 _ _ ex
    have eD := y1 _ _ eD
    have sm := sm.trans y1
    generalize upd H5 p1 (HO.tup [V.ref cBadCheck, V.ref cBadDeed, V.ref cBadEdge, V.ref cBadHead, V.ref cBadMask, V.ref cBadName, V.ref cBadPart, V.ref cBadRule, V.ref cBadText]) = Y1 at ex eD sm y1 ⊢
    refine ⟨_, rfl, ?_⟩
    refine ⟨_, rfl, (by show 5 ≤ sizeLine; decide), fun p2 hp2 => ?_⟩
    have y2 := same_new (o := HO.tup [V.ref cNoPart, V.ref cNoPicture, V.ref cNothingDone, V.ref cOutOfPlace, V.ref cTwice]) hp2
    refine ⟨ea, c, p2, [cNoPart, cNoPicture, cNothingDone, cOutOfPlace, cTwice], false, rfl, y2 _ _ ex, TW.kX, SqT.of upd_same, kitAny_none (fun c hc => ?_), ?_⟩
    · simp only [List.mem_cons, List.not_mem_nil, or_false] at hc
      rcases hc with rfl | rfl | rfl | rfl | rfl <;> assumption
    have ex := y2 _ _ ex
    have eD := y2 _ _ eD
    have sm := sm.trans y2
    generalize upd Y1 p2 (HO.tup [V.ref cNoPart, V.ref cNoPicture, V.ref cNothingDone, V.ref cOutOfPlace, V.ref cTwice]) = Y2 at ex eD sm y2 ⊢
    refine ⟨_, rfl, _, rfl, true, ⟨_, .exc ex TW.kX, TW.iV⟩, _, rfl, ?_⟩
    exact ⟨_, rfl, D, _, rfl, .inl ⟨SqL.of eD, fun t ht => k t _ (sm.trans (same_new ht)) (sm.free ht) upd_same⟩⟩
end
end K16
set_option Elab.async false
set_option linter.all false
set_option maxRecDepth 100000
set_option maxHeartbeats 1600000
namespace K16
open PySem L2 M4
noncomputable def spColour : Sp := fun vs H Q _ => ∃ n : Nat, vs = [.int (n : Int)] ∧ ∀ t H' r g b, Same H H' → H t = none → Col H' t r g b → Q (.ref t) H'
noncomputable def spLApart : Sp := fun vs H Q _ => ∃ a r g b a' r' g' b', vs = [.ref a, .ref a'] ∧ Col H a r g b ∧ Col H a' r' g' b' ∧ Q (.int (distI r g b r' g' b')) H
theorem slTK {X : Cx} (K : PySem.W.Frag) (h : X.K = K) : SlR X (rSlT K) := by subst h; exact sl_tup
theorem catAK {X : Cx} (K : PySem.W.Frag) (h : X.K = K) : OpR X (binaryOp .Add) (rCatA K) := by subst h; exact op_catA
theorem at_mod {xs : List V} {m : Int} (n : Nat) (h : xs.length = n) (hn : 0 < n) : ∃ x ∈ xs, atI xs (m % (n : Int)) = some x := by
  have f0 := Int.emod_nonneg m (show (n : Int) ≠ 0 by omega)
  have f1 := Int.emod_lt_of_pos m (show (0 : Int) < (n : Int) by omega)
  obtain ⟨j, ej⟩ : ∃ j : Nat, m % (n : Int) = (j : Int) := ⟨(m % (n : Int)).toNat, by omega⟩
  rw [ej] at f1 ⊢
  have hj : j < xs.length := by omega
  exact ⟨_, List.getElem_mem hj, atI_nat (List.getElem?_eq_getElem hj)⟩
theorem bad3 {K : PySem.W.Frag} {H : Hp} {a : Addr} {x y z : V} (e : H a = some (.tup [x, y, z])) (hx : Kd K H x) (hy : Kd K H y) (hz : Kd K H z) (h : (isWh 0 255 x && (isWh 0 255 y && isWh 0 255 z)) = false) : TC K H (.ref a) ∧ colB H (.ref a) = false := by
  refine ⟨TC.tup e (by show 3 ≤ 1000; decide) fun v hv => ?_, ?_⟩
  · simp only [List.mem_cons, List.not_mem_nil, or_false] at hv
    rcases hv with rfl | rfl | rfl <;> assumption
  · unfold colB
    rw [tupOf_tup e]
    simp only [List.all_cons, List.all_nil, Bool.and_true, h, Bool.and_false]
theorem badT {K : PySem.W.Frag} {H : Hp} {a : Addr} {xs : List V} (e : H a = some (.tup xs)) (hl : xs.length ≤ 1000) (hk : ∀ x ∈ xs, Kd K H x) (h3 : xs.length ≠ 3) : TC K H (.ref a) ∧ colB H (.ref a) = false := by
  refine ⟨TC.tup e hl hk, ?_⟩
  unfold colB
  rw [tupOf_tup e]
  simp only [decide_eq_false h3, Bool.false_and]
theorem badO {K : PySem.W.Frag} {H : Hp} {v : V} (k : Kd K H v) (h : tupOf H v = none) : TC K H v ∧ colB H v = false := ⟨TC.other k h, by unfold colB; rw [h]⟩
theorem odd_all {K : PySem.W.Frag} {H : Hp} {sp l p2 p4 p5 d : Addr} {r g b : Nat} {v : V} (tc : TC K H (.ref sp)) (cb : colB H (.ref sp) = false) (el : H l = some (.lst [.int (r : Int), .int (g : Int), .int (b : Int)])) (e2 : H p2 = some (.tup [.int (r : Int), .int (g : Int)]))
    (e4 : H p4 = some (.tup ([.int (r : Int), .int (g : Int), .int (b : Int)] ++ [.int 0]))) (e5 : H p5 = some (.tup [])) (ed : H d = some (DictO d))
    (hm : v ∈ [V.ref sp, .ref sp, .non, .int 5, .str "abc", .ref l, .ref p2, .ref p4, .ref p5, .ref d, .str "#000000"]) : TC K H v ∧ colB H v = false := by
  simp only [List.mem_cons, List.not_mem_nil, or_false] at hm
  rcases hm with rfl | rfl | rfl | rfl | rfl | rfl | rfl | rfl | rfl | rfl | rfl
  · exact ⟨tc, cb⟩
  · exact ⟨tc, cb⟩
  · exact badO .non rfl
  · exact badO (.int _) rfl
  · exact badO (.str _) rfl
  · exact badO (.lst el) (by simp only [tupOf, el])
  · refine badT e2 (by show 2 ≤ 1000; decide) (fun x hx => ?_) (by show 2 ≠ 3; decide)
    simp only [List.mem_cons, List.not_mem_nil, or_false] at hx
    rcases hx with rfl | rfl <;> exact .int _
  · refine badT e4 (by show 4 ≤ 1000; decide) (fun x hx => ?_) (by show 4 ≠ 3; decide)
    simp only [List.cons_append, List.nil_append, List.mem_cons, List.not_mem_nil, or_false] at hx
    rcases hx with rfl | rfl | rfl | rfl <;> exact .int _
  · exact badT e5 (by show 0 ≤ 1000; decide) (fun x hx => nomatch hx) (by show 0 ≠ 3; decide)
  · exact badO (.dict ed) (by simp only [tupOf, ed, DictO])
  · exact badO (.str _) rfl
theorem sh_all {K : PySem.W.Frag} {H : Hp} {p : Addr} {v : V} (ep : H p = some (.lst [.int 0])) (hm : v ∈ [V.int (-1), .int 256, .bl true, .non, .str "0", .ref p, .int (10 ^ 20), .bl false]) : Kd K H v ∧ isWh 0 255 v = false := by
  simp only [List.mem_cons, List.not_mem_nil, or_false] at hm
  rcases hm with rfl | rfl | rfl | rfl | rfl | rfl | rfl | rfl
  · exact ⟨.int _, by decide⟩
  · exact ⟨.int _, by decide⟩
  · exact ⟨.bl _, rfl⟩
  · exact ⟨.non, rfl⟩
  · exact ⟨.str _, rfl⟩
  · exact ⟨.lst ep, rfl⟩
  · exact ⟨.int _, by decide⟩
  · exact ⟨.bl _, rfl⟩
noncomputable def spOdd (K : PySem.W.Frag) : Sp := fun vs H Q _ => ∃ (n : Nat) (a : Addr) (r g b : Nat), vs = [.int (n : Int), .ref a] ∧ Col H a r g b ∧ ∀ v H', Same H H' → TC K H' v → colB H' v = false → Q v H'
theorem sq2_comm (x y : Nat) : sq2 x y = sq2 y x := by
  unfold sq2
  have : (x : Int) - (y : Int) = -((y : Int) - (x : Int)) := by omega
  rw [this, Int.pow_succ, Int.pow_succ, Int.pow_succ, Int.pow_succ, Int.pow_zero, Int.pow_zero, Int.one_mul, Int.one_mul, Int.neg_mul_neg]
theorem dist_comm (r g b r' g' b' : Nat) : distI r' g' b' r g b = distI r g b r' g' b' := by
  unfold distI
  rw [sq2_comm r', sq2_comm g', sq2_comm b']
theorem ColsV.snoc {H : Hp} {a p : Addr} {cs : List (Addr × Nat × Nat × Nat)} {r g b : Nat} (e : H a = some (.lst (cs.map (fun c => V.ref c.1) ++ [V.ref p]))) (h : ∀ c ∈ cs, Col H c.1 c.2.1 c.2.2.1 c.2.2.2) (c : Col H p r g b) : ColsV H a (cs ++ [(p, r, g, b)]) := by
  refine ⟨by rw [e, List.map_append]; rfl, fun d hd => ?_⟩
  rcases List.mem_append.mp hd with hd | hd
  · exact h d hd
  · rw [List.mem_singleton.mp hd]; exact c
noncomputable def spPool (K : PySem.W.Frag) : Sp := fun vs H Q _ => ∃ (a : Addr) (ns : List Int) (k : Nat) (nr : Bool), vs = [.ref a, .int (k : Int), .bl nr] ∧ SqL K H a (ns.map V.int) ∧ k ≤ 100 ∧ ∀ p cs H', Same H H' → H p = none → ColsV H' p cs → 1 ≤ cs.length → cs.length ≤ 24 → (cs.map kc).Nodup → Q (.ref p) H'
noncomputable def spLNear : Sp := fun vs H Q _ => ∃ l a cs r g b, vs = [.ref l, .ref a] ∧ ColsV H l cs ∧ 1 ≤ cs.length ∧ cs.length ≤ 1000 ∧ Col H a r g b ∧ Q (.int (firstI (dsts cs r g b) : Int)) H
theorem minI_le {ns : List Int} {x : Int} (h : x ∈ ns) : minI ns ≤ x := by
  obtain ⟨j, hj, rfl⟩ := List.getElem_of_mem h
  have := (PySem.argBest_lt (fun i => ns.getD i 0) (ns.length - 1)).2 j (by omega)
  unfold minI
  rw [List.getD_eq_getElem?_getD (i := j), List.getElem?_eq_getElem hj] at this
  exact this
theorem firstI_is {ns : List Int} {j : Nat} {x : Int} (hj : ns[j]? = some x) (h1 : ∀ y ∈ ns, x ≤ y) (h2 : ∀ (i : Nat) y, i < j → ns[i]? = some y → x < y) : firstI ns = j := by
  have hm : minI ns = x := by
    have a := minI_le (List.mem_of_getElem? hj)
    have b := h1 _ (minI_mem (ns := ns) (fun z => by rw [z] at hj; cases hj))
    omega
  have ne : ns ≠ [] := fun z => by rw [z] at hj; cases hj
  have f1 := firstI_at ne
  rcases Nat.lt_trichotomy (firstI ns) j with q | q | q
  · have := h2 _ _ q f1; omega
  · exact q
  · exact absurd hm.symm (firstI_before q hj)
theorem findIdx_none {cs : List (Addr × Nat × Nat × Nat)} {r g b : Nat} (h : cs.findIdx? (isC r g b) = none) : ([(r : Int), (g : Int), (b : Int)] : List Int) ∉ cs.map kc := by
  intro hm
  obtain ⟨c, hc, e⟩ := List.mem_map.mp hm
  have := List.findIdx?_eq_none_iff.mp h c hc
  obtain ⟨a, r', g', b'⟩ := c
  unfold kc at e
  simp at e
  unfold isC at this
  have := of_decide_eq_false this
  exact this (by simp; omega)
section
variable {P : Program} {w : World} {K : PySem.W.Frag} {mg : Str → Option Value} {base : Heap} {cFE cC cN cM cP cL : Addr} {tP tS : Tok}
theorem sc_law_colour : FnScope ["_law_number", "_law_shares", "_law_way"] ["_law_number"] (defScope s_law_colour) := ⟨rfl, rfl, rfl, by decide +kernel, rfl, by decide +kernel, by decide +kernel⟩
theorem ok_law_colour {f : Addr} {fd : FuncData} (F : FunD K "_law_colour" "_law_colour" s_law_colour .none f fd) (T : Txt K mg cFE cC cN cM cP cL tP tS) : FnOk P w K mg base CX0 1 f fd ["_law_number"] (spColour) := by
  refine F.ok sc_law_colour (fun vs H Q E h => ?_) (fun cdv A outer s H vs Q E hr h => ?_)
  · obtain ⟨n, rfl, _⟩ := h; rfl
  · obtain ⟨n, rfl, k⟩ := h
    obtain ⟨t3, r3, k3⟩ : ∃ tr, PSs ((cxOf CX0 P w K mg base ["_law_number", "_law_shares", "_law_way"] "_law_colour" (defScope s_law_colour) f cdv A outer s H E).nox) ((defBody s_law_colour).drop 3) tr ∧
        ∀ (m : Nat) (L : Addr) (x y z : Nat) (H1 : Hp), Same H H1 → H1 L = some (.lst [.int (x : Int), .int (y : Int), .int (z : Int)]) → x ≤ 255 → y ≤ 255 → z ≤ 255 → tr { nx := fun _ H' => Q .non H', rt := Q } [some (.int (n : Int)), some (.ref L), some (.int (m : Int))] H1 := by
      refine ⟨_, (pss_cons (ps_if (pt_cmpR op_eq (pv 2) pe_int (nomark _)) (pss_one (ps_set (i := 1) sc_law_colour.nd rfl (by first | exact Or.inl rfl | exact Or.inr rfl) (pe_lst (pa_cons (pe_ix (ixK K rfl) (pv 1) pe_int (fun _ _ => rfl)) (pa_cons (pe_ix (ixK K rfl) (pv 1) pe_int (fun _ _ => rfl)) (pa_cons (pe_ix (ixK K rfl) (pv 1) pe_int (fun _ _ => rfl)) pa_nil)))))) pss_nil)
        (pss_one (ps_ret (pe_callTy call_tuple_of rfl T.tuple PyProof.Rows.boot_tuple (pa_cons (pv 1) pa_nil))))), ?_⟩
      intro m L x y z H1 s1 eL hx hy hz
      refine ⟨_, rfl, rfl, _, rfl, iteB (fun h => ?_) (fun h => ?_)⟩
      rotate_left
      · exact ⟨_, rfl, L, _, rfl, .inl ⟨SqL.of eL, fun tp htp => k tp _ x y z (s1.trans (same_new htp)) (s1.free htp) ⟨upd_same, hx, hy, hz⟩⟩⟩
      · refine ⟨_, rfl, L, _, _, _, rfl, rfl, SqL.of eL, atI_nat (j := 0) rfl, _, rfl, L, _, _, _, rfl, rfl, SqL.of eL, atI_nat (j := 0) rfl, _, rfl, L, _, _, _, rfl, rfl, SqL.of eL, atI_nat (j := 0) rfl, (by show 3 ≤ sizeLine; decide), fun M hM => ?_⟩
        have s2 := s1.trans (same_new (o := HO.lst [V.int (x : Int), .int (x : Int), .int (x : Int)]) hM)
        exact ⟨_, rfl, M, _, rfl, .inl ⟨SqL.of upd_same, fun tp htp => k tp _ x x x (s2.trans (same_new htp)) (s2.free htp) ⟨upd_same, hx, hx, hx⟩⟩⟩
    refine ⟨_, (pss_cons (ps_set (i := 1) sc_law_colour.nd rfl (by first | exact Or.inl rfl | exact Or.inr rfl) (pe_lst (pa_cons (pe_op op_mod (pv 0) pe_int) (pa_cons (pe_op op_mod (pe_op op_fdiv (pv 0) pe_int) pe_int) (pa_cons (pe_op op_mod (pe_op op_fdiv (pv 0) pe_int) pe_int) pa_nil)))))
        (pss_cons (ps_set (i := 2) sc_law_colour.nd rfl (by first | exact Or.inl rfl | exact Or.inr rfl) (pe_op op_mod (pe_op op_fdiv (pv 0) pe_int) pe_int))
        (pss_cons (ps_if (pt_cmpR op_lt (pv 2) pe_int (nomark _)) (pss_one (ps_setC (ix := 1) (N := ["_law_share"]) (src := [none]) sc_law_colour.nd rfl rfl rfl ⟨rfl, rfl, rfl, rfl, rfl, by decide +kernel⟩ (piK K rfl (pv 1)) (fun s H C fp => pg_name (i := 0) (show (["_law_share"] : List Str).Nodup by decide +kernel) rfl (by first | exact Or.inl rfl | exact Or.inr rfl)) (fun s H C fp => pts_nil) (fun s H C fp => (pe_ix (ixK K rfl) (pe_lst (pa_cons pe_int (pa_cons pe_int (pa_cons pe_int (pa_cons pe_int pa_nil))))) (pe_op op_mod (pv 0) pe_int) (fun _ _ => rfl))))) pss_nil)
        (@r3)))), ?_⟩
    refine ⟨_, rfl, _, _, rfl, rfl, (by show (0 : Int) < 256; decide), _, rfl, _, _, rfl, rfl, ⟨by decide, by decide⟩, _, _, rfl, rfl, (by show (0 : Int) < 256; decide), _, rfl, _, _, rfl, rfl, ⟨by decide, by decide⟩, _, _, rfl, rfl, (by show (0 : Int) < 256; decide), (by show 3 ≤ sizeLine; decide), fun L hL => ?_⟩
    have sL := same_new (o := HO.lst [V.int ((n : Int) % 256), .int ((n : Int) / 256 % 256), .int ((n : Int) / 65536 % 256)]) hL
    have eL : upd H L (.lst [.int ((n : Int) % 256), .int ((n : Int) / 256 % 256), .int ((n : Int) / 65536 % 256)]) L = some (.lst ([n % 256, n / 256 % 256, n / 65536 % 256].map fun i : Nat => V.int (i : Int))) := upd_same
    refine ⟨_, rfl, _, _, rfl, rfl, ⟨by decide, by decide⟩, _, _, rfl, rfl, (by show (0 : Int) < 9; decide), ?_⟩
    obtain ⟨m, em⟩ : ∃ m : Nat, (n : Int) / 16777216 % 9 = (m : Int) := ⟨n / 16777216 % 9, by omega⟩
    show gName 2 (.int ((n : Int) / 16777216 % 9)) _ _ _
    rw [em]
    generalize upd H L (HO.lst [.int ((n : Int) % 256), .int ((n : Int) / 256 % 256), .int ((n : Int) / 65536 % 256)]) = H1 at sL eL ⊢
    have l0 : n % 256 ≤ 255 := by omega
    have l1 : n / 256 % 256 ≤ 255 := by omega
    have l2 : n / 65536 % 256 ≤ 255 := by omega
    generalize n % 256 = x at eL l0 ⊢
    generalize n / 256 % 256 = y at eL l1 ⊢
    generalize n / 65536 % 256 = z at eL l2 ⊢
    refine ⟨_, rfl, _, _, rfl, rfl, _, rfl, iteB (fun h => ?_) (fun h => ?_)⟩
    rotate_left
    · exact k3 m L x y z H1 sL eL l0 l1 l2
    · refine ⟨_, rfl, L, rfl, ⟨_, SqL.of eL⟩, fun D hD => ?_⟩
      refine comp_fm (k := 0) (fun v => match v with | .int i => .int (([0, 255, 1, 254].getD (i.toNat % 4) 0 : Nat) : Int) | _ => .non) (fun _ => true) (src_list (SqL.of eL)) (by show 3 ≤ sizeLine; decide) hD (fun x _ H' Qb _ kk => kk H' (Same.refl _)) (fun v hv _ H' Q' sm kk => ?_) fun H3 s3 hD3 => ?_
      · obtain ⟨i, hi, rfl⟩ := List.mem_map.mp hv
        refine ⟨(by show 4 ≤ sizeLine; decide), fun p hp => ?_⟩
        have tt : Q' (.int (([0, 255, 1, 254].getD (i % 4) 0 : Nat) : Int)) (upd H' p (.lst [.int 0, .int 255, .int 1, .int 254])) := kk _ (same_new hp)
        refine ⟨_, rfl, _, _, rfl, rfl, (by show (0 : Int) < 4; decide), p, _, _, _, rfl, rfl, SqL.of upd_same, atI_nat (j := i % 4) ?_, tt⟩
        have : i % 4 < 4 := Nat.mod_lt _ (by decide)
        generalize i % 4 = q at this ⊢
        match q, this with
        | 0, _ => rfl
        | 1, _ => rfl
        | 2, _ => rfl
        | 3, _ => rfl
      · have le : ∀ i : Nat, [0, 255, 1, 254].getD (i % 4) 0 ≤ 255 := fun i => by
          have : i % 4 < 4 := Nat.mod_lt _ (by decide)
          generalize i % 4 = q at this ⊢
          match q, this with
          | 0, _ => decide
          | 1, _ => decide
          | 2, _ => decide
          | 3, _ => decide
        exact k3 m D _ _ _ H3 (sL.trans s3) hD3 (le x) (le y) (le z)
theorem sc_law_apart : FnScope ["_law_one", "_law_other", "_law_found", "_law_k"] ["_law_one", "_law_other"] (defScope s_law_apart) := ⟨rfl, rfl, rfl, by decide +kernel, rfl, by decide +kernel, by decide +kernel⟩
theorem ok_law_apart {f : Addr} {fd : FuncData} (F : FunD K "_law_apart" "_law_apart" s_law_apart .none f fd) (T : Txt K mg cFE cC cN cM cP cL tP tS) : FnOk P w K mg base CX0 1 f fd ["_law_one", "_law_other"] (spLApart) := by
  refine F.ok sc_law_apart (fun vs H Q E h => ?_) (fun cdv A outer s H vs Q E hr h => ?_)
  · obtain ⟨a, r, g, b, a', r', g', b', rfl, _⟩ := h; rfl
  · obtain ⟨a, r, g, b, a', r', g', b', rfl, c, c', k⟩ := h
    refine ⟨_, (pss_cons (ps_set (i := 2) sc_law_apart.nd rfl (by first | exact Or.inl rfl | exact Or.inr rfl) pe_int)
        (pss_cons (ps_for PassesOwn.never rfl (pi_range1 rfl T.range (pa_cons pe_int pa_nil)) (pg_name (i := 3) sc_law_apart.nd rfl (by first | exact Or.inl rfl | exact Or.inr rfl)) (pss_one (ps_set (i := 2) sc_law_apart.nd rfl (by first | exact Or.inl rfl | exact Or.inr rfl) (pe_op op_add (pv 2) (pe_op op_pow (pe_op op_sub (pe_ix (ixTK K rfl) (pv 0) (pv 3) (fun _ _ => rfl)) (pe_ix (ixTK K rfl) (pv 1) (pv 3) (fun _ _ => rfl))) pe_int)))))
        (pss_one (ps_ret (pv 2))))), ?_⟩
    refine ⟨_, rfl, by decide, by decide, ?_⟩
    refine for_range (lo := 0) (n := 3) (fun i σ H3 => H3 = H ∧ ∃ v3 : Option V, σ = [some (.ref a), some (.ref a'), some (.int ([0, 0 + sq2 r r', 0 + sq2 r r' + sq2 g g', 0 + sq2 r r' + sq2 g g' + sq2 b b'].getD i 0)), v3]) ⟨rfl, none, rfl⟩ ?_ ?_
    · rintro i σ H3 hi ⟨rfl, v3, rfl⟩
      have top := c.top
      have top' := c'.top
      have bd : ∀ {m n : Nat}, m ≤ 255 → n ≤ 255 → ((m : Int) - (n : Int)).natAbs < 2 ^ 64 := fun {m n} h1 h2 => by omega
      match i, hi with
      | 0, _ => exact ⟨_, rfl, _, rfl, _, rfl, a, _, _, _, rfl, rfl, SqT.of top, atI_nat (j := 0) rfl, _, rfl, _, rfl, a', _, _, _, rfl, rfl, SqT.of top', atI_nat (j := 0) rfl, _, _, rfl, rfl, _, _, rfl, rfl, ⟨by decide, by decide, bd c.lr c'.lr⟩, _, _, rfl, rfl, rfl, some (.int 0), rfl⟩
      | 1, _ => exact ⟨_, rfl, _, rfl, _, rfl, a, _, _, _, rfl, rfl, SqT.of top, atI_nat (j := 1) rfl, _, rfl, _, rfl, a', _, _, _, rfl, rfl, SqT.of top', atI_nat (j := 1) rfl, _, _, rfl, rfl, _, _, rfl, rfl, ⟨by decide, by decide, bd c.lg c'.lg⟩, _, _, rfl, rfl, rfl, some (.int 1), rfl⟩
      | 2, _ => exact ⟨_, rfl, _, rfl, _, rfl, a, _, _, _, rfl, rfl, SqT.of top, atI_nat (j := 2) rfl, _, rfl, _, rfl, a', _, _, _, rfl, rfl, SqT.of top', atI_nat (j := 2) rfl, _, _, rfl, rfl, _, _, rfl, rfl, ⟨by decide, by decide, bd c.lb c'.lb⟩, _, _, rfl, rfl, rfl, some (.int 2), rfl⟩
    · rintro σ H3 ⟨rfl, v3, rfl⟩
      have e : distI r g b r' g' b' = 0 + sq2 r r' + sq2 g g' + sq2 b b' := by simp only [distI, List.sum_cons, List.sum_nil]; omega
      rw [e] at k
      exact ⟨_, rfl, k⟩
theorem sc_law_odd : FnScope ["_law_number", "_law_colour_here", "_law_at", "_law_share", "_law_spoilt", "_law_some"] ["_law_number", "_law_colour_here"] (defScope s_law_odd) := ⟨rfl, rfl, rfl, by decide +kernel, rfl, by decide +kernel, by decide +kernel⟩
theorem ok_law_odd {f : Addr} {fd : FuncData} (F : FunD K "_law_odd" "_law_odd" s_law_odd .none f fd) (T : Txt K mg cFE cC cN cM cP cL tP tS) : FnOk P w K mg base CX0 1 f fd ["_law_number", "_law_colour_here"] (spOdd K) := by
  refine F.ok sc_law_odd (fun vs H Q E h => ?_) (fun cdv A outer s H vs Q E hr h => ?_)
  · obtain ⟨n, a, r, g, b, rfl, _⟩ := h; rfl
  · obtain ⟨n, a, r, g, b, rfl, c, k⟩ := h
    obtain ⟨t3, r3, k3⟩ : ∃ tr, PSs ((cxOf CX0 P w K mg base ["_law_number", "_law_colour_here", "_law_at", "_law_share", "_law_spoilt", "_law_some"] "_law_odd" (defScope s_law_odd) f cdv A outer s H E).nox) ((defBody s_law_odd).drop 3) tr ∧
        ∀ (m : Int) (x : V) (sp : Addr) (H1 : Hp), Same H H1 → TC K H1 (.ref sp) → colB H1 (.ref sp) = false → tr { nx := fun _ H' => Q .non H', rt := Q } [some (.int (n : Int)), some (.ref a), some (.int m), some x, some (.ref sp), none] H1 := by
      refine ⟨_, (pss_cons (ps_set (i := 5) sc_law_odd.nd rfl (by first | exact Or.inl rfl | exact Or.inr rfl) (pe_lst (pa_cons (pv 4) (pa_cons (pv 4) (pa_cons pe_non (pa_cons pe_int (pa_cons pe_str (pa_cons (pe_callTy (listK K rfl) rfl T.list PyProof.Rows.boot_list (pa_cons (pv 1) pa_nil)) (pa_cons (pe_slice (slTK K rfl) (pv 1) po_none (po_some pe_int)) (pa_cons (pe_op (catAK K rfl) (pv 1) (pe_tup (pa_cons pe_int pa_nil))) (pa_cons (pe_tup pa_nil) (pa_cons pe_dict0 (pa_cons pe_str pa_nil)))))))))))))
        (pss_one (ps_ret (pe_ix (ixK K rfl) (pv 5) (pe_op op_mod (pe_op op_fdiv (pv 0) pe_int) pe_int) (fun _ _ => rfl))))), ?_⟩
      intro m x sp H1 s1 tc cb
      have c1 := c.mono s1
      refine ⟨_, rfl, _, rfl, _, rfl, a, _, rfl, .inr (SqT.of c1.top), fun l hl => ?_⟩
      have z1 := same_new (o := HO.lst [V.int (r : Int), .int (g : Int), .int (b : Int)]) hl
      refine ⟨_, rfl, _, rfl, a, _, rfl, SqT.of (z1 _ _ c1.top), (by show ¬ ((0 : Nat) = 0 ∧ HT.sIx 3 3 (some 2) = 3); decide), fun p2 h2 => ?_⟩
      have z2 := same_new (o := HO.tup (cutV [V.int (r : Int), .int (g : Int), .int (b : Int)] none (some 2))) h2
      have z12 := z1.trans z2
      refine ⟨_, rfl, (by show 1 ≤ sizeLine; decide), fun p3 h3 => ?_⟩
      have z3 := same_new (o := HO.tup [V.int 0]) h3
      refine ⟨a, p3, _, [V.int 0], rfl, rfl, SqT.of (z3 _ _ (z12 _ _ c1.top)), SqT.of upd_same, (by show 4 ≤ sizeLine; decide), fun h => (by cases h), fun _ h => (by cases h), fun _ _ p4 h4 => ?_⟩
      have z4 := same_new (o := HO.tup ([V.int (r : Int), .int (g : Int), .int (b : Int)] ++ [V.int 0])) h4
      refine ⟨(by show 0 ≤ sizeLine; decide), fun p5 h5 => ?_⟩
      have z5 := same_new (o := HO.tup []) h5
      refine fun d hd => ?_
      have z6 := same_new (o := DictO d) hd
      refine ⟨(by show 11 ≤ sizeLine; decide), fun L hL => ?_⟩
      have z7 := same_new (o := HO.lst [V.ref sp, .ref sp, .non, .int 5, .str "abc", .ref l, .ref p2, .ref p4, .ref p5, .ref d, .str "#000000"]) hL
      have z57 := z5.trans (z6.trans z7)
      have z47 := z4.trans z57
      have zz := z12.trans (z3.trans z47)
      obtain ⟨v, hm, hv⟩ := at_mod (xs := [V.ref sp, .ref sp, .non, .int 5, .str "abc", .ref l, .ref p2, .ref p4, .ref p5, .ref d, .str "#000000"]) (m := (n : Int) / 24) 11 rfl (by decide)
      refine ⟨_, rfl, _, rfl, _, _, rfl, rfl, ⟨by decide, by decide⟩, _, _, rfl, rfl, (by show (0 : Int) < 11; decide), L, _, _, v, rfl, rfl, SqL.of upd_same, hv, ?_⟩
      have el := (z2.trans (z3.trans z47)) _ _ (upd_same (H := H1) (a := l) (o := HO.lst [V.int (r : Int), .int (g : Int), .int (b : Int)]))
      have e2 := (z3.trans z47) p2 (.tup [.int (r : Int), .int (g : Int)]) upd_same
      have e4 := z57 p4 (.tup ([.int (r : Int), .int (g : Int), .int (b : Int)] ++ [.int 0])) upd_same
      have e5 := (z6.trans z7) p5 (.tup []) upd_same
      have ed := z7 d (DictO d) upd_same
      have hb := odd_all (tc.mono zz) ((colB_mono tc zz).trans cb) el e2 e4 e5 ed hm
      exact k v _ (s1.trans zz) hb.1 hb.2
    obtain ⟨t2, r2, k2⟩ : ∃ tr, PSs ((cxOf CX0 P w K mg base ["_law_number", "_law_colour_here", "_law_at", "_law_share", "_law_spoilt", "_law_some"] "_law_odd" (defScope s_law_odd) f cdv A outer s H E).nox) ((defBody s_law_odd).drop 2) tr ∧
        ∀ (x : V) (H1 : Hp), Same H H1 → Kd K H1 x → isWh 0 255 x = false → tr { nx := fun _ H' => Q .non H', rt := Q } [some (.int (n : Int)), some (.ref a), some (.int ((n : Int) % 3)), some x, none, none] H1 := by
      refine ⟨_, (pss_cons (ps_set (i := 4) sc_law_odd.nd rfl (by first | exact Or.inl rfl | exact Or.inr rfl) (pe_op (catAK K rfl) (pe_op (catAK K rfl) (pe_slice (slTK K rfl) (pv 1) po_none (po_some (pv 2))) (pe_tup (pa_cons (pv 3) pa_nil))) (pe_slice (slTK K rfl) (pv 1) (po_some (pe_op op_add (pv 2) pe_int)) po_none)))
        (@r3)), ?_⟩
      intro x H1 s1 kx wx
      have c1 := c.mono s1
      have e : (n : Int) % 3 = 0 ∨ (n : Int) % 3 = 1 ∨ (n : Int) % 3 = 2 := by omega
      rcases e with e | e | e <;> rw [e]
      · -- at 0
        refine ⟨_, rfl, _, rfl, _, rfl, a, _, rfl, SqT.of c1.top, (by show ¬ ((0 : Nat) = 0 ∧ HT.sIx 3 3 (some 0) = 3); decide), fun p1 h1 => ?_⟩
        have z1 := same_new (o := HO.tup (cutV [V.int (r : Int), .int (g : Int), .int (b : Int)] none (some 0))) h1
        have e1 : upd H1 p1 (.tup (cutV [V.int (r : Int), .int (g : Int), .int (b : Int)] none (some 0))) p1 = some (.tup ([] : List V)) := upd_same
        refine ⟨_, rfl, (by show 1 ≤ sizeLine; decide), fun p3 h2 => ?_⟩
        have z2 := same_new (o := HO.tup [x]) h2
        refine ⟨p1, p3, [], [x], rfl, rfl, SqT.of (z2 _ _ e1), SqT.of upd_same, (by show 1 ≤ sizeLine; decide), fun _ => ?_, fun h => absurd rfl h, fun h => absurd rfl h⟩
        have e3 : upd (upd H1 p1 (.tup (cutV [V.int (r : Int), .int (g : Int), .int (b : Int)] none (some 0)))) p3 (.tup [x]) p3 = some (.tup [x]) := upd_same
        have z3 := z1.trans z2
        generalize upd (upd H1 p1 (.tup (cutV [V.int (r : Int), .int (g : Int), .int (b : Int)] none (some 0)))) p3 (.tup [x]) = H3 at z3 e3 ⊢
        have e3 : H3 p3 = some (.tup ([x] : List V)) := e3
        refine ⟨_, rfl, _, rfl, _, _, rfl, rfl, _, rfl, a, _, rfl, SqT.of (z3 _ _ c1.top), (by show ¬ (HT.sIx 3 0 (some (0 + 1)) = 0 ∧ (3 : Nat) = 3); decide), fun p4 h4 => ?_⟩
        have z4 := same_new (o := HO.tup (cutV [V.int (r : Int), .int (g : Int), .int (b : Int)] (some (0 + 1)) none)) h4
        have e4 : upd H3 p4 (.tup (cutV [V.int (r : Int), .int (g : Int), .int (b : Int)] (some (0 + 1)) none)) p4 = some (.tup ([.int (g : Int), .int (b : Int)] : List V)) := upd_same
        have s4 := (s1.trans z3).trans z4
        have k4 := kx.mono (z3.trans z4)
        refine ⟨p3, p4, [x], [.int (g : Int), .int (b : Int)], rfl, rfl, SqT.of (z4 _ _ e3), SqT.of e4, (by show 3 ≤ sizeLine; decide), fun h => (by cases h), fun _ h => (by cases h), fun _ _ p5 h5 => ?_⟩
        have z5 := same_new (o := HO.tup ([x] ++ [.int (g : Int), .int (b : Int)])) h5
        have hb := bad3 (K := K) (H := upd (upd H3 p4 (.tup (cutV [V.int (r : Int), .int (g : Int), .int (b : Int)] (some (0 + 1)) none))) p5 (.tup ([x] ++ [.int (g : Int), .int (b : Int)]))) (a := p5) upd_same (k4.mono z5) (.int _) (.int _) (by simp [wx])
        exact k3 _ x p5 _ (s4.trans z5) hb.1 hb.2
      · -- at 1
        refine ⟨_, rfl, _, rfl, _, rfl, a, _, rfl, SqT.of c1.top, (by show ¬ ((0 : Nat) = 0 ∧ HT.sIx 3 3 (some 1) = 3); decide), fun p1 h1 => ?_⟩
        have z1 := same_new (o := HO.tup (cutV [V.int (r : Int), .int (g : Int), .int (b : Int)] none (some 1))) h1
        have e1 : upd H1 p1 (.tup (cutV [V.int (r : Int), .int (g : Int), .int (b : Int)] none (some 1))) p1 = some (.tup ([.int (r : Int)] : List V)) := upd_same
        refine ⟨_, rfl, (by show 1 ≤ sizeLine; decide), fun p2 h2 => ?_⟩
        have z2 := same_new (o := HO.tup [x]) h2
        refine ⟨p1, p2, [.int (r : Int)], [x], rfl, rfl, SqT.of (z2 _ _ e1), SqT.of upd_same, (by show 2 ≤ sizeLine; decide), fun h => (by cases h), fun _ h => (by cases h), fun _ _ p3 h3 => ?_⟩
        have z3 := (z1.trans z2).trans (same_new (o := HO.tup ([.int (r : Int)] ++ [x])) h3)
        have e3 : upd (upd (upd H1 p1 (.tup (cutV [V.int (r : Int), .int (g : Int), .int (b : Int)] none (some 1)))) p2 (.tup [x])) p3 (.tup ([.int (r : Int)] ++ [x])) p3 = some (.tup ([.int (r : Int)] ++ [x])) := upd_same
        generalize upd (upd (upd H1 p1 (.tup (cutV [V.int (r : Int), .int (g : Int), .int (b : Int)] none (some 1)))) p2 (.tup [x])) p3 (.tup ([.int (r : Int)] ++ [x])) = H3 at z3 e3 ⊢
        have e3 : H3 p3 = some (.tup ([.int (r : Int), x] : List V)) := e3
        refine ⟨_, rfl, _, rfl, _, _, rfl, rfl, _, rfl, a, _, rfl, SqT.of (z3 _ _ c1.top), (by show ¬ (HT.sIx 3 0 (some (1 + 1)) = 0 ∧ (3 : Nat) = 3); decide), fun p4 h4 => ?_⟩
        have z4 := same_new (o := HO.tup (cutV [V.int (r : Int), .int (g : Int), .int (b : Int)] (some (1 + 1)) none)) h4
        have e4 : upd H3 p4 (.tup (cutV [V.int (r : Int), .int (g : Int), .int (b : Int)] (some (1 + 1)) none)) p4 = some (.tup ([.int (b : Int)] : List V)) := upd_same
        have s4 := (s1.trans z3).trans z4
        have k4 := kx.mono (z3.trans z4)
        refine ⟨p3, p4, [.int (r : Int), x], [.int (b : Int)], rfl, rfl, SqT.of (z4 _ _ e3), SqT.of e4, (by show 3 ≤ sizeLine; decide), fun h => (by cases h), fun _ h => (by cases h), fun _ _ p5 h5 => ?_⟩
        have z5 := same_new (o := HO.tup ([.int (r : Int), x] ++ [.int (b : Int)])) h5
        have hb := bad3 (K := K) (H := upd (upd H3 p4 (.tup (cutV [V.int (r : Int), .int (g : Int), .int (b : Int)] (some (1 + 1)) none))) p5 (.tup ([.int (r : Int), x] ++ [.int (b : Int)]))) (a := p5) upd_same (.int _) (k4.mono z5) (.int _) (by simp [wx])
        exact k3 _ x p5 _ (s4.trans z5) hb.1 hb.2
      · -- at 2
        refine ⟨_, rfl, _, rfl, _, rfl, a, _, rfl, SqT.of c1.top, (by show ¬ ((0 : Nat) = 0 ∧ HT.sIx 3 3 (some 2) = 3); decide), fun p1 h1 => ?_⟩
        have z1 := same_new (o := HO.tup (cutV [V.int (r : Int), .int (g : Int), .int (b : Int)] none (some 2))) h1
        have e1 : upd H1 p1 (.tup (cutV [V.int (r : Int), .int (g : Int), .int (b : Int)] none (some 2))) p1 = some (.tup ([.int (r : Int), .int (g : Int)] : List V)) := upd_same
        refine ⟨_, rfl, (by show 1 ≤ sizeLine; decide), fun p2 h2 => ?_⟩
        have z2 := same_new (o := HO.tup [x]) h2
        refine ⟨p1, p2, [.int (r : Int), .int (g : Int)], [x], rfl, rfl, SqT.of (z2 _ _ e1), SqT.of upd_same, (by show 3 ≤ sizeLine; decide), fun h => (by cases h), fun _ h => (by cases h), fun _ _ p3 h3 => ?_⟩
        have z3 := (z1.trans z2).trans (same_new (o := HO.tup ([.int (r : Int), .int (g : Int)] ++ [x])) h3)
        have e3 : upd (upd (upd H1 p1 (.tup (cutV [V.int (r : Int), .int (g : Int), .int (b : Int)] none (some 2)))) p2 (.tup [x])) p3 (.tup ([.int (r : Int), .int (g : Int)] ++ [x])) p3 = some (.tup ([.int (r : Int), .int (g : Int)] ++ [x])) := upd_same
        generalize upd (upd (upd H1 p1 (.tup (cutV [V.int (r : Int), .int (g : Int), .int (b : Int)] none (some 2)))) p2 (.tup [x])) p3 (.tup ([.int (r : Int), .int (g : Int)] ++ [x])) = H3 at z3 e3 ⊢
        have e3 : H3 p3 = some (.tup ([.int (r : Int), .int (g : Int), x] : List V)) := e3
        refine ⟨_, rfl, _, rfl, _, _, rfl, rfl, _, rfl, a, _, rfl, SqT.of (z3 _ _ c1.top), (by show ¬ (HT.sIx 3 0 (some (2 + 1)) = 0 ∧ (3 : Nat) = 3); decide), fun p4 h4 => ?_⟩
        have z4 := same_new (o := HO.tup (cutV [V.int (r : Int), .int (g : Int), .int (b : Int)] (some (2 + 1)) none)) h4
        have e4 : upd H3 p4 (.tup (cutV [V.int (r : Int), .int (g : Int), .int (b : Int)] (some (2 + 1)) none)) p4 = some (.tup ([] : List V)) := upd_same
        have s4 := (s1.trans z3).trans z4
        have k4 := kx.mono (z3.trans z4)
        refine ⟨p3, p4, [.int (r : Int), .int (g : Int), x], [], rfl, rfl, SqT.of (z4 _ _ e3), SqT.of e4, (by show 3 ≤ sizeLine; decide), fun h => (by cases h), fun _ _ => ?_, fun _ h => absurd rfl h⟩
        exact k3 _ x p3 _ s4 (bad3 (z4 _ _ e3) (.int _) (.int _) k4 (by simp [wx])).1 (bad3 (z4 _ _ e3) (.int _) (.int _) k4 (by simp [wx])).2
    refine ⟨_, (pss_cons (ps_set (i := 2) sc_law_odd.nd rfl (by first | exact Or.inl rfl | exact Or.inr rfl) (pe_op op_mod (pv 0) pe_int))
        (pss_cons (ps_set (i := 3) sc_law_odd.nd rfl (by first | exact Or.inl rfl | exact Or.inr rfl) (pe_ix (ixK K rfl) (pe_lst (pa_cons (pe_un un_neg pe_int) (pa_cons pe_int (pa_cons pe_bl (pa_cons pe_non (pa_cons pe_str (pa_cons (pe_lst (pa_cons pe_int pa_nil)) (pa_cons (pe_op op_pow pe_int pe_int) (pa_cons pe_bl pa_nil))))))))) (pe_op op_mod (pe_op op_fdiv (pv 0) pe_int) pe_int) (fun _ _ => rfl)))
        (@r2))), ?_⟩
    refine ⟨_, rfl, _, _, rfl, rfl, (by show (0 : Int) < 3; decide), ?_⟩
    refine ⟨_, rfl, (by show 1 ≤ sizeLine; decide), fun p hp => ?_⟩
    have z1 := same_new (o := HO.lst [V.int 0]) hp
    refine ⟨_, _, rfl, rfl, ⟨by decide, by decide, by decide⟩, (by show 8 ≤ sizeLine; decide), fun L hL => ?_⟩
    obtain ⟨x, hm, hx⟩ := at_mod (xs := [V.int (-1), .int 256, .bl true, .non, .str "0", .ref p, .int (10 ^ 20), .bl false]) (m := (n : Int) / 3) 8 rfl (by decide)
    have z2 := same_new (o := HO.lst [V.int (-1), .int 256, .bl true, .non, .str "0", .ref p, .int (10 ^ 20), .bl false]) hL
    refine ⟨_, rfl, _, _, rfl, rfl, ⟨by decide, by decide⟩, _, _, rfl, rfl, (by show (0 : Int) < 8; decide), L, _, _, x, rfl, rfl, SqL.of upd_same, hx, ?_⟩
    have ep := z2 p (.lst [.int 0]) upd_same
    have hb : Kd K _ x ∧ isWh 0 255 x = false := sh_all ep hm
    exact k2 x _ (z1.trans z2) hb.1 hb.2
theorem sc_law_nearest : FnScope ["_law_colours", "_law_colour_here", "_law_best", "_law_k"] ["_law_colours", "_law_colour_here"] (defScope s_law_nearest) := ⟨rfl, rfl, rfl, by decide +kernel, rfl, by decide +kernel, by decide +kernel⟩
theorem ok_law_nearest {f : Addr} {fd : FuncData} (F : FunD K "_law_nearest" "_law_nearest" s_law_nearest .none f fd) (T : Txt K mg cFE cC cN cM cP cL tP tS) (g__law_apart : Def P w K mg base 1 "_law_apart" ["_law_one", "_law_other"] [] (spLApart)) : FnOk P w K mg base CX0 2 f fd ["_law_colours", "_law_colour_here"] (spLNear) := by
  refine F.ok sc_law_nearest (fun vs H Q E h => ?_) (fun cdv A outer s H vs Q E hr h => ?_)
  · obtain ⟨l, a, cs, r, g, b, rfl, _⟩ := h; rfl
  · obtain ⟨l, a, cs, r, g, b, rfl, cv, l1, l2, c, k⟩ := h
    have hlen : (cs.map fun c => V.ref c.1).length = cs.length := List.length_map _
    have hat : ∀ i (hi : i < cs.length), (dsts cs r g b)[i]? = some (distI r g b cs[i].2.1 cs[i].2.2.1 cs[i].2.2.2) := fun i hi => by rw [dsts, List.getElem?_map, List.getElem?_eq_getElem hi]; rfl
    refine ⟨_, (pss_cons (ps_set (i := 2) sc_law_nearest.nd rfl (by first | exact Or.inl rfl | exact Or.inr rfl) pe_int)
        (pss_cons (ps_for PassesOwn.never rfl (pi_range1 rfl T.range (pa_cons (pe_callB (lenK K rfl) rfl T.len PySem.boot_len (pa_cons (pv 0) pa_nil)) pa_nil)) (pg_name (i := 3) sc_law_nearest.nd rfl (by first | exact Or.inl rfl | exact Or.inr rfl)) (pss_one (ps_if (pt_cmpR op_lt (pe_callD g__law_apart (hr.mono (by decide)) rfl (pa_cons (pe_ix (ixK K rfl) (pv 0) (pv 3) (fun _ _ => rfl)) (pa_cons (pv 1) pa_nil))) (pe_callD g__law_apart (hr.mono (by decide)) rfl (pa_cons (pe_ix (ixK K rfl) (pv 0) (pv 2) (fun _ _ => rfl)) (pa_cons (pv 1) pa_nil))) (nomark _)) (pss_one (ps_set (i := 2) sc_law_nearest.nd rfl (by first | exact Or.inl rfl | exact Or.inr rfl) (pv 3))) pss_nil)))
        (pss_one (ps_ret (pv 2))))), ?_⟩
    refine ⟨_, rfl, l, _, rfl, .inl (SqL.of cv.1), _, rfl, by omega, by rw [hlen]; omega, ?_⟩
    refine for_range (lo := 0) (n := (cs.map fun c => V.ref c.1).length) (fun i σ H1 => H1 = H ∧ ∃ (j : Nat) (x : Int) (v : Option V), σ = [some (.ref l), some (.ref a), some (.int (j : Int)), v] ∧ j < cs.length ∧ (dsts cs r g b)[j]? = some x ∧ (∀ (m : Nat) y, m < i → (dsts cs r g b)[m]? = some y → x ≤ y) ∧ ∀ (m : Nat) y, m < j → (dsts cs r g b)[m]? = some y → x < y)
      ⟨rfl, 0, _, none, rfl, by omega, hat 0 (by omega), fun m y hm => absurd hm (Nat.not_lt_zero _), fun m y hm => absurd hm (Nat.not_lt_zero _)⟩ ?_ ?_
    · rintro i σ H1 hi ⟨rfl, j, x, v, rfl, hj, hx, h1, h2⟩
      rw [hlen] at hi
      have ci := cv.2 cs[i] (List.getElem_mem hi)
      have cj := cv.2 cs[j] (List.getElem_mem hj)
      have ei : atI (cs.map fun c => V.ref c.1) (0 + (i : Int)) = some (.ref cs[i].1) := by rw [Int.zero_add]; exact atI_nat (j := i) (by rw [List.getElem?_map, List.getElem?_eq_getElem hi]; rfl)
      have ej : atI (cs.map fun c => V.ref c.1) (j : Int) = some (.ref cs[j].1) := atI_nat (j := j) (by rw [List.getElem?_map, List.getElem?_eq_getElem hj]; rfl)
      have hxx : x = distI r g b cs[j].2.1 cs[j].2.2.1 cs[j].2.2.2 := by have := hat j hj; rw [hx] at this; injection this
      refine ⟨_, rfl, _, rfl, l, _, _, _, rfl, rfl, SqL.of cv.1, ei, _, rfl, cs[i].1, _, _, _, a, r, g, b, rfl, ci, c, _, rfl, _, rfl, l, _, _, _, rfl, rfl, SqL.of cv.1, ej, _, rfl, cs[j].1, _, _, _, a, r, g, b, rfl, cj, c, _, _, rfl, rfl, _, rfl, ?_⟩
      rw [dist_comm r g b, dist_comm r g b]
      refine iteB (fun h => ?_) (fun h => ?_)
      · have h := of_decide_eq_true h
        refine ⟨_, rfl, rfl, i, _, some (.int (0 + (i : Int))), by simp, hi, hat i hi, fun m y hm hy => ?_, fun m y hm hy => ?_⟩
        · rcases Nat.lt_or_ge m i with q | q
          · have := h1 m y q hy; omega
          · have : m = i := by omega
            subst this
            rw [hat m hi] at hy; injection hy with hy; omega
        · have := h1 m y hm hy; omega
      · have h := of_decide_eq_false h
        refine ⟨rfl, j, x, some (.int (0 + (i : Int))), rfl, hj, hx, fun m y hm hy => ?_, h2⟩
        rcases Nat.lt_or_ge m i with q | q
        · exact h1 m y q hy
        · have : m = i := by omega
          subst this
          rw [hat m hi] at hy; injection hy with hy; omega
    · rintro σ H1 ⟨rfl, j, x, v, rfl, hj, hx, h1, h2⟩
      have e : firstI (dsts cs r g b) = j := firstI_is hx (fun y hy => by
        obtain ⟨m, hm⟩ := List.getElem?_of_mem hy
        exact h1 m y (by have := (List.getElem?_eq_some_iff.mp hm).1; rw [dsts, List.length_map] at this; rw [hlen]; exact this) hm) h2
      rw [e] at k
      exact ⟨_, rfl, k⟩
theorem sc_law_pool : FnScope ["_law_script", "_law_first", "_law_near", "_law_base", "_law_found", "_law_k", "_law_number", "_law_colour_here"] ["_law_script", "_law_first", "_law_near"] (defScope s_law_pool) := ⟨rfl, rfl, rfl, by decide +kernel, rfl, by decide +kernel, by decide +kernel⟩
theorem ok_law_pool {f : Addr} {fd : FuncData} (F : FunD K "_law_pool" "_law_pool" s_law_pool .none f fd) (T : Txt K mg cFE cC cN cM cP cL tP tS) (g__law_draw : Def P w K mg base 1 "_law_draw" ["_law_script", "_law_k"] [] (spDraw K)) (g__law_colour : Def P w K mg base 1 "_law_colour" ["_law_number"] [] (spColour)) : FnOk P w K mg base CX0 2 f fd ["_law_script", "_law_first", "_law_near"] (spPool K) := by
  refine F.ok sc_law_pool (fun vs H Q E h => ?_) (fun cdv A outer s H vs Q E hr h => ?_)
  · obtain ⟨a, ns, k, nr, rfl, _⟩ := h; rfl
  · obtain ⟨a, ns, fk, nr, rfl, hS, hk, k⟩ := h
    have hu : _ + 64 < cLine := hr.units
    refine ⟨_, (pss_cons (ps_set (i := 3) sc_law_pool.nd rfl (by first | exact Or.inl rfl | exact Or.inr rfl) (pe_callD g__law_colour (hr.mono (by decide)) rfl (pa_cons (pe_callD g__law_draw (hr.mono (by decide)) rfl (pa_cons (pv 0) (pa_cons (pv 1) pa_nil))) pa_nil)))
        (pss_cons (ps_set (i := 4) sc_law_pool.nd rfl (by first | exact Or.inl rfl | exact Or.inr rfl) (pe_lst pa_nil))
        (pss_cons (ps_for PassesOwn.never rfl (pi_range1 rfl T.range (pa_cons pe_int pa_nil)) (pg_name (i := 5) sc_law_pool.nd rfl (by first | exact Or.inl rfl | exact Or.inr rfl)) (pss_cons (ps_set (i := 6) sc_law_pool.nd rfl (by first | exact Or.inl rfl | exact Or.inr rfl) (pe_callD g__law_draw (hr.mono (by decide)) rfl (pa_cons (pv 0) (pa_cons (pe_op op_add (pe_op op_add (pv 1) pe_int) (pv 5)) pa_nil))))
        (pss_cons (ps_set (i := 7) sc_law_pool.nd rfl (by first | exact Or.inl rfl | exact Or.inr rfl) (pe_callD g__law_colour (hr.mono (by decide)) rfl (pa_cons (pv 6) pa_nil)))
        (pss_cons (ps_if (pt_val (pv 2)) (pss_one (ps_set (i := 7) sc_law_pool.nd rfl (by first | exact Or.inl rfl | exact Or.inr rfl) (pe_callTy call_tuple_of rfl T.tuple PyProof.Rows.boot_tuple (pa_cons (pe_comp (N := ["_law_j", "_law_base", "_law_number"]) (src := [none, some 3, some 6]) rfl ⟨rfl, rfl, rfl, rfl, rfl, by decide +kernel⟩ (pi_range1 rfl T.range (pa_cons pe_int pa_nil)) (fun s H C fp => pg_name (i := 0) (show (["_law_j", "_law_base", "_law_number"] : List Str).Nodup by decide +kernel) rfl (by first | exact Or.inl rfl | exact Or.inr rfl)) (fun s H C fp => pts_nil) (fun s H C fp => (pe_op op_add (pe_callB (call_min2 rfl) rfl T.min PyProof.Rows.boot_min (pa_cons (pe_ix (ixTK K rfl) (pv 1) (pv 0) (fun _ _ => rfl)) (pa_cons pe_int pa_nil))) (pe_op op_mod (pe_op op_fdiv (pv 2) (pe_ix (ixK K rfl) (pe_lst (pa_cons pe_int (pa_cons pe_int (pa_cons pe_int pa_nil)))) (pv 0) (fun _ _ => rfl))) pe_int)))) pa_nil)))) pss_nil)
        (pss_one (ps_if (pt_cmpR (op_notInD K rfl 1 (by decide) hu) (pv 7) (pv 4) (by with_unfolding_all rfl)) (pss_one (ps_expr (pe_bm PySem.F.plainAttrs_list PySem.F.slot_list_append PySem.F.type_list_append mt_append (pv 4) (pa_cons (pv 7) pa_nil)))) pss_nil))))))
        (pss_one (ps_ret (pv 4)))))), ?_⟩
    refine ⟨_, rfl, _, rfl, a, ns, fk, rfl, hS, by omega, fun n0 H1 _ s1 => ⟨n0, rfl, fun tb H2 r g b s2 htb cb => ?_⟩⟩
    have s12 := s1.trans s2
    refine ⟨by show 0 ≤ sizeLine; decide, fun L hL => ?_⟩
    have hL0 := s12.free hL
    have z3 := same_new (o := HO.lst []) hL
    refine ⟨24, rfl, by decide, by decide, ?_⟩
    refine for_range (lo := 0) (n := 24) (fun i σ H3 => Same H H3 ∧ Col H3 tb r g b ∧ ∃ (cs : List (Addr × Nat × Nat × Nat)) (v5 v6 v7 : Option V), σ = [some (.ref a), some (.int (fk : Int)), some (.bl nr), some (.ref tb), some (.ref L), v5, v6, v7] ∧ ColsV H3 L cs ∧ cs.length ≤ i ∧ (0 < i → 1 ≤ cs.length) ∧ (cs.map kc).Nodup)
      ⟨s12.trans z3, cb.mono z3, [], none, none, none, rfl, ⟨upd_same, fun c hc => nomatch hc⟩, Nat.le_refl _, fun h => absurd h (Nat.lt_irrefl _), List.nodup_nil⟩ ?_ ?_
    · rintro i σ H3 hi ⟨s3, cb3, cs, v5, v6, v7, rfl, cv, hl, hpos, nd⟩
      refine ⟨_, rfl, _, rfl, _, _, rfl, rfl, _, rfl, _, _, rfl, rfl, a, ns, fk + 1 + i, (by show [V.ref a, V.int ((fk : Int) + 1 + (0 + (i : Int)))] = _; rw [show ((fk : Int) + 1 + (0 + (i : Int))) = ((fk + 1 + i : Nat) : Int) by omega]), s3.seq hS, by omega, fun n H4 hn s4 => ?_⟩
      refine ⟨_, rfl, n, rfl, fun t H5 x y z s5 ht ct => ?_⟩
      have s45 := s4.trans s5
      cases nr with
      | false =>
        refine ⟨_, rfl, _, rfl, ?_⟩
        refine ⟨_, rfl, _, rfl, in_cols (neg := true) (cv.mono s45) ct ⟨_, rfl, ?_⟩⟩
        cases hf : cs.findIdx? (isC x y z) with
        | some j =>
          obtain ⟨hj, _⟩ := List.findIdx?_eq_some_iff_getElem.mp hf
          exact ⟨s3.trans s45, cb3.mono s45, cs, _, _, _, rfl, cv.mono s45, by omega, fun _ => by omega, nd⟩
        | none =>
          have cvm := cv.mono s45
          refine ⟨_, rfl, .inl ⟨rfl, _, SqL.of cvm.1⟩, _, rfl, L, _, _, rfl, rfl, cvm.1, Nat.lt_of_lt_of_le (by rw [List.length_map]; omega : _ < 5000) (by decide), ?_⟩
          have up : ∀ {q : Addr} {x1 x2 x3 : Nat}, Col H5 q x1 x2 x3 → Col (upd H5 L (.lst (cs.map (fun c => V.ref c.1) ++ [V.ref t]))) q x1 x2 x3 := fun {q x1 x2 x3} cc => ⟨by rw [upd_ne (ne_of cc.top cvm.1 (by intro z; cases z))]; exact cc.top, cc.lr, cc.lg, cc.lb⟩
          exact ⟨same_upd (s3.trans s45) hL0, up (cb3.mono s45), cs ++ [(t, x, y, z)], _, _, _, rfl, ColsV.snoc upd_same (fun c hc => up (cvm.2 c hc)) (up ct), by rw [List.length_append]; show cs.length + 1 ≤ i + 1; omega, fun _ => by rw [List.length_append]; show 1 ≤ cs.length + 1; omega, by
            rw [List.map_append]
            refine List.nodup_append.mpr ⟨nd, by simp, fun u hu w hw => ?_⟩
            rw [List.map_cons, List.map_nil, List.mem_singleton] at hw
            subst hw
            exact fun z => findIdx_none hf (by rw [z] at hu; exact hu)⟩
      | true =>
        refine ⟨_, rfl, _, rfl, ?_⟩
        refine ⟨_, rfl, by decide, by decide, fun D hD => ?_⟩
        have cb5 := cb3.mono s45
        refine comp_fm (k := 0) (fun x => match x with | .int j => .int ((if (252 : Int) < (([r, g, b].getD j.toNat 0 : Nat) : Int) then 252 else (([r, g, b].getD j.toNat 0 : Nat) : Int)) + (n : Int) / [(1 : Int), 4, 16].getD j.toNat 1 % 4) | _ => .non) (fun _ => true) (src_range (n := 3)) (by show 3 ≤ sizeLine; decide) hD (fun x _ H' Qb _ kk => kk H' (Same.refl _)) (fun x hx _ H' Q' sm kk => ?_) fun H7 s7 hD7 => ?_
        · have hx : x ∈ [V.int 0, .int 1, .int 2] := hx
          have top := (cb5.mono sm).top
          simp only [List.mem_cons, List.not_mem_nil, or_false] at hx
          rcases hx with rfl | rfl | rfl
          · refine ⟨_, rfl, _, rfl, tb, _, _, _, rfl, rfl, SqT.of top, atI_nat (j := 0) rfl, _, _, rfl, _, rfl, by show 3 ≤ sizeLine; decide, fun q hq => ?_⟩
            exact ⟨_, rfl, q, _, _, _, rfl, rfl, SqL.of upd_same, atI_nat (j := 0) rfl, _, _, rfl, rfl, ⟨by decide, by decide⟩, _, _, rfl, rfl, (by show (0 : Int) < 4; decide), _, _, rfl, rfl, kk _ (same_new hq)⟩
          · refine ⟨_, rfl, _, rfl, tb, _, _, _, rfl, rfl, SqT.of top, atI_nat (j := 1) rfl, _, _, rfl, _, rfl, by show 3 ≤ sizeLine; decide, fun q hq => ?_⟩
            exact ⟨_, rfl, q, _, _, _, rfl, rfl, SqL.of upd_same, atI_nat (j := 1) rfl, _, _, rfl, rfl, ⟨by decide, by decide⟩, _, _, rfl, rfl, (by show (0 : Int) < 4; decide), _, _, rfl, rfl, kk _ (same_new hq)⟩
          · refine ⟨_, rfl, _, rfl, tb, _, _, _, rfl, rfl, SqT.of top, atI_nat (j := 2) rfl, _, _, rfl, _, rfl, by show 3 ≤ sizeLine; decide, fun q hq => ?_⟩
            exact ⟨_, rfl, q, _, _, _, rfl, rfl, SqL.of upd_same, atI_nat (j := 2) rfl, _, _, rfl, rfl, ⟨by decide, by decide⟩, _, _, rfl, rfl, (by show (0 : Int) < 4; decide), _, _, rfl, rfl, kk _ (same_new hq)⟩
        have e7 : H7 D = some (.lst [.int ((min r 252 + n % 4 : Nat) : Int), .int ((min g 252 + n / 4 % 4 : Nat) : Int), .int ((min b 252 + n / 16 % 4 : Nat) : Int)]) := by
          have q1 : (if (252 : Int) < (r : Int) then (252 : Int) else (r : Int)) + (n : Int) / 1 % 4 = ((min r 252 + n % 4 : Nat) : Int) := by split <;> omega
          have q2 : (if (252 : Int) < (g : Int) then (252 : Int) else (g : Int)) + (n : Int) / 4 % 4 = ((min g 252 + n / 4 % 4 : Nat) : Int) := by split <;> omega
          have q3 : (if (252 : Int) < (b : Int) then (252 : Int) else (b : Int)) + (n : Int) / 16 % 4 = ((min b 252 + n / 16 % 4 : Nat) : Int) := by split <;> omega
          rw [← q1, ← q2, ← q3]
          exact hD7
        refine ⟨D, _, rfl, .inl ⟨SqL.of e7, fun u hu' => ?_⟩⟩
        have s58 := s7.trans (same_new (o := HO.tup [V.int ((min r 252 + n % 4 : Nat) : Int), .int ((min g 252 + n / 4 % 4 : Nat) : Int), .int ((min b 252 + n / 16 % 4 : Nat) : Int)]) hu')
        have cu : Col (upd H7 u (.tup [V.int ((min r 252 + n % 4 : Nat) : Int), .int ((min g 252 + n / 4 % 4 : Nat) : Int), .int ((min b 252 + n / 16 % 4 : Nat) : Int)])) u (min r 252 + n % 4) (min g 252 + n / 4 % 4) (min b 252 + n / 16 % 4) := ⟨upd_same, by omega, by omega, by omega⟩
        show gName 7 _ _ _ _
        generalize upd H7 u (.tup [V.int ((min r 252 + n % 4 : Nat) : Int), .int ((min g 252 + n / 4 % 4 : Nat) : Int), .int ((min b 252 + n / 16 % 4 : Nat) : Int)]) = H8 at s58 cu ⊢
        have s38 := s45.trans s58
        refine ⟨_, rfl, _, rfl, in_cols (neg := true) (cv.mono s38) cu ⟨_, rfl, ?_⟩⟩
        cases hf : cs.findIdx? (isC (min r 252 + n % 4) (min g 252 + n / 4 % 4) (min b 252 + n / 16 % 4)) with
        | some j =>
          obtain ⟨hj, _⟩ := List.findIdx?_eq_some_iff_getElem.mp hf
          exact ⟨s3.trans s38, cb3.mono s38, cs, _, _, _, rfl, cv.mono s38, by omega, fun _ => by omega, nd⟩
        | none =>
          have cvm := cv.mono s38
          refine ⟨_, rfl, .inl ⟨rfl, _, SqL.of cvm.1⟩, _, rfl, L, _, _, rfl, rfl, cvm.1, Nat.lt_of_lt_of_le (by rw [List.length_map]; omega : _ < 5000) (by decide), ?_⟩
          have up : ∀ {q : Addr} {x1 x2 x3 : Nat}, Col H8 q x1 x2 x3 → Col (upd H8 L (.lst (cs.map (fun c => V.ref c.1) ++ [V.ref u]))) q x1 x2 x3 := fun {q x1 x2 x3} cc => ⟨by rw [upd_ne (ne_of cc.top cvm.1 (by intro z; cases z))]; exact cc.top, cc.lr, cc.lg, cc.lb⟩
          exact ⟨same_upd (s3.trans s38) hL0, up (cb3.mono s38), cs ++ [(u, (min r 252 + n % 4), (min g 252 + n / 4 % 4), (min b 252 + n / 16 % 4))], _, _, _, rfl, ColsV.snoc upd_same (fun c hc => up (cvm.2 c hc)) (up cu), by rw [List.length_append]; show cs.length + 1 ≤ i + 1; omega, fun _ => by rw [List.length_append]; show 1 ≤ cs.length + 1; omega, by
            rw [List.map_append]
            refine List.nodup_append.mpr ⟨nd, by simp, fun u hu w hw => ?_⟩
            rw [List.map_cons, List.map_nil, List.mem_singleton] at hw
            subst hw
            exact fun z => findIdx_none hf (by rw [z] at hu; exact hu)⟩
    · rintro σ H3 ⟨s3, cb3, cs, v5, v6, v7, rfl, cv, hl, hpos, nd⟩
      exact ⟨_, rfl, k L cs H3 s3 hL0 cv (hpos (by decide)) hl nd⟩
end
end K16
set_option Elab.async false
set_option linter.all false
set_option maxRecDepth 100000
set_option maxHeartbeats 1600000
namespace K16
open PySem L2 M4
inductive Ask (K : PySem.W.Frag) (H : Hp) (cs : List (Addr × Nat × Nat × Nat)) : Int → V → List V → Prop
  | w0 {n : Nat} {c : Addr × Nat × Nat × Nat} : cs[n]? = some c → Ask K H cs 0 (.int (n : Int)) [.str "told", .ref c.1]
  | b0 {v : V} : Kd K H v → isWh 0 ((cs.length : Int) - 1) v = false → Ask K H cs 0 v [.str "none"]
  | w1 {a : Addr} {r g b : Nat} : Col H a r g b → Ask K H cs 1 (.ref a) [.str "told", cellV cs r g b]
  | b1 {v : V} : TC K H v → colB H v = false → Ask K H cs 1 v [.str "colour"]
  | w2 {a : Addr} {r g b : Nat} : Col H a r g b → Ask K H cs 2 (.ref a) [.str "told", .int (firstI (dsts cs r g b) : Int)]
  | b2 {v : V} : TC K H v → colB H v = false → Ask K H cs 2 v [.str "colour"]
  | w3 {a : Addr} {r g b j : Nat} : Col H a r g b → cs.findIdx? (isC r g b) = some j → Ask K H cs 3 (.ref a) [.str "told", .int (j : Int)]
  | m3 {a : Addr} {r g b : Nat} : Col H a r g b → cs.findIdx? (isC r g b) = none → cs.length = 16 → Ask K H cs 3 (.ref a) [.str "many"]
  | b3 {v : V} : TC K H v → colB H v = false → Ask K H cs 3 v [.str "colour"]
noncomputable abbrev spWs (cC cN cM cP ea : Addr) : Sp := fun vs H Q E => spW cC "colour" ea vs H Q E ∨ (spW cN "none" ea vs H Q E ∨ (spW cM "many" ea vs H Q E ∨ spW cP "palette" ea vs H Q E))
noncomputable def spAsked (K : PySem.W.Frag) (cL : Addr) : Sp := fun vs H Q _ => ∃ (p l : Addr) (cs : List (Addr × Nat × Nat × Nat)) (wy : Int) (v : V), vs = [.ref p, .int wy, v] ∧ PalV cL H p l cs ∧ 1 ≤ cs.length ∧ cs.length ≤ 16 ∧
  ((∃ ans, Ask K H cs wy v ans ∧ ∀ t H', Same H H' → H t = none → H' t = some (.tup ans) → Q (.ref t) H') ∨
   (∃ a r g b, wy = 3 ∧ v = .ref a ∧ Col H a r g b ∧ cs.findIdx? (isC r g b) = none ∧ cs.length < 16 ∧ ∀ t H', (∀ b o, H b = some o → b ≠ l → H' b = some o) → H t = none → H' l = some (.lst ((cs.map fun c => V.ref c.1) ++ [V.ref a])) → H' t = some (.tup [.str "told", .int (cs.length : Int)]) → Q (.ref t) H'))
noncomputable def AnsV (H : Hp) (ans : List V) : Prop := (∃ x, ans = [.str "told", x] ∧ ((∃ a xs, x = .ref a ∧ H a = some (.tup xs)) ∨ (∃ i, x = .int i) ∨ x = .non)) ∨ ∃ w : Str, ans = [.str w] ∧ w ≠ "told"
noncomputable def spIs : Sp := fun vs H Q _ => ∃ t u ans, vs = [.ref t, .ref u] ∧ H t = some (.tup ans) ∧ H u = some (.tup ans) ∧ AnsV H ans ∧ Q (.bl true) H
noncomputable def spCG (cL : Addr) : Sp := fun vs H Q _ => ∃ (p l : Addr) (cs : List (Addr × Nat × Nat × Nat)) (o hd : Addr) (hs : List V), vs = [.ref p, .ref o, .ref hd] ∧ PalV cL H p l cs ∧ ColsV H o cs ∧ cs.length ≤ 1000 ∧ H hd = some (.lst hs) ∧ hs.length ≤ 1000 ∧
  ∀ t f g H', H t = none → H f = none → H g = none → (∀ b o, H b = some o → b ≠ hd → H' b = some o) → H' hd = some (.lst (hs ++ [.ref t])) → H' t = some (.tup [.ref f, .ref g]) → H' f = some (.lst ((cs.map fun c => V.ref c.1) ++ [.str "more"])) → H' g = some (.lst ((cs.map fun c => V.ref c.1) ++ [.str "more"])) → Q (.bl true) H'
theorem eq_self {K : PySem.W.Frag} {H : Hp} {xs : List V} (hf : ∀ x ∈ xs, (∃ a, x = .ref a) ∨ flatV x = true) (i : Nat) (x y : V) (hx : xs[i]? = some x) (hy : xs[i]? = some y) : EqD K H 0 x y true := by
  rw [hx] at hy; cases hy
  rcases hf x (List.mem_of_getElem? hx) with ⟨a, rfl⟩ | h
  · exact .inl ⟨a, rfl, rfl, rfl⟩
  · exact .inr ⟨h, h, by cases x <;> simp_all [eqV, flatV]⟩
theorem eq_tups {K : PySem.W.Frag} {H : Hp} {t u : Addr} {xs : List V} (e1 : H t = some (.tup xs)) (e2 : H u = some (.tup xs)) (hf : ∀ x ∈ xs, (∃ a, x = .ref a) ∨ flatV x = true) : EqL K H (EqD K H 0) t u true :=
  ⟨_, _, .inr ⟨.inr ⟨SqT.of e1, SqT.of e2⟩, rfl, fun _ => true, fun i x y hx hy => eq_self hf i x y hx hy, by simp⟩⟩
theorem eq_lsts {K : PySem.W.Frag} {H : Hp} {t u : Addr} {xs : List V} (e1 : H t = some (.lst xs)) (e2 : H u = some (.lst xs)) (hf : ∀ x ∈ xs, (∃ a, x = .ref a) ∨ flatV x = true) : EqL K H (EqD K H 0) t u true :=
  ⟨_, _, .inr ⟨.inl ⟨SqL.of e1, SqL.of e2⟩, rfl, fun _ => true, fun i x y hx hy => eq_self hf i x y hx hy, by simp⟩⟩
theorem refs_flat {cs : List (Addr × Nat × Nat × Nat)} : ∀ x ∈ (cs.map fun c => V.ref c.1), (∃ a, x = .ref a) ∨ flatV x = true := fun x hx => by
  obtain ⟨c, _, rfl⟩ := List.mem_map.mp hx
  exact .inl ⟨_, rfl⟩
section
variable {P : Program} {w : World} {K : PySem.W.Frag} {mg : Str → Option Value} {base : Heap} {cFE cC cN cM cP cL : Addr} {tP tS : Tok}
theorem sc_law_asked : FnScope ["_law_palette", "_law_way", "_law_thing", "_law_e"] ["_law_palette", "_law_way", "_law_thing"] (defScope s_law_asked) := ⟨rfl, rfl, rfl, by decide +kernel, rfl, by decide +kernel, by decide +kernel⟩
theorem ok_law_asked {f : Addr} {fd : FuncData} (F : FunD K "_law_asked" "_law_asked" s_law_asked .none f fd) (T : Txt K mg cFE cC cN cM cP cL tP tS) (g_m_colour_of : MetX P w K mg base cL 3 "colour_of" ["self", "cell"] (spColOf K cN cL)) (g_m_cell_of : MetX P w K mg base cL 5 "cell_of" ["self", "colour"] (spCellOf K cC cL)) (g_m_nearest_cell : MetX P w K mg base cL 6 "nearest_cell" ["self", "colour"] (spNear K cC cL)) (g_m_add_colour : MetX P w K mg base cL 6 "add_colour" ["self", "colour"] (spAdd K cC cM cL)) (g__law_word : DefM P w K mg base 2 "_law_word" ["_law_e"] [] (spWs cC cN cM cP)) : FnOk P w K mg base CX0 7 f fd ["_law_palette", "_law_way", "_law_thing"] (spAsked K cL) := by
  refine F.ok sc_law_asked (fun vs H Q E h => ?_) (fun cdv A outer s H vs Q E hr h => ?_)
  · obtain ⟨p, l, cs, wy, v, rfl, _⟩ := h; rfl
  · obtain ⟨p, l, cs, wy, v, rfl, pq, l1, l16, h⟩ := h
    have hu : _ + 64 < cLine := hr.units
    have hr1 : Room 2 _ := hr.mono (by decide)
    obtain ⟨⟨dx, hp⟩, cv⟩ := id pq
    refine ⟨_, (pss_one (ps_tryG (i := 3) sc_law_asked.nd rfl rfl rfl T.FolioError rfl rfl (fun pn XE R hx => (pss_cons (ps_if (pt_cmpR op_eq (pv 1) pe_int (nomark _)) (pss_one (ps_ret (pe_tup (pa_cons pe_str (pa_cons (pe_metX (pv 0) T.cl g_m_colour_of (hr.mono (by decide)) hx (pa_cons (pv 2) pa_nil)) pa_nil))))) pss_nil)
        (pss_cons (ps_if (pt_cmpR op_eq (pv 1) pe_int (nomark _)) (pss_one (ps_ret (pe_tup (pa_cons pe_str (pa_cons (pe_metX (pv 0) T.cl g_m_cell_of (hr.mono (by decide)) hx (pa_cons (pv 2) pa_nil)) pa_nil))))) pss_nil)
        (pss_cons (ps_if (pt_cmpR op_eq (pv 1) pe_int (nomark _)) (pss_one (ps_ret (pe_tup (pa_cons pe_str (pa_cons (pe_metX (pv 0) T.cl g_m_nearest_cell (hr.mono (by decide)) hx (pa_cons (pv 2) pa_nil)) pa_nil))))) pss_nil)
        (pss_one (ps_ret (pe_tup (pa_cons pe_str (pa_cons (pe_metX (pv 0) T.cl g_m_add_colour (hr.mono (by decide)) hx (pa_cons (pv 2) pa_nil)) pa_nil))))))))) (fun ea => (pss_one (ps_ret (pe_callM g__law_word hr1 rfl (pa_cons (pv 3) pa_nil))))))), ?_⟩
    rcases h with ⟨ans, ak, k⟩ | ⟨a, r, g, b, rfl, rfl, c, hf, h16, k⟩
    · cases ak with
      | @w0 n c hc =>
        refine ⟨_, rfl, rfl, _, rfl, _, rfl, p, dx, _, rfl, hp, lk_kept (by decide +kernel), _, rfl, p, l, cs, _, rfl, pq, .int _, fun n' c' e hc' => ?_, fun hw => ?_⟩
        · cases e
          rw [hc] at hc'; cases hc'
          exact ⟨by show 2 ≤ sizeLine; decide, fun t ht => k t _ (same_new ht) ht upd_same⟩
        · have := (List.getElem?_eq_some_iff.mp hc).1
          exact absurd (show isWh 0 ((cs.length : Int) - 1) (.int (n : Int)) = true by simp only [isWh, Bool.and_eq_true, decide_eq_true_eq]; omega) (by rw [hw]; decide)
      | b0 kd hw =>
        refine ⟨_, rfl, rfl, _, rfl, _, rfl, p, dx, _, rfl, hp, lk_kept (by decide +kernel), _, rfl, p, l, cs, _, rfl, pq, kd, fun n' c' e hc' => ?_, fun _ => ⟨cN, rfl, T.eN, fun ea hea => ?_⟩⟩
        · subst e
          have := (List.getElem?_eq_some_iff.mp hc').1
          exact absurd (show isWh 0 ((cs.length : Int) - 1) (.int (n' : Int)) = true by simp only [isWh, Bool.and_eq_true, decide_eq_true_eq]; omega) (by rw [hw]; decide)
        · have ex : upd H ea (ExcO ea cN) ea = some (ExcO ea cN) := upd_same
          have s4 := same_new (o := ExcO ea cN) hea
          exact ⟨_, rfl, .inr (.inl ⟨rfl, ex, fun t H5 s5 ht et => k t H5 (s4.trans s5) (s4.free ht) et⟩)⟩
      | @w1 a r g b c =>
        refine ⟨_, rfl, rfl, _, rfl, _, rfl, rfl, _, rfl, _, rfl, p, dx, _, rfl, hp, lk_kept (by decide +kernel), _, rfl, p, l, cs, _, rfl, pq, c.tc, fun a' r' g' b' e c' H3 s3 => ?_, fun hb => (by rw [c.yes] at hb; cases hb)⟩
        cases e
        obtain ⟨rfl, rfl, rfl⟩ := c.inj c'
        exact ⟨by show 2 ≤ sizeLine; decide, fun t ht => k t _ (s3.trans (same_new ht)) (s3.free ht) upd_same⟩
      | b1 tc hc =>
        refine ⟨_, rfl, rfl, _, rfl, _, rfl, rfl, _, rfl, _, rfl, p, dx, _, rfl, hp, lk_kept (by decide +kernel), _, rfl, p, l, cs, _, rfl, pq, tc, fun a' r' g' b' e c' => (by subst e; rw [c'.yes] at hc; cases hc), fun _ H3 s3 => ⟨cC, rfl, T.eC, fun ea hea => ?_⟩⟩
        have ex : upd H3 ea (ExcO ea cC) ea = some (ExcO ea cC) := upd_same
        have s4 := s3.trans (same_new (o := ExcO ea cC) hea)
        exact ⟨_, rfl, .inl ⟨rfl, ex, fun t H5 s5 ht et => k t H5 (s4.trans s5) (s4.free ht) et⟩⟩
      | @w2 a r g b c =>
        refine ⟨_, rfl, rfl, _, rfl, _, rfl, rfl, _, rfl, _, rfl, rfl, _, rfl, _, rfl, p, dx, _, rfl, hp, lk_kept (by decide +kernel), _, rfl, p, l, cs, _, rfl, pq, l1, by omega, c.tc, fun a' r' g' b' e c' H3 s3 => ?_, fun hb => (by rw [c.yes] at hb; cases hb)⟩
        cases e
        obtain ⟨rfl, rfl, rfl⟩ := c.inj c'
        exact ⟨by show 2 ≤ sizeLine; decide, fun t ht => k t _ (s3.trans (same_new ht)) (s3.free ht) upd_same⟩
      | b2 tc hc =>
        refine ⟨_, rfl, rfl, _, rfl, _, rfl, rfl, _, rfl, _, rfl, rfl, _, rfl, _, rfl, p, dx, _, rfl, hp, lk_kept (by decide +kernel), _, rfl, p, l, cs, _, rfl, pq, l1, by omega, tc, fun a' r' g' b' e c' => (by subst e; rw [c'.yes] at hc; cases hc), fun _ H3 s3 => ⟨cC, rfl, T.eC, fun ea hea => ?_⟩⟩
        have ex : upd H3 ea (ExcO ea cC) ea = some (ExcO ea cC) := upd_same
        have s4 := s3.trans (same_new (o := ExcO ea cC) hea)
        exact ⟨_, rfl, .inl ⟨rfl, ex, fun t H5 s5 ht et => k t H5 (s4.trans s5) (s4.free ht) et⟩⟩
      | @w3 a r g b j c hf =>
        refine ⟨_, rfl, rfl, _, rfl, _, rfl, rfl, _, rfl, _, rfl, rfl, _, rfl, _, rfl, p, dx, _, rfl, hp, lk_kept (by decide +kernel), _, rfl, p, l, cs, _, rfl, pq, l16, c.tc, fun a' r' g' b' e c' => ?_, fun hb => (by rw [c.yes] at hb; cases hb)⟩
        cases e
        obtain ⟨rfl, rfl, rfl⟩ := c.inj c'
        refine ⟨fun j' hj' H3 s3 => ?_, fun hn => (by rw [hf] at hn; cases hn), fun hn => (by rw [hf] at hn; cases hn)⟩
        rw [hf] at hj'; cases hj'
        exact ⟨by show 2 ≤ sizeLine; decide, fun t ht => k t _ (s3.trans (same_new ht)) (s3.free ht) upd_same⟩
      | @m3 a r g b c hf h16 =>
        refine ⟨_, rfl, rfl, _, rfl, _, rfl, rfl, _, rfl, _, rfl, rfl, _, rfl, _, rfl, p, dx, _, rfl, hp, lk_kept (by decide +kernel), _, rfl, p, l, cs, _, rfl, pq, l16, c.tc, fun a' r' g' b' e c' => ?_, fun hb => (by rw [c.yes] at hb; cases hb)⟩
        cases e
        obtain ⟨rfl, rfl, rfl⟩ := c.inj c'
        refine ⟨fun j' hj' => (by rw [hf] at hj'; cases hj'), fun _ _ H3 s3 => ⟨cM, rfl, T.eM, fun ea hea => ?_⟩, fun _ hl => absurd hl (by omega)⟩
        have ex : upd H3 ea (ExcO ea cM) ea = some (ExcO ea cM) := upd_same
        have s4 := s3.trans (same_new (o := ExcO ea cM) hea)
        exact ⟨_, rfl, .inr (.inr (.inl ⟨rfl, ex, fun t H5 s5 ht et => k t H5 (s4.trans s5) (s4.free ht) et⟩))⟩
      | b3 tc hc =>
        refine ⟨_, rfl, rfl, _, rfl, _, rfl, rfl, _, rfl, _, rfl, rfl, _, rfl, _, rfl, p, dx, _, rfl, hp, lk_kept (by decide +kernel), _, rfl, p, l, cs, _, rfl, pq, l16, tc, fun a' r' g' b' e c' => (by subst e; rw [c'.yes] at hc; cases hc), fun _ H3 s3 => ⟨cC, rfl, T.eC, fun ea hea => ?_⟩⟩
        have ex : upd H3 ea (ExcO ea cC) ea = some (ExcO ea cC) := upd_same
        have s4 := s3.trans (same_new (o := ExcO ea cC) hea)
        exact ⟨_, rfl, .inl ⟨rfl, ex, fun t H5 s5 ht et => k t H5 (s4.trans s5) (s4.free ht) et⟩⟩
    · refine ⟨_, rfl, rfl, _, rfl, _, rfl, rfl, _, rfl, _, rfl, rfl, _, rfl, _, rfl, p, dx, _, rfl, hp, lk_kept (by decide +kernel), _, rfl, p, l, cs, _, rfl, pq, l16, c.tc, fun a' r' g' b' e c' => ?_, fun hb => (by rw [c.yes] at hb; cases hb)⟩
      cases e
      obtain ⟨rfl, rfl, rfl⟩ := c.inj c'
      refine ⟨fun j' hj' => (by rw [hf] at hj'; cases hj'), fun _ hl => absurd hl (by omega), fun _ _ H3 k3 e3 => ⟨by show 2 ≤ sizeLine; decide, fun t ht => ?_⟩⟩
      have htH : H t = none := by
        by_cases hl : t = l
        · subst hl; rw [e3] at ht; cases ht
        · cases q : H t with
          | none => rfl
          | some o => rw [k3 t o q hl] at ht; cases ht
      exact k t _ (fun b o hb hne => by rw [upd_ne (ne_of_none hb htH)]; exact k3 b o hb hne) htH (by rw [upd_ne (ne_of_none e3 ht)]; exact e3) upd_same
theorem sc_law_is : FnScope ["_law_found", "_law_due"] ["_law_found", "_law_due"] (defScope s_law_is) := ⟨rfl, rfl, rfl, by decide +kernel, rfl, by decide +kernel, by decide +kernel⟩
theorem ok_law_is {f : Addr} {fd : FuncData} (F : FunD K "_law_is" "_law_is" s_law_is .none f fd) (T : Txt K mg cFE cC cN cM cP cL tP tS) : FnOk P w K mg base CX0 1 f fd ["_law_found", "_law_due"] (spIs) := by
  refine F.ok sc_law_is (fun vs H Q E h => ?_) (fun cdv A outer s H vs Q E hr h => ?_)
  · obtain ⟨t, u, ans, rfl, _⟩ := h; rfl
  · obtain ⟨t, u, ans, rfl, e1, e2, av, k⟩ := h
    have hu : _ + 64 < cLine := hr.units
    refine ⟨_, (pss_cons (ps_if (PW.pt (pw_or (pt_cmpR op_ne (pe_callB (lenK K rfl) rfl T.len PySem.boot_len (pa_cons (pv 0) pa_nil)) (pe_callB (lenK K rfl) rfl T.len PySem.boot_len (pa_cons (pv 1) pa_nil)) (nomark _)) (pw_or1 (pt_cmpR (neDK K rfl hu) (pv 0) (pv 1) (nomark _))))) (pss_one (ps_ret pe_bl)) pss_nil)
        (pss_one (ps_ret (pe_or (pe_cmpR op_ne (pe_ix (ixTK K rfl) (pv 0) pe_int (fun _ _ => rfl)) pe_str (nomark _)) (pe_one (pe_not (isiK K rfl (pe_ix (ixTK K rfl) (pv 0) pe_int (fun _ _ => rfl)) rfl T.isinstance rfl T.bool PyProof.Rows.boot_bool))))))), ?_⟩
    have fl : ∀ x ∈ ans, (∃ a, x = .ref a) ∨ flatV x = true := by
      rcases av with ⟨x, rfl, hx⟩ | ⟨w, rfl, _⟩
      · intro y hy
        simp only [List.mem_cons, List.not_mem_nil, or_false] at hy
        rcases hy with rfl | rfl
        · exact .inr rfl
        · rcases hx with ⟨a, _, rfl, _⟩ | ⟨i, rfl⟩ | rfl
          · exact .inl ⟨a, rfl⟩
          · exact .inr rfl
          · exact .inr rfl
      · intro y hy
        rw [List.mem_singleton.mp hy]
        exact .inr rfl
    refine ⟨_, rfl, t, _, rfl, .inr (SqT.of e1), _, rfl, u, _, rfl, .inr (SqT.of e2), rfl, _, rfl, iteNS rfl ?_⟩
    refine ⟨_, rfl, _, rfl, 0, t, u, true, by decide, rfl, rfl, eq_tups e1 e2 fl, _, rfl, ?_⟩
    rcases av with ⟨x, rfl, hx⟩ | ⟨w, rfl, hw⟩
    · refine ⟨_, rfl, t, _, _, _, rfl, rfl, SqT.of e1, atI_nat (j := 0) rfl, rfl, _, rfl, ?_⟩
      rcases hx with ⟨a, xs, rfl, ha⟩ | ⟨i, rfl⟩ | rfl
      · exact ⟨_, rfl, t, _, _, _, rfl, rfl, SqT.of e1, atI_nat (j := 1) rfl, _, (Kd.tup (K := K) ha).isBool, _, rfl, k⟩
      · exact ⟨_, rfl, t, _, _, _, rfl, rfl, SqT.of e1, atI_nat (j := 1) rfl, _, (Kd.int (K := K) (H := H) i).isBool, _, rfl, k⟩
      · exact ⟨_, rfl, t, _, _, _, rfl, rfl, SqT.of e1, atI_nat (j := 1) rfl, _, (Kd.non (K := K) (H := H)).isBool, _, rfl, k⟩
    · refine ⟨_, rfl, t, _, _, _, rfl, rfl, SqT.of e1, atI_nat (j := 0) rfl, rfl, _, rfl, ?_⟩
      have : decide (V.str w = V.str "told") = false := decide_eq_false (fun z => hw (by injection z))
      rw [this]
      exact k
theorem sc_law_colours_good : FnScope ["_law_palette", "_law_own", "_law_held", "_law_found"] ["_law_palette", "_law_own", "_law_held"] (defScope s_law_colours_good) := ⟨rfl, rfl, rfl, by decide +kernel, rfl, by decide +kernel, by decide +kernel⟩
theorem ok_law_colours_good {f : Addr} {fd : FuncData} (F : FunD K "_law_colours_good" "_law_colours_good" s_law_colours_good .none f fd) (T : Txt K mg cFE cC cN cM cP cL tP tS) (g_m_colours : MetD P w K mg base cL 1 "colours" ["self"] (spCols cL)) : FnOk P w K mg base CX0 2 f fd ["_law_palette", "_law_own", "_law_held"] (spCG cL) := by
  refine F.ok sc_law_colours_good (fun vs H Q E h => ?_) (fun cdv A outer s H vs Q E hr h => ?_)
  · obtain ⟨p, l, cs, o, hd, hs, rfl, _⟩ := h; rfl
  · obtain ⟨p, l, cs, o, hd, hs, rfl, pq, co, hc, eh, hh, k⟩ := h
    have hu : _ + 64 < cLine := hr.units
    obtain ⟨⟨dx, hp⟩, cv⟩ := id pq
    refine ⟨_, (pss_cons (ps_set (i := 3) sc_law_colours_good.nd rfl (by first | exact Or.inl rfl | exact Or.inr rfl) (pe_metD0 (pv 0) T.cl g_m_colours (hr.mono (by decide))))
        (pss_cons (ps_if (PW.pt (pw_or (pt_not (pt_val (isiK K rfl (pv 3) rfl T.isinstance rfl T.list PyProof.Rows.boot_list))) (pw_or (pt_cmpR (neDK K rfl hu) (pv 3) (pv 1) (nomark _)) (pw_or1 (pt_not (pt_val (pe_callB (allK K rfl rfl) rfl T.all PyProof.Rows.boot_all (pa_cons (pe_comp (N := ["_law_colour_here"]) (src := [none]) rfl ⟨rfl, rfl, rfl, rfl, rfl, by decide +kernel⟩ (piK K rfl (pv 3)) (fun s H C fp => pg_name (i := 0) (show (["_law_colour_here"] : List Str).Nodup by decide +kernel) rfl (by first | exact Or.inl rfl | exact Or.inr rfl)) (fun s H C fp => pts_nil) (fun s H C fp => (isiK K rfl (pv 0) rfl T.isinstance rfl T.tuple PyProof.Rows.boot_tuple))) pa_nil)))))))) (pss_one (ps_ret pe_bl)) pss_nil)
        (pss_cons (ps_expr (pe_bm PySem.F.plainAttrs_list PySem.F.slot_list_append PySem.F.type_list_append mt_append (pv 3) (pa_cons pe_str pa_nil)))
        (pss_cons (ps_expr (pe_bm PySem.F.plainAttrs_list PySem.F.slot_list_append PySem.F.type_list_append mt_append (pv 2) (pa_cons (pe_tup (pa_cons (pv 3) (pa_cons (pe_callTy (listK K rfl) rfl T.list PyProof.Rows.boot_list (pa_cons (pv 3) pa_nil)) pa_nil))) pa_nil)))
        (pss_one (ps_ret pe_bl)))))), ?_⟩
    refine ⟨_, rfl, p, dx, _, rfl, hp, lk_kept (by decide +kernel), p, l, cs, rfl, pq, fun q hq => ?_⟩
    have z1 := same_new (o := HO.lst (cs.map fun c => V.ref c.1)) hq
    have eq1 : upd H q (.lst (cs.map fun c => V.ref c.1)) q = some (.lst (cs.map fun c => V.ref c.1)) := upd_same
    show gName 3 _ _ _ _
    generalize upd H q (.lst (cs.map fun c => V.ref c.1)) = H1 at z1 eq1 ⊢
    refine ⟨_, rfl, true, isList_lst eq1, _, rfl, ?_⟩
    refine ⟨_, rfl, _, rfl, 0, q, o, true, by decide, rfl, rfl, eq_lsts eq1 (z1 _ _ co.1) refs_flat, _, rfl, ?_⟩
    refine ⟨_, rfl, q, rfl, ⟨_, SqL.of eq1⟩, fun D hD => ?_⟩
    refine comp_fm (k := 0) (fun _ => .bl true) (fun _ => true) (src_list (SqL.of eq1)) (by rw [List.length_map]; exact Nat.le_trans hc (by decide)) hD (fun x _ H' Qb _ kk => kk H' (Same.refl _)) (fun x hx _ H' Q' sm kk => ?_) fun H2 s2 hD2 => ?_
    · obtain ⟨c, hc', rfl⟩ := List.mem_map.mp hx
      have cc := (((cv.2 c hc').mono z1).mono sm)
      have e : isT H' (.ref c.1) = true := by simp only [isT, cc.top]
      have tt := kk H' (Same.refl _)
      exact ⟨_, rfl, _, (Kd.tup (K := K) cc.top).isTuple, by rw [e]; exact tt⟩
    have eD : H2 D = some (.lst (((cs.map fun c => V.ref c.1).map fun _ => true).map V.bl)) := by rw [hD2, filter_t]; simp only [List.map_map]; rfl
    refine ⟨D, _, rfl, SqL.of eD, ?_⟩
    have al : ((cs.map fun c => V.ref c.1).map fun _ => true).all id = true := by simp
    rw [al]
    refine ⟨_, rfl, ?_⟩
    have eq2 := s2 _ _ eq1
    have z12 := z1.trans s2
    refine ⟨_, rfl, .inl ⟨rfl, _, SqL.of eq2⟩, q, _, _, rfl, rfl, eq2, Nat.lt_of_lt_of_le (by rw [List.length_map]; omega : _ < 5000) (by decide), ?_⟩
    have s3 : Same H (upd H2 q (.lst ((cs.map fun c => V.ref c.1) ++ [.str "more"]))) := same_upd z12 hq
    have eq3 : upd H2 q (.lst ((cs.map fun c => V.ref c.1) ++ [.str "more"])) q = some (.lst ((cs.map fun c => V.ref c.1) ++ [.str "more"])) := upd_same
    show tSeq _ _ _ _ (upd H2 q (.lst ((cs.map fun c => V.ref c.1) ++ [.str "more"])))
    generalize upd H2 q (.lst ((cs.map fun c => V.ref c.1) ++ [.str "more"])) = H3 at s3 eq3 ⊢
    have eh3 := s3 _ _ eh
    refine ⟨_, rfl, .inl ⟨rfl, _, SqL.of eh3⟩, _, rfl, _, rfl, q, _, rfl, .inl (SqL.of eq3), fun g hg => ?_⟩
    have z4 := same_new (o := HO.lst ((cs.map fun c => V.ref c.1) ++ [.str "more"])) hg
    refine ⟨by show 2 ≤ sizeLine; decide, fun t ht => ?_⟩
    have z5 := same_new (o := HO.tup [V.ref q, .ref g]) ht
    have z45 := z4.trans z5
    have hgH := s3.free hg
    have htH := (s3.trans z4).free ht
    refine ⟨hd, _, _, rfl, rfl, z45 _ _ eh3, Nat.lt_of_lt_of_le (by omega : _ < 5000) (by decide), ?_⟩
    refine k t q g _ htH hq hgH (fun b o hb hne => by rw [upd_ne hne]; exact (s3.trans z45) b o hb) upd_same ?_ ?_ ?_
    · rw [upd_ne (ne_of_none eh htH).symm]; exact upd_same
    · rw [upd_ne (ne_of_none eh hq).symm]; exact z45 _ _ eq3
    · rw [upd_ne (ne_of_none eh hgH).symm]; exact z5 _ _ upd_same
end
end K16
set_option Elab.async false
set_option linter.all false
set_option maxRecDepth 100000
set_option maxHeartbeats 1600000
namespace K16
open PySem L2 M4
noncomputable def Fr (X : List Addr) (H H' : Hp) : Prop := ∀ b o, H b = some o → b ∉ X → H' b = some o
theorem Fr.trans {X : List Addr} {H H1 H2 : Hp} (a : Fr X H H1) (b : Fr X H1 H2) : Fr X H H2 := fun c o h n => b c o (a c o h n) n
theorem Same.fr {X : List Addr} {H H' : Hp} (s : Same H H') : Fr X H H' := fun b o h _ => s b o h
noncomputable def Lsts (H : Hp) (X : List Addr) : Prop := ∀ x ∈ X, ∃ ys, H x = some (.lst ys)
theorem Fr.oth {X : List Addr} {H H' : Hp} {b : Addr} {o : HO} (f : Fr X H H') (l : Lsts H X) (h : H b = some o) (d : ∀ ys, o ≠ .lst ys) : H' b = some o :=
  f b o h fun z => by
    obtain ⟨ys, e⟩ := l b z
    rw [h] at e
    exact d ys (Option.some.inj e)
theorem Fr.col {X : List Addr} {H H' : Hp} {a : Addr} {r g b : Nat} (f : Fr X H H') (l : Lsts H X) (c : Col H a r g b) : Col H' a r g b := ⟨f.oth l c.top (fun ys z => by cases z), c.lr, c.lg, c.lb⟩
theorem Fr.cols {X : List Addr} {H H' : Hp} {a : Addr} {cs : List (Addr × Nat × Nat × Nat)} (f : Fr X H H') (l : Lsts H X) (v : ColsV H a cs) (n : a ∉ X) : ColsV H' a cs := ⟨f a _ v.1 n, fun c hc => f.col l (v.2 c hc)⟩
theorem Fr.pal {X : List Addr} {H H' : Hp} {cL p q : Addr} {cs : List (Addr × Nat × Nat × Nat)} (f : Fr X H H') (l : Lsts H X) (v : PalV cL H p q cs) (n : q ∉ X) : PalV cL H' p q cs := by
  obtain ⟨⟨dx, h⟩, c⟩ := v
  exact ⟨⟨dx, f.oth l h (fun ys z => by cases z)⟩, f.cols l c n⟩
noncomputable def spOne (K : PySem.W.Frag) (cL : Addr) : Sp := fun vs H Q _ => ∃ (p l o pl : Addr) (cs ds : List (Addr × Nat × Nat × Nat)) (wh n : Nat), vs = [.ref p, .ref o, .int (wh : Int), .int (n : Int), .ref pl] ∧ PalV cL H p l cs ∧ ColsV H o cs ∧ 1 ≤ cs.length ∧ cs.length ≤ 16 ∧ ColsV H pl ds ∧ 1 ≤ ds.length ∧ ds.length ≤ 1000 ∧ 1 ≤ wh ∧ wh ≤ 4 ∧ ∀ H', Same H H' → Q (.bl true) H'
noncomputable def PairN (H H' : Hp) (t : Addr) : Prop := ∃ f g xs, H t = none ∧ H f = none ∧ H g = none ∧ H' t = some (.tup [.ref f, .ref g]) ∧ H' f = some (.lst xs) ∧ H' g = some (.lst xs) ∧ ∀ x ∈ xs, (∃ a, x = .ref a) ∨ flatV x = true
noncomputable def spStands (K : PySem.W.Frag) (cL : Addr) : Sp := fun vs H Q _ => ∃ (p l o pl hd : Addr) (cs ds : List (Addr × Nat × Nat × Nat)) (n : Nat) (hs : List V), vs = [.ref p, .ref o, .int (n : Int), .ref pl, .ref hd] ∧ PalV cL H p l cs ∧ ColsV H o cs ∧ 1 ≤ cs.length ∧ cs.length ≤ 16 ∧ ColsV H pl ds ∧ 1 ≤ ds.length ∧ ds.length ≤ 1000 ∧ H hd = some (.lst hs) ∧ hs.length ≤ 900 ∧ l ≠ hd ∧ o ≠ hd ∧ pl ≠ hd ∧
  ∀ (ts : List Addr) H', Fr [hd] H H' → H' hd = some (.lst (hs ++ ts.map V.ref)) → (∀ t ∈ ts, PairN H H' t) → ts.length ≤ 5 → Q (.bl true) H'
noncomputable def spGiven (K : PySem.W.Frag) (cL : Addr) : Sp := fun vs H Q _ => ∃ (p l o pl : Addr) (cs ds : List (Addr × Nat × Nat × Nat)) (n : Nat), vs = [.ref p, .ref o, .int (n : Int), .ref pl] ∧ PalV cL H p l cs ∧ ColsV H o cs ∧ 1 ≤ cs.length ∧ cs.length ≤ 16 ∧ ColsV H pl ds ∧ 1 ≤ ds.length ∧ ds.length ≤ 1000 ∧ o ≠ l ∧
  ∀ (cs' : List (Addr × Nat × Nat × Nat)) H', Fr [o, l] H H' → ColsV H' o cs' → PalV cL H' p l cs' → 1 ≤ cs'.length → cs'.length ≤ 16 → Q (.bl true) H'
theorem b10 {K : PySem.W.Frag} {H : Hp} {q1 q2 : Addr} {cs : List (Addr × Nat × Nat × Nat)} {v : V} (h16 : cs.length ≤ 16) (e1 : H q1 = some (.lst [.int 0])) (e2 : H q2 = some (.tup [.int 0])) (hm : v ∈ [V.int (cs.length : Int), .int (-1), .int 16, .bl true, .non, .str "0", .ref q1, .bl false, .int (10 ^ 20), .ref q2]) : Kd K H v ∧ isWh 0 ((cs.length : Int) - 1) v = false := by
  have iw : ∀ i : Int, (i < 0 ∨ (cs.length : Int) - 1 < i) → isWh 0 ((cs.length : Int) - 1) (.int i) = false := fun i hi => by
    cases h : isWh 0 ((cs.length : Int) - 1) (.int i) with
    | false => rfl
    | true => simp only [isWh, Bool.and_eq_true, decide_eq_true_eq] at h; omega
  simp only [List.mem_cons, List.not_mem_nil, or_false] at hm
  rcases hm with rfl | rfl | rfl | rfl | rfl | rfl | rfl | rfl | rfl | rfl
  · exact ⟨.int _, iw _ (by omega)⟩
  · exact ⟨.int _, iw _ (by omega)⟩
  · exact ⟨.int _, iw _ (by omega)⟩
  · exact ⟨.bl _, rfl⟩
  · exact ⟨.non, rfl⟩
  · exact ⟨.str _, rfl⟩
  · exact ⟨.lst e1, rfl⟩
  · exact ⟨.bl _, rfl⟩
  · exact ⟨.int _, iw _ (by omega)⟩
  · exact ⟨.tup e2, rfl⟩
theorem at_cols {cs : List (Addr × Nat × Nat × Nat)} (m : Int) (h : 1 ≤ cs.length) : ∃ c ∈ cs, atI (cs.map fun c => V.ref c.1) (m % (((cs.map fun c => V.ref c.1).length : Nat) : Int)) = some (.ref c.1) := by
  obtain ⟨x, hx, e⟩ := at_mod (xs := (cs.map fun c => V.ref c.1)) (m := m) _ rfl (by rw [List.length_map]; omega)
  obtain ⟨c, hc, rfl⟩ := List.mem_map.mp hx
  exact ⟨c, hc, e⟩
theorem at_colsN {cs : List (Addr × Nat × Nat × Nat)} (m : Nat) (h : 1 ≤ cs.length) : ∃ (i : Nat) (c : Addr × Nat × Nat × Nat), (m : Int) % (((cs.map fun c => V.ref c.1).length : Nat) : Int) = (i : Int) ∧ cs[i]? = some c ∧ c ∈ cs ∧ atI (cs.map fun c => V.ref c.1) (i : Int) = some (.ref c.1) := by
  have hlt : m % cs.length < cs.length := Nat.mod_lt _ (by omega)
  refine ⟨m % cs.length, cs[m % cs.length], by rw [List.length_map]; simp, List.getElem?_eq_getElem hlt, List.getElem_mem hlt, atI_nat (j := m % cs.length) (by rw [List.getElem?_map, List.getElem?_eq_getElem hlt]; rfl)⟩
section
variable {P : Program} {w : World} {K : PySem.W.Frag} {mg : Str → Option Value} {base : Heap} {cFE cC cN cM cP cL : Addr} {tP tS : Tok}
theorem sc_law_one_good : FnScope ["_law_palette", "_law_own", "_law_which", "_law_number", "_law_pool_here", "_law_colour_here", "_law_cell", "_law_bad", "_law_good", "_law_due"] ["_law_palette", "_law_own", "_law_which", "_law_number", "_law_pool_here"] (defScope s_law_one_good) := ⟨rfl, rfl, rfl, by decide +kernel, rfl, by decide +kernel, by decide +kernel⟩
theorem ok_law_one_good {f : Addr} {fd : FuncData} (F : FunD K "_law_one_good" "_law_one_good" s_law_one_good .none f fd) (T : Txt K mg cFE cC cN cM cP cL tP tS) (g__law_whole : Def P w K mg base 1 "_law_whole" ["_law_found"] [] (spWhole)) (g_m_many : MetD P w K mg base cL 1 "many" ["self"] (spMany cL)) (g__law_asked : Def P w K mg base 7 "_law_asked" ["_law_palette", "_law_way", "_law_thing"] [] (spAsked K cL)) (g__law_is : Def P w K mg base 1 "_law_is" ["_law_found", "_law_due"] [] (spIs)) (g__law_nearest : Def P w K mg base 2 "_law_nearest" ["_law_colours", "_law_colour_here"] [] (spLNear)) : FnOk P w K mg base CX0 8 f fd ["_law_palette", "_law_own", "_law_which", "_law_number", "_law_pool_here"] (spOne K cL) := by
  refine F.ok sc_law_one_good (fun vs H Q E h => ?_) (fun cdv A outer s H vs Q E hr h => ?_)
  · obtain ⟨p, l, o, pl, cs, ds, wh, n, rfl, _⟩ := h; rfl
  · obtain ⟨p, l, o, pl, cs, ds, wh, n, rfl, pq, co, l1, l16, cp, d1, d2, w1, w4, k⟩ := h
    have hu : _ + 64 < cLine := hr.units
    obtain ⟨⟨dx, hp⟩, cv⟩ := id pq
    obtain ⟨c, hc, ec⟩ := at_cols (cs := ds) ((n : Int) / 3) d1
    have cc := cp.2 c hc
    refine ⟨_, (pss_cons (ps_set (i := 5) sc_law_one_good.nd rfl (by first | exact Or.inl rfl | exact Or.inr rfl) (pe_ix (ixK K rfl) (pv 4) (pe_op op_mod (pe_op op_fdiv (pv 3) pe_int) (pe_callB (lenK K rfl) rfl T.len PySem.boot_len (pa_cons (pv 4) pa_nil))) (fun _ _ => rfl)))
        (pss_cons (ps_if (pt_cmpR op_eq (pv 2) pe_int (nomark _)) (pss_one (ps_ret (pe_and (pe_callD g__law_whole (hr.mono (by decide)) rfl (pa_cons (pe_metD0 (pv 0) T.cl g_m_many (hr.mono (by decide))) pa_nil)) (pe_one (pe_cmpR op_eq (pe_metD0 (pv 0) T.cl g_m_many (hr.mono (by decide))) (pe_callB (lenK K rfl) rfl T.len PySem.boot_len (pa_cons (pv 1) pa_nil)) (nomark _)))))) pss_nil)
        (pss_cons (ps_if (pt_cmpR op_eq (pv 2) pe_int (nomark _)) (pss_cons (ps_set (i := 6) sc_law_one_good.nd rfl (by first | exact Or.inl rfl | exact Or.inr rfl) (pe_op op_mod (pe_op op_fdiv (pv 3) pe_int) (pe_callB (lenK K rfl) rfl T.len PySem.boot_len (pa_cons (pv 1) pa_nil))))
        (pss_cons (ps_set (i := 7) sc_law_one_good.nd rfl (by first | exact Or.inl rfl | exact Or.inr rfl) (pe_ix (ixK K rfl) (ShE.pe (qpe_lst (qpa_cons (ShE.mk (pe_callB (lenK K rfl) rfl T.len PySem.boot_len (pa_cons (pv 1) pa_nil))) slCall (qpa_cons (ShE.mk (pe_un un_neg pe_int)) slUn (qpa_cons (ShE.mk pe_int) slC (qpa_cons (ShE.mk pe_bl) slC (qpa_cons (ShE.mk pe_non) slC (qpa_cons (ShE.mk pe_str) slC (qpa_cons (ShE.mk (pe_lst (pa_cons pe_int pa_nil))) slLst (qpa_cons (ShE.mk pe_bl) slC (qpa_cons (ShE.mk (pe_op op_pow pe_int pe_int)) slBin (qpa_cons (ShE.mk (pe_tup (pa_cons pe_int pa_nil))) slTup qpa_nil)))))))))))) (pe_op op_mod (pe_op op_fdiv (pv 3) pe_int) pe_int) (fun _ _ => rfl)))
        (pss_cons (ps_set (i := 8) sc_law_one_good.nd rfl (by first | exact Or.inl rfl | exact Or.inr rfl) (pe_callD g__law_is (hr.mono (by decide)) rfl (pa_cons (pe_callD g__law_asked (hr.mono (by decide)) rfl (pa_cons (pv 0) (pa_cons pe_int (pa_cons (pv 6) pa_nil)))) (pa_cons (pe_tup (pa_cons pe_str (pa_cons (pe_ix (ixK K rfl) (pv 1) (pv 6) (fun _ _ => rfl)) pa_nil))) pa_nil))))
        (pss_one (ps_ret (pe_and (pv 8) (pe_one (pe_cmpR (eqDK K rfl hu) (pe_callD g__law_asked (hr.mono (by decide)) rfl (pa_cons (pv 0) (pa_cons pe_int (pa_cons (pv 7) pa_nil)))) (pe_tup (pa_cons pe_str pa_nil)) (nomark _))))))))) pss_nil)
        (pss_cons (ps_if (pt_cmpR op_eq (pv 2) pe_int (nomark _)) (pss_cons (ps_set (i := 9) sc_law_one_good.nd rfl (by first | exact Or.inl rfl | exact Or.inr rfl) pe_non)
        (pss_cons (ps_if (pt_cmpR (op_inD K rfl 1 (by decide) hu) (pv 5) (pv 1) (by with_unfolding_all rfl)) (pss_one (ps_set (i := 9) sc_law_one_good.nd rfl (by first | exact Or.inl rfl | exact Or.inr rfl) (pe_bm PySem.F.plainAttrs_list PySem.F.slot_list_index PySem.F.type_list_index (mt_indexL K rfl 1 (by decide) hu) (pv 1) (pa_cons (pv 5) pa_nil)))) pss_nil)
        (pss_one (ps_ret (pe_callD g__law_is (hr.mono (by decide)) rfl (pa_cons (pe_callD g__law_asked (hr.mono (by decide)) rfl (pa_cons (pv 0) (pa_cons pe_int (pa_cons (pv 5) pa_nil)))) (pa_cons (pe_tup (pa_cons pe_str (pa_cons (pv 9) pa_nil))) pa_nil))))))) pss_nil)
        (pss_one (ps_ret (pe_callD g__law_is (hr.mono (by decide)) rfl (pa_cons (pe_callD g__law_asked (hr.mono (by decide)) rfl (pa_cons (pv 0) (pa_cons pe_int (pa_cons (pv 5) pa_nil)))) (pa_cons (pe_tup (pa_cons pe_str (pa_cons (pe_callD g__law_nearest (hr.mono (by decide)) rfl (pa_cons (pv 1) (pa_cons (pv 5) pa_nil))) pa_nil))) pa_nil))))))))), ?_⟩
    refine ⟨_, rfl, _, rfl, _, _, rfl, rfl, ⟨by decide, by decide⟩, _, rfl, pl, _, rfl, .inl (SqL.of cp.1), _, _, rfl, rfl, (by rw [List.length_map]; omega), pl, _, _, _, rfl, rfl, SqL.of cp.1, ec, ?_⟩
    have hw : wh = 1 ∨ wh = 2 ∨ wh = 3 ∨ wh = 4 := by omega
    rcases hw with rfl | rfl | rfl | rfl
    · -- many
      refine ⟨_, rfl, rfl, _, rfl, ?_⟩
      refine ⟨_, rfl, p, dx, _, rfl, hp, lk_kept (by decide +kernel), p, l, cs, rfl, pq, _, rfl, _, rfl, ?_⟩
      refine ⟨_, rfl, p, dx, _, rfl, hp, lk_kept (by decide +kernel), p, l, cs, rfl, pq, _, rfl, o, _, rfl, .inl (SqL.of co.1), rfl, ?_⟩
      rw [List.length_map, decide_eq_true rfl]
      exact k H (Same.refl H)
    · -- colour_of
      refine ⟨_, rfl, rfl, _, rfl, _, rfl, rfl, _, rfl, ?_⟩
      obtain ⟨ci, c2, hn, ec2, hc2, ea2⟩ := at_colsN (cs := cs) (n / 3) l1
      refine ⟨_, rfl, _, _, rfl, rfl, ⟨by decide, by decide⟩, _, rfl, o, _, rfl, .inl (SqL.of co.1), _, _, rfl, rfl, (by rw [List.length_map]; omega), ?_⟩
      show gName 6 (.int ((n : Int) / 3 % (((cs.map fun c => V.ref c.1).length : Nat) : Int))) _ _ _
      rw [show (n : Int) / 3 = ((n / 3 : Nat) : Int) by omega, hn]
      refine ⟨_, rfl, o, _, rfl, .inl (SqL.of co.1), _, rfl, by show 1 ≤ sizeLine; decide, fun q1 h1 => ?_⟩
      have z1 := same_new (o := HO.lst [V.int 0]) h1
      refine ⟨_, _, rfl, rfl, ⟨by decide, by decide, by decide⟩, by show 1 ≤ sizeLine; decide, fun q2 h2 => ?_⟩
      have z2 := same_new (o := HO.tup [V.int 0]) h2
      rw [List.length_map]
      refine ⟨by show 10 ≤ sizeLine; decide, fun L hL => ?_⟩
      have z3 := same_new (o := HO.lst [V.int (cs.length : Int), .int (-1), .int 16, .bl true, .non, .str "0", .ref q1, .bl false, .int (10 ^ 20), .ref q2]) hL
      obtain ⟨x, hm, hx⟩ := at_mod (xs := [V.int (cs.length : Int), .int (-1), .int 16, .bl true, .non, .str "0", .ref q1, .bl false, .int (10 ^ 20), .ref q2]) (m := (n : Int) / 64) 10 rfl (by decide)
      refine ⟨_, rfl, _, _, rfl, rfl, ⟨by decide, by decide⟩, _, _, rfl, rfl, (by show (0 : Int) < 10; decide), L, _, _, x, rfl, rfl, SqL.of upd_same, hx, ?_⟩
      have bx := b10 (K := K) l16 ((z2.trans z3) q1 (.lst [.int 0]) upd_same) (z3 q2 (.tup [.int 0]) upd_same) hm
      have z13 := z1.trans (z2.trans z3)
      show gName 7 x _ (upd (upd (upd H q1 (.lst [.int 0])) q2 (.tup [.int 0])) L (.lst [V.int (cs.length : Int), .int (-1), .int 16, .bl true, .non, .str "0", .ref q1, .bl false, .int (10 ^ 20), .ref q2])) _
      generalize upd (upd (upd H q1 (.lst [.int 0])) q2 (.tup [.int 0])) L (.lst [V.int (cs.length : Int), .int (-1), .int 16, .bl true, .non, .str "0", .ref q1, .bl false, .int (10 ^ 20), .ref q2]) = H3 at z13 bx ⊢
      have pq3 := pq.mono z13
      have co3 := co.mono z13
      refine ⟨_, rfl, _, rfl, p, l, cs, 0, _, rfl, pq3, l1, l16, .inl ⟨_, .w0 ec2, fun t H4 s4 ht et => ?_⟩⟩
      refine ⟨_, rfl, _, rfl, o, _, _, _, rfl, rfl, SqL.of (co3.mono s4).1, ea2, by show 2 ≤ sizeLine; decide, fun u hu1 => ?_⟩
      have z5 := same_new (o := HO.tup [V.str "told", .ref c2.1]) hu1
      have s35 := s4.trans z5
      refine ⟨t, u, _, rfl, z5 _ _ et, upd_same, .inl ⟨_, rfl, .inl ⟨_, _, rfl, ((co3.mono s35).2 c2 hc2).top⟩⟩, ?_⟩
      refine ⟨_, rfl, _, rfl, ?_⟩
      refine ⟨_, rfl, _, rfl, p, l, cs, 0, x, rfl, pq3.mono s35, l1, l16, .inl ⟨_, .b0 (bx.1.mono s35) bx.2, fun t2 H6 s6 ht2 et2 => ?_⟩⟩
      refine ⟨by show 1 ≤ sizeLine; decide, fun u2 hu2 => ?_⟩
      have z7 := same_new (o := HO.tup [V.str "none"]) hu2
      refine ⟨0, t2, u2, true, by decide, rfl, rfl, eq_tups (z7 _ _ et2) upd_same (fun y hy => (by rw [List.mem_singleton.mp hy]; exact .inr rfl)), ?_⟩
      exact k _ (z13.trans (s35.trans (s6.trans z7)))
    · -- cell_of
      refine ⟨_, rfl, rfl, _, rfl, _, rfl, rfl, _, rfl, _, rfl, rfl, _, rfl, ?_⟩
      refine ⟨_, rfl, _, rfl, in_cols (neg := false) co cc ⟨_, rfl, ?_⟩⟩
      cases hf : cs.findIdx? (isC c.2.1 c.2.2.1 c.2.2.2) with
      | none =>
        refine ⟨_, rfl, _, rfl, p, l, cs, 1, _, rfl, pq, l1, l16, .inl ⟨_, .w1 cc, fun t H1 s1 ht et => ?_⟩⟩
        have e : cellV cs c.2.1 c.2.2.1 c.2.2.2 = .non := by unfold cellV; rw [hf]
        rw [e] at et
        refine ⟨_, rfl, by show 2 ≤ sizeLine; decide, fun u hu1 => ?_⟩
        have z2 := same_new (o := HO.tup [V.str "told", .non]) hu1
        exact ⟨t, u, _, rfl, z2 _ _ et, upd_same, .inl ⟨_, rfl, .inr (.inr rfl)⟩, k _ (s1.trans z2)⟩
      | some j =>
        refine ⟨_, rfl, .inl ⟨rfl, _, SqL.of co.1⟩, _, rfl, ?_⟩
        dsimp only [tNil]
        refine index_cols co cc hf ?_
        refine ⟨_, rfl, _, rfl, p, l, cs, 1, _, rfl, pq, l1, l16, .inl ⟨_, .w1 cc, fun t H1 s1 ht et => ?_⟩⟩
        have e : cellV cs c.2.1 c.2.2.1 c.2.2.2 = .int (j : Int) := by unfold cellV; rw [hf]
        rw [e] at et
        refine ⟨_, rfl, by show 2 ≤ sizeLine; decide, fun u hu1 => ?_⟩
        have z2 := same_new (o := HO.tup [V.str "told", .int (j : Int)]) hu1
        exact ⟨t, u, _, rfl, z2 _ _ et, upd_same, .inl ⟨_, rfl, .inr (.inl ⟨_, rfl⟩)⟩, k _ (s1.trans z2)⟩
    · -- nearest
      refine ⟨_, rfl, rfl, _, rfl, _, rfl, rfl, _, rfl, _, rfl, rfl, _, rfl, ?_⟩
      refine ⟨_, rfl, _, rfl, p, l, cs, 2, _, rfl, pq, l1, l16, .inl ⟨_, .w2 cc, fun t H1 s1 ht et => ?_⟩⟩
      refine ⟨_, rfl, _, rfl, o, c.1, cs, _, _, _, rfl, co.mono s1, l1, by omega, cc.mono s1, by show 2 ≤ sizeLine; decide, fun u hu1 => ?_⟩
      have z2 := same_new (o := HO.tup [V.str "told", .int (firstI (dsts cs c.2.1 c.2.2.1 c.2.2.2) : Int)]) hu1
      exact ⟨t, u, _, rfl, z2 _ _ et, upd_same, .inl ⟨_, rfl, .inr (.inl ⟨_, rfl⟩)⟩, k _ (s1.trans z2)⟩
end
end K16
set_option Elab.async false
set_option linter.all false
set_option maxRecDepth 100000
set_option maxHeartbeats 1600000
namespace K16
open PySem L2 M4
theorem PairN.fr {X : List Addr} {H H1 H2 : Hp} {t : Addr} (p : PairN H H1 t) (f : Fr X H1 H2) (hX : ∀ x ∈ X, H x ≠ none) : PairN H H2 t := by
  obtain ⟨a, b, xs, h1, h2, h3, e1, e2, e3, fl⟩ := p
  have nn : ∀ {q : Addr}, H q = none → q ∉ X := fun h z => hX _ z h
  exact ⟨a, b, xs, h1, h2, h3, f _ _ e1 (nn h1), f _ _ e2 (nn h2), f _ _ e3 (nn h3), fl⟩
theorem Fr.free {X : List Addr} {H H' : Hp} {b : Addr} (f : Fr X H H') (h : H' b = none) (hX : ∀ x ∈ X, H' x ≠ none) : H b = none := by
  cases q : H b with
  | none => rfl
  | some o =>
    by_cases hb : b ∈ X
    · exact absurd h (hX b hb)
    · rw [f b o q hb] at h; cases h
theorem more_flat {cs : List (Addr × Nat × Nat × Nat)} : ∀ x ∈ (cs.map fun c => V.ref c.1) ++ [V.str "more"], (∃ a, x = .ref a) ∨ flatV x = true := fun x hx => by
  rcases List.mem_append.mp hx with hx | hx
  · exact refs_flat x hx
  · rw [List.mem_singleton.mp hx]; exact .inr rfl
section
variable {P : Program} {w : World} {K : PySem.W.Frag} {mg : Str → Option Value} {base : Heap} {cFE cC cN cM cP cL : Addr} {tP tS : Tok}
theorem sc_law_stands : FnScope ["_law_palette", "_law_own", "_law_number", "_law_pool_here", "_law_held", "_law_k", "_law_which"] ["_law_palette", "_law_own", "_law_number", "_law_pool_here", "_law_held"] (defScope s_law_stands) := ⟨rfl, rfl, rfl, by decide +kernel, rfl, by decide +kernel, by decide +kernel⟩
theorem ok_law_stands {f : Addr} {fd : FuncData} (F : FunD K "_law_stands" "_law_stands" s_law_stands .none f fd) (T : Txt K mg cFE cC cN cM cP cL tP tS) (g__law_colours_good : Def P w K mg base 2 "_law_colours_good" ["_law_palette", "_law_own", "_law_held"] [] (spCG cL)) (g__law_one_good : Def P w K mg base 8 "_law_one_good" ["_law_palette", "_law_own", "_law_which", "_law_number", "_law_pool_here"] [] (spOne K cL)) : FnOk P w K mg base CX0 9 f fd ["_law_palette", "_law_own", "_law_number", "_law_pool_here", "_law_held"] (spStands K cL) := by
  refine F.ok sc_law_stands (fun vs H Q E h => ?_) (fun cdv A outer s H vs Q E hr h => ?_)
  · obtain ⟨p, l, o, pl, hd, cs, ds, n, hs, rfl, _⟩ := h; rfl
  · obtain ⟨p, l, o, pl, hd, cs, ds, n, hs, rfl, pq, co, l1, l16, cp, d1, d2, eh, hh, nl, no, npl, k⟩ := h
    refine ⟨_, (pss_cons (ps_for PassesOwn.never rfl (pi_range1 rfl T.range (pa_cons (pe_op op_mod (pv 2) pe_int) pa_nil)) (pg_name (i := 5) sc_law_stands.nd rfl (by first | exact Or.inl rfl | exact Or.inr rfl)) (pss_cons (ps_set (i := 6) sc_law_stands.nd rfl (by first | exact Or.inl rfl | exact Or.inr rfl) (pe_op op_mod (pe_op op_add (pe_op op_fdiv (pv 2) pe_int) (pe_op op_mul (pv 5) (pe_op op_add pe_int (pe_op op_mod (pe_op op_fdiv (pv 2) pe_int) pe_int)))) pe_int))
        (pss_one (ps_if (pt_cmpR op_eq (pv 6) pe_int (nomark _)) (pss_one (ps_if (pt_not (pt_val (pe_callD g__law_colours_good (hr.mono (by decide)) rfl (pa_cons (pv 0) (pa_cons (pv 1) (pa_cons (pv 4) pa_nil)))))) (pss_one (ps_ret pe_bl)) pss_nil)) (pss_one (ps_if (pt_not (pt_val (pe_callD g__law_one_good (hr.mono (by decide)) rfl (pa_cons (pv 0) (pa_cons (pv 1) (pa_cons (pv 6) (pa_cons (pe_op op_add (pe_op op_fdiv (pv 2) pe_int) (pe_op op_mul (pe_op op_mul pe_int (pv 5)) (pv 5))) (pa_cons (pv 3) pa_nil)))))))) (pss_one (ps_ret pe_bl)) pss_nil))))))
        (pss_one (ps_ret pe_bl))), ?_⟩
    have LH : Lsts H [hd] := fun x hx => by rw [List.mem_singleton.mp hx]; exact ⟨_, eh⟩
    have hX : ∀ x ∈ [hd], H x ≠ none := fun x hx => by rw [List.mem_singleton.mp hx, eh]; exact fun z => nomatch z
    have em : (n : Int) % 6 = ((n % 6 : Nat) : Int) := by omega
    refine ⟨_, rfl, _, _, rfl, rfl, (by show (0 : Int) < 6; decide), ((n % 6 : Nat) : Int), by show [V.int ((n : Int) % 6)] = _; rw [em], by omega, by omega, ?_⟩
    refine for_range (lo := 0) (n := n % 6) (fun i σ H1 => Fr [hd] H H1 ∧ ∃ (ts : List Addr) (v5 v6 : Option V), σ = [some (.ref p), some (.ref o), some (.int (n : Int)), some (.ref pl), some (.ref hd), v5, v6] ∧ H1 hd = some (.lst (hs ++ ts.map V.ref)) ∧ (∀ t ∈ ts, PairN H H1 t) ∧ ts.length ≤ i)
      ⟨fun b o h _ => h, [], none, none, rfl, by simpa using eh, (fun t ht => nomatch ht), Nat.le_refl _⟩ ?_ ?_
    · rintro i σ H1 hi ⟨f1, ts, v5, v6, rfl, e1, hts, hl⟩
      have nin : ∀ {q : Addr}, q ≠ hd → q ∉ [hd] := fun h z => h (List.mem_singleton.mp z)
      have pq1 := f1.pal LH pq (nin nl)
      have co1 := f1.cols LH co (nin no)
      have cp1 := f1.cols LH cp (nin npl)
      have ew : ((n : Int) / 6 + (0 + (i : Int)) * (1 + (n : Int) / 30 % 4)) % 5 = (((n / 6 + i * (1 + n / 30 % 4)) % 5 : Nat) : Int) := by
        have : (n : Int) / 6 + (0 + (i : Int)) * (1 + (n : Int) / 30 % 4) = ((n / 6 + i * (1 + n / 30 % 4) : Nat) : Int) := by
          rw [Int.zero_add]; simp [Int.natCast_add, Int.natCast_mul]
        rw [this]; simp
      refine ⟨_, rfl, _, _, rfl, rfl, ⟨by decide, by decide⟩, _, rfl, _, rfl, _, _, rfl, rfl, ⟨by decide, by decide⟩, _, _, rfl, rfl, (by show (0 : Int) < 4; decide), _, _, rfl, rfl, _, _, rfl, rfl, .inl ⟨by omega, by omega⟩, _, _, rfl, rfl, _, _, rfl, rfl, (by show (0 : Int) < 5; decide), ?_⟩
      show gName 6 (.int (((n : Int) / 6 + (0 + (i : Int)) * (1 + (n : Int) / 30 % 4)) % 5)) _ _ _
      rw [ew]
      have hw5 : (n / 6 + i * (1 + n / 30 % 4)) % 5 < 5 := Nat.mod_lt _ (by decide)
      generalize (n / 6 + i * (1 + n / 30 % 4)) % 5 = wh at hw5 ⊢
      refine ⟨_, rfl, rfl, _, rfl, ite2 (fun h => ?_) (fun h => ?_)⟩
      · -- colours
        refine ⟨_, rfl, _, rfl, _, rfl, p, l, cs, o, hd, _, rfl, pq1, co1, by omega, e1, by rw [List.length_append, List.length_map]; omega, fun t f g H2 ht hf hg kp e2 et ef eg => ⟨_, rfl, ?_⟩⟩
        have f2 : Fr [hd] H1 H2 := fun b o q z => kp b o q (fun w => z (List.mem_singleton.mpr w))
        have h1X : ∀ x ∈ [hd], H1 x ≠ none := fun x hx => by rw [List.mem_singleton.mp hx, e1]; exact fun z => nomatch z
        refine ⟨f1.trans f2, ts ++ [t], _, _, rfl, by rw [e2, List.map_append, List.append_assoc]; rfl, fun u hu => ?_, by rw [List.length_append]; show ts.length + 1 ≤ i + 1; omega⟩
        rcases List.mem_append.mp hu with hu | hu
        · exact (hts u hu).fr f2 hX
        · rw [List.mem_singleton.mp hu]
          exact ⟨f, g, _, f1.free ht h1X, f1.free hf h1X, f1.free hg h1X, et, ef, eg, more_flat⟩
      · have w0 : 1 ≤ wh := by
          rcases Nat.eq_zero_or_pos wh with q | q
          · subst q; exact absurd rfl h
          · exact q
        have en : (n : Int) / 120 + 7 * (0 + (i : Int)) * (0 + (i : Int)) = ((n / 120 + 7 * i * i : Nat) : Int) := by
          rw [Int.zero_add]; simp [Int.natCast_add, Int.natCast_mul]
        refine ⟨_, rfl, _, rfl, _, rfl, _, rfl, _, _, rfl, rfl, ⟨by decide, by decide⟩, _, rfl, _, _, rfl, rfl, .inl ⟨by decide, by decide⟩, _, rfl, _, _, rfl, rfl, .inr ⟨by omega, by omega⟩, _, _, rfl, rfl, _, rfl, p, l, o, pl, cs, ds, wh, n / 120 + 7 * i * i, ?_, pq1, co1, l1, l16, cp1, d1, d2, w0, by omega, fun H2 s2 => ⟨_, rfl, ?_⟩⟩
        · show [V.ref p, .ref o, .int (wh : Int), .int ((n : Int) / 120 + 7 * (0 + (i : Int)) * (0 + (i : Int))), .ref pl] = _
          rw [en]
        · exact ⟨f1.trans (Same.fr s2), ts, _, _, rfl, s2 _ _ e1, fun t ht => (hts t ht).fr (X := [hd]) (Same.fr s2) hX, by omega⟩
    · rintro σ H1 ⟨f1, ts, v5, v6, rfl, e1, hts, hl⟩
      exact k ts H1 f1 e1 hts (by omega)
theorem sc_law_given : FnScope ["_law_palette", "_law_own", "_law_number", "_law_pool_here", "_law_colour_here", "_law_odd_here", "_law_way", "_law_due"] ["_law_palette", "_law_own", "_law_number", "_law_pool_here"] (defScope s_law_given) := ⟨rfl, rfl, rfl, by decide +kernel, rfl, by decide +kernel, by decide +kernel⟩
theorem ok_law_given {f : Addr} {fd : FuncData} (F : FunD K "_law_given" "_law_given" s_law_given .none f fd) (T : Txt K mg cFE cC cN cM cP cL tP tS) (g__law_odd : Def P w K mg base 1 "_law_odd" ["_law_number", "_law_colour_here"] [] (spOdd K)) (g__law_asked : Def P w K mg base 7 "_law_asked" ["_law_palette", "_law_way", "_law_thing"] [] (spAsked K cL)) (g__law_is : Def P w K mg base 1 "_law_is" ["_law_found", "_law_due"] [] (spIs)) : FnOk P w K mg base CX0 8 f fd ["_law_palette", "_law_own", "_law_number", "_law_pool_here"] (spGiven K cL) := by
  refine F.ok sc_law_given (fun vs H Q E h => ?_) (fun cdv A outer s H vs Q E hr h => ?_)
  · obtain ⟨p, l, o, pl, cs, ds, n, rfl, _⟩ := h; rfl
  · obtain ⟨p, l, o, pl, cs, ds, n, rfl, pq, co, l1, l16, cp, d1, d2, nol, k⟩ := h
    have hu : _ + 64 < cLine := hr.units
    obtain ⟨c, hc, ec⟩ := at_cols (cs := ds) ((n : Int) / 8) d1
    have cc := cp.2 c hc
    refine ⟨_, (pss_cons (ps_set (i := 4) sc_law_given.nd rfl (by first | exact Or.inl rfl | exact Or.inr rfl) (pe_ix (ixK K rfl) (pv 3) (pe_op op_mod (pe_op op_fdiv (pv 2) pe_int) (pe_callB (lenK K rfl) rfl T.len PySem.boot_len (pa_cons (pv 3) pa_nil))) (fun _ _ => rfl)))
        (pss_cons (ps_set (i := 5) sc_law_given.nd rfl (by first | exact Or.inl rfl | exact Or.inr rfl) (pe_callD g__law_odd (hr.mono (by decide)) rfl (pa_cons (pe_op op_fdiv (pv 2) pe_int) (pa_cons (pv 4) pa_nil))))
        (pss_cons (ps_if (pt_cmpR op_eq (pe_op op_mod (pv 2) pe_int) pe_int (nomark _)) (pss_cons (ps_for PassesOwn.never rfl (piTK K rfl (pe_tup (pa_cons pe_int (pa_cons pe_int (pa_cons pe_int pa_nil))))) (pg_name (i := 6) sc_law_given.nd rfl (by first | exact Or.inl rfl | exact Or.inr rfl)) (pss_one (ps_if (pt_cmpR (neDK K rfl hu) (pe_callD g__law_asked (hr.mono (by decide)) rfl (pa_cons (pv 0) (pa_cons (pv 6) (pa_cons (pv 5) pa_nil)))) (pe_tup (pa_cons pe_str pa_nil)) (nomark _)) (pss_one (ps_ret pe_bl)) pss_nil)))
        (pss_one (ps_ret pe_bl))) pss_nil)
        (pss_cons (ps_set (i := 7) sc_law_given.nd rfl (by first | exact Or.inl rfl | exact Or.inr rfl) (pe_tup (pa_cons pe_str pa_nil)))
        (pss_cons (ps_if (pt_cmpR (op_inD K rfl 1 (by decide) hu) (pv 4) (pv 1) (by with_unfolding_all rfl)) (pss_one (ps_set (i := 7) sc_law_given.nd rfl (by first | exact Or.inl rfl | exact Or.inr rfl) (pe_tup (pa_cons pe_str (pa_cons (pe_bm PySem.F.plainAttrs_list PySem.F.slot_list_index PySem.F.type_list_index (mt_indexL K rfl 1 (by decide) hu) (pv 1) (pa_cons (pv 4) pa_nil)) pa_nil))))) (pss_one (ps_if (pt_cmpR op_lt (pe_callB (lenK K rfl) rfl T.len PySem.boot_len (pa_cons (pv 1) pa_nil)) pe_int (nomark _)) (pss_cons (ps_set (i := 7) sc_law_given.nd rfl (by first | exact Or.inl rfl | exact Or.inr rfl) (pe_tup (pa_cons pe_str (pa_cons (pe_callB (lenK K rfl) rfl T.len PySem.boot_len (pa_cons (pv 1) pa_nil)) pa_nil))))
        (pss_one (ps_expr (pe_bm PySem.F.plainAttrs_list PySem.F.slot_list_append PySem.F.type_list_append mt_append (pv 1) (pa_cons (pv 4) pa_nil))))) pss_nil)))
        (pss_one (ps_ret (pe_callD g__law_is (hr.mono (by decide)) rfl (pa_cons (pe_callD g__law_asked (hr.mono (by decide)) rfl (pa_cons (pv 0) (pa_cons pe_int (pa_cons (pv 4) pa_nil)))) (pa_cons (pv 7) pa_nil)))))))))), ?_⟩
    refine ⟨_, rfl, _, rfl, _, _, rfl, rfl, ⟨by decide, by decide⟩, _, rfl, pl, _, rfl, .inl (SqL.of cp.1), _, _, rfl, rfl, (by rw [List.length_map]; omega), pl, _, _, _, rfl, rfl, SqL.of cp.1, ec, ?_⟩
    refine ⟨_, rfl, _, _, rfl, rfl, ⟨by decide, by decide⟩, _, rfl, n / 8, c.1, _, _, _, ?_, cc, fun v H1 s1 tv bv => ?_⟩
    · show [V.int ((n : Int) / 8), .ref c.1] = _
      rw [show (n : Int) / 8 = ((n / 8 : Nat) : Int) by omega]
    have cc1 := cc.mono s1
    have pq1 := pq.mono s1
    have co1 := co.mono s1
    have fS : ∀ H2, Same H1 H2 → Q (.bl true) H2 := fun H2 s2 => k cs H2 (Same.fr (s1.trans s2)) (co1.mono s2) (pq1.mono s2) l1 l16
    refine ⟨_, rfl, _, _, rfl, rfl, (by show (0 : Int) < 8; decide), rfl, _, rfl, ite2 (fun h => ?_) (fun h => ?_)⟩
    · -- the odd thing
      refine ⟨by show 3 ≤ sizeLine; decide, fun tp htp => ?_⟩
      have z2 := same_new (o := HO.tup [V.int 1, .int 2, .int 3]) htp
      refine ⟨tp, rfl, ⟨_, SqT.of upd_same⟩, ?_⟩
      refine for_tup (xs := [V.int 1, .int 2, .int 3]) (fun i σ H2 => Same H1 H2 ∧ H2 tp = some (.tup [V.int 1, .int 2, .int 3]) ∧ ∃ v6 v7 : Option V, σ = [some (.ref p), some (.ref o), some (.int (n : Int)), some (.ref pl), some (.ref c.1), some v, v6, v7]) ⟨z2, upd_same, none, none, rfl⟩ (fun i σ H2 _ q => SqT.of q.2.1) ?_ ?_
      · rintro i y σ H2 hy ⟨s2, et, v6, v7, rfl⟩
        have hy := List.mem_of_getElem? hy
        simp only [List.mem_cons, List.not_mem_nil, or_false] at hy
        have tv2 := tv.mono s2
        have bv2 := (colB_mono tv s2).trans bv
        have fin : ∀ (t : Addr) H3, Same H2 H3 → H3 t = some (.tup [V.str "colour"]) → ∀ u, H3 u = none → EqL K (upd H3 u (.tup [V.str "colour"])) (EqD K (upd H3 u (.tup [V.str "colour"])) 0) t u true ∧ Same H1 (upd H3 u (.tup [V.str "colour"])) ∧ upd H3 u (.tup [V.str "colour"]) tp = some (.tup [V.int 1, .int 2, .int 3]) := fun t H3 s3 e u hu3 => by
          have z := same_new (o := HO.tup [V.str "colour"]) hu3
          exact ⟨eq_tups (z _ _ e) upd_same (fun y hy => (by rw [List.mem_singleton.mp hy]; exact .inr rfl)), s2.trans (s3.trans z), (s3.trans z) _ _ et⟩
        rcases hy with rfl | rfl | rfl
        · refine ⟨_, rfl, _, rfl, _, rfl, p, l, cs, 1, v, rfl, pq1.mono s2, l1, l16, .inl ⟨_, .b1 tv2 bv2, fun t H3 s3 ht e => ⟨by show 1 ≤ sizeLine; decide, fun u hu3 => ?_⟩⟩⟩
          obtain ⟨q1, q2, q3⟩ := fin t H3 s3 e u hu3
          exact ⟨0, t, u, true, by decide, rfl, rfl, q1, _, rfl, q2, q3, _, _, rfl⟩
        · refine ⟨_, rfl, _, rfl, _, rfl, p, l, cs, 2, v, rfl, pq1.mono s2, l1, l16, .inl ⟨_, .b2 tv2 bv2, fun t H3 s3 ht e => ⟨by show 1 ≤ sizeLine; decide, fun u hu3 => ?_⟩⟩⟩
          obtain ⟨q1, q2, q3⟩ := fin t H3 s3 e u hu3
          exact ⟨0, t, u, true, by decide, rfl, rfl, q1, _, rfl, q2, q3, _, _, rfl⟩
        · refine ⟨_, rfl, _, rfl, _, rfl, p, l, cs, 3, v, rfl, pq1.mono s2, l1, l16, .inl ⟨_, .b3 tv2 bv2, fun t H3 s3 ht e => ⟨by show 1 ≤ sizeLine; decide, fun u hu3 => ?_⟩⟩⟩
          obtain ⟨q1, q2, q3⟩ := fin t H3 s3 e u hu3
          exact ⟨0, t, u, true, by decide, rfl, rfl, q1, _, rfl, q2, q3, _, _, rfl⟩
      · rintro σ H2 ⟨s2, et, v6, v7, rfl⟩
        exact fS H2 s2
    refine ⟨by show 1 ≤ sizeLine; decide, fun tm htm => ?_⟩
    have z2 := same_new (o := HO.tup [V.str "many"]) htm
    have etm : upd H1 tm (.tup [V.str "many"]) tm = some (.tup [V.str "many"]) := upd_same
    show gName 7 _ _ _ _
    generalize upd H1 tm (.tup [V.str "many"]) = H2 at z2 etm ⊢
    have cc2 := cc1.mono z2
    have co2 := co1.mono z2
    have pq2 := pq1.mono z2
    refine ⟨_, rfl, _, rfl, in_cols (neg := false) co2 cc2 ⟨_, rfl, ?_⟩⟩
    cases hf : cs.findIdx? (isC c.2.1 c.2.2.1 c.2.2.2) with
    | some j =>
      refine ⟨_, rfl, .inl ⟨rfl, _, SqL.of co2.1⟩, _, rfl, ?_⟩
      dsimp only [tNil]
      refine index_cols co2 cc2 hf ?_
      refine ⟨by show 2 ≤ sizeLine; decide, fun u hu3 => ?_⟩
      have z3 := same_new (o := HO.tup [V.str "told", .int (j : Int)]) hu3
      have eu : upd H2 u (.tup [V.str "told", .int (j : Int)]) u = some (.tup [V.str "told", .int (j : Int)]) := upd_same
      show gName 7 _ _ _ _
      generalize upd H2 u (.tup [V.str "told", .int (j : Int)]) = H3 at z3 eu ⊢
      refine ⟨_, rfl, _, rfl, p, l, cs, 3, _, rfl, pq2.mono z3, l1, l16, .inl ⟨_, .w3 (cc2.mono z3) hf, fun t H4 s4 ht e => ?_⟩⟩
      exact ⟨_, rfl, t, u, _, rfl, e, s4 _ _ eu, .inl ⟨_, rfl, .inr (.inl ⟨_, rfl⟩)⟩, fS H4 (z2.trans (z3.trans s4))⟩
    | none =>
      refine ⟨_, rfl, o, _, rfl, .inl (SqL.of co2.1), _, _, rfl, rfl, _, rfl, iteB (fun h16 => ?_) (fun h16 => ?_)⟩
      · -- room for one more
        have h16 : cs.length < 16 := by
          have := of_decide_eq_true h16
          rw [List.length_map] at this
          omega
        refine ⟨_, rfl, o, _, rfl, .inl (SqL.of co2.1), ?_⟩
        rw [List.length_map]
        refine ⟨by show 2 ≤ sizeLine; decide, fun u hu3 => ?_⟩
        have z3 := same_new (o := HO.tup [V.str "told", .int (cs.length : Int)]) hu3
        have eu : upd H2 u (.tup [V.str "told", .int (cs.length : Int)]) u = some (.tup [V.str "told", .int (cs.length : Int)]) := upd_same
        show gName 7 _ _ _ _
        generalize upd H2 u (.tup [V.str "told", .int (cs.length : Int)]) = H3 at z3 eu ⊢
        have co3 := co2.mono z3
        have pq3 := pq2.mono z3
        have cc3 := cc2.mono z3
        have s13 := s1.trans (z2.trans z3)
        refine ⟨_, rfl, .inl ⟨rfl, _, SqL.of co3.1⟩, _, rfl, o, _, _, rfl, rfl, co3.1, Nat.lt_of_lt_of_le (by rw [List.length_map]; omega : _ < 5000) (by decide), ?_⟩
        have fo : Fr [o] H3 (upd H3 o (.lst ((cs.map fun c => V.ref c.1) ++ [V.ref c.1]))) := fun b q e z => by rw [upd_ne (fun w => z (List.mem_singleton.mpr w))]; exact e
        have Lo : Lsts H3 [o] := fun x hx => by rw [List.mem_singleton.mp hx]; exact ⟨_, co3.1⟩
        have pq4 := fo.pal Lo pq3 (fun z => nol (List.mem_singleton.mp z).symm)
        have cc4 := fo.col Lo cc3
        have eu4 := fo.oth Lo eu (fun ys z => by cases z)
        have eo4 : upd H3 o (.lst ((cs.map fun c => V.ref c.1) ++ [V.ref c.1])) o = some (.lst ((cs.map fun c => V.ref c.1) ++ [V.ref c.1])) := upd_same
        dsimp only
        generalize upd H3 o (.lst ((cs.map fun c => V.ref c.1) ++ [V.ref c.1])) = H4 at fo pq4 cc4 eu4 eo4 ⊢
        refine ⟨_, rfl, _, rfl, p, l, cs, 3, _, rfl, pq4, l1, l16, .inr ⟨c.1, _, _, _, rfl, rfl, cc4, hf, h16, fun t H5 kp ht el et => ?_⟩⟩
        have fl : Fr [l] H4 H5 := fun b q e z => kp b q e (fun w => z (List.mem_singleton.mpr w))
        have Ll : Lsts H4 [l] := fun x hx => by rw [List.mem_singleton.mp hx]; exact ⟨_, pq4.2.1⟩
        have co4 : ∀ d ∈ cs, Col H4 d.1 d.2.1 d.2.2.1 d.2.2.2 := fun d hd => fo.col Lo (co3.2 d hd)
        have co5 : ∀ d ∈ cs, Col H5 d.1 d.2.1 d.2.2.1 d.2.2.2 := fun d hd => fl.col Ll (co4 d hd)
        have cc5 := fl.col Ll cc4
        obtain ⟨⟨dx, hp4⟩, _⟩ := pq4
        refine ⟨_, rfl, t, u, _, rfl, et, fl.oth Ll eu4 (fun ys z => by cases z), .inl ⟨_, rfl, .inr (.inl ⟨_, rfl⟩)⟩, ?_⟩
        refine k (cs ++ [(c.1, c.2.1, c.2.2.1, c.2.2.2)]) H5 (fun b q e z => ?_) (ColsV.snoc (fl _ _ eo4 (fun z => nol (List.mem_singleton.mp z))) co5 cc5) ⟨⟨dx, fl.oth Ll hp4 (fun ys z => by cases z)⟩, ColsV.snoc el co5 cc5⟩ (by rw [List.length_append]; show 1 ≤ cs.length + 1; omega) (by rw [List.length_append]; show cs.length + 1 ≤ 16; omega)
        exact fl b q (fo b q (s13 b q e) (fun w => z (by rw [List.mem_singleton.mp w]; exact List.mem_cons_self))) (fun w => z (by rw [List.mem_singleton.mp w]; exact List.mem_cons_of_mem _ List.mem_cons_self))
      · -- no room
        have h16 : cs.length = 16 := by
          have := of_decide_eq_false h16
          rw [List.length_map] at this
          omega
        refine ⟨_, rfl, _, rfl, p, l, cs, 3, _, rfl, pq2, l1, l16, .inl ⟨_, .m3 cc2 hf h16, fun t H4 s4 ht e => ?_⟩⟩
        exact ⟨_, rfl, t, tm, _, rfl, e, s4 _ _ etm, .inr ⟨_, rfl, by decide⟩, fS H4 (z2.trans s4)⟩
end
end K16
set_option Elab.async false
set_option linter.all false
set_option maxRecDepth 100000
set_option maxHeartbeats 1600000
namespace K16
open PySem L2 M4
section
variable {K : PySem.W.Frag} {H H' : Hp} {v : V}
theorem TM.mono (t : TM K H v) (s : Same H H') : TM K H' v := by
  have e := rowOf_mono t.kd s
  exact ⟨t.kd.mono s, fun xs h => t.len xs (by rw [← e]; exact h), fun xs h x hx => (t.it xs (by rw [← e]; exact h) x hx).mono s⟩
theorem ColsV.tc {a : Addr} {cs : List (Addr × Nat × Nat × Nat)} (w : ColsV H a cs) : ∀ x ∈ cs.map (fun c => V.ref c.1), TC K H x := fun x hx => by
  obtain ⟨c, hc, rfl⟩ := List.mem_map.mp hx
  exact (w.2 c hc).tc
end
theorem cut_hi (xs : List V) (k : Nat) : cutV xs none (some (k : Int)) = xs.take k := by
  unfold cutV
  rw [HT.sIx_none, HT.sIx_nat, List.drop_zero, Nat.sub_zero]
  exact List.take_eq_take_iff.mpr (by omega)
theorem cutV_mem {xs : List V} {lo hi : Option Int} {y : V} (h : y ∈ cutV xs lo hi) : y ∈ xs := List.mem_of_mem_drop (List.mem_of_mem_take h)
theorem cols_mk {H : Hp} : ∀ {qs : List Addr}, (∀ q ∈ qs, ∃ r g b, Col H q r g b) → ∃ cs : List (Addr × Nat × Nat × Nat), qs.map V.ref = cs.map (fun c => V.ref c.1) ∧ cs.length = qs.length ∧ ∀ c ∈ cs, Col H c.1 c.2.1 c.2.2.1 c.2.2.2
  | [], _ => ⟨[], rfl, rfl, fun c hc => nomatch hc⟩
  | q :: rs, h => by
    obtain ⟨r, g, b, c⟩ := h q List.mem_cons_self
    obtain ⟨cs, e, el, hc⟩ := cols_mk (qs := rs) fun p hp => h p (List.mem_cons_of_mem _ hp)
    refine ⟨(q, r, g, b) :: cs, by rw [List.map_cons, List.map_cons, e], by rw [List.length_cons, List.length_cons, el], fun d hd => ?_⟩
    rcases List.mem_cons.mp hd with rfl | hd
    · exact c
    · exact hc d hd
theorem cut_lo (xs : List V) (k : Nat) (h : k ≤ xs.length) : cutV xs (some (k : Int)) none = xs.drop k := by
  unfold cutV
  rw [HT.sIx_none, HT.sIx_nat, Nat.min_eq_left h]
  exact List.take_of_length_le (by rw [List.length_drop]; omega)
noncomputable def BadP (K : PySem.W.Frag) (H : Hp) (v : V) : Prop := TM K H v ∧ ¬ Good H v
theorem BadP.mono {K : PySem.W.Frag} {H H' : Hp} {v : V} (b : BadP K H v) (s : Same H H') : BadP K H' v := by
  refine ⟨b.1.mono s, ?_⟩
  rintro ⟨a, cs, rfl, cv, h1, h2, h3⟩
  have er := rowOf_mono b.1.kd s
  rw [rowOf_lst cv.1] at er
  obtain ⟨a', ea, e⟩ := rowOf_ref er.symm
  cases ea
  refine b.2 ⟨a, cs, rfl, ⟨e, fun c hc => ?_⟩, h1, h2, h3⟩
  have tc := b.1.it _ er.symm (.ref c.1) (List.mem_map.mpr ⟨c, hc, rfl⟩)
  have cc := cv.2 c hc
  have : colB H (.ref c.1) = true := by rw [← colB_mono tc s]; exact cc.yes
  obtain ⟨a2, r, g, b', ea2, c2⟩ := col_of this
  cases ea2
  obtain ⟨e1, e2, e3⟩ := cc.inj (c2.mono s)
  rw [e1, e2, e3]; exact c2
theorem badP_lst {K : PySem.W.Frag} {H : Hp} {a : Addr} {xs : List V} (e : H a = some (.lst xs)) (hl : xs.length ≤ 1000000) (ht : ∀ x ∈ xs, TC K H x)
    (h : ∀ cs : List (Addr × Nat × Nat × Nat), xs = (cs.map fun c => V.ref c.1) → (∀ c ∈ cs, Col H c.1 c.2.1 c.2.2.1 c.2.2.2) → 1 ≤ cs.length → cs.length ≤ 16 → (cs.map kc).Nodup → False) : BadP K H (.ref a) := by
  refine ⟨⟨.lst e, fun ys h => (by rw [rowOf_lst e] at h; cases h; exact hl), fun ys h => (by rw [rowOf_lst e] at h; cases h; exact ht)⟩, ?_⟩
  rintro ⟨a', cs, ea, cv, h1, h2, h3⟩
  cases ea
  have := cv.1
  rw [e] at this
  exact h cs (by injection this with q; injection q) cv.2 h1 h2 h3
theorem badP_oth {K : PySem.W.Frag} {H : Hp} {v : V} (k : Kd K H v) (h : rowOf H v = none) : BadP K H v := by
  refine ⟨⟨k, fun xs e => (by rw [h] at e; cases e), fun xs e => (by rw [h] at e; cases e)⟩, ?_⟩
  rintro ⟨a, cs, rfl, cv, _⟩
  rw [rowOf_lst cv.1] at h; cases h
theorem refs_nodup {H : Hp} {cs : List (Addr × Nat × Nat × Nat)} (hc : ∀ c ∈ cs, Col H c.1 c.2.1 c.2.2.1 c.2.2.2) (nd : (cs.map kc).Nodup) : (cs.map fun c => V.ref c.1).Nodup := by
  unfold List.Nodup at nd ⊢
  rw [List.pairwise_map] at nd ⊢
  refine nd.imp_of_mem fun {a b} ha hb hne z => hne ?_
  have e : a.1 = b.1 := by injection z
  have cb := hc b hb
  rw [← e] at cb
  obtain ⟨e1, e2, e3⟩ := (hc a ha).inj cb
  unfold kc
  rw [e1, e2, e3]
theorem twice_no {R : List V} {x : V} {j : Nat} (hx : x ∈ R) (nd : ((R.take j ++ [x]) ++ R.drop j).Nodup) : False := by
  rw [List.append_assoc, List.nodup_append] at nd
  obtain ⟨_, n2, n3⟩ := nd
  rw [← List.take_append_drop j R] at hx
  rcases List.mem_append.mp hx with hx | hx
  · exact n3 x hx x (List.mem_append_left _ List.mem_cons_self) rfl
  · rw [List.singleton_append, List.nodup_cons] at n2
    exact n2.1 hx
theorem mid_tc {K : PySem.W.Frag} {H : Hp} {L : Addr} {cs : List (Addr × Nat × Nat × Nat)} {x : V} {j : Nat} (cv : ColsV H L cs) (tx : TC K H x) : ∀ y ∈ ((cutV (cs.map fun c => V.ref c.1) none (some (j : Int)) ++ [x]) ++ cutV (cs.map fun c => V.ref c.1) (some (j : Int)) none), TC K H y := fun y hy => by
  rcases List.mem_append.mp hy with hy | hy
  · rcases List.mem_append.mp hy with hy | hy
    · exact cv.tc y (cutV_mem hy)
    · rw [List.mem_singleton.mp hy]; exact tx
  · exact cv.tc y (cutV_mem hy)
theorem wrong8 {K : PySem.W.Frag} {H : Hp} {w1 w3 M tw w6 w7 L : Addr} {cs ms : List (Addr × Nat × Nat × Nat)} {c2 : Addr × Nat × Nat × Nat} {od v : V} {j : Nat} (cv : ColsV H L cs) (hj : j ≤ cs.length) (hl : cs.length ≤ 15) (hc2 : c2 ∈ cs) (tod : TC K H od) (bod : colB H od = false)
    (e1 : H w1 = some (.lst [])) (e3 : H w3 = some (.tup (cs.map fun c => V.ref c.1))) (eM : ColsV H M ms) (lM : ms.length = 17) (et : H tw = some (.lst ((cutV (cs.map fun c => V.ref c.1) none (some (j : Int)) ++ [V.ref c2.1]) ++ cutV (cs.map fun c => V.ref c.1) (some (j : Int)) none))) (e6 : H w6 = some (.lst ((cutV (cs.map fun c => V.ref c.1) none (some (j : Int)) ++ [od]) ++ cutV (cs.map fun c => V.ref c.1) (some (j : Int)) none))) (e7 : H w7 = some (DictO w7)) (hm : v ∈ [V.ref w1, .non, .ref w3, .ref M, .ref tw, .ref w6, .ref w7, .str "abc"]) : BadP K H v := by
  have lr : (cs.map fun c => V.ref c.1).length = cs.length := List.length_map _
  have l1 := cutV_length (cs.map fun c => V.ref c.1) none (some (j : Int))
  have l2 := cutV_length (cs.map fun c => V.ref c.1) (some (j : Int)) none
  have ll : ∀ x : V, ((cutV (cs.map fun c => V.ref c.1) none (some (j : Int)) ++ [x]) ++ cutV (cs.map fun c => V.ref c.1) (some (j : Int)) none).length ≤ 1000000 := fun x => by rw [List.length_append, List.length_append]; show _ + 1 + _ ≤ _; omega
  simp only [List.mem_cons, List.not_mem_nil, or_false] at hm
  rcases hm with rfl | rfl | rfl | rfl | rfl | rfl | rfl | rfl
  · exact badP_lst e1 (Nat.zero_le _) (fun x hx => nomatch hx) fun ds e _ h1 _ _ => (by
      have := congrArg List.length e
      rw [List.length_map] at this
      simp at this
      rw [← this] at h1
      simp at h1)
  · exact badP_oth .non rfl
  · exact badP_oth (.tup e3) (by simp only [rowOf, e3])
  · exact badP_lst eM.1 (by rw [List.length_map]; omega) eM.tc fun ds e _ _ h2 _ => (by
      have := congrArg List.length e
      rw [List.length_map, List.length_map] at this
      omega)
  · exact badP_lst et (ll _) (mid_tc cv (cv.2 c2 hc2).tc) fun ds e hd _ _ nd => (by
      have := refs_nodup hd nd
      rw [← e, cut_hi, cut_lo _ _ (by rw [lr]; exact hj)] at this
      exact twice_no (List.mem_map.mpr ⟨c2, hc2, rfl⟩) this)
  · exact badP_lst e6 (ll _) (mid_tc cv tod) fun ds e hd _ _ nd => (by
      have hm : od ∈ ds.map fun c => V.ref c.1 := by
        rw [← e]
        exact List.mem_append_left _ (List.mem_append_right _ List.mem_cons_self)
      obtain ⟨d, hd', rfl⟩ := List.mem_map.mp hm
      rw [(hd d hd').yes] at bod; cases bod)
  · exact badP_oth (.dict e7) (by simp only [rowOf, e7, DictO])
  · exact badP_oth (.str _) rfl
noncomputable def spNoP : Sp := fun vs H Q _ => ∃ (pl : Addr) (ds : List (Addr × Nat × Nat × Nat)) (n : Nat), vs = [.ref pl, .int (n : Int)] ∧ ColsV H pl ds ∧ 1 ≤ ds.length ∧ ds.length ≤ 24 ∧ ∀ H', Same H H' → Q (.bl true) H'
section
variable {P : Program} {w : World} {K : PySem.W.Frag} {mg : Str → Option Value} {base : Heap} {cFE cC cN cM cP cL : Addr} {tP tS : Tok}
theorem sc_law_no_palette : FnScope ["_law_pool_here", "_law_number", "_law_colours", "_law_at", "_law_odd_here", "_law_many", "_law_twice", "_law_wrong", "_law_e"] ["_law_pool_here", "_law_number"] (defScope s_law_no_palette) := ⟨rfl, rfl, rfl, by decide +kernel, rfl, by decide +kernel, by decide +kernel⟩
theorem ok_law_no_palette {f : Addr} {fd : FuncData} (F : FunD K "_law_no_palette" "_law_no_palette" s_law_no_palette .none f fd) (T : Txt K mg cFE cC cN cM cP cL tP tS) (g__law_odd : Def P w K mg base 1 "_law_odd" ["_law_number", "_law_colour_here"] [] (spOdd K)) (g_Palette : MakX P w K mg base cL 5 "Palette" ["self", "colours"] (spInit K cP cL)) (g__law_word : DefM P w K mg base 2 "_law_word" ["_law_e"] [] (spWs cC cN cM cP)) : FnOk P w K mg base CX0 7 f fd ["_law_pool_here", "_law_number"] (spNoP) := by
  refine F.ok sc_law_no_palette (fun vs H Q E h => ?_) (fun cdv A outer s H vs Q E hr h => ?_)
  · obtain ⟨pl, ds, n, rfl, _⟩ := h; rfl
  · obtain ⟨pl, ds, n, rfl, cp, d1, d2, k⟩ := h
    have hu : _ + 64 < cLine := hr.units
    have hr1 : Room 2 _ := hr.mono (by decide)
    obtain ⟨t6, r6, k6⟩ : ∃ tr, PSs ((cxOf CX0 P w K mg base ["_law_pool_here", "_law_number", "_law_colours", "_law_at", "_law_odd_here", "_law_many", "_law_twice", "_law_wrong", "_law_e"] "_law_no_palette" (defScope s_law_no_palette) f cdv A outer s H E).nox) ((defBody s_law_no_palette).drop 6) tr ∧
        ∀ (x2 x3 x4 x5 x6 v : V) (H1 : Hp), Same H H1 → BadP K H1 v → tr { nx := fun _ H' => Q .non H', rt := Q } [some (.ref pl), some (.int (n : Int)), some x2, some x3, some x4, some x5, some x6, some v, none] H1 := by
      refine ⟨_, (pss_cons (ps_tryG (i := 8) sc_law_no_palette.nd rfl rfl rfl T.FolioError rfl rfl (fun pn XE R hx => (pss_one (ps_expr (pe_makX g_Palette (hr.mono (by decide)) hx rfl (pa_cons (pv 7) pa_nil))))) (fun ea => (pss_one (ps_ret (pe_cmpR (eqDK K rfl hu) (pe_callM g__law_word hr1 rfl (pa_cons (pv 8) pa_nil)) (pe_tup (pa_cons pe_str pa_nil)) (nomark _))))))
        (pss_one (ps_ret pe_bl))), ?_⟩
      intro x2 x3 x4 x5 x6 v H1 s1 bv
      refine ⟨_, rfl, fun x dx nx ndx nex => ?_⟩
      have z2 : Same H1 (upd (upd H1 dx (.own x)) x (.ins cL dx [])) := fun b o e => by
        rw [upd_ne (ne_of_none e nx), upd_ne (ne_of_none e ndx)]; exact e
      have bv2 := bv.mono z2
      refine ⟨x, dx, v, rfl, upd_same, bv2.1, fun a cs e cv q1 q2 q3 => (bv2.2 ⟨a, cs, e, cv, q1, q2, q3⟩).elim, fun _ H3 s3 => ⟨cP, rfl, T.eP, fun ea hea => ?_⟩⟩
      have ex : upd H3 ea (ExcO ea cP) ea = some (ExcO ea cP) := upd_same
      have s4 := s1.trans (z2.trans (s3.trans (same_new (o := ExcO ea cP) hea)))
      refine ⟨_, rfl, .inr (.inr (.inr ⟨rfl, ex, fun t H5 s5 ht et => ⟨(by show 1 ≤ sizeLine; decide), fun p hp => ?_⟩⟩))⟩
      have s6 := same_new (o := HO.tup [V.str "palette"]) hp
      exact ⟨0, t, p, true, by decide, rfl, rfl, eq_tups (s6 _ _ et) upd_same (fun y hy => (by rw [List.mem_singleton.mp hy]; exact .inr rfl)), k _ (s4.trans (s5.trans s6))⟩
    obtain ⟨t4, r4, k4⟩ : ∃ tr, PSs ((cxOf CX0 P w K mg base ["_law_pool_here", "_law_number", "_law_colours", "_law_at", "_law_odd_here", "_law_many", "_law_twice", "_law_wrong", "_law_e"] "_law_no_palette" (defScope s_law_no_palette) f cdv A outer s H E).nox) ((defBody s_law_no_palette).drop 4) tr ∧
        ∀ (L M : Addr) (cs ms : List (Addr × Nat × Nat × Nat)) (j : Nat) (od : V) (H1 : Hp), Same H H1 → ColsV H1 L cs → 1 ≤ cs.length → cs.length ≤ 15 → j ≤ cs.length → TC K H1 od → colB H1 od = false → ColsV H1 M ms → ms.length = 17 → tr { nx := fun _ H' => Q .non H', rt := Q } [some (.ref pl), some (.int (n : Int)), some (.ref L), some (.int (j : Int)), some od, some (.ref M), none, none, none] H1 := by
      refine ⟨_, (pss_cons (ps_set (i := 6) sc_law_no_palette.nd rfl (by first | exact Or.inl rfl | exact Or.inr rfl) (pe_op op_cat (pe_op op_cat (pe_slice (slK K rfl) (pv 2) po_none (po_some (pv 3))) (pe_lst (pa_cons (pe_ix (ixK K rfl) (pv 2) (pe_op op_mod (pe_op op_fdiv (pv 1) pe_int) (pe_callB (lenK K rfl) rfl T.len PySem.boot_len (pa_cons (pv 2) pa_nil))) (fun _ _ => rfl)) pa_nil))) (pe_slice (slK K rfl) (pv 2) (po_some (pv 3)) po_none)))
        (pss_cons (ps_set (i := 7) sc_law_no_palette.nd rfl (by first | exact Or.inl rfl | exact Or.inr rfl) (pe_ix (ixK K rfl) (ShE.pe (qpe_lst (qpa_cons (ShE.mk (pe_lst pa_nil)) slLst (qpa_cons (ShE.mk pe_non) slC (qpa_cons (ShE.mk (pe_callTy call_tuple_of rfl T.tuple PyProof.Rows.boot_tuple (pa_cons (pv 2) pa_nil))) slCall (qpa_cons (ShE.mk (pv 5)) slN (qpa_cons (ShE.mk (pv 6)) slN (qpa_cons (ShE.mk (pe_op op_cat (pe_op op_cat (pe_slice (slK K rfl) (pv 2) po_none (po_some (pv 3))) (pe_lst (pa_cons (pv 4) pa_nil))) (pe_slice (slK K rfl) (pv 2) (po_some (pv 3)) po_none))) slBin (qpa_cons (ShE.mk pe_dict0) (fun _ _ => rfl) (qpa_cons (ShE.mk pe_str) slC qpa_nil)))))))))) (pe_op op_mod (pe_op op_fdiv (pv 1) pe_int) pe_int) (fun _ _ => rfl)))
        (@r6))), ?_⟩
      intro L M cs ms j od H1 s1 cv c1 c15 hj tod bod cm lm
      have lr : (cs.map fun c => V.ref c.1).length = cs.length := List.length_map _
      have l1 := cutV_length (cs.map fun c => V.ref c.1) none (some (j : Int))
      have l2 := cutV_length (cs.map fun c => V.ref c.1) (some (j : Int)) none
      obtain ⟨c2, hc2, ec2⟩ := at_cols (cs := cs) ((n : Int) / 16) c1
      refine ⟨_, rfl, _, rfl, _, rfl, L, _, rfl, SqL.of cv.1, fun p1 g1 => ?_⟩
      have z1 := same_new (o := HO.lst (cutV (cs.map fun c => V.ref c.1) none (some (j : Int)))) g1
      refine ⟨_, rfl, _, rfl, _, _, rfl, rfl, ⟨by decide, by decide⟩, _, rfl, L, _, rfl, .inl (SqL.of (z1 _ _ cv.1)), _, _, rfl, rfl, (by rw [lr]; omega), L, _, _, _, rfl, rfl, SqL.of (z1 _ _ cv.1), ec2, (by show 1 ≤ sizeLine; decide), fun p2 g2 => ?_⟩
      have z2 := same_new (o := HO.lst [V.ref c2.1]) g2
      refine ⟨p1, p2, _, _, rfl, rfl, z2 _ _ upd_same, upd_same, Nat.le_trans (by show (cutV (cs.map fun c => V.ref c.1) none (some (j : Int))).length + 1 ≤ 5000; omega) (by decide), fun p3 g3 => ?_⟩
      have z3 := same_new (o := HO.lst (cutV (cs.map fun c => V.ref c.1) none (some (j : Int)) ++ [V.ref c2.1])) g3
      have z13 := z1.trans (z2.trans z3)
      refine ⟨_, rfl, _, rfl, _, rfl, L, _, rfl, SqL.of (z13 _ _ cv.1), fun p4 g4 => ?_⟩
      have z4 := same_new (o := HO.lst (cutV (cs.map fun c => V.ref c.1) (some (j : Int)) none)) g4
      refine ⟨p3, p4, _, _, rfl, rfl, z4 _ _ upd_same, upd_same, Nat.le_trans (by show (cutV (cs.map fun c => V.ref c.1) none (some (j : Int)) ++ [V.ref c2.1]).length + (cutV (cs.map fun c => V.ref c.1) (some (j : Int)) none).length ≤ 5000; rw [List.length_append]; show _ + 1 + _ ≤ _; omega) (by decide), fun tw g5 => ?_⟩
      have z5 := same_new (o := HO.lst ((cutV (cs.map fun c => V.ref c.1) none (some (j : Int)) ++ [V.ref c2.1]) ++ cutV (cs.map fun c => V.ref c.1) (some (j : Int)) none)) g5
      have z15 := z13.trans (z4.trans z5)
      have etw : upd (upd (upd (upd (upd H1 p1 (HO.lst (cutV (cs.map fun c => V.ref c.1) none (some (j : Int))))) p2 (HO.lst [V.ref c2.1])) p3 (HO.lst (cutV (cs.map fun c => V.ref c.1) none (some (j : Int)) ++ [V.ref c2.1]))) p4 (HO.lst (cutV (cs.map fun c => V.ref c.1) (some (j : Int)) none))) tw (HO.lst ((cutV (cs.map fun c => V.ref c.1) none (some (j : Int)) ++ [V.ref c2.1]) ++ cutV (cs.map fun c => V.ref c.1) (some (j : Int)) none)) tw = some (.lst ((cutV (cs.map fun c => V.ref c.1) none (some (j : Int)) ++ [V.ref c2.1]) ++ cutV (cs.map fun c => V.ref c.1) (some (j : Int)) none)) := upd_same
      show gName 6 _ _ _ _
      generalize upd (upd (upd (upd (upd H1 p1 (HO.lst (cutV (cs.map fun c => V.ref c.1) none (some (j : Int))))) p2 (HO.lst [V.ref c2.1])) p3 (HO.lst (cutV (cs.map fun c => V.ref c.1) none (some (j : Int)) ++ [V.ref c2.1]))) p4 (HO.lst (cutV (cs.map fun c => V.ref c.1) (some (j : Int)) none))) tw (HO.lst ((cutV (cs.map fun c => V.ref c.1) none (some (j : Int)) ++ [V.ref c2.1]) ++ cutV (cs.map fun c => V.ref c.1) (some (j : Int)) none)) = H2 at z15 etw ⊢
      clear z1 z2 z3 z13 z4 z5
      refine ⟨by show 0 ≤ sizeLine; decide, fun w1 g1 => ?_⟩
      have z1 := same_new (o := HO.lst []) g1
      have ew1 : upd H2 w1 (.lst []) w1 = some (.lst []) := upd_same
      generalize upd H2 w1 (.lst []) = H3 at z1 ew1 ⊢
      have cv3 := (cv.mono z15).mono z1
      refine ⟨_, rfl, L, _, rfl, .inl ⟨SqL.of cv3.1, fun w3 g3 => ?_⟩⟩
      have z3 := same_new (o := HO.tup (cs.map fun c => V.ref c.1)) g3
      have ew3 : upd H3 w3 (.tup (cs.map fun c => V.ref c.1)) w3 = some (.tup (cs.map fun c => V.ref c.1)) := upd_same
      generalize upd H3 w3 (.tup (cs.map fun c => V.ref c.1)) = H4 at z3 ew3 ⊢
      have cv4 := cv3.mono z3
      refine ⟨_, rfl, _, rfl, _, rfl, _, rfl, _, rfl, L, _, rfl, SqL.of cv4.1, fun q1 h1 => ?_⟩
      have y1 := same_new (o := HO.lst (cutV (cs.map fun c => V.ref c.1) none (some (j : Int)))) h1
      refine ⟨_, rfl, (by show 1 ≤ sizeLine; decide), fun q2 h2 => ?_⟩
      have y2 := same_new (o := HO.lst [od]) h2
      refine ⟨q1, q2, _, _, rfl, rfl, y2 _ _ upd_same, upd_same, Nat.le_trans (by show (cutV (cs.map fun c => V.ref c.1) none (some (j : Int))).length + 1 ≤ 5000; omega) (by decide), fun q3 h3 => ?_⟩
      have y3 := same_new (o := HO.lst (cutV (cs.map fun c => V.ref c.1) none (some (j : Int)) ++ [od])) h3
      have y13 := y1.trans (y2.trans y3)
      refine ⟨_, rfl, _, rfl, _, rfl, L, _, rfl, SqL.of (y13 _ _ cv4.1), fun q4 h4 => ?_⟩
      have y4 := same_new (o := HO.lst (cutV (cs.map fun c => V.ref c.1) (some (j : Int)) none)) h4
      refine ⟨q3, q4, _, _, rfl, rfl, y4 _ _ upd_same, upd_same, Nat.le_trans (by show (cutV (cs.map fun c => V.ref c.1) none (some (j : Int)) ++ [od]).length + (cutV (cs.map fun c => V.ref c.1) (some (j : Int)) none).length ≤ 5000; rw [List.length_append]; show _ + 1 + _ ≤ _; omega) (by decide), fun w6 h5 => ?_⟩
      have y5 := same_new (o := HO.lst ((cutV (cs.map fun c => V.ref c.1) none (some (j : Int)) ++ [od]) ++ cutV (cs.map fun c => V.ref c.1) (some (j : Int)) none)) h5
      have y15 := y13.trans (y4.trans y5)
      refine fun w7 h7 => ?_
      have y7 := same_new (o := DictO w7) h7
      refine ⟨by show 8 ≤ sizeLine; decide, fun W hW => ?_⟩
      have y8 := same_new (o := HO.lst [V.ref w1, .non, .ref w3, .ref M, .ref tw, .ref w6, .ref w7, .str "abc"]) hW
      have y78 := y7.trans y8
      have y18 := y15.trans y78
      obtain ⟨v, hm, hv⟩ := at_mod (xs := [V.ref w1, .non, .ref w3, .ref M, .ref tw, .ref w6, .ref w7, .str "abc"]) (m := (n : Int) / 16) 8 rfl (by decide)
      refine ⟨_, rfl, _, _, rfl, rfl, ⟨by decide, by decide⟩, _, _, rfl, rfl, (by show (0 : Int) < 8; decide), W, _, _, v, rfl, rfl, SqL.of upd_same, hv, ?_⟩
      have z25 := z1.trans (z3.trans y18)
      have zz := z15.trans z25
      exact k6 _ _ _ _ _ v _ (s1.trans zz) (wrong8 (cv.mono zz) hj c15 hc2 (tod.mono zz) ((colB_mono tod zz).trans bod) ((z3.trans y18) _ _ ew1) (y18 _ _ ew3) (cm.mono zz) lm (z25 _ _ etw) (y78 w6 (.lst ((cutV (cs.map fun c => V.ref c.1) none (some (j : Int)) ++ [od]) ++ cutV (cs.map fun c => V.ref c.1) (some (j : Int)) none)) upd_same) (y8 w7 (DictO w7) upd_same) hm)
    refine ⟨_, (pss_cons (ps_set (i := 2) sc_law_no_palette.nd rfl (by first | exact Or.inl rfl | exact Or.inr rfl) (pe_slice (slK K rfl) (pv 0) po_none (po_some (pe_op op_add pe_int (pe_op op_mod (pv 1) (pe_callB (call_min2 rfl) rfl T.min PyProof.Rows.boot_min (pa_cons pe_int (pa_cons (pe_callB (lenK K rfl) rfl T.len PySem.boot_len (pa_cons (pv 0) pa_nil)) pa_nil))))))))
        (pss_cons (ps_set (i := 3) sc_law_no_palette.nd rfl (by first | exact Or.inl rfl | exact Or.inr rfl) (pe_op op_mod (pe_op op_fdiv (pv 1) pe_int) (pe_op op_add (pe_callB (lenK K rfl) rfl T.len PySem.boot_len (pa_cons (pv 2) pa_nil)) pe_int)))
        (pss_cons (ps_set (i := 4) sc_law_no_palette.nd rfl (by first | exact Or.inl rfl | exact Or.inr rfl) (pe_callD g__law_odd (hr.mono (by decide)) rfl (pa_cons (pe_op op_fdiv (pv 1) pe_int) (pa_cons (pe_ix (ixK K rfl) (pv 2) pe_int (fun _ _ => rfl)) pa_nil))))
        (pss_cons (ps_setC (ix := 5) (N := ["_law_k"]) (src := [none]) sc_law_no_palette.nd rfl rfl rfl ⟨rfl, rfl, rfl, rfl, rfl, by decide +kernel⟩ (pi_range1 rfl T.range (pa_cons pe_int pa_nil)) (fun s H C fp => pg_name (i := 0) (show (["_law_k"] : List Str).Nodup by decide +kernel) rfl (by first | exact Or.inl rfl | exact Or.inr rfl)) (fun s H C fp => pts_nil) (fun s H C fp => (pe_tup (pa_cons (pv 0) (pa_cons pe_int (pa_cons (pe_op op_sub pe_int (pv 0)) pa_nil))))))
        (@r4))))), ?_⟩
    have lp : (ds.map fun c => V.ref c.1).length = ds.length := List.length_map _
    have em : (if (((ds.map fun c => V.ref c.1).length : Nat) : Int) < 15 then (((ds.map fun c => V.ref c.1).length : Nat) : Int) else 15) = ((min 15 ds.length : Nat) : Int) := by rw [lp]; split <;> omega
    refine ⟨_, rfl, _, rfl, _, rfl, pl, _, rfl, .inl (SqL.of cp.1), _, _, rfl, _, _, rfl, rfl, ?_, _, _, rfl, rfl, ((1 + n % min 15 ds.length : Nat) : Int), ?_, pl, _, rfl, SqL.of cp.1, fun L hL => ?_⟩
    · show (0 : Int) < (if (((ds.map fun c => V.ref c.1).length : Nat) : Int) < 15 then (((ds.map fun c => V.ref c.1).length : Nat) : Int) else 15)
      rw [em]; omega
    · show V.int (1 + (n : Int) % (if (((ds.map fun c => V.ref c.1).length : Nat) : Int) < 15 then (((ds.map fun c => V.ref c.1).length : Nat) : Int) else 15)) = _
      rw [em]; push_cast; rfl
    have hm1 : n % min 15 ds.length < min 15 ds.length := Nat.mod_lt _ (by omega)
    have ecs : cutV (ds.map fun c => V.ref c.1) none (some ((1 + n % min 15 ds.length : Nat) : Int)) = (ds.take (1 + n % min 15 ds.length)).map fun c => V.ref c.1 := by rw [cut_hi, List.map_take]
    rw [ecs]
    have lcs : (ds.take (1 + n % min 15 ds.length)).length = 1 + n % min 15 ds.length := by rw [List.length_take]; omega
    have hin : ∀ c ∈ ds.take (1 + n % min 15 ds.length), c ∈ ds := fun c hc => List.mem_of_mem_take hc
    generalize hcs : ds.take (1 + n % min 15 ds.length) = cs at lcs hin
    have z1 := same_new (o := HO.lst (cs.map fun c => V.ref c.1)) hL
    have cv : ColsV (upd H L (.lst (cs.map fun c => V.ref c.1))) L cs := ⟨upd_same, fun c hc => (cp.2 c (hin c hc)).mono z1⟩
    show gName 2 _ _ _ _
    generalize upd H L (.lst (cs.map fun c => V.ref c.1)) = H1 at z1 cv ⊢
    have lr : (cs.map fun c => V.ref c.1).length = cs.length := List.length_map _
    obtain ⟨j, hj, ej⟩ : ∃ j : Nat, j ≤ cs.length ∧ (n : Int) / 16 % ((((cs.map fun c => V.ref c.1).length : Nat) : Int) + 1) = (j : Int) := by
      rw [lr, show (n : Int) / 16 = ((n / 16 : Nat) : Int) by omega]
      exact ⟨n / 16 % (cs.length + 1), Nat.le_of_lt_succ (Nat.mod_lt _ (by omega)), by push_cast; rfl⟩
    refine ⟨_, rfl, _, _, rfl, rfl, ⟨by decide, by decide⟩, _, rfl, L, _, rfl, .inl (SqL.of cv.1), _, _, rfl, rfl, _, _, rfl, rfl, (by show (0 : Int) < (((cs.map fun c => V.ref c.1).length : Nat) : Int) + 1; omega), ?_⟩
    show gName 3 (.int ((n : Int) / 16 % ((((cs.map fun c => V.ref c.1).length : Nat) : Int) + 1))) _ _ _
    rw [ej]
    obtain ⟨c0, hc0⟩ : ∃ c0, cs[0]? = some c0 := ⟨_, List.getElem?_eq_getElem (by omega)⟩
    have m0 := List.mem_of_getElem? hc0
    refine ⟨_, rfl, _, _, rfl, rfl, ⟨by decide, by decide⟩, _, rfl, L, _, _, _, rfl, rfl, SqL.of cv.1, atI_nat (j := 0) (by rw [List.getElem?_map, hc0]; rfl), n / 256, c0.1, _, _, _, ?_, cv.2 c0 m0, fun od H2 s2 tod bod => ?_⟩
    · show [V.int ((n : Int) / 256), .ref c0.1] = _
      rw [show (n : Int) / 256 = ((n / 256 : Nat) : Int) by omega]
    refine ⟨_, rfl, by decide, by decide, fun D hD => ?_⟩
    refine comp_refs (k := 0) (fun _ q H' => q ≠ D ∧ ∃ r g b, Col H' q r g b) (fun x q Ha Hb hk hq => ⟨hq.1, by obtain ⟨r, g, b, c⟩ := hq.2; exact ⟨r, g, b, hk _ _ c.top hq.1, c.lr, c.lg, c.lb⟩⟩) (src_range (n := 17)) (by rw [List.length_map, List.length_range]; decide) hD (fun x hx H' Q' sm hDD kk => ?_) fun qs H3 s3 hD3 hl3 pr3 => ?_
    · obtain ⟨i, hi, rfl⟩ := List.mem_map.mp hx
      have hi := List.mem_range.mp hi
      refine ⟨_, rfl, _, rfl, _, _, rfl, rfl, by show 3 ≤ sizeLine; decide, fun t ht => ?_⟩
      refine kk t _ (same_new ht) ⟨?_, i, 7, 255 - i, ?_, by omega, by decide, by omega⟩
      · obtain ⟨ys, ey⟩ := hDD
        exact fun z => by subst z; rw [ey] at ht; cases ht
      · rw [upd_same]
        show some (HO.tup [V.int (0 + (i : Int)), .int 7, .int (255 - (0 + (i : Int)))]) = _
        rw [Int.zero_add, show (255 : Int) - (i : Int) = ((255 - i : Nat) : Int) by omega]; rfl
    rw [List.length_map, List.length_range] at hl3
    obtain ⟨ms, em3, el3, hc3⟩ := cols_mk (H := H3) (qs := qs) fun q hq => by
      obtain ⟨i, hi⟩ := List.mem_iff_getElem?.mp hq
      have hi' : i < 17 := by rw [← hl3]; exact (List.getElem?_eq_some_iff.mp hi).1
      exact (pr3 i (.int (0 + (i : Int))) q (by rw [List.getElem?_map, List.getElem?_range hi']; rfl) hi).2
    rw [em3] at hD3
    exact k4 L D cs ms j od H3 (z1.trans (s2.trans s3)) ((cv.mono s2).mono s3) (by omega) (by omega) hj (tod.mono s3) ((colB_mono tod s3).trans bod) ⟨hD3, hc3⟩ (by omega)
end
end K16
set_option Elab.async false
set_option linter.all false
set_option maxRecDepth 100000
set_option maxHeartbeats 1600000
namespace K16
open PySem L2 M4
noncomputable def spLaw (K : PySem.W.Frag) : Sp := fun vs H Q _ => ∃ (a : Addr) (ns : List Int), vs = [.ref a] ∧ SqL K H a (ns.map V.int) ∧ ∀ H', Q (.bl true) H'
structure Wd (cL : Addr) (H0 H : Hp) (pl os ps hd : Addr) (o p l : Bool → Addr) (ds : List (Addr × Nat × Nat × Nat)) (c : Bool → List (Addr × Nat × Nat × Nat)) (ts : List Addr) : Prop where
  sm : Same H0 H
  fo : ∀ i, H0 (o i) = none
  fl : ∀ i, H0 (l i) = none
  fh : H0 hd = none
  pool : ColsV H pl ds
  d1 : 1 ≤ ds.length
  d2 : ds.length ≤ 24
  own : ∀ i, ColsV H (o i) (c i)
  pal : ∀ i, PalV cL H (p i) (l i) (c i)
  b1 : ∀ i, 1 ≤ (c i).length
  b2 : ∀ i, (c i).length ≤ 16
  eos : H os = some (.lst [.ref (o false), .ref (o true)])
  eps : H ps = some (.lst [.ref (p false), .ref (p true)])
  ehd : H hd = some (.lst (ts.map V.ref))
  prs : ∀ t ∈ ts, ∃ f g xs, (∀ i, f ≠ o i ∧ f ≠ l i ∧ g ≠ o i ∧ g ≠ l i) ∧ f ≠ hd ∧ g ≠ hd ∧ H t = some (.tup [.ref f, .ref g]) ∧ H f = some (.lst xs) ∧ H g = some (.lst xs) ∧ ∀ x ∈ xs, (∃ a, x = .ref a) ∨ flatV x = true
  oo : ∀ i j, i ≠ j → o i ≠ o j
  ll : ∀ i j, i ≠ j → l i ≠ l j
  ol : ∀ i j, o i ≠ l j
  oh : ∀ i, o i ≠ hd
  lh : ∀ i, l i ≠ hd
  po : ∀ i, pl ≠ o i ∧ pl ≠ l i
  ph : pl ≠ hd
  so : ∀ i, os ≠ o i ∧ os ≠ l i
  sh : os ≠ hd
  qo : ∀ i, ps ≠ o i ∧ ps ≠ l i
  qh : ps ≠ hd
section
variable {cL : Addr} {H0 H H' : Hp} {pl os ps hd : Addr} {o p l : Bool → Addr} {ds : List (Addr × Nat × Nat × Nat)} {c c' : Bool → List (Addr × Nat × Nat × Nat)} {ts us : List Addr}
theorem Wd.step {X : List Addr} (w : Wd cL H0 H pl os ps hd o p l ds c ts) (fr : Fr X H H') (hX : ∀ x ∈ X, (∃ i, x = o i) ∨ (∃ i, x = l i) ∨ x = hd) (own' : ∀ i, ColsV H' (o i) (c' i)) (pal' : ∀ i, PalV cL H' (p i) (l i) (c' i)) (b1' : ∀ i, 1 ≤ (c' i).length) (b2' : ∀ i, (c' i).length ≤ 16)
    (ehd' : H' hd = some (.lst ((ts ++ us).map V.ref))) (new : ∀ t ∈ us, PairN H H' t) : Wd cL H0 H' pl os ps hd o p l ds c' (ts ++ us) := by
  have nX : ∀ {q : Addr}, (∀ i, q ≠ o i ∧ q ≠ l i) → q ≠ hd → q ∉ X := fun h1 h2 z => by
    rcases hX _ z with ⟨i, e⟩ | ⟨i, e⟩ | e
    · exact (h1 i).1 e
    · exact (h1 i).2 e
    · exact h2 e
  have LX : Lsts H X := fun x hx => by
    rcases hX x hx with ⟨i, e⟩ | ⟨i, e⟩ | e
    · rw [e]; exact ⟨_, (w.own i).1⟩
    · rw [e]; exact ⟨_, (w.pal i).2.1⟩
    · rw [e]; exact ⟨_, w.ehd⟩
  refine { sm := fun b q e => ?_, fo := w.fo, fl := w.fl, fh := w.fh, pool := fr.cols LX w.pool (nX w.po w.ph), d1 := w.d1, d2 := w.d2, own := own', pal := pal', b1 := b1', b2 := b2', eos := fr _ _ w.eos (nX w.so w.sh), eps := fr _ _ w.eps (nX w.qo w.qh), ehd := ehd', prs := fun t ht => ?_, oo := w.oo, ll := w.ll, ol := w.ol, oh := w.oh, lh := w.lh, po := w.po, ph := w.ph, so := w.so, sh := w.sh, qo := w.qo, qh := w.qh }
  · refine fr b q (w.sm b q e) fun z => ?_
    rcases hX b z with ⟨i, rfl⟩ | ⟨i, rfl⟩ | rfl
    · rw [w.fo i] at e; cases e
    · rw [w.fl i] at e; cases e
    · rw [w.fh] at e; cases e
  · rcases List.mem_append.mp ht with ht | ht
    · obtain ⟨f, g, xs, q1, q2, q3, e1, e2, e3, fl⟩ := w.prs t ht
      exact ⟨f, g, xs, q1, q2, q3, fr.oth LX e1 (fun ys z => by cases z), fr _ _ e2 (nX (fun i => ⟨(q1 i).1, (q1 i).2.1⟩) q2), fr _ _ e3 (nX (fun i => ⟨(q1 i).2.2.1, (q1 i).2.2.2⟩) q3), fl⟩
    · obtain ⟨f, g, xs, h1, h2, h3, e1, e2, e3, fl⟩ := new t ht
      have no : ∀ {q : Addr}, H q = none → (∀ i, q ≠ o i ∧ q ≠ l i) ∧ q ≠ hd := fun h => ⟨fun i => ⟨(ne_of_none (w.own i).1 h).symm, (ne_of_none (w.pal i).2.1 h).symm⟩, (ne_of_none w.ehd h).symm⟩
      exact ⟨f, g, xs, fun i => ⟨((no h2).1 i).1, ((no h2).1 i).2, ((no h3).1 i).1, ((no h3).1 i).2⟩, (no h2).2, (no h3).2, e1, e2, e3, fl⟩
theorem Wd.same (w : Wd cL H0 H pl os ps hd o p l ds c ts) (s : Same H H') : Wd cL H0 H' pl os ps hd o p l ds c ts := by
  have := w.step (X := []) (us := []) (c' := c) (Same.fr s) (fun x hx => nomatch hx) (fun i => (w.own i).mono s) (fun i => (w.pal i).mono s) w.b1 w.b2 (by rw [List.append_nil]; exact s _ _ w.ehd) (fun t ht => nomatch ht)
  rw [List.append_nil] at this
  exact this
theorem Wd.held (w : Wd cL H0 H pl os ps hd o p l ds c ts) (fr : Fr [hd] H H') (e : H' hd = some (.lst ((ts ++ us).map V.ref))) (new : ∀ t ∈ us, PairN H H' t) : Wd cL H0 H' pl os ps hd o p l ds c (ts ++ us) := by
  have LX : Lsts H [hd] := fun x hx => by rw [List.mem_singleton.mp hx]; exact ⟨_, w.ehd⟩
  exact w.step fr (fun x hx => .inr (.inr (List.mem_singleton.mp hx))) (fun i => fr.cols LX (w.own i) fun z => w.oh i (List.mem_singleton.mp z)) (fun i => fr.pal LX (w.pal i) fun z => w.lh i (List.mem_singleton.mp z)) w.b1 w.b2 e new
theorem Wd.given (w : Wd cL H0 H pl os ps hd o p l ds c ts) (i : Bool) {d : List (Addr × Nat × Nat × Nat)} (fr : Fr [o i, l i] H H') (co : ColsV H' (o i) d) (pq : PalV cL H' (p i) (l i) d) (h1 : 1 ≤ d.length) (h2 : d.length ≤ 16) : Wd cL H0 H' pl os ps hd o p l ds (fun j => if j = i then d else c j) ts := by
  have LX : Lsts H [o i, l i] := fun x hx => by
    rcases List.mem_cons.mp hx with rfl | hx
    · exact ⟨_, (w.own i).1⟩
    · rw [List.mem_singleton.mp hx]; exact ⟨_, (w.pal i).2.1⟩
  have no : ∀ {q : Addr}, q ≠ o i → q ≠ l i → q ∉ [o i, l i] := fun a b z => by
    rcases List.mem_cons.mp z with z | z
    · exact a z
    · exact b (List.mem_singleton.mp z)
  have := w.step (us := []) (c' := fun j => if j = i then d else c j) fr (fun x hx => by
      rcases List.mem_cons.mp hx with rfl | hx
      · exact .inl ⟨i, rfl⟩
      · exact .inr (.inl ⟨i, List.mem_singleton.mp hx⟩)) (fun j => ?_) (fun j => ?_) (fun j => ?_) (fun j => ?_) (by rw [List.append_nil]; exact fr _ _ w.ehd (no (w.oh i).symm (w.lh i).symm)) (fun t ht => nomatch ht)
  · rw [List.append_nil] at this; exact this
  · by_cases h : j = i
    · rw [if_pos h, h]; exact co
    · rw [if_neg h]; exact fr.cols LX (w.own j) (no (w.oo j i h) (w.ol j i))
  · by_cases h : j = i
    · rw [if_pos h, h]; exact pq
    · rw [if_neg h]; exact fr.pal LX (w.pal j) (no (w.ol i j).symm (w.ll j i h))
  · show 1 ≤ (if j = i then d else c j).length
    by_cases h : j = i
    · rw [if_pos h]; exact h1
    · rw [if_neg h]; exact w.b1 j
  · show (if j = i then d else c j).length ≤ 16
    by_cases h : j = i
    · rw [if_pos h]; exact h2
    · rw [if_neg h]; exact w.b2 j
end
theorem ColsV.tm {K : PySem.W.Frag} {H : Hp} {a : Addr} {cs : List (Addr × Nat × Nat × Nat)} (w : ColsV H a cs) (hl : cs.length ≤ 1000000) : TM K H (.ref a) :=
  ⟨.lst w.1, fun ys h => (by rw [rowOf_lst w.1] at h; cases h; rw [List.length_map]; exact hl), fun ys h => (by rw [rowOf_lst w.1] at h; cases h; exact w.tc)⟩
theorem two_at {i : Nat} (hi : i < 2) : ∃ b : Bool, ∀ q : Bool → Addr, atI [V.ref (q false), .ref (q true)] (0 + (i : Int)) = some (.ref (q b)) := by
  rw [Int.zero_add]
  match i, hi with
  | 0, _ => exact ⟨false, fun q => atI_nat (j := 0) rfl⟩
  | 1, _ => exact ⟨true, fun q => atI_nat (j := 1) rfl⟩
section
variable {P : Program} {w : World} {K : PySem.W.Frag} {mg : Str → Option Value} {base : Heap} {cFE cC cN cM cP cL : Addr} {tP tS : Tok}
theorem sc_law : FnScope ["_law_script", "_law_number", "_law_pool_here", "_law_owns", "_law_handed", "_law_palettes", "_law_held", "_law_k", "_law_at", "_law_j"] ["_law_script"] (defScope s_law) := ⟨rfl, rfl, rfl, by decide +kernel, rfl, by decide +kernel, by decide +kernel⟩
theorem ok_law {f : Addr} {fd : FuncData} (F : FunD K "law" "law" s_law .none f fd) (T : Txt K mg cFE cC cN cM cP cL tP tS) (g_Palette : MakX P w K mg base cL 5 "Palette" ["self", "colours"] (spInit K cP cL)) (g__law_draw : Def P w K mg base 1 "_law_draw" ["_law_script", "_law_k"] [] (spDraw K)) (g__law_pool : Def P w K mg base 2 "_law_pool" ["_law_script", "_law_first", "_law_near"] [] (spPool K)) (g__law_given : Def P w K mg base 8 "_law_given" ["_law_palette", "_law_own", "_law_number", "_law_pool_here"] [] (spGiven K cL)) (g__law_stands : Def P w K mg base 9 "_law_stands" ["_law_palette", "_law_own", "_law_number", "_law_pool_here", "_law_held"] [] (spStands K cL)) (g__law_colours_good : Def P w K mg base 2 "_law_colours_good" ["_law_palette", "_law_own", "_law_held"] [] (spCG cL)) (g__law_no_palette : Def P w K mg base 7 "_law_no_palette" ["_law_pool_here", "_law_number"] [] (spNoP)) : FnOk P w K mg base CX0 10 f fd ["_law_script"] (spLaw K) := by
  refine F.ok sc_law (fun vs H Q E h => ?_) (fun cdv A outer s H vs Q E hr h => ?_)
  · obtain ⟨a, ns, rfl, _⟩ := h; rfl
  · obtain ⟨a, ns, rfl, hS, k⟩ := h
    have hu : _ + 64 < cLine := hr.units
    obtain ⟨t10, r10, k10⟩ : ∃ tr, PSs ((cxOf CX0 P w K mg base ["_law_script", "_law_number", "_law_pool_here", "_law_owns", "_law_handed", "_law_palettes", "_law_held", "_law_k", "_law_at", "_law_j"] "law" (defScope s_law) f cdv A outer s H E).nox) ((defBody s_law).drop 10) tr ∧
        ∀ (pl os ps hd : Addr) (o p l : Bool → Addr) (ds : List (Addr × Nat × Nat × Nat)) (c : Bool → List (Addr × Nat × Nat × Nat)) (ts : List Addr) (v1 v4 v7 v8 v9 : Option V) (H1 : Hp), Wd cL H H1 pl os ps hd o p l ds c ts → ts.length ≤ 1000 →
          tr { nx := fun _ H' => Q .non H', rt := Q } [some (.ref a), v1, some (.ref pl), some (.ref os), v4, some (.ref ps), some (.ref hd), v7, v8, v9] H1 := by
      refine ⟨_, (pss_one (ps_ret (pe_and (pe_callD g__law_no_palette (hr.mono (by decide)) rfl (pa_cons (pv 2) (pa_cons (pe_callD g__law_draw (hr.mono (by decide)) rfl (pa_cons (pv 0) (pa_cons pe_int pa_nil))) pa_nil))) (pe_one (pe_cmpR (eqDK K rfl hu) (pe_comp (N := ["_law_pair"]) (src := [none]) rfl ⟨rfl, rfl, rfl, rfl, rfl, by decide +kernel⟩ (piK K rfl (pv 6)) (fun s H C fp => pg_name (i := 0) (show (["_law_pair"] : List Str).Nodup by decide +kernel) rfl (by first | exact Or.inl rfl | exact Or.inr rfl)) (fun s H C fp => (pts_one (pt_cmpR (neDK K rfl hu) (pe_ix (ixTK K rfl) (pv 0) pe_int (fun _ _ => rfl)) (pe_ix (ixTK K rfl) (pv 0) pe_int (fun _ _ => rfl)) (nomark _)))) (fun s H C fp => (pv 0))) (pe_lst pa_nil) (nomark _)))))), ?_⟩
      intro pl os ps hd o p l ds c ts v1 v4 v7 v8 v9 H1 w ht
      refine ⟨_, rfl, _, rfl, a, ns, 50, rfl, w.sm.seq hS, by decide, fun n H2 hn s2 => ?_⟩
      have w2 := w.same s2
      refine ⟨pl, ds, n, rfl, w2.pool, w2.d1, w2.d2, fun H3 s3 => ⟨_, rfl, ?_⟩⟩
      have w3 := w2.same s3
      refine ⟨_, rfl, hd, rfl, ⟨_, SqL.of w3.ehd⟩, fun D hD => ?_⟩
      refine comp_fm (k := 0) (fun x => x) (fun _ => false) (src_list (SqL.of w3.ehd)) (by rw [List.length_map]; exact Nat.le_trans ht (by decide)) hD (fun x hx H' Qb sm kk => ?_) (fun x hx hf => nomatch hf) fun H4 s4 hD4 => ?_
      · obtain ⟨tp, htp, rfl⟩ := List.mem_map.mp hx
        obtain ⟨f, g, xs, _, _, _, e1, e2, e3, fl⟩ := w3.prs tp htp
        have e1 := sm _ _ e1
        exact ⟨_, rfl, tp, _, _, _, rfl, rfl, SqT.of e1, atI_nat (j := 0) rfl, _, rfl, tp, _, _, _, rfl, rfl, SqT.of e1, atI_nat (j := 1) rfl, 0, f, g, true, by decide, rfl, rfl, eq_lsts (sm _ _ e2) (sm _ _ e3) fl, _, rfl, kk H' (Same.refl _)⟩
      · have e4 : H4 D = some (.lst []) := by rw [hD4]; simp
        refine ⟨by show 0 ≤ sizeLine; decide, fun q hq => ?_⟩
        have z5 := same_new (o := HO.lst []) hq
        exact ⟨0, D, q, true, by decide, rfl, rfl, EqL.nil (SqL.of (z5 _ _ e4)) (SqL.of upd_same), k _⟩
    obtain ⟨t9, r9, k9⟩ : ∃ tr, PSs ((cxOf CX0 P w K mg base ["_law_script", "_law_number", "_law_pool_here", "_law_owns", "_law_handed", "_law_palettes", "_law_held", "_law_k", "_law_at", "_law_j"] "law" (defScope s_law) f cdv A outer s H E).nox) ((defBody s_law).drop 9) tr ∧
        ∀ (pl os ps hd : Addr) (o p l : Bool → Addr) (ds : List (Addr × Nat × Nat × Nat)) (c : Bool → List (Addr × Nat × Nat × Nat)) (ts : List Addr) (v1 v4 v7 v8 v9 : Option V) (H1 : Hp), Wd cL H H1 pl os ps hd o p l ds c ts → ts.length ≤ 800 →
          tr { nx := fun _ H' => Q .non H', rt := Q } [some (.ref a), v1, some (.ref pl), some (.ref os), v4, some (.ref ps), some (.ref hd), v7, v8, v9] H1 := by
      refine ⟨_, (pss_cons (ps_for PassesOwn.never rfl (pi_range1 rfl T.range (pa_cons pe_int pa_nil)) (pg_name (i := 9) sc_law.nd rfl (by first | exact Or.inl rfl | exact Or.inr rfl)) (pss_one (ps_if (pt_not (pt_val (pe_callD g__law_colours_good (hr.mono (by decide)) rfl (pa_cons (pe_ix (ixK K rfl) (pv 5) (pv 9) (fun _ _ => rfl)) (pa_cons (pe_ix (ixK K rfl) (pv 3) (pv 9) (fun _ _ => rfl)) (pa_cons (pv 6) pa_nil)))))) (pss_one (ps_ret pe_bl)) pss_nil)))
        (@r10)), ?_⟩
      intro pl os ps hd o p l ds c ts v1 v4 v7 v8 v9 H1 w ht
      refine ⟨2, rfl, by decide, by decide, ?_⟩
      refine for_range (lo := 0) (n := 2) (fun i σ H2 => ∃ (us : List Addr) (v9 : Option V), σ = [some (.ref a), v1, some (.ref pl), some (.ref os), v4, some (.ref ps), some (.ref hd), v7, v8, v9] ∧ Wd cL H H2 pl os ps hd o p l ds c us ∧ us.length ≤ 800 + i) ⟨ts, v9, rfl, w, ht⟩ ?_ ?_
      · rintro i σ H2 hi ⟨us, v9, rfl, w2, hl⟩
        obtain ⟨b, eb⟩ := two_at hi
        refine ⟨_, rfl, _, rfl, ps, _, _, _, rfl, rfl, SqL.of w2.eps, eb p, _, rfl, _, rfl, os, _, _, _, rfl, rfl, SqL.of w2.eos, eb o, _, rfl, p b, l b, c b, o b, hd, _, rfl, w2.pal b, w2.own b, by have := w2.b2 b; omega, w2.ehd, by rw [List.length_map]; omega, fun t f g H3 ht hf hg kp e2 et ef eg => ⟨_, rfl, ?_⟩⟩
        refine ⟨us ++ [t], _, rfl, w2.held (fun b q e z => kp b q e (fun w => z (List.mem_singleton.mpr w))) (by rw [e2, List.map_append]; rfl) (fun u hu => by rw [List.mem_singleton.mp hu]; exact ⟨f, g, _, ht, hf, hg, et, ef, eg, more_flat⟩), by rw [List.length_append]; show us.length + 1 ≤ 800 + (i + 1); omega⟩
      · rintro σ H2 ⟨us, v9, rfl, w2, hl⟩
        exact k10 pl os ps hd o p l ds c us v1 v4 v7 v8 v9 H2 w2 (by omega)
    obtain ⟨t8, r8, k8⟩ : ∃ tr, PSs ((cxOf CX0 P w K mg base ["_law_script", "_law_number", "_law_pool_here", "_law_owns", "_law_handed", "_law_palettes", "_law_held", "_law_k", "_law_at", "_law_j"] "law" (defScope s_law) f cdv A outer s H E).nox) ((defBody s_law).drop 8) tr ∧
        ∀ (pl os ps hd : Addr) (o p l : Bool → Addr) (ds : List (Addr × Nat × Nat × Nat)) (c : Bool → List (Addr × Nat × Nat × Nat)) (v1 v4 : Option V) (H1 : Hp), Wd cL H H1 pl os ps hd o p l ds c [] →
          tr { nx := fun _ H' => Q .non H', rt := Q } [some (.ref a), v1, some (.ref pl), some (.ref os), v4, some (.ref ps), some (.ref hd), none, none, none] H1 := by
      refine ⟨_, (pss_cons (ps_for PassesOwn.never rfl (pi_range1 rfl T.range (pa_cons (pe_op op_add pe_int (pe_op op_mod (pe_callD g__law_draw (hr.mono (by decide)) rfl (pa_cons (pv 0) (pa_cons pe_int pa_nil))) pe_int)) pa_nil)) (pg_name (i := 7) sc_law.nd rfl (by first | exact Or.inl rfl | exact Or.inr rfl)) (pss_cons (ps_set (i := 1) sc_law.nd rfl (by first | exact Or.inl rfl | exact Or.inr rfl) (pe_callD g__law_draw (hr.mono (by decide)) rfl (pa_cons (pv 0) (pa_cons (pe_op op_add pe_int (pv 7)) pa_nil))))
        (pss_cons (ps_set (i := 8) sc_law.nd rfl (by first | exact Or.inl rfl | exact Or.inr rfl) (pe_op op_mod (pv 1) pe_int))
        (pss_cons (ps_if (pt_not (pt_val (pe_callD g__law_given (hr.mono (by decide)) rfl (pa_cons (pe_ix (ixK K rfl) (pv 5) (pv 8) (fun _ _ => rfl)) (pa_cons (pe_ix (ixK K rfl) (pv 3) (pv 8) (fun _ _ => rfl)) (pa_cons (pe_op op_fdiv (pv 1) pe_int) (pa_cons (pv 2) pa_nil))))))) (pss_one (ps_ret pe_bl)) pss_nil)
        (pss_one (ps_for PassesOwn.never rfl (pi_range1 rfl T.range (pa_cons pe_int pa_nil)) (pg_name (i := 9) sc_law.nd rfl (by first | exact Or.inl rfl | exact Or.inr rfl)) (pss_one (ps_if (pt_not (pt_val (pe_callD g__law_stands (hr.mono (by decide)) rfl (pa_cons (pe_ix (ixK K rfl) (pv 5) (pv 9) (fun _ _ => rfl)) (pa_cons (pe_ix (ixK K rfl) (pv 3) (pv 9) (fun _ _ => rfl)) (pa_cons (pe_op op_fdiv (pv 1) (pe_op op_add pe_int (pe_op op_mul pe_int (pv 9)))) (pa_cons (pv 2) (pa_cons (pv 6) pa_nil)))))))) (pss_one (ps_ret pe_bl)) pss_nil))))))))
        (@r9)), ?_⟩
      intro pl os ps hd o p l ds c v1 v4 H1 w
      refine ⟨_, rfl, a, ns, 1, rfl, w.sm.seq hS, by decide, fun n1 H2 hn1 s2 => ?_⟩
      have em : (1 : Int) + (n1 : Int) % 14 = ((1 + n1 % 14 : Nat) : Int) := by omega
      refine ⟨_, _, rfl, rfl, (by show (0 : Int) < 14; decide), _, _, rfl, rfl, ((1 + n1 % 14 : Nat) : Int), by show [V.int (1 + (n1 : Int) % 14)] = _; rw [em], by omega, by omega, ?_⟩
      refine for_range (lo := 0) (n := 1 + n1 % 14) (fun i σ H3 => ∃ (c : Bool → List (Addr × Nat × Nat × Nat)) (ts : List Addr) (v1 v7 v8 v9 : Option V), σ = [some (.ref a), v1, some (.ref pl), some (.ref os), v4, some (.ref ps), some (.ref hd), v7, v8, v9] ∧ Wd cL H H3 pl os ps hd o p l ds c ts ∧ ts.length ≤ 10 * i) ⟨c, [], v1, none, none, none, rfl, w.same s2, Nat.zero_le _⟩ ?_ ?_
      · rintro i σ H3 hi ⟨c, ts, v1, v7, v8, v9, rfl, w3, hl⟩
        refine ⟨_, rfl, _, rfl, _, _, rfl, rfl, a, ns, 2 + i, (by show [V.ref a, V.int (2 + (0 + (i : Int)))] = _; rw [show (2 : Int) + (0 + (i : Int)) = ((2 + i : Nat) : Int) by omega]), w3.sm.seq hS, by omega, fun n H4 hn s4 => ?_⟩
        have w4 := w3.same s4
        refine ⟨_, rfl, _, _, rfl, rfl, (by show (0 : Int) < 2; decide), ?_⟩
        obtain ⟨b, eb⟩ := two_at (i := n % 2) (Nat.mod_lt _ (by decide))
        rw [Int.zero_add] at eb
        show gName 8 (.int ((n : Int) % 2)) _ _ _
        rw [show (n : Int) % 2 = ((n % 2 : Nat) : Int) by omega]
        refine ⟨_, rfl, _, rfl, ps, _, _, _, rfl, rfl, SqL.of w4.eps, eb p, _, rfl, _, rfl, os, _, _, _, rfl, rfl, SqL.of w4.eos, eb o, _, rfl, _, _, rfl, rfl, ⟨by decide, by decide⟩, _, rfl, p b, l b, o b, pl, c b, ds, n / 2, ?_, w4.pal b, w4.own b, w4.b1 b, w4.b2 b, w4.pool, w4.d1, by have := w4.d2; omega, w4.ol b b, fun d H5 fr co pq h1 h2 => ⟨_, rfl, ?_⟩⟩
        · show [V.ref (p b), .ref (o b), .int ((n : Int) / 2), .ref pl] = _
          rw [show (n : Int) / 2 = ((n / 2 : Nat) : Int) by omega]
        have w5 := w4.given b fr co pq h1 h2
        generalize (fun j => if j = b then d else c j) = c5 at w5
        refine ⟨2, rfl, by decide, by decide, ?_⟩
        refine for_range (lo := 0) (n := 2) (fun j σ H6 => ∃ (us : List Addr) (v9 : Option V), σ = [some (.ref a), some (.int (n : Int)), some (.ref pl), some (.ref os), v4, some (.ref ps), some (.ref hd), some (.int (0 + (i : Int))), some (.int ((n % 2 : Nat) : Int)), v9] ∧ Wd cL H H6 pl os ps hd o p l ds c5 us ∧ us.length ≤ 10 * i + 5 * j) ⟨ts, v9, rfl, w5, hl⟩ ?_ ?_
        · rintro j σ H6 hj ⟨us, v9, rfl, w6, hl6⟩
          obtain ⟨e, ee⟩ := two_at hj
          have ed : (16 : Int) + 48 * (0 + (j : Int)) = ((16 + 48 * j : Nat) : Int) := by omega
          refine ⟨_, rfl, _, rfl, ps, _, _, _, rfl, rfl, SqL.of w6.eps, ee p, _, rfl, _, rfl, os, _, _, _, rfl, rfl, SqL.of w6.eos, ee o, _, rfl, _, rfl, _, _, rfl, rfl, .inl ⟨by decide, by decide⟩, _, _, rfl, rfl, _, _, rfl, rfl, ?_, _, rfl, _, rfl, p e, l e, o e, pl, hd, c5 e, ds, n / (16 + 48 * j), _, ?_, w6.pal e, w6.own e, w6.b1 e, w6.b2 e, w6.pool, w6.d1, by have := w6.d2; omega, w6.ehd, by rw [List.length_map]; omega, w6.lh e, w6.oh e, w6.ph, fun vs H7 fr e7 new l7 => ⟨_, rfl, ?_⟩⟩
          · show (0 : Int) < 16 + 48 * (0 + (j : Int)) ∧ 16 + 48 * (0 + (j : Int)) < 1073741824
            omega
          · show [V.ref (p e), .ref (o e), .int ((n : Int) / (16 + 48 * (0 + (j : Int)))), .ref pl, .ref hd] = _
            rw [ed]; rfl
          · exact ⟨us ++ vs, _, rfl, w6.held fr (by rw [e7, List.map_append]) new, by rw [List.length_append]; omega⟩
        · rintro σ H6 ⟨us, v9, rfl, w6, hl6⟩
          exact ⟨c5, us, _, _, _, _, rfl, w6, by omega⟩
      · rintro σ H3 ⟨c, ts, v1, v7, v8, v9, rfl, w3, hl⟩
        exact k9 pl os ps hd o p l ds c ts v1 v4 v7 v8 v9 H3 w3 (by omega)
    refine ⟨_, (pss_cons (ps_set (i := 1) sc_law.nd rfl (by first | exact Or.inl rfl | exact Or.inr rfl) (pe_callD g__law_draw (hr.mono (by decide)) rfl (pa_cons (pv 0) (pa_cons pe_int pa_nil))))
        (pss_cons (ps_set (i := 2) sc_law.nd rfl (by first | exact Or.inl rfl | exact Or.inr rfl) (pe_callD g__law_pool (hr.mono (by decide)) rfl (pa_cons (pv 0) (pa_cons pe_int (pa_cons (pe_cmpR op_eq (pe_op op_mod (pv 1) pe_int) pe_int (nomark _)) pa_nil)))))
        (pss_cons (ps_set (i := 3) sc_law.nd rfl (by first | exact Or.inl rfl | exact Or.inr rfl) (pe_lst (pa_cons (pe_slice (slK K rfl) (pv 2) po_none (po_some (pe_op op_add pe_int (pe_op op_mod (pe_op op_fdiv (pv 1) pe_int) (pe_callB (call_min2 rfl) rfl T.min PyProof.Rows.boot_min (pa_cons pe_int (pa_cons (pe_callB (lenK K rfl) rfl T.len PySem.boot_len (pa_cons (pv 2) pa_nil)) pa_nil))))))) (pa_cons (pe_slice (slK K rfl) (pe_sliceRev K rfl (pv 2) (po_some (pe_un un_neg pe_int))) po_none (po_some (pe_op op_add pe_int (pe_op op_mod (pe_op op_fdiv (pv 1) pe_int) (pe_callB (call_min2 rfl) rfl T.min PyProof.Rows.boot_min (pa_cons pe_int (pa_cons (pe_callB (lenK K rfl) rfl T.len PySem.boot_len (pa_cons (pv 2) pa_nil)) pa_nil))))))) pa_nil))))
        (pss_cons (ps_setC (ix := 4) (N := ["_law_own"]) (src := [none]) sc_law.nd rfl rfl rfl ⟨rfl, rfl, rfl, rfl, rfl, by decide +kernel⟩ (piK K rfl (pv 3)) (fun s H C fp => pg_name (i := 0) (show (["_law_own"] : List Str).Nodup by decide +kernel) rfl (by first | exact Or.inl rfl | exact Or.inr rfl)) (fun s H C fp => pts_nil) (fun s H C fp => (pe_callTy (listK K rfl) rfl T.list PyProof.Rows.boot_list (pa_cons (pv 0) pa_nil))))
        (pss_cons (ps_set (i := 5) sc_law.nd rfl (by first | exact Or.inl rfl | exact Or.inr rfl) (pe_lst (pa_cons (pe_makX g_Palette (hr.mono (by decide)) passF rfl (pa_cons (pe_ix (ixK K rfl) (pv 4) pe_int (fun _ _ => rfl)) pa_nil)) (pa_cons (pe_makX g_Palette (hr.mono (by decide)) passF rfl (pa_cons (pe_ix (ixK K rfl) (pv 4) pe_int (fun _ _ => rfl)) pa_nil)) pa_nil))))
        (pss_cons (ps_expr (pe_bm0 PySem.F.plainAttrs_list PySem.F.slot_list_reverse PySem.F.type_list_reverse mt_reverse (pe_ix (ixK K rfl) (pv 4) pe_int (fun _ _ => rfl))))
        (pss_cons (ps_expr (pe_bm0 PySem.F.plainAttrs_list PySem.F.slot_list_clear PySem.F.type_list_clear mt_clear (pe_ix (ixK K rfl) (pv 4) pe_int (fun _ _ => rfl))))
        (pss_cons (ps_set (i := 6) sc_law.nd rfl (by first | exact Or.inl rfl | exact Or.inr rfl) (pe_lst pa_nil))
        (@r8))))))))), ?_⟩
    refine ⟨_, rfl, a, ns, 0, rfl, hS, by decide, fun n H1 hn s1 => ?_⟩
    refine ⟨_, rfl, _, rfl, _, _, rfl, rfl, (by show (0 : Int) < 2; decide), rfl, a, ns, 20, _, rfl, s1.seq hS, by decide, fun pl ds H2 s2 hpl cp d1 d2 nd => ?_⟩
    have s02 := s1.trans s2
    have lp : (ds.map fun c => V.ref c.1).length = ds.length := List.length_map _
    have em : (if ((((ds.map fun c => V.ref c.1).length : Nat) : Int)) < 16 then ((((ds.map fun c => V.ref c.1).length : Nat) : Int)) else 16) = ((min 16 ds.length : Nat) : Int) := by rw [lp]; split <;> omega
    obtain ⟨m1, em1, l1a, l1b⟩ : ∃ m1 : Nat, (1 : Int) + (n : Int) / 2 % ((min 16 ds.length : Nat) : Int) = (m1 : Int) ∧ 1 ≤ m1 ∧ m1 ≤ min 16 ds.length := by
      refine ⟨1 + n / 2 % min 16 ds.length, by push_cast; rfl, by omega, ?_⟩
      have := Nat.mod_lt (n / 2) (show 0 < min 16 ds.length by omega)
      omega
    obtain ⟨m2, em2, l2a, l2b⟩ : ∃ m2 : Nat, (1 : Int) + (n : Int) / 32 % ((min 16 ds.length : Nat) : Int) = (m2 : Int) ∧ 1 ≤ m2 ∧ m2 ≤ min 16 ds.length := by
      refine ⟨1 + n / 32 % min 16 ds.length, by push_cast; rfl, by omega, ?_⟩
      have := Nat.mod_lt (n / 32) (show 0 < min 16 ds.length by omega)
      omega
    refine ⟨_, rfl, _, rfl, _, _, rfl, rfl, ⟨by decide, by decide⟩, _, rfl, pl, _, rfl, .inl (SqL.of cp.1), _, _, rfl, _, _, rfl, rfl, (by show (0 : Int) < (if ((((ds.map fun c => V.ref c.1).length : Nat) : Int)) < 16 then ((((ds.map fun c => V.ref c.1).length : Nat) : Int)) else 16); rw [em]; omega), _, _, rfl, rfl, (m1 : Int), ?_, pl, _, rfl, SqL.of cp.1, fun o1 h1 => ?_⟩
    · show V.int (1 + (n : Int) / 2 % (if ((((ds.map fun c => V.ref c.1).length : Nat) : Int)) < 16 then ((((ds.map fun c => V.ref c.1).length : Nat) : Int)) else 16)) = _
      rw [em, em1]
    rw [cut_hi, ← List.map_take]
    have y1 := same_new (o := HO.lst ((ds.take m1).map fun c => V.ref c.1)) h1
    have e1 : upd H2 o1 (.lst ((ds.take m1).map fun c => V.ref c.1)) o1 = some (.lst ((ds.take m1).map fun c => V.ref c.1)) := upd_same
    generalize upd H2 o1 (.lst ((ds.take m1).map fun c => V.ref c.1)) = H3 at y1 e1 ⊢
    have cp3 := cp.mono y1
    refine ⟨_, rfl, _, rfl, _, rfl, rfl, pl, _, rfl, SqL.of cp3.1, fun rv hrv => ?_⟩
    have y2 := same_new (o := HO.lst (ds.map fun c => V.ref c.1).reverse) hrv
    have erv : upd H3 rv (.lst (ds.map fun c => V.ref c.1).reverse) rv = some (.lst (ds.map fun c => V.ref c.1).reverse) := upd_same
    generalize upd H3 rv (.lst (ds.map fun c => V.ref c.1).reverse) = H4 at y2 erv ⊢
    have cp4 := cp3.mono y2
    refine ⟨_, rfl, _, _, rfl, rfl, ⟨by decide, by decide⟩, _, rfl, pl, _, rfl, .inl (SqL.of cp4.1), _, _, rfl, _, _, rfl, rfl, (by show (0 : Int) < (if ((((ds.map fun c => V.ref c.1).length : Nat) : Int)) < 16 then ((((ds.map fun c => V.ref c.1).length : Nat) : Int)) else 16); rw [em]; omega), _, _, rfl, rfl, (m2 : Int), ?_, rv, _, rfl, SqL.of erv, fun o2 h2 => ?_⟩
    · show V.int (1 + (n : Int) / 32 % (if ((((ds.map fun c => V.ref c.1).length : Nat) : Int)) < 16 then ((((ds.map fun c => V.ref c.1).length : Nat) : Int)) else 16)) = _
      rw [em, em2]
    rw [cut_hi, ← List.map_reverse, ← List.map_take]
    have y3 := same_new (o := HO.lst ((ds.reverse.take m2).map fun c => V.ref c.1)) h2
    have e2 : upd H4 o2 (.lst ((ds.reverse.take m2).map fun c => V.ref c.1)) o2 = some (.lst ((ds.reverse.take m2).map fun c => V.ref c.1)) := upd_same
    generalize upd H4 o2 (.lst ((ds.reverse.take m2).map fun c => V.ref c.1)) = H5 at y3 e2 ⊢
    refine ⟨by show 2 ≤ sizeLine; decide, fun os hos => ?_⟩
    have y4 := same_new (o := HO.lst [V.ref o1, .ref o2]) hos
    have eos : upd H5 os (.lst [V.ref o1, .ref o2]) os = some (.lst [V.ref o1, .ref o2]) := upd_same
    show gName 3 _ _ _ _
    generalize upd H5 os (.lst [V.ref o1, .ref o2]) = H6 at y4 eos ⊢
    have y26 := y1.trans (y2.trans (y3.trans y4))
    have s06 := s02.trans y26
    have c1 : ColsV H6 o1 (ds.take m1) := ⟨(y2.trans (y3.trans y4)) _ _ e1, fun c hc => (cp.2 c (List.mem_of_mem_take hc)).mono y26⟩
    have c2 : ColsV H6 o2 (ds.reverse.take m2) := ⟨y4 _ _ e2, fun c hc => (cp.2 c (List.mem_reverse.mp (List.mem_of_mem_take hc))).mono y26⟩
    have cp6 := cp.mono y26
    have t1 : (ds.take m1).length = m1 := by rw [List.length_take]; omega
    have t2 : (ds.reverse.take m2).length = m2 := by rw [List.length_take, List.length_reverse]; omega
    have n1 : ((ds.take m1).map kc).Nodup := by rw [List.map_take]; exact nd.sublist (List.take_sublist _ _)
    have n2 : ((ds.reverse.take m2).map kc).Nodup := by rw [List.map_take, List.map_reverse]; exact List.Nodup.sublist (List.take_sublist _ _) (show (ds.map kc).reverse.Nodup from List.pairwise_reverse.mpr (List.Pairwise.imp (fun h z => h z.symm) nd))
    generalize ds.take m1 = u1 at c1 t1 n1 ⊢
    generalize ds.reverse.take m2 = u2 at c2 t2 n2 ⊢
    have fo1 : H o1 = none := s02.free h1
    have fo2 : H o2 = none := (s02.trans (y1.trans y2)).free h2
    have f6os : H5 os = none := hos
    have n12 : o1 ≠ o2 := ne_of_none (y2 _ _ e1) h2
    have npo1 : pl ≠ o1 := ne_of_none cp.1 h1
    have npo2 : pl ≠ o2 := ne_of_none cp4.1 h2
    have nso1 : os ≠ o1 := (ne_of_none ((y2.trans y3) _ _ e1) hos).symm
    have nso2 : os ≠ o2 := (ne_of_none e2 hos).symm
    clear y1 y2 y3 y4 erv e1 e2 cp3 cp4 h1 h2 hos f6os
    refine ⟨_, rfl, os, rfl, ⟨_, SqL.of eos⟩, fun D hD => ?_⟩
    refine comp_rows (k := 0) (fun x => (rowOf H6 x).getD []) (src_list (SqL.of eos)) (by show 2 ≤ sizeLine; decide) hD (fun x hx H' Q' sm kk => ?_) fun hs H7 s7 fh pv => ?_
    · have hx : x = .ref o1 ∨ x = .ref o2 := by simpa using hx
      rcases hx with rfl | rfl
      · rw [rowOf_lst c1.1] at kk
        exact ⟨_, rfl, o1, _, rfl, .inl (SqL.of (sm _ _ c1.1)), fun q hq => kk q _ (same_new hq) hq upd_same⟩
      · rw [rowOf_lst c2.1] at kk
        exact ⟨_, rfl, o2, _, rfl, .inl (SqL.of (sm _ _ c2.1)), fun q hq => kk q _ (same_new hq) hq upd_same⟩
    obtain ⟨h1, h2, rfl⟩ : ∃ h1 h2, hs = [h1, h2] := by
      have := pv.row.length
      match hs, this with
      | [x, y], _ => exact ⟨x, y, rfl⟩
    have eh1 : H7 h1 = some (.lst (u1.map fun c => V.ref c.1)) := by
      have := pv.row
      cases this with
      | cons e _ => rw [e]; show some (HO.lst ((rowOf H6 (.ref o1)).getD [])) = _; rw [rowOf_lst c1.1]; rfl
    have eh2 : H7 h2 = some (.lst (u2.map fun c => V.ref c.1)) := by
      have := pv.row
      cases this with
      | cons _ e =>
        cases e with
        | cons e _ => rw [e]; show some (HO.lst ((rowOf H6 (.ref o2)).getD [])) = _; rw [rowOf_lst c2.1]; rfl
    have nh12 : h1 ≠ h2 := by
      have := pv.nd
      simp at this
      exact this
    have fh1 : H6 h1 = none := fh h1 List.mem_cons_self
    have fh2 : H6 h2 = none := fh h2 (List.mem_cons_of_mem _ List.mem_cons_self)
    have eD : H7 D = some (.lst [.ref h1, .ref h2]) := pv.top
    have s07 := s06.trans s7
    have v1 : ColsV H7 h1 u1 := ⟨eh1, fun c hc => (c1.2 c hc).mono s7⟩
    have v2 : ColsV H7 h2 u2 := ⟨eh2, fun c hc => (c2.2 c hc).mono s7⟩
    refine ⟨_, rfl, D, _, _, _, rfl, rfl, SqL.of eD, atI_nat (j := 0) rfl, fun p1 dx1 np1 ndx1 ne1 => ?_⟩
    have x1 : Same H7 (upd (upd H7 dx1 (.own p1)) p1 (.ins cL dx1 [])) := fun b q e => by rw [upd_ne (ne_of_none e np1), upd_ne (ne_of_none e ndx1)]; exact e
    refine ⟨p1, dx1, _, rfl, upd_same, (v1.mono x1).tm (by omega), fun a' d' ea cv' _ _ _ l1 H8 hl1 kp1 pq1 => ⟨rfl, ?_⟩, fun ng => (ng ⟨h1, u1, rfl, v1.mono x1, by omega, by omega, n1⟩).elim⟩
    cases ea
    cases (v1.mono x1).inj cv'
    have s78 : Same H7 H8 := fun b q e => kp1 b q (x1 b q e) (ne_of_none e np1)
    have fl1 : H7 l1 = none := x1.free hl1
    refine ⟨_, rfl, D, _, _, _, rfl, rfl, SqL.of (s78 _ _ eD), atI_nat (j := 1) rfl, fun p2 dx2 np2 ndx2 ne2 => ?_⟩
    have x2 : Same H8 (upd (upd H8 dx2 (.own p2)) p2 (.ins cL dx2 [])) := fun b q e => by rw [upd_ne (ne_of_none e np2), upd_ne (ne_of_none e ndx2)]; exact e
    have v28 := (v2.mono s78).mono x2
    refine ⟨p2, dx2, _, rfl, upd_same, v28.tm (by omega), fun a' d' ea cv' _ _ _ l2 H9 hl2 kp2 pq2 => ⟨rfl, ?_⟩, fun ng => (ng ⟨h2, u2, rfl, v28, by omega, by omega, n2⟩).elim⟩
    cases ea
    cases v28.inj cv'
    have s89 : Same H8 H9 := fun b q e => kp2 b q (x2 b q e) (ne_of_none e np2)
    have fl2 : H8 l2 = none := x2.free hl2
    have nl12 : l1 ≠ l2 := ne_of_none pq1.2.1 fl2
    have pq19 := pq1.mono s89
    refine ⟨by show 2 ≤ sizeLine; decide, fun ps hps => ?_⟩
    have y5 := same_new (o := HO.lst [V.ref p1, .ref p2]) hps
    have eps : upd H9 ps (.lst [V.ref p1, .ref p2]) ps = some (.lst [V.ref p1, .ref p2]) := upd_same
    show gName 5 _ _ _ _
    generalize upd H9 ps (.lst [V.ref p1, .ref p2]) = HA at y5 eps ⊢
    have s7A := s78.trans (s89.trans y5)
    have s0A := s07.trans s7A
    have pqA1 := pq19.mono y5
    have pqA2 := pq2.mono y5
    refine ⟨_, rfl, D, _, _, _, rfl, rfl, SqL.of (s7A _ _ eD), atI_nat (j := 0) rfl, .inl ⟨rfl, _, SqL.of (s7A _ _ eh1)⟩, h1, _, rfl, rfl, s7A _ _ eh1, ?_⟩
    dsimp only
    have fA : Fr [h1, h2] HA (upd HA h1 (.lst (u1.map fun c => V.ref c.1).reverse)) := fun b q e z => by rw [upd_ne (fun w => z (by rw [w]; exact List.mem_cons_self))]; exact e
    have sB : Same H (upd HA h1 (.lst (u1.map fun c => V.ref c.1).reverse)) := same_upd s0A (s06.free fh1)
    have eB1 : upd HA h1 (.lst (u1.map fun c => V.ref c.1).reverse) h1 = some (.lst (u1.map fun c => V.ref c.1).reverse) := upd_same
    have eB2 : upd HA h1 (.lst (u1.map fun c => V.ref c.1).reverse) h2 = some (.lst (u2.map fun c => V.ref c.1)) := by rw [upd_ne nh12.symm]; exact s7A _ _ eh2
    have nD1 : D ≠ h1 := fun z => pv.out (by rw [z]; exact List.mem_cons_self)
    have nD2 : D ≠ h2 := fun z => pv.out (by rw [z]; exact List.mem_cons_of_mem _ List.mem_cons_self)
    have eBD : upd HA h1 (.lst (u1.map fun c => V.ref c.1).reverse) D = some (.lst [.ref h1, .ref h2]) := by rw [upd_ne nD1]; exact s7A _ _ eD
    generalize upd HA h1 (.lst (u1.map fun c => V.ref c.1).reverse) = HB at fA sB eB1 eB2 eBD ⊢
    refine ⟨_, rfl, D, _, _, _, rfl, rfl, SqL.of eBD, atI_nat (j := 1) rfl, .inl ⟨rfl, _, SqL.of eB2⟩, h2, _, rfl, rfl, eB2, ?_⟩
    dsimp only
    have fB : Fr [h1, h2] HB (upd HB h2 (.lst [])) := fun b q e z => by rw [upd_ne (fun w => z (by rw [w]; exact List.mem_cons_of_mem _ List.mem_cons_self))]; exact e
    have sC : Same H (upd HB h2 (.lst [])) := same_upd sB (s06.free fh2)
    have eC1 : upd HB h2 (.lst []) h1 = some (.lst (u1.map fun c => V.ref c.1).reverse) := by rw [upd_ne nh12]; exact eB1
    have eC2 : upd HB h2 (.lst []) h2 = some (.lst []) := upd_same
    generalize upd HB h2 (.lst []) = HC at fB sC eC1 eC2 ⊢
    have fC := fA.trans fB
    refine ⟨by show 0 ≤ sizeLine; decide, fun hd hhd => ?_⟩
    have yD := same_new (o := HO.lst []) hhd
    have ehd : upd HC hd (.lst []) hd = some (.lst []) := upd_same
    show gName 6 _ _ _ _
    generalize upd HC hd (.lst []) = HD at yD ehd ⊢
    have LA : Lsts HA [h1, h2] := fun x hx => by
      rcases List.mem_cons.mp hx with rfl | hx
      · exact ⟨_, s7A _ _ eh1⟩
      · rw [List.mem_singleton.mp hx]; exact ⟨_, s7A _ _ eh2⟩
    have n6 : ∀ {q : Addr} {u : HO}, H6 q = some u → q ∉ [h1, h2] := fun e z => by
      rcases List.mem_cons.mp z with rfl | z
      · rw [fh1] at e; cases e
      · rw [List.mem_singleton.mp z, fh2] at e; cases e
    have n7 : ∀ {q : Addr}, H7 q = none → q ∉ [h1, h2] := fun e z => by
      rcases List.mem_cons.mp z with rfl | z
      · rw [eh1] at e; cases e
      · rw [List.mem_singleton.mp z, eh2] at e; cases e
    have fhC : ∀ {q : Addr} {u : HO}, HC q = some u → q ≠ hd := fun e => ne_of_none e hhd
    have s6A := s7.trans s7A
    have fl2' : H7 l2 = none := s78.free fl2
    have fps : H9 ps = none := hps
    have fps7 : H7 ps = none := (s78.trans s89).free hps
    have q1 := (fC.cols LA (c1.mono s6A) (n6 c1.1))
    have q2 := (fC.cols LA (c2.mono s6A) (n6 c2.1))
    have q3 := (fC.cols LA (cp6.mono s6A) (n6 cp6.1))
    have q4 := fC.pal LA pqA1 (n7 fl1)
    have q5 := fC.pal LA pqA2 (n7 fl2')
    have q6 := fC _ _ (s6A _ _ eos) (n6 eos)
    have q7 := fC _ _ eps (n7 fps7)
    have a6 : ∀ {q r : Addr} {u : HO}, H6 q = some u → H7 r = none → q ≠ r := fun e h => ne_of_none (s7 _ _ e) h
    refine k8 pl os ps hd (fun b => cond b o2 o1) (fun b => cond b p2 p1) (fun b => cond b l2 l1) ds (fun b => cond b u2 u1) _ _ HD
      { sm := sC.trans yD, fo := fun i => ?_, fl := fun i => ?_, fh := sC.free hhd, pool := q3.mono yD, d1 := d1, d2 := d2, own := fun i => ?_, pal := fun i => ?_, b1 := fun i => ?_, b2 := fun i => ?_, eos := yD _ _ q6, eps := yD _ _ q7, ehd := ehd, prs := fun t ht => (nomatch ht), oo := fun i j h => ?_, ll := fun i j h => ?_, ol := fun i j => ?_, oh := fun i => ?_, lh := fun i => ?_, po := fun i => ?_, ph := fhC q3.1, so := fun i => ?_, sh := fhC q6, qo := fun i => ?_, qh := fhC q7 }
    · cases i
      · exact fo1
      · exact fo2
    · cases i
      · exact s07.free fl1
      · exact s07.free fl2'
    · cases i
      · exact q1.mono yD
      · exact q2.mono yD
    · cases i
      · exact q4.mono yD
      · exact q5.mono yD
    · cases i
      · show 1 ≤ u1.length; omega
      · show 1 ≤ u2.length; omega
    · cases i
      · show u1.length ≤ 16; omega
      · show u2.length ≤ 16; omega
    · cases i <;> cases j
      · exact absurd rfl h
      · exact n12
      · exact n12.symm
      · exact absurd rfl h
    · cases i <;> cases j
      · exact absurd rfl h
      · exact nl12
      · exact nl12.symm
      · exact absurd rfl h
    · cases i <;> cases j
      · exact a6 c1.1 fl1
      · exact a6 c1.1 fl2'
      · exact a6 c2.1 fl1
      · exact a6 c2.1 fl2'
    · cases i
      · exact fhC q1.1
      · exact fhC q2.1
    · cases i
      · exact fhC q4.2.1
      · exact fhC q5.2.1
    · cases i
      · exact ⟨npo1, a6 cp6.1 fl1⟩
      · exact ⟨npo2, a6 cp6.1 fl2'⟩
    · cases i
      · exact ⟨nso1, a6 eos fl1⟩
      · exact ⟨nso2, a6 eos fl2'⟩
    · cases i
      · exact ⟨(a6 c1.1 fps7).symm, (ne_of_none pq19.2.1 fps).symm⟩
      · exact ⟨(a6 c2.1 fps7).symm, (ne_of_none pq2.2.1 fps).symm⟩
end
end K16
set_option Elab.async false
set_option linter.all false
set_option maxRecDepth 100000
namespace L2
open PySem PySem.Spec PyProof.Rows
section
variable {P : Program} {w : World} {K : PySem.W.Frag} {mg : Str → Option Value} {base : Heap} {C : Addr}
theorem FunD.metD {x qual : Str} {st : Stmt} {f : Addr} {fd : FuncData} {ps : List Str} {k : Nat} {sp : Sp} (F : FunD K x qual st .none f fd) (G : FnOk P w K mg base CX0 k f fd ps sp) (hm : Meth K C x f)
    (h : ∀ (kV doc pm : Value) (an : Option Addr) (cdv ct : Value) (us : List Value), us.length = ps.length → bindArgs (PySem.W.fnOf x qual (defArgs st) (defBody st) (defScope st) .none kV doc pm an cdv ct) ⟨us, []⟩ = pure (ps.zip us)) : MetD P w K mg base C k x ps sp := by
  obtain ⟨oc, od, kV, doc, pm, an, cdv, ct, osl, rfl, lk, hcd⟩ := F.ex
  exact ⟨f, _, G, hm, .all (h kV doc pm an cdv ct)⟩
theorem FunD.metX {x qual : Str} {st : Stmt} {f : Addr} {fd : FuncData} {ps : List Str} {k : Nat} {sp : Sp} (F : FunD K x qual st .none f fd) (G : FnOk P w K mg base (CX1 P w) k f fd ps sp) (hm : Meth K C x f)
    (h : ∀ (kV doc pm : Value) (an : Option Addr) (cdv ct : Value) (us : List Value), us.length = ps.length → bindArgs (PySem.W.fnOf x qual (defArgs st) (defBody st) (defScope st) .none kV doc pm an cdv ct) ⟨us, []⟩ = pure (ps.zip us)) : MetX P w K mg base C k x ps sp := by
  obtain ⟨oc, od, kV, doc, pm, an, cdv, ct, osl, rfl, lk, hcd⟩ := F.ex
  exact ⟨f, _, G, hm, .all (h kV doc pm an cdv ct)⟩
theorem FunD.makX {x y qual : Str} {st : Stmt} {f : Addr} {fd : FuncData} {ps : List Str} {k : Nat} {sp : Sp} (F : FunD K x qual st .none f fd) (G : FnOk P w K mg base (CX1 P w) k f fd ps sp) (M : Mk K C f) (hm : mg y = some (.ref C))
    (h : ∀ (kV doc pm : Value) (an : Option Addr) (cdv ct : Value) (us : List Value), us.length = ps.length → bindArgs (PySem.W.fnOf x qual (defArgs st) (defBody st) (defScope st) .none kV doc pm an cdv ct) ⟨us, []⟩ = pure (ps.zip us)) : MakX P w K mg base C k y ps sp := by
  obtain ⟨oc, od, kV, doc, pm, an, cdv, ct, osl, rfl, lk, hcd⟩ := F.ex
  exact ⟨f, _, G, M, hm, .all (h kV doc pm an cdv ct)⟩
end
end L2
set_option Elab.async false
set_option linter.all false
set_option maxRecDepth 100000
set_option maxHeartbeats 8000000
namespace K16
open PySem L2
theorem all_mk {l : PySem.W.OpenLaw} {w : World} {K : PySem.W.Frag} {h : Heap} {mg : Str → Option Value} {fa : Addr} (X : K.In h) (G : h.Ns mainGlobals mg) (hfa : mg "law" = some (.ref fa))
    {f1 f2 f3 f4 f5 f6 f7 f8 f9 f10 f11 f12 f13 f14 f15 f16 f17 f18 f19 f20 f21 f22 f23 f24 f25 f26 f27 f28 f29 cFE cL cBadCell cC cBadPack cP cBadPicture cBadSize cN cM cBadRuns cBadCheck cBadDeed cBadEdge cBadHead cBadMask cBadName cBadPart cBadRule cBadText cNoPart cNoPicture cNothingDone cOutOfPlace cTwice : Addr} {tP tS : Tok} {od1 an1 od2 an2 od3 an3 od4 an4 od5 an5 od6 an6 od7 an7 od8 an8 od9 an9 od10 an10 od11 an11 od12 an12 od13 an13 od14 an14 od15 an15 od16 an16 od17 an17 od18 an18 od19 an19 od20 an20 od21 an21 od22 an22 od23 an23 od24 an24 od25 an25 od26 an26 od27 an27 od28 an28 od29 an29 : Option Addr} {sl1 sl2 sl3 sl4 sl5 sl6 sl7 sl8 sl9 sl10 sl11 sl12 sl13 sl14 sl15 sl16 sl17 sl18 sl19 sl20 sl21 sl22 sl23 sl24 sl25 sl26 sl27 sl28 sl29 : Array (Option Value)} {oc1 kV1 dc1 pm1 cd1 ct1 oc2 kV2 dc2 pm2 cd2 ct2 oc3 kV3 dc3 pm3 cd3 ct3 oc4 kV4 dc4 pm4 cd4 ct4 oc5 kV5 dc5 pm5 cd5 ct5 oc6 kV6 dc6 pm6 cd6 ct6 oc7 kV7 dc7 pm7 cd7 ct7 oc8 kV8 dc8 pm8 cd8 ct8 oc9 kV9 dc9 pm9 cd9 ct9 oc10 kV10 dc10 pm10 cd10 ct10 oc11 kV11 dc11 pm11 cd11 ct11 oc12 kV12 dc12 pm12 cd12 ct12 oc13 kV13 dc13 pm13 cd13 ct13 oc14 kV14 dc14 pm14 cd14 ct14 oc15 kV15 dc15 pm15 cd15 ct15 oc16 kV16 dc16 pm16 cd16 ct16 oc17 kV17 dc17 pm17 cd17 ct17 oc18 kV18 dc18 pm18 cd18 ct18 oc19 kV19 dc19 pm19 cd19 ct19 oc20 kV20 dc20 pm20 cd20 ct20 oc21 kV21 dc21 pm21 cd21 ct21 oc22 kV22 dc22 pm22 cd22 ct22 oc23 kV23 dc23 pm23 cd23 ct23 oc24 kV24 dc24 pm24 cd24 ct24 oc25 kV25 dc25 pm25 cd25 ct25 oc26 kV26 dc26 pm26 cd26 ct26 oc27 kV27 dc27 pm27 cd27 ct27 oc28 kV28 dc28 pm28 cd28 ct28 oc29 kV29 dc29 pm29 cd29 ct29 : Value}
    (a1 : PySem.W.nsIn K mainGlobals "is_whole_from" = some (some (.ref f1))) (l1 : K.lookup f1 = some ⟨oc1, od1, .func (PySem.W.fnOf "is_whole_from" "is_whole_from" (defArgs s_is_whole_from) (defBody s_is_whole_from) (defScope s_is_whole_from) .none kV1 dc1 pm1 an1 cd1 ct1), sl1⟩) (c1 : PySem.W.codeIn K cd1 "is_whole_from" = true) (k1 : PySem.W.keepIn K (.ref f1) = true)
    (a2 : PySem.W.nsIn K mainGlobals "is_whole_within" = some (some (.ref f2))) (l2 : K.lookup f2 = some ⟨oc2, od2, .func (PySem.W.fnOf "is_whole_within" "is_whole_within" (defArgs s_is_whole_within) (defBody s_is_whole_within) (defScope s_is_whole_within) .none kV2 dc2 pm2 an2 cd2 ct2), sl2⟩) (c2 : PySem.W.codeIn K cd2 "is_whole_within" = true) (k2 : PySem.W.keepIn K (.ref f2) = true)
    (a3 : PySem.W.nsIn K mainGlobals "is_colour" = some (some (.ref f3))) (l3 : K.lookup f3 = some ⟨oc3, od3, .func (PySem.W.fnOf "is_colour" "is_colour" (defArgs s_is_colour) (defBody s_is_colour) (defScope s_is_colour) .none kV3 dc3 pm3 an3 cd3 ct3), sl3⟩) (c3 : PySem.W.codeIn K cd3 "is_colour" = true) (k3 : PySem.W.keepIn K (.ref f3) = true)
    (a4 : PySem.W.nsIn K mainGlobals "need_colour" = some (some (.ref f4))) (l4 : K.lookup f4 = some ⟨oc4, od4, .func (PySem.W.fnOf "need_colour" "need_colour" (defArgs s_need_colour) (defBody s_need_colour) (defScope s_need_colour) .none kV4 dc4 pm4 an4 cd4 ct4), sl4⟩) (c4 : PySem.W.codeIn K cd4 "need_colour" = true) (k4 : PySem.W.keepIn K (.ref f4) = true)
    (a5 : PySem.W.nsIn K mainGlobals "apart" = some (some (.ref f5))) (l5 : K.lookup f5 = some ⟨oc5, od5, .func (PySem.W.fnOf "apart" "apart" (defArgs s_apart) (defBody s_apart) (defScope s_apart) .none kV5 dc5 pm5 an5 cd5 ct5), sl5⟩) (c5 : PySem.W.codeIn K cd5 "apart" = true) (k5 : PySem.W.keepIn K (.ref f5) = true)
    (a6 : PySem.W.nsIn K mainGlobals "is_list_of" = some (some (.ref f6))) (l6 : K.lookup f6 = some ⟨oc6, od6, .func (PySem.W.fnOf "is_list_of" "is_list_of" (defArgs s_is_list_of) (defBody s_is_list_of) (defScope s_is_list_of) .none kV6 dc6 pm6 an6 cd6 ct6), sl6⟩) (c6 : PySem.W.codeIn K cd6 "is_list_of" = true) (k6 : PySem.W.keepIn K (.ref f6) = true)
    (a7 : PySem.W.findIn K (.ref cL) "__init__" = some (some (.ref f7))) (i7 : PySem.W.isFn K (.ref f7) = true) (l7 : K.lookup f7 = some ⟨oc7, od7, .func (PySem.W.fnOf "__init__" "Palette.__init__" (defArgs s_Palette.__init__) (defBody s_Palette.__init__) (defScope s_Palette.__init__) .none kV7 dc7 pm7 an7 cd7 ct7), sl7⟩) (c7 : PySem.W.codeIn K cd7 "Palette.__init__" = true) (k7 : PySem.W.keepIn K (.ref f7) = true)
    (a8 : PySem.W.findIn K (.ref cL) "colours" = some (some (.ref f8))) (i8 : PySem.W.isFn K (.ref f8) = true) (l8 : K.lookup f8 = some ⟨oc8, od8, .func (PySem.W.fnOf "colours" "Palette.colours" (defArgs s_Palette.colours) (defBody s_Palette.colours) (defScope s_Palette.colours) .none kV8 dc8 pm8 an8 cd8 ct8), sl8⟩) (c8 : PySem.W.codeIn K cd8 "Palette.colours" = true) (k8 : PySem.W.keepIn K (.ref f8) = true)
    (a9 : PySem.W.findIn K (.ref cL) "many" = some (some (.ref f9))) (i9 : PySem.W.isFn K (.ref f9) = true) (l9 : K.lookup f9 = some ⟨oc9, od9, .func (PySem.W.fnOf "many" "Palette.many" (defArgs s_Palette.many) (defBody s_Palette.many) (defScope s_Palette.many) .none kV9 dc9 pm9 an9 cd9 ct9), sl9⟩) (c9 : PySem.W.codeIn K cd9 "Palette.many" = true) (k9 : PySem.W.keepIn K (.ref f9) = true)
    (a10 : PySem.W.findIn K (.ref cL) "colour_of" = some (some (.ref f10))) (i10 : PySem.W.isFn K (.ref f10) = true) (l10 : K.lookup f10 = some ⟨oc10, od10, .func (PySem.W.fnOf "colour_of" "Palette.colour_of" (defArgs s_Palette.colour_of) (defBody s_Palette.colour_of) (defScope s_Palette.colour_of) .none kV10 dc10 pm10 an10 cd10 ct10), sl10⟩) (c10 : PySem.W.codeIn K cd10 "Palette.colour_of" = true) (k10 : PySem.W.keepIn K (.ref f10) = true)
    (a11 : PySem.W.findIn K (.ref cL) "cell_of" = some (some (.ref f11))) (i11 : PySem.W.isFn K (.ref f11) = true) (l11 : K.lookup f11 = some ⟨oc11, od11, .func (PySem.W.fnOf "cell_of" "Palette.cell_of" (defArgs s_Palette.cell_of) (defBody s_Palette.cell_of) (defScope s_Palette.cell_of) .none kV11 dc11 pm11 an11 cd11 ct11), sl11⟩) (c11 : PySem.W.codeIn K cd11 "Palette.cell_of" = true) (k11 : PySem.W.keepIn K (.ref f11) = true)
    (a12 : PySem.W.findIn K (.ref cL) "add_colour" = some (some (.ref f12))) (i12 : PySem.W.isFn K (.ref f12) = true) (l12 : K.lookup f12 = some ⟨oc12, od12, .func (PySem.W.fnOf "add_colour" "Palette.add_colour" (defArgs s_Palette.add_colour) (defBody s_Palette.add_colour) (defScope s_Palette.add_colour) .none kV12 dc12 pm12 an12 cd12 ct12), sl12⟩) (c12 : PySem.W.codeIn K cd12 "Palette.add_colour" = true) (k12 : PySem.W.keepIn K (.ref f12) = true)
    (a13 : PySem.W.findIn K (.ref cL) "nearest_cell" = some (some (.ref f13))) (i13 : PySem.W.isFn K (.ref f13) = true) (l13 : K.lookup f13 = some ⟨oc13, od13, .func (PySem.W.fnOf "nearest_cell" "Palette.nearest_cell" (defArgs s_Palette.nearest_cell) (defBody s_Palette.nearest_cell) (defScope s_Palette.nearest_cell) .none kV13 dc13 pm13 an13 cd13 ct13), sl13⟩) (c13 : PySem.W.codeIn K cd13 "Palette.nearest_cell" = true) (k13 : PySem.W.keepIn K (.ref f13) = true)
    (a14 : PySem.W.nsIn K mainGlobals "_law_draw" = some (some (.ref f14))) (l14 : K.lookup f14 = some ⟨oc14, od14, .func (PySem.W.fnOf "_law_draw" "_law_draw" (defArgs s_law_draw) (defBody s_law_draw) (defScope s_law_draw) .none kV14 dc14 pm14 an14 cd14 ct14), sl14⟩) (c14 : PySem.W.codeIn K cd14 "_law_draw" = true) (k14 : PySem.W.keepIn K (.ref f14) = true)
    (a15 : PySem.W.nsIn K mainGlobals "_law_whole" = some (some (.ref f15))) (l15 : K.lookup f15 = some ⟨oc15, od15, .func (PySem.W.fnOf "_law_whole" "_law_whole" (defArgs s_law_whole) (defBody s_law_whole) (defScope s_law_whole) .none kV15 dc15 pm15 an15 cd15 ct15), sl15⟩) (c15 : PySem.W.codeIn K cd15 "_law_whole" = true) (k15 : PySem.W.keepIn K (.ref f15) = true)
    (a16 : PySem.W.nsIn K mainGlobals "_law_word" = some (some (.ref f16))) (l16 : K.lookup f16 = some ⟨oc16, od16, .func (PySem.W.fnOf "_law_word" "_law_word" (defArgs s_law_word) (defBody s_law_word) (defScope s_law_word) .none kV16 dc16 pm16 an16 cd16 ct16), sl16⟩) (c16 : PySem.W.codeIn K cd16 "_law_word" = true) (k16 : PySem.W.keepIn K (.ref f16) = true)
    (a17 : PySem.W.nsIn K mainGlobals "_law_colour" = some (some (.ref f17))) (l17 : K.lookup f17 = some ⟨oc17, od17, .func (PySem.W.fnOf "_law_colour" "_law_colour" (defArgs s_law_colour) (defBody s_law_colour) (defScope s_law_colour) .none kV17 dc17 pm17 an17 cd17 ct17), sl17⟩) (c17 : PySem.W.codeIn K cd17 "_law_colour" = true) (k17 : PySem.W.keepIn K (.ref f17) = true)
    (a18 : PySem.W.nsIn K mainGlobals "_law_apart" = some (some (.ref f18))) (l18 : K.lookup f18 = some ⟨oc18, od18, .func (PySem.W.fnOf "_law_apart" "_law_apart" (defArgs s_law_apart) (defBody s_law_apart) (defScope s_law_apart) .none kV18 dc18 pm18 an18 cd18 ct18), sl18⟩) (c18 : PySem.W.codeIn K cd18 "_law_apart" = true) (k18 : PySem.W.keepIn K (.ref f18) = true)
    (a19 : PySem.W.nsIn K mainGlobals "_law_odd" = some (some (.ref f19))) (l19 : K.lookup f19 = some ⟨oc19, od19, .func (PySem.W.fnOf "_law_odd" "_law_odd" (defArgs s_law_odd) (defBody s_law_odd) (defScope s_law_odd) .none kV19 dc19 pm19 an19 cd19 ct19), sl19⟩) (c19 : PySem.W.codeIn K cd19 "_law_odd" = true) (k19 : PySem.W.keepIn K (.ref f19) = true)
    (a20 : PySem.W.nsIn K mainGlobals "_law_pool" = some (some (.ref f20))) (l20 : K.lookup f20 = some ⟨oc20, od20, .func (PySem.W.fnOf "_law_pool" "_law_pool" (defArgs s_law_pool) (defBody s_law_pool) (defScope s_law_pool) .none kV20 dc20 pm20 an20 cd20 ct20), sl20⟩) (c20 : PySem.W.codeIn K cd20 "_law_pool" = true) (k20 : PySem.W.keepIn K (.ref f20) = true)
    (a21 : PySem.W.nsIn K mainGlobals "_law_nearest" = some (some (.ref f21))) (l21 : K.lookup f21 = some ⟨oc21, od21, .func (PySem.W.fnOf "_law_nearest" "_law_nearest" (defArgs s_law_nearest) (defBody s_law_nearest) (defScope s_law_nearest) .none kV21 dc21 pm21 an21 cd21 ct21), sl21⟩) (c21 : PySem.W.codeIn K cd21 "_law_nearest" = true) (k21 : PySem.W.keepIn K (.ref f21) = true)
    (a22 : PySem.W.nsIn K mainGlobals "_law_asked" = some (some (.ref f22))) (l22 : K.lookup f22 = some ⟨oc22, od22, .func (PySem.W.fnOf "_law_asked" "_law_asked" (defArgs s_law_asked) (defBody s_law_asked) (defScope s_law_asked) .none kV22 dc22 pm22 an22 cd22 ct22), sl22⟩) (c22 : PySem.W.codeIn K cd22 "_law_asked" = true) (k22 : PySem.W.keepIn K (.ref f22) = true)
    (a23 : PySem.W.nsIn K mainGlobals "_law_is" = some (some (.ref f23))) (l23 : K.lookup f23 = some ⟨oc23, od23, .func (PySem.W.fnOf "_law_is" "_law_is" (defArgs s_law_is) (defBody s_law_is) (defScope s_law_is) .none kV23 dc23 pm23 an23 cd23 ct23), sl23⟩) (c23 : PySem.W.codeIn K cd23 "_law_is" = true) (k23 : PySem.W.keepIn K (.ref f23) = true)
    (a24 : PySem.W.nsIn K mainGlobals "_law_colours_good" = some (some (.ref f24))) (l24 : K.lookup f24 = some ⟨oc24, od24, .func (PySem.W.fnOf "_law_colours_good" "_law_colours_good" (defArgs s_law_colours_good) (defBody s_law_colours_good) (defScope s_law_colours_good) .none kV24 dc24 pm24 an24 cd24 ct24), sl24⟩) (c24 : PySem.W.codeIn K cd24 "_law_colours_good" = true) (k24 : PySem.W.keepIn K (.ref f24) = true)
    (a25 : PySem.W.nsIn K mainGlobals "_law_one_good" = some (some (.ref f25))) (l25 : K.lookup f25 = some ⟨oc25, od25, .func (PySem.W.fnOf "_law_one_good" "_law_one_good" (defArgs s_law_one_good) (defBody s_law_one_good) (defScope s_law_one_good) .none kV25 dc25 pm25 an25 cd25 ct25), sl25⟩) (c25 : PySem.W.codeIn K cd25 "_law_one_good" = true) (k25 : PySem.W.keepIn K (.ref f25) = true)
    (a26 : PySem.W.nsIn K mainGlobals "_law_stands" = some (some (.ref f26))) (l26 : K.lookup f26 = some ⟨oc26, od26, .func (PySem.W.fnOf "_law_stands" "_law_stands" (defArgs s_law_stands) (defBody s_law_stands) (defScope s_law_stands) .none kV26 dc26 pm26 an26 cd26 ct26), sl26⟩) (c26 : PySem.W.codeIn K cd26 "_law_stands" = true) (k26 : PySem.W.keepIn K (.ref f26) = true)
    (a27 : PySem.W.nsIn K mainGlobals "_law_given" = some (some (.ref f27))) (l27 : K.lookup f27 = some ⟨oc27, od27, .func (PySem.W.fnOf "_law_given" "_law_given" (defArgs s_law_given) (defBody s_law_given) (defScope s_law_given) .none kV27 dc27 pm27 an27 cd27 ct27), sl27⟩) (c27 : PySem.W.codeIn K cd27 "_law_given" = true) (k27 : PySem.W.keepIn K (.ref f27) = true)
    (a28 : PySem.W.nsIn K mainGlobals "_law_no_palette" = some (some (.ref f28))) (l28 : K.lookup f28 = some ⟨oc28, od28, .func (PySem.W.fnOf "_law_no_palette" "_law_no_palette" (defArgs s_law_no_palette) (defBody s_law_no_palette) (defScope s_law_no_palette) .none kV28 dc28 pm28 an28 cd28 ct28), sl28⟩) (c28 : PySem.W.codeIn K cd28 "_law_no_palette" = true) (k28 : PySem.W.keepIn K (.ref f28) = true)
    (a29 : PySem.W.nsIn K mainGlobals "law" = some (some (.ref f29))) (l29 : K.lookup f29 = some ⟨oc29, od29, .func (PySem.W.fnOf "law" "law" (defArgs s_law) (defBody s_law) (defScope s_law) .none kV29 dc29 pm29 an29 cd29 ct29), sl29⟩) (c29 : PySem.W.codeIn K cd29 "law" = true) (k29 : PySem.W.keepIn K (.ref f29) = true)
    (z1 : PySem.W.nsIn K mainGlobals "len" = some none)
    (z2 : PySem.W.nsIn K mainGlobals "range" = some none)
    (z3 : PySem.W.nsIn K mainGlobals "isinstance" = some none)
    (z4 : PySem.W.nsIn K mainGlobals "int" = some none)
    (z5 : PySem.W.nsIn K mainGlobals "bool" = some none)
    (z6 : PySem.W.nsIn K mainGlobals "list" = some none)
    (z7 : PySem.W.nsIn K mainGlobals "all" = some none)
    (z8 : PySem.W.nsIn K mainGlobals "enumerate" = some none)
    (z9 : PySem.W.nsIn K mainGlobals "min" = some none)
    (z10 : PySem.W.nsIn K mainGlobals "sum" = some none)
    (z11 : PySem.W.nsIn K mainGlobals "tuple" = some none)
    (z12 : PySem.W.nsIn K mainGlobals "set" = some none)
    (z13 : PySem.W.nsIn K mainGlobals "ValueError" = some none)
    (y1 : PySem.W.nsIn K mainGlobals "MOST_PART" = some (some (.int 255 tP)))
    (y2 : PySem.W.nsIn K mainGlobals "MOST_COLOURS" = some (some (.int 16 tS)))
    (x1 : PySem.W.nsIn K mainGlobals "FolioError" = some (some (.ref cFE)))
    (x2 : PySem.W.nsIn K mainGlobals "Palette" = some (some (.ref cL)))
    (x3 : PySem.W.nsIn K mainGlobals "BadCell" = some (some (.ref cBadCell)))
    (x4 : PySem.W.nsIn K mainGlobals "BadColour" = some (some (.ref cC)))
    (x5 : PySem.W.nsIn K mainGlobals "BadPack" = some (some (.ref cBadPack)))
    (x6 : PySem.W.nsIn K mainGlobals "BadPalette" = some (some (.ref cP)))
    (x7 : PySem.W.nsIn K mainGlobals "BadPicture" = some (some (.ref cBadPicture)))
    (x8 : PySem.W.nsIn K mainGlobals "BadSize" = some (some (.ref cBadSize)))
    (x9 : PySem.W.nsIn K mainGlobals "NoColour" = some (some (.ref cN)))
    (x10 : PySem.W.nsIn K mainGlobals "TooMany" = some (some (.ref cM)))
    (x11 : PySem.W.nsIn K mainGlobals "BadRuns" = some (some (.ref cBadRuns)))
    (x12 : PySem.W.nsIn K mainGlobals "BadCheck" = some (some (.ref cBadCheck)))
    (x13 : PySem.W.nsIn K mainGlobals "BadDeed" = some (some (.ref cBadDeed)))
    (x14 : PySem.W.nsIn K mainGlobals "BadEdge" = some (some (.ref cBadEdge)))
    (x15 : PySem.W.nsIn K mainGlobals "BadHead" = some (some (.ref cBadHead)))
    (x16 : PySem.W.nsIn K mainGlobals "BadMask" = some (some (.ref cBadMask)))
    (x17 : PySem.W.nsIn K mainGlobals "BadName" = some (some (.ref cBadName)))
    (x18 : PySem.W.nsIn K mainGlobals "BadPart" = some (some (.ref cBadPart)))
    (x19 : PySem.W.nsIn K mainGlobals "BadRule" = some (some (.ref cBadRule)))
    (x20 : PySem.W.nsIn K mainGlobals "BadText" = some (some (.ref cBadText)))
    (x21 : PySem.W.nsIn K mainGlobals "NoPart" = some (some (.ref cNoPart)))
    (x22 : PySem.W.nsIn K mainGlobals "NoPicture" = some (some (.ref cNoPicture)))
    (x23 : PySem.W.nsIn K mainGlobals "NothingDone" = some (some (.ref cNothingDone)))
    (x24 : PySem.W.nsIn K mainGlobals "OutOfPlace" = some (some (.ref cOutOfPlace)))
    (x25 : PySem.W.nsIn K mainGlobals "Twice" = some (some (.ref cTwice)))
    (q1 : PySem.W.plainGet K cL Str.empty = true)
    (q2 : PySem.W.hasDictIn K cL = true)
    (q3 : PySem.W.plainOver K cL = true)
    (q4 : PySem.W.findIn K (.ref cL) "__setattr__" = some (some (.builtin "object.__setattr__")))
    (q5 : PySem.W.findIn K (.ref cL) "kept" = some none)
    (q6 : PySem.W.makesIn K cL = true)
    (q7 : PySem.W.keepIn K (.ref cL) = true)
    (q8 : PySem.W.subIn K (.ref cFE) (.type "BaseException") = some true)
    (q9 : PySem.W.isClsIn K cFE = true)
    (q10 : PySem.W.typeIn K (.ref cFE) = some (.type "type"))
    (q11 : PySem.W.excIn K cC mroVE "ValueError.__new__" = true)
    (q12 : PySem.W.findIn K (.ref cC) "__getattribute__" = some (some (.builtin "BaseException.__getattribute__")))
    (q13 : PySem.W.findIn K (.ref cC) "__getattr__" = some none)
    (q14 : PySem.W.findIn K (.ref cC) "__class__" = some (some (.builtin "object.__class__")))
    (q15 : PySem.W.mroIn K cC (.type "BaseException") = some true)
    (q16 : PySem.W.mroIn K cC (.type "object") = some true)
    (q17 : PySem.W.isClsIn K cC = true)
    (q18 : PySem.W.subIn K (.ref cC) (.ref cFE) = some true)
    (q19 : PySem.W.excIn K cN mroVE "ValueError.__new__" = true)
    (q20 : PySem.W.findIn K (.ref cN) "__getattribute__" = some (some (.builtin "BaseException.__getattribute__")))
    (q21 : PySem.W.findIn K (.ref cN) "__getattr__" = some none)
    (q22 : PySem.W.findIn K (.ref cN) "__class__" = some (some (.builtin "object.__class__")))
    (q23 : PySem.W.mroIn K cN (.type "BaseException") = some true)
    (q24 : PySem.W.mroIn K cN (.type "object") = some true)
    (q25 : PySem.W.isClsIn K cN = true)
    (q26 : PySem.W.subIn K (.ref cN) (.ref cFE) = some true)
    (q27 : PySem.W.excIn K cM mroVE "ValueError.__new__" = true)
    (q28 : PySem.W.findIn K (.ref cM) "__getattribute__" = some (some (.builtin "BaseException.__getattribute__")))
    (q29 : PySem.W.findIn K (.ref cM) "__getattr__" = some none)
    (q30 : PySem.W.findIn K (.ref cM) "__class__" = some (some (.builtin "object.__class__")))
    (q31 : PySem.W.mroIn K cM (.type "BaseException") = some true)
    (q32 : PySem.W.mroIn K cM (.type "object") = some true)
    (q33 : PySem.W.isClsIn K cM = true)
    (q34 : PySem.W.subIn K (.ref cM) (.ref cFE) = some true)
    (q35 : PySem.W.excIn K cP mroVE "ValueError.__new__" = true)
    (q36 : PySem.W.findIn K (.ref cP) "__getattribute__" = some (some (.builtin "BaseException.__getattribute__")))
    (q37 : PySem.W.findIn K (.ref cP) "__getattr__" = some none)
    (q38 : PySem.W.findIn K (.ref cP) "__class__" = some (some (.builtin "object.__class__")))
    (q39 : PySem.W.mroIn K cP (.type "BaseException") = some true)
    (q40 : PySem.W.mroIn K cP (.type "object") = some true)
    (q41 : PySem.W.isClsIn K cP = true)
    (q42 : PySem.W.subIn K (.ref cP) (.ref cFE) = some true)
    (q43 : PySem.W.kitOne K (.ref cC) (.type "ValueError") = some true)
    (q44 : PySem.W.kitOne K (.ref cC) (.ref cBadCell) = some false)
    (q45 : PySem.W.kitOne K (.ref cC) (.ref cC) = some true)
    (q46 : PySem.W.kitOne K (.ref cC) (.ref cBadPack) = some false)
    (q47 : PySem.W.kitOne K (.ref cC) (.ref cP) = some false)
    (q48 : PySem.W.kitOne K (.ref cC) (.ref cBadPicture) = some false)
    (q49 : PySem.W.kitOne K (.ref cC) (.ref cBadSize) = some false)
    (q50 : PySem.W.kitOne K (.ref cC) (.ref cN) = some false)
    (q51 : PySem.W.kitOne K (.ref cC) (.ref cM) = some false)
    (q52 : PySem.W.kitOne K (.ref cC) (.ref cBadRuns) = some false)
    (q53 : PySem.W.kitOne K (.ref cC) (.ref cBadCheck) = some false)
    (q54 : PySem.W.kitOne K (.ref cC) (.ref cBadDeed) = some false)
    (q55 : PySem.W.kitOne K (.ref cC) (.ref cBadEdge) = some false)
    (q56 : PySem.W.kitOne K (.ref cC) (.ref cBadHead) = some false)
    (q57 : PySem.W.kitOne K (.ref cC) (.ref cBadMask) = some false)
    (q58 : PySem.W.kitOne K (.ref cC) (.ref cBadName) = some false)
    (q59 : PySem.W.kitOne K (.ref cC) (.ref cBadPart) = some false)
    (q60 : PySem.W.kitOne K (.ref cC) (.ref cBadRule) = some false)
    (q61 : PySem.W.kitOne K (.ref cC) (.ref cBadText) = some false)
    (q62 : PySem.W.kitOne K (.ref cC) (.ref cNoPart) = some false)
    (q63 : PySem.W.kitOne K (.ref cC) (.ref cNoPicture) = some false)
    (q64 : PySem.W.kitOne K (.ref cC) (.ref cNothingDone) = some false)
    (q65 : PySem.W.kitOne K (.ref cC) (.ref cOutOfPlace) = some false)
    (q66 : PySem.W.kitOne K (.ref cC) (.ref cTwice) = some false)
    (q67 : PySem.W.kitOne K (.ref cN) (.type "ValueError") = some true)
    (q68 : PySem.W.kitOne K (.ref cN) (.ref cBadCell) = some false)
    (q69 : PySem.W.kitOne K (.ref cN) (.ref cC) = some false)
    (q70 : PySem.W.kitOne K (.ref cN) (.ref cBadPack) = some false)
    (q71 : PySem.W.kitOne K (.ref cN) (.ref cP) = some false)
    (q72 : PySem.W.kitOne K (.ref cN) (.ref cBadPicture) = some false)
    (q73 : PySem.W.kitOne K (.ref cN) (.ref cBadSize) = some false)
    (q74 : PySem.W.kitOne K (.ref cN) (.ref cN) = some true)
    (q75 : PySem.W.kitOne K (.ref cN) (.ref cM) = some false)
    (q76 : PySem.W.kitOne K (.ref cN) (.ref cBadRuns) = some false)
    (q77 : PySem.W.kitOne K (.ref cN) (.ref cBadCheck) = some false)
    (q78 : PySem.W.kitOne K (.ref cN) (.ref cBadDeed) = some false)
    (q79 : PySem.W.kitOne K (.ref cN) (.ref cBadEdge) = some false)
    (q80 : PySem.W.kitOne K (.ref cN) (.ref cBadHead) = some false)
    (q81 : PySem.W.kitOne K (.ref cN) (.ref cBadMask) = some false)
    (q82 : PySem.W.kitOne K (.ref cN) (.ref cBadName) = some false)
    (q83 : PySem.W.kitOne K (.ref cN) (.ref cBadPart) = some false)
    (q84 : PySem.W.kitOne K (.ref cN) (.ref cBadRule) = some false)
    (q85 : PySem.W.kitOne K (.ref cN) (.ref cBadText) = some false)
    (q86 : PySem.W.kitOne K (.ref cN) (.ref cNoPart) = some false)
    (q87 : PySem.W.kitOne K (.ref cN) (.ref cNoPicture) = some false)
    (q88 : PySem.W.kitOne K (.ref cN) (.ref cNothingDone) = some false)
    (q89 : PySem.W.kitOne K (.ref cN) (.ref cOutOfPlace) = some false)
    (q90 : PySem.W.kitOne K (.ref cN) (.ref cTwice) = some false)
    (q91 : PySem.W.kitOne K (.ref cM) (.type "ValueError") = some true)
    (q92 : PySem.W.kitOne K (.ref cM) (.ref cBadCell) = some false)
    (q93 : PySem.W.kitOne K (.ref cM) (.ref cC) = some false)
    (q94 : PySem.W.kitOne K (.ref cM) (.ref cBadPack) = some false)
    (q95 : PySem.W.kitOne K (.ref cM) (.ref cP) = some false)
    (q96 : PySem.W.kitOne K (.ref cM) (.ref cBadPicture) = some false)
    (q97 : PySem.W.kitOne K (.ref cM) (.ref cBadSize) = some false)
    (q98 : PySem.W.kitOne K (.ref cM) (.ref cN) = some false)
    (q99 : PySem.W.kitOne K (.ref cM) (.ref cM) = some true)
    (q100 : PySem.W.kitOne K (.ref cM) (.ref cBadRuns) = some false)
    (q101 : PySem.W.kitOne K (.ref cM) (.ref cBadCheck) = some false)
    (q102 : PySem.W.kitOne K (.ref cM) (.ref cBadDeed) = some false)
    (q103 : PySem.W.kitOne K (.ref cM) (.ref cBadEdge) = some false)
    (q104 : PySem.W.kitOne K (.ref cM) (.ref cBadHead) = some false)
    (q105 : PySem.W.kitOne K (.ref cM) (.ref cBadMask) = some false)
    (q106 : PySem.W.kitOne K (.ref cM) (.ref cBadName) = some false)
    (q107 : PySem.W.kitOne K (.ref cM) (.ref cBadPart) = some false)
    (q108 : PySem.W.kitOne K (.ref cM) (.ref cBadRule) = some false)
    (q109 : PySem.W.kitOne K (.ref cM) (.ref cBadText) = some false)
    (q110 : PySem.W.kitOne K (.ref cM) (.ref cNoPart) = some false)
    (q111 : PySem.W.kitOne K (.ref cM) (.ref cNoPicture) = some false)
    (q112 : PySem.W.kitOne K (.ref cM) (.ref cNothingDone) = some false)
    (q113 : PySem.W.kitOne K (.ref cM) (.ref cOutOfPlace) = some false)
    (q114 : PySem.W.kitOne K (.ref cM) (.ref cTwice) = some false)
    (q115 : PySem.W.kitOne K (.ref cP) (.type "ValueError") = some true)
    (q116 : PySem.W.kitOne K (.ref cP) (.ref cBadCell) = some false)
    (q117 : PySem.W.kitOne K (.ref cP) (.ref cC) = some false)
    (q118 : PySem.W.kitOne K (.ref cP) (.ref cBadPack) = some false)
    (q119 : PySem.W.kitOne K (.ref cP) (.ref cP) = some true)
    (q120 : PySem.W.kitOne K (.ref cP) (.ref cBadPicture) = some false)
    (q121 : PySem.W.kitOne K (.ref cP) (.ref cBadSize) = some false)
    (q122 : PySem.W.kitOne K (.ref cP) (.ref cN) = some false)
    (q123 : PySem.W.kitOne K (.ref cP) (.ref cM) = some false)
    (q124 : PySem.W.kitOne K (.ref cP) (.ref cBadRuns) = some false)
    (q125 : PySem.W.kitOne K (.ref cP) (.ref cBadCheck) = some false)
    (q126 : PySem.W.kitOne K (.ref cP) (.ref cBadDeed) = some false)
    (q127 : PySem.W.kitOne K (.ref cP) (.ref cBadEdge) = some false)
    (q128 : PySem.W.kitOne K (.ref cP) (.ref cBadHead) = some false)
    (q129 : PySem.W.kitOne K (.ref cP) (.ref cBadMask) = some false)
    (q130 : PySem.W.kitOne K (.ref cP) (.ref cBadName) = some false)
    (q131 : PySem.W.kitOne K (.ref cP) (.ref cBadPart) = some false)
    (q132 : PySem.W.kitOne K (.ref cP) (.ref cBadRule) = some false)
    (q133 : PySem.W.kitOne K (.ref cP) (.ref cBadText) = some false)
    (q134 : PySem.W.kitOne K (.ref cP) (.ref cNoPart) = some false)
    (q135 : PySem.W.kitOne K (.ref cP) (.ref cNoPicture) = some false)
    (q136 : PySem.W.kitOne K (.ref cP) (.ref cNothingDone) = some false)
    (q137 : PySem.W.kitOne K (.ref cP) (.ref cOutOfPlace) = some false)
    (q138 : PySem.W.kitOne K (.ref cP) (.ref cTwice) = some false)
    : ∃ fd : FuncData, (∀ (s : Shared) (v : Value), BindsTo s fd ⟨[v], []⟩ [("_law_script", v)]) ∧ ∀ base : Heap, K.In base → base.Ns mainGlobals mg → FnOk l.prog w K mg base CX0 10 fa fd ["_law_script"] (spLaw K) := by
  have e := hfa.symm.trans (PySem.W.mg_of X G a29)
  cases e
  have T : Txt K mg cFE cC cN cM cP cL tP tS := ⟨PySem.W.mg_none_of X G z1, PySem.W.mg_none_of X G z2, PySem.W.mg_none_of X G z3, PySem.W.mg_none_of X G z4, PySem.W.mg_none_of X G z5, PySem.W.mg_none_of X G z6, PySem.W.mg_none_of X G z7, PySem.W.mg_none_of X G z8, PySem.W.mg_none_of X G z9, PySem.W.mg_none_of X G z10, PySem.W.mg_none_of X G z11, PySem.W.mg_none_of X G z12, PySem.W.mg_none_of X G z13, PySem.W.mg_of X G y1, PySem.W.mg_of X G y2, PySem.W.mg_of X G x1, PySem.W.mg_of X G x4, q11, ⟨q12, q13, q14, q15, q16, q17⟩, exm_mk q8 q9 q10 q18, PySem.W.mg_of X G x9, q19, ⟨q20, q21, q22, q23, q24, q25⟩, exm_mk q8 q9 q10 q26, PySem.W.mg_of X G x10, q27, ⟨q28, q29, q30, q31, q32, q33⟩, exm_mk q8 q9 q10 q34, PySem.W.mg_of X G x6, q35, ⟨q36, q37, q38, q39, q40, q41⟩, exm_mk q8 q9 q10 q42, ⟨q1, q2, q3, q4⟩, q5⟩
  have WC : TxtW K mg cC "colour" false true false false false false false false false := ⟨T.kC, q43, fun _ _ _ _ _ _ _ _ _ => rfl, ⟨_, PySem.W.mg_of X G x3, q44⟩, ⟨_, PySem.W.mg_of X G x4, q45⟩, ⟨_, PySem.W.mg_of X G x5, q46⟩, ⟨_, PySem.W.mg_of X G x6, q47⟩, ⟨_, PySem.W.mg_of X G x7, q48⟩, ⟨_, PySem.W.mg_of X G x8, q49⟩, ⟨_, PySem.W.mg_of X G x9, q50⟩, ⟨_, PySem.W.mg_of X G x10, q51⟩, ⟨_, PySem.W.mg_of X G x11, q52⟩, ⟨_, PySem.W.mg_of X G x12, q53⟩, ⟨_, PySem.W.mg_of X G x13, q54⟩, ⟨_, PySem.W.mg_of X G x14, q55⟩, ⟨_, PySem.W.mg_of X G x15, q56⟩, ⟨_, PySem.W.mg_of X G x16, q57⟩, ⟨_, PySem.W.mg_of X G x17, q58⟩, ⟨_, PySem.W.mg_of X G x18, q59⟩, ⟨_, PySem.W.mg_of X G x19, q60⟩, ⟨_, PySem.W.mg_of X G x20, q61⟩, ⟨_, PySem.W.mg_of X G x21, q62⟩, ⟨_, PySem.W.mg_of X G x22, q63⟩, ⟨_, PySem.W.mg_of X G x23, q64⟩, ⟨_, PySem.W.mg_of X G x24, q65⟩, ⟨_, PySem.W.mg_of X G x25, q66⟩⟩
  have WN : TxtW K mg cN "none" false false false false false false true false false := ⟨T.kN, q67, fun _ _ _ _ _ _ _ _ _ => rfl, ⟨_, PySem.W.mg_of X G x3, q68⟩, ⟨_, PySem.W.mg_of X G x4, q69⟩, ⟨_, PySem.W.mg_of X G x5, q70⟩, ⟨_, PySem.W.mg_of X G x6, q71⟩, ⟨_, PySem.W.mg_of X G x7, q72⟩, ⟨_, PySem.W.mg_of X G x8, q73⟩, ⟨_, PySem.W.mg_of X G x9, q74⟩, ⟨_, PySem.W.mg_of X G x10, q75⟩, ⟨_, PySem.W.mg_of X G x11, q76⟩, ⟨_, PySem.W.mg_of X G x12, q77⟩, ⟨_, PySem.W.mg_of X G x13, q78⟩, ⟨_, PySem.W.mg_of X G x14, q79⟩, ⟨_, PySem.W.mg_of X G x15, q80⟩, ⟨_, PySem.W.mg_of X G x16, q81⟩, ⟨_, PySem.W.mg_of X G x17, q82⟩, ⟨_, PySem.W.mg_of X G x18, q83⟩, ⟨_, PySem.W.mg_of X G x19, q84⟩, ⟨_, PySem.W.mg_of X G x20, q85⟩, ⟨_, PySem.W.mg_of X G x21, q86⟩, ⟨_, PySem.W.mg_of X G x22, q87⟩, ⟨_, PySem.W.mg_of X G x23, q88⟩, ⟨_, PySem.W.mg_of X G x24, q89⟩, ⟨_, PySem.W.mg_of X G x25, q90⟩⟩
  have WM : TxtW K mg cM "many" false false false false false false false true false := ⟨T.kM, q91, fun _ _ _ _ _ _ _ _ _ => rfl, ⟨_, PySem.W.mg_of X G x3, q92⟩, ⟨_, PySem.W.mg_of X G x4, q93⟩, ⟨_, PySem.W.mg_of X G x5, q94⟩, ⟨_, PySem.W.mg_of X G x6, q95⟩, ⟨_, PySem.W.mg_of X G x7, q96⟩, ⟨_, PySem.W.mg_of X G x8, q97⟩, ⟨_, PySem.W.mg_of X G x9, q98⟩, ⟨_, PySem.W.mg_of X G x10, q99⟩, ⟨_, PySem.W.mg_of X G x11, q100⟩, ⟨_, PySem.W.mg_of X G x12, q101⟩, ⟨_, PySem.W.mg_of X G x13, q102⟩, ⟨_, PySem.W.mg_of X G x14, q103⟩, ⟨_, PySem.W.mg_of X G x15, q104⟩, ⟨_, PySem.W.mg_of X G x16, q105⟩, ⟨_, PySem.W.mg_of X G x17, q106⟩, ⟨_, PySem.W.mg_of X G x18, q107⟩, ⟨_, PySem.W.mg_of X G x19, q108⟩, ⟨_, PySem.W.mg_of X G x20, q109⟩, ⟨_, PySem.W.mg_of X G x21, q110⟩, ⟨_, PySem.W.mg_of X G x22, q111⟩, ⟨_, PySem.W.mg_of X G x23, q112⟩, ⟨_, PySem.W.mg_of X G x24, q113⟩, ⟨_, PySem.W.mg_of X G x25, q114⟩⟩
  have WP : TxtW K mg cP "palette" false false false true false false false false false := ⟨T.kP, q115, fun _ _ _ _ _ _ _ _ _ => rfl, ⟨_, PySem.W.mg_of X G x3, q116⟩, ⟨_, PySem.W.mg_of X G x4, q117⟩, ⟨_, PySem.W.mg_of X G x5, q118⟩, ⟨_, PySem.W.mg_of X G x6, q119⟩, ⟨_, PySem.W.mg_of X G x7, q120⟩, ⟨_, PySem.W.mg_of X G x8, q121⟩, ⟨_, PySem.W.mg_of X G x9, q122⟩, ⟨_, PySem.W.mg_of X G x10, q123⟩, ⟨_, PySem.W.mg_of X G x11, q124⟩, ⟨_, PySem.W.mg_of X G x12, q125⟩, ⟨_, PySem.W.mg_of X G x13, q126⟩, ⟨_, PySem.W.mg_of X G x14, q127⟩, ⟨_, PySem.W.mg_of X G x15, q128⟩, ⟨_, PySem.W.mg_of X G x16, q129⟩, ⟨_, PySem.W.mg_of X G x17, q130⟩, ⟨_, PySem.W.mg_of X G x18, q131⟩, ⟨_, PySem.W.mg_of X G x19, q132⟩, ⟨_, PySem.W.mg_of X G x20, q133⟩, ⟨_, PySem.W.mg_of X G x21, q134⟩, ⟨_, PySem.W.mg_of X G x22, q135⟩, ⟨_, PySem.W.mg_of X G x23, q136⟩, ⟨_, PySem.W.mg_of X G x24, q137⟩, ⟨_, PySem.W.mg_of X G x25, q138⟩⟩
  have F1 := funD_mk (st := s_is_whole_from) l1 c1 k1
  have F2 := funD_mk (st := s_is_whole_within) l2 c2 k2
  have F3 := funD_mk (st := s_is_colour) l3 c3 k3
  have F4 := funD_mk (st := s_need_colour) l4 c4 k4
  have F5 := funD_mk (st := s_apart) l5 c5 k5
  have F6 := funD_mk (st := s_is_list_of) l6 c6 k6
  have F7 := funD_mk (st := s_Palette.__init__) l7 c7 k7
  have F8 := funD_mk (st := s_Palette.colours) l8 c8 k8
  have F9 := funD_mk (st := s_Palette.many) l9 c9 k9
  have F10 := funD_mk (st := s_Palette.colour_of) l10 c10 k10
  have F11 := funD_mk (st := s_Palette.cell_of) l11 c11 k11
  have F12 := funD_mk (st := s_Palette.add_colour) l12 c12 k12
  have F13 := funD_mk (st := s_Palette.nearest_cell) l13 c13 k13
  have F14 := funD_mk (st := s_law_draw) l14 c14 k14
  have F15 := funD_mk (st := s_law_whole) l15 c15 k15
  have F16 := funD_mk (st := s_law_word) l16 c16 k16
  have F17 := funD_mk (st := s_law_colour) l17 c17 k17
  have F18 := funD_mk (st := s_law_apart) l18 c18 k18
  have F19 := funD_mk (st := s_law_odd) l19 c19 k19
  have F20 := funD_mk (st := s_law_pool) l20 c20 k20
  have F21 := funD_mk (st := s_law_nearest) l21 c21 k21
  have F22 := funD_mk (st := s_law_asked) l22 c22 k22
  have F23 := funD_mk (st := s_law_is) l23 c23 k23
  have F24 := funD_mk (st := s_law_colours_good) l24 c24 k24
  have F25 := funD_mk (st := s_law_one_good) l25 c25 k25
  have F26 := funD_mk (st := s_law_stands) l26 c26 k26
  have F27 := funD_mk (st := s_law_given) l27 c27 k27
  have F28 := funD_mk (st := s_law_no_palette) l28 c28 k28
  have F29 := funD_mk (st := s_law) l29 c29 k29
  refine ⟨PySem.W.fnOf "law" "law" (defArgs s_law) (defBody s_law) (defScope s_law) .none kV29 dc29 pm29 an29 cd29 ct29, fun s v => .of_eq rfl, fun base kb nb => ?_⟩
  have g1 := F1.def (P := l.prog) (w := w) (mg := mg) (base := base) (ok_is_whole_from F1 T) (PySem.W.mg_of X G a1) (fun _ _ _ _ _ _ us hl => (by obtain ⟨u0, u1, rfl⟩ := len2 hl; rfl))
  have g2 := F2.def (P := l.prog) (w := w) (mg := mg) (base := base) (ok_is_whole_within F2 g1) (PySem.W.mg_of X G a2) (fun _ _ _ _ _ _ us hl => (by obtain ⟨u0, u1, u2, rfl⟩ := len3 hl; rfl))
  have g3A := F3.defA (P := l.prog) (w := w) (mg := mg) (base := base) (ok_is_colour F3 T g2) (fun _ _ _ _ _ _ us hl => (by obtain ⟨u0, rfl⟩ := len1 hl; rfl))
  have g3 := F3.def (P := l.prog) (w := w) (mg := mg) (base := base) (ok_is_colour F3 T g2) (PySem.W.mg_of X G a3) (fun _ _ _ _ _ _ us hl => (by obtain ⟨u0, rfl⟩ := len1 hl; rfl))
  have g4 := F4.defX (P := l.prog) (w := w) (mg := mg) (base := base) (ok_need_colour F4 T g3) (PySem.W.mg_of X G a4) (fun _ _ _ _ _ _ us hl => (by obtain ⟨u0, rfl⟩ := len1 hl; rfl))
  have g5 := F5.defX (P := l.prog) (w := w) (mg := mg) (base := base) (ok_apart F5 T g4) (PySem.W.mg_of X G a5) (fun _ _ _ _ _ _ us hl => (by obtain ⟨u0, u1, rfl⟩ := len2 hl; rfl))
  have g6 := F6.def (P := l.prog) (w := w) (mg := mg) (base := base) (ok_is_list_of F6 T g3A) (PySem.W.mg_of X G a6) (fun _ _ _ _ _ _ us hl => (by obtain ⟨u0, u1, rfl⟩ := len2 hl; rfl))
  have g7 := F7.makX (P := l.prog) (w := w) (mg := mg) (base := base) (ok_Palette.__init__ F7 T g6 (PySem.W.mg_of X G a3) g2) ⟨q6, a7, i7, q7⟩ (PySem.W.mg_of X G x2) (fun _ _ _ _ _ _ us hl => (by obtain ⟨u0, u1, rfl⟩ := len2 hl; rfl))
  have g8 := F8.metD (P := l.prog) (w := w) (mg := mg) (base := base) (ok_Palette.colours F8 T) ⟨a8, i8, k8⟩ (fun _ _ _ _ _ _ us hl => (by obtain ⟨u0, rfl⟩ := len1 hl; rfl))
  have g9 := F9.metD (P := l.prog) (w := w) (mg := mg) (base := base) (ok_Palette.many F9 T) ⟨a9, i9, k9⟩ (fun _ _ _ _ _ _ us hl => (by obtain ⟨u0, rfl⟩ := len1 hl; rfl))
  have g10 := F10.metX (P := l.prog) (w := w) (mg := mg) (base := base) (ok_Palette.colour_of F10 T g2 g9) ⟨a10, i10, k10⟩ (fun _ _ _ _ _ _ us hl => (by obtain ⟨u0, u1, rfl⟩ := len2 hl; rfl))
  have g11 := F11.metX (P := l.prog) (w := w) (mg := mg) (base := base) (ok_Palette.cell_of F11 T g4) ⟨a11, i11, k11⟩ (fun _ _ _ _ _ _ us hl => (by obtain ⟨u0, u1, rfl⟩ := len2 hl; rfl))
  have g12 := F12.metX (P := l.prog) (w := w) (mg := mg) (base := base) (ok_Palette.add_colour F12 T g11 g9) ⟨a12, i12, k12⟩ (fun _ _ _ _ _ _ us hl => (by obtain ⟨u0, u1, rfl⟩ := len2 hl; rfl))
  have g13 := F13.metX (P := l.prog) (w := w) (mg := mg) (base := base) (ok_Palette.nearest_cell F13 T g4 g5) ⟨a13, i13, k13⟩ (fun _ _ _ _ _ _ us hl => (by obtain ⟨u0, u1, rfl⟩ := len2 hl; rfl))
  have g14 := F14.def (P := l.prog) (w := w) (mg := mg) (base := base) (ok_law_draw F14 T) (PySem.W.mg_of X G a14) (fun _ _ _ _ _ _ us hl => (by obtain ⟨u0, u1, rfl⟩ := len2 hl; rfl))
  have g15 := F15.def (P := l.prog) (w := w) (mg := mg) (base := base) (ok_law_whole F15 T) (PySem.W.mg_of X G a15) (fun _ _ _ _ _ _ us hl => (by obtain ⟨u0, rfl⟩ := len1 hl; rfl))
  have g16 := F16.defM (P := l.prog) (w := w) (mg := mg) (base := base) (wordB (ok_law_word F16 T WC) (wordB (ok_law_word F16 T WN) (wordB (ok_law_word F16 T WM) (ok_law_word F16 T WP)))) (PySem.W.mg_of X G a16) (fun _ _ _ _ _ _ us hl => (by obtain ⟨u0, rfl⟩ := len1 hl; rfl))
  have g17 := F17.def (P := l.prog) (w := w) (mg := mg) (base := base) (ok_law_colour F17 T) (PySem.W.mg_of X G a17) (fun _ _ _ _ _ _ us hl => (by obtain ⟨u0, rfl⟩ := len1 hl; rfl))
  have g18 := F18.def (P := l.prog) (w := w) (mg := mg) (base := base) (ok_law_apart F18 T) (PySem.W.mg_of X G a18) (fun _ _ _ _ _ _ us hl => (by obtain ⟨u0, u1, rfl⟩ := len2 hl; rfl))
  have g19 := F19.def (P := l.prog) (w := w) (mg := mg) (base := base) (ok_law_odd F19 T) (PySem.W.mg_of X G a19) (fun _ _ _ _ _ _ us hl => (by obtain ⟨u0, u1, rfl⟩ := len2 hl; rfl))
  have g20 := F20.def (P := l.prog) (w := w) (mg := mg) (base := base) (ok_law_pool F20 T g14 g17) (PySem.W.mg_of X G a20) (fun _ _ _ _ _ _ us hl => (by obtain ⟨u0, u1, u2, rfl⟩ := len3 hl; rfl))
  have g21 := F21.def (P := l.prog) (w := w) (mg := mg) (base := base) (ok_law_nearest F21 T g18) (PySem.W.mg_of X G a21) (fun _ _ _ _ _ _ us hl => (by obtain ⟨u0, u1, rfl⟩ := len2 hl; rfl))
  have g22 := F22.def (P := l.prog) (w := w) (mg := mg) (base := base) (ok_law_asked F22 T g10 g11 g13 g12 g16) (PySem.W.mg_of X G a22) (fun _ _ _ _ _ _ us hl => (by obtain ⟨u0, u1, u2, rfl⟩ := len3 hl; rfl))
  have g23 := F23.def (P := l.prog) (w := w) (mg := mg) (base := base) (ok_law_is F23 T) (PySem.W.mg_of X G a23) (fun _ _ _ _ _ _ us hl => (by obtain ⟨u0, u1, rfl⟩ := len2 hl; rfl))
  have g24 := F24.def (P := l.prog) (w := w) (mg := mg) (base := base) (ok_law_colours_good F24 T g8) (PySem.W.mg_of X G a24) (fun _ _ _ _ _ _ us hl => (by obtain ⟨u0, u1, u2, rfl⟩ := len3 hl; rfl))
  have g25 := F25.def (P := l.prog) (w := w) (mg := mg) (base := base) (ok_law_one_good F25 T g15 g9 g22 g23 g21) (PySem.W.mg_of X G a25) (fun _ _ _ _ _ _ us hl => (by obtain ⟨u0, u1, u2, u3, u4, rfl⟩ := len5 hl; rfl))
  have g26 := F26.def (P := l.prog) (w := w) (mg := mg) (base := base) (ok_law_stands F26 T g24 g25) (PySem.W.mg_of X G a26) (fun _ _ _ _ _ _ us hl => (by obtain ⟨u0, u1, u2, u3, u4, rfl⟩ := len5 hl; rfl))
  have g27 := F27.def (P := l.prog) (w := w) (mg := mg) (base := base) (ok_law_given F27 T g19 g22 g23) (PySem.W.mg_of X G a27) (fun _ _ _ _ _ _ us hl => (by obtain ⟨u0, u1, u2, u3, rfl⟩ := len4 hl; rfl))
  have g28 := F28.def (P := l.prog) (w := w) (mg := mg) (base := base) (ok_law_no_palette F28 T g19 g7 g16) (PySem.W.mg_of X G a28) (fun _ _ _ _ _ _ us hl => (by obtain ⟨u0, u1, rfl⟩ := len2 hl; rfl))
  exact ok_law F29 T g7 g14 g20 g27 g26 g24 g28
theorem walk {l : PySem.W.OpenLaw} {q : Program} {loose : List Str} {XP : (Str → Option Value) → Heap → Prop} {YP : World → Heap → Prop} {d : DefRec} {K : Params → PySem.W.Frag} (hn : l.most = some 63) (hdf : d.params.defaults = [])
    (hY : ∀ (w : World) (h : Heap), YP w h → (K w.params).In h)
    (F : ∀ (w : World) (mg : Str → Option Value) (fa : Addr) (h : Heap), (K w.params).In h → h.Ns mainGlobals mg → mg d.name = some (.ref fa) →
      ∃ fd : FuncData, (∀ (s : Shared) (u : Value), BindsTo s fd ⟨[u], []⟩ [("_law_script", u)]) ∧ ∀ base : Heap, (K w.params).In base → base.Ns mainGlobals mg → FnOk l.prog w (K w.params) mg base CX0 10 fa fd ["_law_script"] (spLaw (K w.params))) :
    PySem.W.WalkO q loose XP YP l.row.toRowW d [] (fun f vs => PySem.call f vs) :=
  L2.walk_ofB (n := 63) (k := 10) (x := "_law_script") (CX := CX0) (sp := spLaw) hn (by decide) hdf ⟨rfl, by decide, by decide, rfl⟩ hY F (fun _ _ a ns _ hb _ hS => ⟨a, ns, rfl, hS, fun _ => rfl⟩) fun _ _ _ _ z => z
end K16
open PySem PySem.W PyProof.Rows
set_option Elab.async false
noncomputable def PySem.W.Fast.tw5426711860826307109 : PySem.Program := PySem.Challenge.pw_cellfolio_k16_a_palette_kept
theorem PySem.W.Fast.te5426711860826307109 : PySem.Challenge.pw_cellfolio_k16_a_palette_kept = PySem.W.Fast.tw5426711860826307109 := rfl
def PySem.W.Fast.tw9410635891495768800 : Nat := 0
def PySem.W.Fast.tw373673125563964033 : Nat := 0
def PySem.W.Fast.tw11808671659028854851 : Nat := 0
def PySem.W.Fast.tw12683429195106715300 : Nat := 0
def PySem.W.Fast.tw6328935261134584901 : Nat := 0
def PySem.W.Fast.tw10255963202655777445 : Nat := 0
def PySem.W.Fast.tw15585886985993488518 : Nat := 0
def PySem.W.Fast.tw2220629628474605702 : Nat := 0
def PySem.W.Fast.tw15322414809132426214 : Nat := 0
def PySem.W.Fast.tw14218554749086411495 : Nat := 0
def PySem.W.Fast.tw18010358698660264616 : Nat := 0
def PySem.W.Fast.tw11161952925847413448 : Nat := 0
def PySem.W.Fast.tw16007514579314648105 : Nat := 0
def PySem.W.Fast.tw14069582904673013385 : Nat := 0
def PySem.W.Fast.tw8848913972390773386 : Nat := 0
def PySem.W.Fast.tw1912762343540123755 : Nat := 0
def PySem.W.Fast.tw14268894951697134763 : Nat := 0
def PySem.W.Fast.tw1255110254442268716 : Nat := 0
def PySem.W.Fast.tw1961260259246575405 : Nat := 0
def PySem.W.Fast.tw7922750381198687566 : Nat := 0
def PySem.W.Fast.tw15115499608354676816 : Nat := 0
def PySem.W.Fast.tw12756673471246595697 : Nat := 0
def PySem.W.Fast.tw16617300459621062481 : Nat := 0
def PySem.W.Fast.tw4561028724824781619 : Nat := 0
def PySem.W.Fast.tw9347637151109800947 : Nat := 0
def PySem.W.Fast.tw3384644542060974388 : Nat := 0
def PySem.W.Fast.tw4636216704171730580 : Nat := 0
def PySem.W.Fast.tw11585470370656433749 : Nat := 0
def PySem.W.Fast.tw3149240505081499319 : Nat := 0
def PySem.W.Fast.tw16275223936357279321 : Nat := 0
def PySem.W.Fast.tw10556367036218506523 : Nat := 0
def PySem.W.Fast.tw18366772986233795676 : Nat := 0
def PySem.W.Fast.tw18154909833175698334 : Nat := 0
set_option maxRecDepth 100000 in
set_option maxHeartbeats 0 in
theorem PySem.Challenge.cw_cellfolio_k16_a_palette_kept_holds : PySem.Challenge.rw_cellfolio_k16_a_palette_kept.Holds := by
  w_on; o_law; k_head; (case hw => w_witness2)
  k_fill
  refine K16.walk (l := PySem.Challenge.rw_cellfolio_k16_a_palette_kept) rfl rfl (fun w h Y => PySem.W.kIn_of Y) ?F
  case F =>
    intro w mg fa h KX G hmg
    refine' K16.all_mk KX G hmg ?a1 ?l1 ?c1 ?k1 ?a2 ?l2 ?c2 ?k2 ?a3 ?l3 ?c3 ?k3 ?a4 ?l4 ?c4 ?k4 ?a5 ?l5 ?c5 ?k5 ?a6 ?l6 ?c6 ?k6 ?a7 ?i7 ?l7 ?c7 ?k7 ?a8 ?i8 ?l8 ?c8 ?k8 ?a9 ?i9 ?l9 ?c9 ?k9 ?a10 ?i10 ?l10 ?c10 ?k10 ?a11 ?i11 ?l11 ?c11 ?k11 ?a12 ?i12 ?l12 ?c12 ?k12 ?a13 ?i13 ?l13 ?c13 ?k13 ?a14 ?l14 ?c14 ?k14 ?a15 ?l15 ?c15 ?k15 ?a16 ?l16 ?c16 ?k16 ?a17 ?l17 ?c17 ?k17 ?a18 ?l18 ?c18 ?k18 ?a19 ?l19 ?c19 ?k19 ?a20 ?l20 ?c20 ?k20 ?a21 ?l21 ?c21 ?k21 ?a22 ?l22 ?c22 ?k22 ?a23 ?l23 ?c23 ?k23 ?a24 ?l24 ?c24 ?k24 ?a25 ?l25 ?c25 ?k25 ?a26 ?l26 ?c26 ?k26 ?a27 ?l27 ?c27 ?k27 ?a28 ?l28 ?c28 ?k28 ?a29 ?l29 ?c29 ?k29 ?z1 ?z2 ?z3 ?z4 ?z5 ?z6 ?z7 ?z8 ?z9 ?z10 ?z11 ?z12 ?z13 ?y1 ?y2 ?x1 ?x2 ?x3 ?x4 ?x5 ?x6 ?x7 ?x8 ?x9 ?x10 ?x11 ?x12 ?x13 ?x14 ?x15 ?x16 ?x17 ?x18 ?x19 ?x20 ?x21 ?x22 ?x23 ?x24 ?x25 ?q1 ?q2 ?q3 ?q4 ?q5 ?q6 ?q7 ?q8 ?q9 ?q10 ?q11 ?q12 ?q13 ?q14 ?q15 ?q16 ?q17 ?q18 ?q19 ?q20 ?q21 ?q22 ?q23 ?q24 ?q25 ?q26 ?q27 ?q28 ?q29 ?q30 ?q31 ?q32 ?q33 ?q34 ?q35 ?q36 ?q37 ?q38 ?q39 ?q40 ?q41 ?q42 ?q43 ?q44 ?q45 ?q46 ?q47 ?q48 ?q49 ?q50 ?q51 ?q52 ?q53 ?q54 ?q55 ?q56 ?q57 ?q58 ?q59 ?q60 ?q61 ?q62 ?q63 ?q64 ?q65 ?q66 ?q67 ?q68 ?q69 ?q70 ?q71 ?q72 ?q73 ?q74 ?q75 ?q76 ?q77 ?q78 ?q79 ?q80 ?q81 ?q82 ?q83 ?q84 ?q85 ?q86 ?q87 ?q88 ?q89 ?q90 ?q91 ?q92 ?q93 ?q94 ?q95 ?q96 ?q97 ?q98 ?q99 ?q100 ?q101 ?q102 ?q103 ?q104 ?q105 ?q106 ?q107 ?q108 ?q109 ?q110 ?q111 ?q112 ?q113 ?q114 ?q115 ?q116 ?q117 ?q118 ?q119 ?q120 ?q121 ?q122 ?q123 ?q124 ?q125 ?q126 ?q127 ?q128 ?q129 ?q130 ?q131 ?q132 ?q133 ?q134 ?q135 ?q136 ?q137 ?q138
    (case x1 => k_is)
    (case x2 => k_is)
    (case x3 => k_is)
    (case x4 => k_is)
    (case x5 => k_is)
    (case x6 => k_is)
    (case x7 => k_is)
    (case x8 => k_is)
    (case x9 => k_is)
    (case x10 => k_is)
    (case x11 => k_is)
    (case x12 => k_is)
    (case x13 => k_is)
    (case x14 => k_is)
    (case x15 => k_is)
    (case x16 => k_is)
    (case x17 => k_is)
    (case x18 => k_is)
    (case x19 => k_is)
    (case x20 => k_is)
    (case x21 => k_is)
    (case x22 => k_is)
    (case x23 => k_is)
    (case x24 => k_is)
    (case x25 => k_is)
    (case a1 => k_is)
    (case l1 => k_is)
    (case c1 => k_is)
    (case k1 => k_is)
    (case a2 => k_is)
    (case l2 => k_is)
    (case c2 => k_is)
    (case k2 => k_is)
    (case a3 => k_is)
    (case l3 => k_is)
    (case c3 => k_is)
    (case k3 => k_is)
    (case a4 => k_is)
    (case l4 => k_is)
    (case c4 => k_is)
    (case k4 => k_is)
    (case a5 => k_is)
    (case l5 => k_is)
    (case c5 => k_is)
    (case k5 => k_is)
    (case a6 => k_is)
    (case l6 => k_is)
    (case c6 => k_is)
    (case k6 => k_is)
    (case a7 => k_is)
    (case i7 => k_is)
    (case l7 => k_is)
    (case c7 => k_is)
    (case k7 => k_is)
    (case a8 => k_is)
    (case i8 => k_is)
    (case l8 => k_is)
    (case c8 => k_is)
    (case k8 => k_is)
    (case a9 => k_is)
    (case i9 => k_is)
    (case l9 => k_is)
    (case c9 => k_is)
    (case k9 => k_is)
    (case a10 => k_is)
    (case i10 => k_is)
    (case l10 => k_is)
    (case c10 => k_is)
    (case k10 => k_is)
    (case a11 => k_is)
    (case i11 => k_is)
    (case l11 => k_is)
    (case c11 => k_is)
    (case k11 => k_is)
    (case a12 => k_is)
    (case i12 => k_is)
    (case l12 => k_is)
    (case c12 => k_is)
    (case k12 => k_is)
    (case a13 => k_is)
    (case i13 => k_is)
    (case l13 => k_is)
    (case c13 => k_is)
    (case k13 => k_is)
    (case a14 => k_is)
    (case l14 => k_is)
    (case c14 => k_is)
    (case k14 => k_is)
    (case a15 => k_is)
    (case l15 => k_is)
    (case c15 => k_is)
    (case k15 => k_is)
    (case a16 => k_is)
    (case l16 => k_is)
    (case c16 => k_is)
    (case k16 => k_is)
    (case a17 => k_is)
    (case l17 => k_is)
    (case c17 => k_is)
    (case k17 => k_is)
    (case a18 => k_is)
    (case l18 => k_is)
    (case c18 => k_is)
    (case k18 => k_is)
    (case a19 => k_is)
    (case l19 => k_is)
    (case c19 => k_is)
    (case k19 => k_is)
    (case a20 => k_is)
    (case l20 => k_is)
    (case c20 => k_is)
    (case k20 => k_is)
    (case a21 => k_is)
    (case l21 => k_is)
    (case c21 => k_is)
    (case k21 => k_is)
    (case a22 => k_is)
    (case l22 => k_is)
    (case c22 => k_is)
    (case k22 => k_is)
    (case a23 => k_is)
    (case l23 => k_is)
    (case c23 => k_is)
    (case k23 => k_is)
    (case a24 => k_is)
    (case l24 => k_is)
    (case c24 => k_is)
    (case k24 => k_is)
    (case a25 => k_is)
    (case l25 => k_is)
    (case c25 => k_is)
    (case k25 => k_is)
    (case a26 => k_is)
    (case l26 => k_is)
    (case c26 => k_is)
    (case k26 => k_is)
    (case a27 => k_is)
    (case l27 => k_is)
    (case c27 => k_is)
    (case k27 => k_is)
    (case a28 => k_is)
    (case l28 => k_is)
    (case c28 => k_is)
    (case k28 => k_is)
    (case a29 => k_is)
    (case l29 => k_is)
    (case c29 => k_is)
    (case k29 => k_is)
    (case z1 => k_is)
    (case z2 => k_is)
    (case z3 => k_is)
    (case z4 => k_is)
    (case z5 => k_is)
    (case z6 => k_is)
    (case z7 => k_is)
    (case z8 => k_is)
    (case z9 => k_is)
    (case z10 => k_is)
    (case z11 => k_is)
    (case z12 => k_is)
    (case z13 => k_is)
    (case y1 => k_is)
    (case y2 => k_is)
    (case q1 => k_is)
    (case q2 => k_is)
    (case q3 => k_is)
    (case q4 => k_is)
    (case q5 => k_is)
    (case q6 => k_is)
    (case q7 => k_is)
    (case q8 => k_is)
    (case q9 => k_is)
    (case q10 => k_is)
    (case q11 => k_exc)
    (case q12 => k_is)
    (case q13 => k_is)
    (case q14 => k_is)
    (case q15 => k_is)
    (case q16 => k_is)
    (case q17 => k_is)
    (case q18 => k_is)
    (case q19 => k_exc)
    (case q20 => k_is)
    (case q21 => k_is)
    (case q22 => k_is)
    (case q23 => k_is)
    (case q24 => k_is)
    (case q25 => k_is)
    (case q26 => k_is)
    (case q27 => k_exc)
    (case q28 => k_is)
    (case q29 => k_is)
    (case q30 => k_is)
    (case q31 => k_is)
    (case q32 => k_is)
    (case q33 => k_is)
    (case q34 => k_is)
    (case q35 => k_exc)
    (case q36 => k_is)
    (case q37 => k_is)
    (case q38 => k_is)
    (case q39 => k_is)
    (case q40 => k_is)
    (case q41 => k_is)
    (case q42 => k_is)
    (case q43 => kit_is)
    (case q44 => kit_is)
    (case q45 => kit_is)
    (case q46 => kit_is)
    (case q47 => kit_is)
    (case q48 => kit_is)
    (case q49 => kit_is)
    (case q50 => kit_is)
    (case q51 => kit_is)
    (case q52 => kit_is)
    (case q53 => kit_is)
    (case q54 => kit_is)
    (case q55 => kit_is)
    (case q56 => kit_is)
    (case q57 => kit_is)
    (case q58 => kit_is)
    (case q59 => kit_is)
    (case q60 => kit_is)
    (case q61 => kit_is)
    (case q62 => kit_is)
    (case q63 => kit_is)
    (case q64 => kit_is)
    (case q65 => kit_is)
    (case q66 => kit_is)
    (case q67 => kit_is)
    (case q68 => kit_is)
    (case q69 => kit_is)
    (case q70 => kit_is)
    (case q71 => kit_is)
    (case q72 => kit_is)
    (case q73 => kit_is)
    (case q74 => kit_is)
    (case q75 => kit_is)
    (case q76 => kit_is)
    (case q77 => kit_is)
    (case q78 => kit_is)
    (case q79 => kit_is)
    (case q80 => kit_is)
    (case q81 => kit_is)
    (case q82 => kit_is)
    (case q83 => kit_is)
    (case q84 => kit_is)
    (case q85 => kit_is)
    (case q86 => kit_is)
    (case q87 => kit_is)
    (case q88 => kit_is)
    (case q89 => kit_is)
    (case q90 => kit_is)
    (case q91 => kit_is)
    (case q92 => kit_is)
    (case q93 => kit_is)
    (case q94 => kit_is)
    (case q95 => kit_is)
    (case q96 => kit_is)
    (case q97 => kit_is)
    (case q98 => kit_is)
    (case q99 => kit_is)
    (case q100 => kit_is)
    (case q101 => kit_is)
    (case q102 => kit_is)
    (case q103 => kit_is)
    (case q104 => kit_is)
    (case q105 => kit_is)
    (case q106 => kit_is)
    (case q107 => kit_is)
    (case q108 => kit_is)
    (case q109 => kit_is)
    (case q110 => kit_is)
    (case q111 => kit_is)
    (case q112 => kit_is)
    (case q113 => kit_is)
    (case q114 => kit_is)
    (case q115 => kit_is)
    (case q116 => kit_is)
    (case q117 => kit_is)
    (case q118 => kit_is)
    (case q119 => kit_is)
    (case q120 => kit_is)
    (case q121 => kit_is)
    (case q122 => kit_is)
    (case q123 => kit_is)
    (case q124 => kit_is)
    (case q125 => kit_is)
    (case q126 => kit_is)
    (case q127 => kit_is)
    (case q128 => kit_is)
    (case q129 => kit_is)
    (case q130 => kit_is)
    (case q131 => kit_is)
    (case q132 => kit_is)
    (case q133 => kit_is)
    (case q134 => kit_is)
    (case q135 => kit_is)
    (case q136 => kit_is)
    (case q137 => kit_is)
    (case q138 => kit_is)
#print axioms PySem.Challenge.cw_cellfolio_k16_a_palette_kept_holds
