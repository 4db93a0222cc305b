import PyProof.Rows.All
import Wide.All
import OpenK.AllK
import Wide.FinOn
import Lean
import PyProof.EqAt
import PyProof.EqKinds
import PyProof.NeKinds
import PyProof.ZipIter
import PyProof.Rows.ZipGen
import PyProof.ExcArgs
import PyProof.CompUse
import PyProof.TupleCall
import PyProof.CompFree
import PyProof.Cells
import OpenK.KEqL
import KE.KEqDict
import PyProof.EnumIter
import PyProof.EnumFor
import PyProof.EnumMake
import PyProof.EnumStmt
import PyProof.Rows.EnumRows
import OpenK.KRaise
import KE.KRevIter
import PyProof.StrWalks
import PyProof.StrCalls2
import PyProof.Rows.StrJoin2
import PyProof.StrLawsTight
import PyProof.StrLawsIn
import PyProof.SliceStr2
import PyProof.StrBlockI
import PyProof.StrLawsOcc
import PyProof.ConsumeS
import PyProof.MinMaxWalk
import PyProof.StrOps2
import PyProof.WalkInts
import KE.KRevSl
import KE.KLam
import KE.KNestM
import PyProof.Draws
import KE.KDflt
import KE.KBits
import KE.RegKIsAll
import PySem.Challenge.RW_cellfolio_k23_folds_undone
set_option Elab.async false
set_option linter.all false
set_option maxRecDepth 100000
namespace L2
open PySem PySem.Spec PyProof.Rows
noncomputable abbrev Key := Sum Int Str
noncomputable def keyIs : Key → Value → Bool
  | .inl k, v => Value.isInt k v
  | .inr x, v => Value.isStrOf x v
noncomputable def keyH (w : World) : Key → Int
  | .inl k => hashInt k
  | .inr x => hashStr w x
theorem keyIs_shape : ∀ {k : Key} {v : Value}, keyIs k v = true → (∃ i t, k = Sum.inl i ∧ v = Value.int i t) ∨ (∃ x t, k = Sum.inr x ∧ v = Value.str x t)
  | .inl i, v, h => by
    obtain ⟨t, e⟩ := Value.isInt_shape (k := i) (v := v) h
    exact .inl ⟨i, t, rfl, e⟩
  | .inr x, v, h => by
    obtain ⟨t, e⟩ := Value.isStrOf_shape (x := x) (v := v) h
    exact .inr ⟨x, t, rfl, e⟩
theorem key_ll (a b : Int) : decide ((Sum.inl a : Key) = Sum.inl b) = (a == b) := by
  by_cases e : a = b
  · subst e; simp
  · have h : ¬ (Sum.inl a : Key) = Sum.inl b := fun q => e (Sum.inl.inj q)
    rw [decide_eq_false h]
    exact (beq_eq_false_iff_ne.mpr e).symm
theorem key_rr (a b : Str) : decide ((Sum.inr a : Key) = Sum.inr b) = decide (a = b) := by
  by_cases e : a = b
  · subst e; simp
  · have h : ¬ (Sum.inr a : Key) = Sum.inr b := fun q => e (Sum.inr.inj q)
    rw [decide_eq_false h, decide_eq_false e]
theorem key_lr (a : Int) (b : Str) : decide ((Sum.inl a : Key) = Sum.inr b) = false := decide_eq_false (fun q => nomatch q)
theorem key_rl (a : Str) (b : Int) : decide ((Sum.inr a : Key) = Sum.inl b) = false := decide_eq_false (fun q => nomatch q)
noncomputable def mixKind (prog : Program) (w : World) : PySem.KeyKind prog w Key where
  is := keyIs
  hash := keyH w
  inj := fun v a b ha hb => by
    rcases keyIs_shape ha with ⟨i, t, rfl, rfl⟩ | ⟨x, t, rfl, rfl⟩
    · rcases keyIs_shape hb with ⟨j, u, rfl, e⟩ | ⟨y, u, rfl, e⟩
      · injection e with e1 _; rw [e1]
      · exact nomatch e
    · rcases keyIs_shape hb with ⟨j, u, rfl, e⟩ | ⟨y, u, rfl, e⟩
      · exact nomatch e
      · injection e with e1 _; rw [e1]
  byValue := fun k v h => by
    rcases keyIs_shape h with ⟨i, t, rfl, rfl⟩ | ⟨x, t, rfl, rfl⟩ <;> rfl
  pyHash := fun hv h => by
    rcases keyIs_shape hv with ⟨i, t, rfl, rfl⟩ | ⟨x, t, rfl, rfl⟩
    · exact wpAny_pyHash_int h
    · exact wpAny_pyHash_str h
  eqBool := fun hu hv h => by
    rcases keyIs_shape hu with ⟨i, t, rfl, rfl⟩ | ⟨x, t, rfl, rfl⟩
    · rcases keyIs_shape hv with ⟨j, u, rfl, rfl⟩ | ⟨y, u, rfl, rfl⟩
      · rw [key_ll] at h; exact wpAny_eqBool_int h
      · rw [key_lr] at h; exact SeqAt.EqAt.int_str i t y u _ _ _ _ h
    · rcases keyIs_shape hv with ⟨j, u, rfl, rfl⟩ | ⟨y, u, rfl, rfl⟩
      · rw [key_rl] at h; exact SeqAt.EqAt.str_int x t j u _ _ _ _ h
      · rw [key_rr] at h; exact wpAny_eqBool_str h
  «strs» := fun k x t v h => by
    rcases keyIs_shape h with ⟨i, u, rfl, e⟩ | ⟨y, u, rfl, e⟩
    · exact nomatch e
    · injection e with e1 _
      subst e1
      cases v <;> rfl
end L2
namespace L2
open PySem PySem.Spec PyProof.Rows
inductive V where
  | non | bl (b : Bool) | int (i : Int) | str (x : Str) | byt (b : Array UInt8) | flt (b : UInt64) | ref (a : Addr) | ty (n : String)
  deriving DecidableEq
noncomputable def RelV : V → Value → Prop
  | .non, u => u = Value.none
  | .bl b, u => u = Value.bool b
  | .int i, u => ∃ t, u = Value.int i t
  | .str x, u => ∃ t, u = Value.str x t
  | .byt b, u => ∃ t, u = Value.bytes b t
  | .flt b, u => ∃ t, u = Value.float b t
  | .ref a, u => u = Value.ref a
  | .ty n, u => u = Value.type n
noncomputable abbrev Vals : List V → List Value → Prop := Paired RelV
theorem Vals.length {xs : List V} {us : List Value} (r : Vals xs us) : xs.length = us.length := Paired.length r
theorem Vals.get : ∀ {xs : List V} {us : List Value} {i : Nat} {x : V}, Vals xs us → xs[i]? = some x → ∃ u, us[i]? = some u ∧ RelV x u
  | _, _, _, _, .nil, e => by simp at e
  | _, _, 0, _, .cons r _, e => by simp at e; subst e; exact ⟨_, rfl, r⟩
  | _, _, i + 1, x, .cons _ t, e => by
    obtain ⟨u, h1, h2⟩ := Vals.get (i := i) (x := x) t (by simpa using e)
    exact ⟨u, by simpa using h1, h2⟩
theorem Vals.append : ∀ {xs ys : List V} {us ws : List Value}, Vals xs us → Vals ys ws → Vals (xs ++ ys) (us ++ ws)
  | _, _, _, _, .nil, s => s
  | _, _, _, _, .cons r t, s => .cons r (Vals.append t s)
theorem Vals.take : ∀ {xs : List V} {us : List Value} (n : Nat), Vals xs us → Vals (xs.take n) (us.take n)
  | _, _, 0, _ => .nil
  | _, _, _ + 1, .nil => .nil
  | _, _, n + 1, .cons r t => .cons r (Vals.take n t)
theorem Vals.drop : ∀ {xs : List V} {us : List Value} (n : Nat), Vals xs us → Vals (xs.drop n) (us.drop n)
  | _, _, 0, r => r
  | _, _, _ + 1, .nil => .nil
  | _, _, n + 1, .cons _ t => Vals.drop n t
noncomputable def RelO : Option V → Option Value → Prop
  | some v, some u => RelV v u
  | none, none => True
  | _, _ => False
noncomputable def KV {κ : Type} : List (κ × V) → List (κ × Value) → Prop := Paired fun (p : κ × V) (q : κ × Value) => p.1 = q.1 ∧ RelV p.2 q.2
noncomputable def kV : Key → V
  | .inl i => .int i
  | .inr x => .str x
inductive HO where
  | lst (xs : List V)
  | tup (xs : List V)
  | dK (kvs : List (Key × V)) | dT (kvs : List (List Key × V))
  | set (S : Int → Bool) (n : Nat)
  | ins (C dx : Addr) (fs : List (Str × V))
  | own (x : Addr)
  | xd (fs : List (Str × V))
  | met (f x : Addr)
  | rng (lo hi : Int)
  | frz (o : Obj) (u : HO)
  | tbl (ps : Array Value)
  | ext (φ : Heap → Prop)
noncomputable abbrev Hp := Addr → Option HO
noncomputable def upd (H : Hp) (a : Addr) (o : HO) : Hp := fun b => if b = a then some o else H b
theorem upd_same {H : Hp} {a : Addr} {o : HO} : upd H a o a = some o := by unfold upd; rw [if_pos rfl]
theorem upd_ne {H : Hp} {a b : Addr} {o : HO} (h : b ≠ a) : upd H a o b = H b := by unfold upd; rw [if_neg h]
theorem ne_of_none {H : Hp} {a b : Addr} {o : HO} (h : H a = some o) (h' : H b = none) : a ≠ b := by
  intro e; subst e; rw [h] at h'; cases h'
section
variable (P : Program) (w : World)
noncomputable def ObjOk (H : Hp) (h : Heap) (a : Addr) : HO → Prop
  | .lst xs => xs.length ≤ sizeLine ∧ ∃ (its : List Value) (n : Nat), Vals xs its ∧ h.get? a = some { cls := .type "list", data := .seq its.toArray n }
  | .tup xs => xs.length ≤ sizeLine ∧ ∃ its : List Value, Vals xs its ∧ IsTup h a its.toArray
  | .dK kvs => kvs.length ≤ sizeLine ∧ (a == sysModules) = false ∧ ∃ vs, KV kvs vs ∧ h.DictOf (mixKind P w) a vs
  | .dT kvs => kvs.length ≤ sizeLine ∧ (a == sysModules) = false ∧ ∃ xs : List (List Key × Addr × Value),
      Paired (fun (p : List Key × V) (q : List Key × Addr × Value) => p.1 = q.1 ∧ H q.2.1 = some (.tup (p.1.map kV)) ∧ RelV p.2 q.2.2) kvs xs ∧
      ∃ o es ep, h.get? a = some o ∧ o.ExactDict ∧ o.data = .dict es ep ∧ es.toList = xs.map (entryOfKey (tupleKind (mixKind P w))) ∧ (xs.map (·.1)).Nodup
  | .set S n => h.SetOf (intKind P w) a S n
  | .ins C dx fs => H dx = some (.own a) ∧ fs.length ≤ 1000 ∧ dx ≠ a ∧ h.get? a = some (PySem.W.instObj C dx) ∧
      ∃ mA, h.Ns1 dx mA ∧ (∀ f, RelO (fs.lookup f) (mA f)) ∧ PySem.Within mA (fs.map (·.1))
  | .own _ => ∃ o, h.get? a = some o
  | .xd fs => ∃ mA, h.Ns1 a mA ∧ ∀ f, RelO (fs.lookup f) (mA f)
  | .rng lo hi => ∃ t u v, h.get? a = some { cls := .type "range", data := .fields #[.int lo t, .int hi u, .int 1 v] }
  | .frz o u => h.get? a = some o ∧ ObjOk H h a u
  | .tbl ps => h.get? a = some { cls := .none, data := .fields ps }
  | .met f x => h.get? a = some (PySem.W.methodObj (.ref f) (.ref x))
  | .ext φ => φ h ∧ (∃ o, h.get? a = some o) ∧ ∀ h1 h2 : Heap, φ h1 → (∀ o, h1.get? a = some o → h2.get? a = some o) → φ h2
noncomputable def HOk (H : Hp) (h : Heap) : Prop := ∀ a o, H a = some o → ObjOk P w H h a o
end
section
variable {P : Program} {w : World} {H H' : Hp} {h h' : Heap} {a : Addr} {o : HO}
theorem ObjOk.lt (x : ObjOk P w H h a o) : a < h.objs.size := by
  cases o with
  | lst xs => obtain ⟨_, _, _, _, e⟩ := x; exact Heap.lt_size e
  | tup xs => obtain ⟨_, _, _, p⟩ := x; exact p.lt
  | dK kvs => obtain ⟨_, _, _, _, o, _, _, e, _⟩ := x; exact Heap.lt_size e
  | dT kvs => obtain ⟨_, _, _, _, o, _, _, e, _⟩ := x; exact Heap.lt_size e
  | set S n => obtain ⟨o, _, _, _, e, _⟩ := x; exact Heap.lt_size e
  | ins C dx fs => obtain ⟨_, _, _, e, _⟩ := x; exact Heap.lt_size e
  | own y => obtain ⟨_, e⟩ := x; exact Heap.lt_size e
  | xd fs => obtain ⟨_, ⟨_, _, _, e, _⟩, _⟩ := x; exact Heap.lt_size e
  | rng lo hi => obtain ⟨_, _, _, e⟩ := x; exact Heap.lt_size e
  | frz ob u => obtain ⟨e, _⟩ := x; exact Heap.lt_size e
  | tbl ps => exact Heap.lt_size (show h.get? a = some _ from x)
  | met f y => exact Heap.lt_size (show h.get? a = some _ from x)
  | ext φ => obtain ⟨_, ⟨_, e⟩, _⟩ := x; exact Heap.lt_size e
theorem Paired.mapP {α β : Type} {F G : α → β → Prop} : ∀ {l₁ : List α} {l₂ : List β}, Paired F l₁ l₂ → (∀ a b, F a b → G a b) → Paired G l₁ l₂
  | _, _, .nil, _ => .nil
  | _, _, .cons r t, f => .cons (f _ _ r) (Paired.mapP t f)
theorem ObjOk.stay (x : ObjOk P w H h a o) (k : ∀ b u, (b = a ∨ H b = some (.own a)) → h.get? b = some u → h'.get? b = some u)
    (ho : ∀ b, H b = some (.own a) → H' b = some (.own a)) (ht : ∀ b xs, H b = some (.tup xs) → H' b = some (.tup xs)) : ObjOk P w H' h' a o := by
  induction o with
  | lst xs => obtain ⟨z, its, n, r, e⟩ := x; exact ⟨z, its, n, r, k _ _ (.inl rfl) e⟩
  | tup xs => obtain ⟨z, its, r, ob, e, c⟩ := x; exact ⟨z, its, r, ob, k _ _ (.inl rfl) e, c⟩
  | dK kvs => obtain ⟨z, y, vs, r, ob, es, ep, e, c⟩ := x; exact ⟨z, y, vs, r, ob, es, ep, k _ _ (.inl rfl) e, c⟩
  | dT kvs =>
    obtain ⟨z, y, xs, r, ob, es, ep, e, c⟩ := x
    exact ⟨z, y, xs, Paired.mapP r fun p q z => ⟨z.1, ht _ _ z.2.1, z.2.2⟩, ob, es, ep, k _ _ (.inl rfl) e, c⟩
  | set S n => obtain ⟨ob, es, ep, t, e, c⟩ := x; exact ⟨ob, es, ep, t, k _ _ (.inl rfl) e, c⟩
  | ins C dx fs =>
    obtain ⟨d, z, ne, e, mA, ⟨od, es, ep, e2, c⟩, r⟩ := x
    exact ⟨ho _ d, z, ne, k _ _ (.inl rfl) e, mA, ⟨od, es, ep, k _ _ (.inr d) e2, c⟩, r⟩
  | own y => obtain ⟨ob, e⟩ := x; exact ⟨ob, k _ _ (.inl rfl) e⟩
  | xd fs => obtain ⟨mA, ⟨od, es, ep, e, c⟩, r⟩ := x; exact ⟨mA, ⟨od, es, ep, k _ _ (.inl rfl) e, c⟩, r⟩
  | rng lo hi => obtain ⟨t, u, v, e⟩ := x; exact ⟨t, u, v, k _ _ (.inl rfl) e⟩
  | frz ob u ih => obtain ⟨e, q⟩ := x; exact ⟨k _ _ (.inl rfl) e, ih q⟩
  | tbl ps =>
    have e : h.get? a = some { cls := .none, data := .fields ps } := x
    show h'.get? a = some { cls := .none, data := .fields ps }
    exact k a _ (.inl rfl) e
  | met f y =>
    have e : h.get? a = some (PySem.W.methodObj (.ref f) (.ref y)) := x
    show h'.get? a = some (PySem.W.methodObj (.ref f) (.ref y))
    exact k a _ (.inl rfl) e
  | ext φ => obtain ⟨p, ⟨o, e⟩, st⟩ := x; exact ⟨st _ _ p fun o q => k _ _ (.inl rfl) q, ⟨o, k _ _ (.inl rfl) e⟩, st⟩
theorem HOk.lt (x : HOk P w H h) (e : H a = some o) : a < h.objs.size := (x a o e).lt
theorem HOk.fresh (x : HOk P w H h) (e : h.objs.size ≤ a) : H a = none := by
  cases q : H a with
  | none => rfl
  | some u => exact absurd (Nat.lt_of_lt_of_le (x.lt q) e) (Nat.lt_irrefl _)
theorem HOk.kept (x : HOk P w H h) (k : ∀ b u, h.get? b = some u → h'.get? b = some u) : HOk P w H h' := fun a o e =>
  (x a o e).stay (fun b u _ q => k b u q) (fun _ q => q) fun _ _ q => q
theorem HOk.laid (x : HOk P w H h) (k : ∀ b u, h.get? b = some u → h'.get? b = some u) (hp : h.objs.size ≤ a) (new : ObjOk P w (upd H a o) h' a o) : HOk P w (upd H a o) h' := fun b u e => by
  have hn := x.fresh hp
  by_cases hb : b = a
  · subst hb; rw [upd_same] at e; cases e; exact new
  · rw [upd_ne hb] at e
    exact (x b u e).stay (fun c v _ q => k c v q) (fun c q => by rw [upd_ne (ne_of_none q hn)]; exact q) fun c xs q => by rw [upd_ne (ne_of_none q hn)]; exact q
end
noncomputable def Rd (H : Hp) (a : Addr) (u : HO) : Prop := H a = some u ∨ ∃ o, H a = some (.frz o u)
theorem Rd.ok {P : Program} {w : World} {H : Hp} {h : Heap} {a : Addr} {u : HO} (r : Rd H a u) (x : HOk P w H h) : ObjOk P w H h a u := by
  rcases r with r | ⟨o, r⟩
  · exact x a u r
  · obtain ⟨_, q⟩ := x a _ r
    exact q
noncomputable def Mut : Option HO → Prop
  | some (.lst _) => True
  | some (.dK _) => True
  | some (.dT _) => True
  | some (.set _ _) => True
  | some (.ins _ _ _) => True
  | some (.ext _) => True
  | _ => False
section
variable {P : Program} {w : World} {H : Hp} {h h' : Heap} {x e : Addr} {o' : HO}
theorem HOk.write (ok : HOk P w H h) (mu : Mut (H x)) (he : e = x ∨ H e = some (.own x)) (k : ∀ b u, b ≠ e → h.get? b = some u → h'.get? b = some u) (heo : ∃ u, h'.get? e = some u)
    (new : ObjOk P w (upd H x o') h' x o') : HOk P w (upd H x o') h' := fun b u q => by
  have nown : ∀ c y, H c = some (.own y) → c ≠ x := fun c y r z => by subst z; rw [r] at mu; exact mu
  have ntup : ∀ c xs, H c = some (.tup xs) → c ≠ x := fun c xs r z => by subst z; rw [r] at mu; exact mu
  by_cases hb : b = x
  · subst hb; rw [upd_same] at q; cases q; exact new
  · rw [upd_ne hb] at q
    by_cases hbe : b = e
    · have q' : H b = some (.own x) := by
        rcases he with z | z
        · exact absurd (hbe.trans z) hb
        · rw [hbe]; exact z
      rw [q] at q'; cases q'
      obtain ⟨v, hv⟩ := heo
      exact ⟨v, by rw [hbe]; exact hv⟩
    · refine (ok b u q).stay (fun c v hc r => k c v ?_ r) (fun c r => by rw [upd_ne (nown c b r)]; exact r) fun c xs r => by rw [upd_ne (ntup c xs r)]; exact r
      rcases hc with rfl | hc
      · exact hbe
      · rintro rfl
        rcases he with z | z
        · exact nown c b hc z
        · rw [hc] at z; cases z; exact hb rfl
end
structure Un (fs ex : List Addr) (H H' : Hp) (h h' : Heap) : Prop where
  keep : ∀ b o, h.get? b = some o → H b = none → b ∉ fs → b ∉ ex → h'.get? b = some o
  slot : ∀ b o, h.get? b = some o → H b = none → b ∈ fs → b ∉ ex → ∃ sl, h'.get? b = some { o with slots := sl }
  free : ∀ b o, h.get? b = some o → H b = none → b ∉ ex → H' b = none
  there : ∀ b o, h.get? b = some o → b ∉ ex → ∃ o', h'.get? b = some o'
  tups : ∀ b xs, H b = some (.tup xs) → H' b = some (.tup xs)
  frzs : ∀ b o u, H b = some (.frz o u) → H' b = some (.frz o u)
  tbls : ∀ b ps, H b = some (.tbl ps) → ∃ more, H' b = some (.tbl (ps ++ more))
section
variable {fs fs' ex ex' : List Addr} {H H1 H2 : Hp} {h h1 h2 h' : Heap} {a x e : Addr} {o : HO}
theorem Un.any (u : Un fs ex H H1 h h1) {b : Addr} {ob : Obj} (q : h.get? b = some ob) (n : H b = none) (hx : b ∉ ex) : ∃ sl, h1.get? b = some { ob with slots := sl } := by
  by_cases hb : b ∈ fs
  · exact u.slot b ob q n hb hx
  · exact ⟨ob.slots, u.keep b ob q n hb hx⟩
theorem Un.kept (k : ∀ b u, h.get? b = some u → h'.get? b = some u) : Un fs ex H H h h' :=
  ⟨fun b ob q _ _ _ => k b ob q, fun b ob q _ _ _ => ⟨ob.slots, k b ob q⟩, fun _ _ _ n _ => n, fun b ob q _ => ⟨ob, k b ob q⟩, fun _ _ q => q, fun _ _ _ q => q, fun _ ps q => ⟨#[], by rw [q]; simp⟩⟩
theorem Un.refl : Un fs ex H H h h := Un.kept fun _ _ q => q
theorem Un.laid (k : ∀ b u, h.get? b = some u → h'.get? b = some u) (hp : h.objs.size ≤ a) (hn : H a = none) : Un fs ex H (upd H a o) h h' where
  keep := fun b u q _ _ _ => k b u q
  slot := fun b u q _ _ _ => ⟨u.slots, k b u q⟩
  free := fun b u q n _ => by rw [upd_ne (Nat.ne_of_lt (Nat.lt_of_lt_of_le (Heap.lt_size q) hp))]; exact n
  there := fun b u q _ => ⟨u, k b u q⟩
  tups := fun b xs q => by rw [upd_ne (ne_of_none q hn)]; exact q
  frzs := fun b u xs q => by rw [upd_ne (ne_of_none q hn)]; exact q
  tbls := fun b ps q => ⟨#[], by rw [upd_ne (ne_of_none q hn), q]; simp⟩
theorem Un.write (mu : Mut (H x)) (he : e = x ∨ H e = some (.own x)) (k : ∀ b u, b ≠ e → h.get? b = some u → h'.get? b = some u) (heo : ∃ u, h'.get? e = some u) : Un fs ex H (upd H x o) h h' := by
  have hx : ∀ b, H b = none → b ≠ x := fun b n z => by subst z; rw [n] at mu; exact mu
  have hb : ∀ b, H b = none → b ≠ e := fun b n z => by
    subst z
    rcases he with r | r
    · exact hx b n r
    · rw [n] at r; cases r
  have hm : ∀ b u, H b = some u → ¬ Mut (some u) → b ≠ x := fun b u q nm z => by subst z; rw [q] at mu; exact nm mu
  refine ⟨fun b u q n _ _ => k b u (hb b n) q, fun b u q n _ _ => ⟨u.slots, k b u (hb b n) q⟩, fun b u q n _ => by rw [upd_ne (hx b n)]; exact n, fun b u q _ => ?_,
    fun b xs q => by rw [upd_ne (hm b _ q fun z => z)]; exact q, fun b u xs q => by rw [upd_ne (hm b _ q fun z => z)]; exact q, fun b ps q => ⟨#[], by rw [upd_ne (hm b _ q fun z => z), q]; simp⟩⟩
  by_cases hbe : b = e
  · subst hbe; exact heo
  · exact ⟨u, k b u hbe q⟩
end
noncomputable def trk (h : Heap) (H : Hp) : List Addr := (List.range h.objs.size).filter fun a => (H a).isSome
noncomputable def hidT (h : Heap) (H : Hp) : Heap := PySem.W.hideAll h (trk h H)
theorem hidT_size (h : Heap) (H : Hp) : (hidT h H).objs.size = h.objs.size := PySem.W.hideAll_size _ _
theorem hidT_get {h : Heap} {H : Hp} {b : Addr} {o : Obj} (e : h.get? b = some o) (n : H b = none) : (hidT h H).get? b = some o :=
  PySem.W.hideAll_get _ e fun hm => by
    have q : (H b).isSome = true := (List.mem_filter.mp hm).2
    rw [n] at q; simp at q
theorem of_hidT {h : Heap} {H : Hp} {b : Addr} {o : Obj} (e : (hidT h H).get? b = some o) : h.get? b = some o ∧ H b = none := by
  have e' : h.get? b = some o := PySem.W.of_hideAll (trk h H) e
  refine ⟨e', ?_⟩
  cases q : H b with
  | none => rfl
  | some x =>
    have hm : b ∈ trk h H := List.mem_filter.mpr ⟨List.mem_range.mpr (Heap.lt_size e'), by simp [q]⟩
    have z : (hidT h H).get? b = none := PySem.W.hideAll_none (trk h H) hm
    rw [z] at e; cases e
end L2
namespace L2
open PySem PySem.Spec PyProof.Rows
structure Mod (K : PySem.W.Frag) (mg : Str → Option Value) (base : Heap) : Prop where
  kin : K.In base
  glob : base.Ns mainGlobals mg
  blt : ∃ mb, base.Ns builtinsNs mb ∧ ∀ x : Str, x ≠ "__name__" → mb x = bootBuiltins x
  nolimit : base.NoLimit
structure Cx where
  prog : Program
  w : World
  K : PySem.W.Frag
  mg : Str → Option Value
  base : Heap
  A : Around
  N : List Str
  s₀ : Shared
  H₀ : Hp
  env : Env
  outer : List Env
  stack : List Env
  ex : List Addr
  fn : Str → Bool
  calm : Bool
  pn : List (Addr × Obj)
  xe : Value → Shared → Prop
noncomputable def frs (l : List Env) : List Addr := l.filterMap (·.frame)
noncomputable abbrev Cx.fs (X : Cx) : List Addr := frs X.outer
noncomputable def Vis (sc : Scope) (x : Str) : Prop := sc.names.lookup x = some .local ∨ sc.names.lookup x = some .cell ∨ sc.names.lookup x = some .free
noncomputable def Loc (sc : Scope) (x : Str) : Prop := sc.names.lookup x = some .local ∨ sc.names.lookup x = some .cell
noncomputable def Look (env : Env) (h : Heap) (m : Str → Option Value) (x : Str) (u : Value) : Prop :=
  (env.kindOf x = some .local ∧ m x = some u) ∨ ((env.kindOf x = some .cell ∨ env.kindOf x = some .free) ∧ ∃ c, env.cells.lookup x = some c ∧ h.IsCell c (some u))
structure Cx.Ok (X : Cx) : Prop where
  mod : Mod X.K X.mg X.base
  kind : X.env.scope.kind = .function
  glob : X.env.globals = mainGlobals
  blt : X.env.builtins = builtinsNs
  above : X.s₀.heap.objs.size ≤ X.env.locals
  inj : ∀ x y c, X.env.cells.lookup x = some c → X.env.cells.lookup y = some c → x = y
  has : ∀ x, (X.env.kindOf x = some .cell ∨ X.env.kindOf x = some .free) → ∃ c, X.env.cells.lookup x = some c
  cab : ∀ x c, X.fn x = true → X.env.cells.lookup x = some c → X.s₀.heap.objs.size ≤ c
  hd : X.calm = true → X.A.handled = none
  frames : X.A.frames = some X.stack
  stk : X.stack = X.outer ∨ (X.stack = X.env :: X.outer ∧ X.env.frame = some X.env.locals)
  exf : ∀ b ∈ X.ex, b ≠ X.env.locals ∧ ∀ x c, X.env.cells.lookup x = some c → c ≠ b
  bs : ∀ b o, X.base.get? b = some o → X.s₀.heap.get? b = some o ∧ X.H₀ b = none
  bsz : X.base.objs.size ≤ X.s₀.heap.objs.size
  noex : ∀ b o, X.base.get? b = some o → b ∉ X.ex
  exfs : ∀ b ∈ X.ex, b ∉ X.fs
  funs : X.s₀.heap.FunFrames X.base X.outer
  frf : ∀ b ∈ X.fs, X.H₀ b = none
structure Inv (X : Cx) (pins : List (Addr × Obj)) (σ : List (Option V)) (H : Hp) (s : Shared) : Prop where
  ok : X.Ok
  os : s.os = X.s₀.os
  bare : AllBare s.gens
  base : Un X.fs X.ex X.H₀ H X.s₀.heap s.heap
  loc : ∃ m, s.heap.Ns X.env.locals m ∧ ∀ (i : Nat) (x : Str) (v : V), X.N[i]? = some x → σ[i]? = some (some v) → Vis X.env.scope x → ∃ u, RelV v u ∧ Look X.env s.heap m x u
  cell : ∀ x c, X.env.cells.lookup x = some c → ∃ v, s.heap.IsCell c v
  free : H X.env.locals = none
  freeC : ∀ x c, X.env.cells.lookup x = some c → H c = none
  pin : ∀ p ∈ X.pn ++ pins, s.heap.get? p.1 = some p.2 ∧ H p.1 = none ∧ p.1 ≠ X.env.locals ∧ p.1 ∉ X.fs ∧ ∀ v, p.2.data ≠ .cell v
  hok : HOk X.prog X.w H s.heap
  len : σ.length = X.N.length
section
variable {X : Cx} {pins : List (Addr × Obj)} {σ : List (Option V)} {H H' : Hp} {s : Shared} {h' : Heap}
theorem Cx.Ok.nofr (ok : X.Ok) {b : Addr} {o : Obj} (e : X.base.get? b = some o) : b ∉ X.fs := fun hb => by
  have := (ok.funs.mem hb).1
  rw [e] at this; cases this
theorem Inv.bs (I : Inv X pins σ H s) : ∀ b o, X.base.get? b = some o → s.heap.get? b = some o ∧ H b = none := fun b o e =>
  ⟨I.base.keep b o (I.ok.bs b o e).1 (I.ok.bs b o e).2 (I.ok.nofr e) (I.ok.noex b o e), I.base.free b o (I.ok.bs b o e).1 (I.ok.bs b o e).2 (I.ok.noex b o e)⟩
theorem Inv.bk (I : Inv X pins σ H s) : ∀ b o, X.base.get? b = some o → s.heap.get? b = some o := fun b o e => (I.bs b o e).1
theorem Inv.mod (I : Inv X pins σ H s) : Mod X.K X.mg X.base := I.ok.mod
theorem Inv.kIn (I : Inv X pins σ H s) : X.K.In s.heap := I.ok.mod.kin.keeps I.bk
theorem Inv.lt (I : Inv X pins σ H s) : X.env.locals < s.heap.objs.size := let ⟨_, hn, _⟩ := I.loc; hn.lt
theorem Inv.sz (I : Inv X pins σ H s) : X.s₀.heap.objs.size ≤ s.heap.objs.size := Nat.le_trans I.ok.above (Nat.le_of_lt I.lt)
theorem Inv.nofs (I : Inv X pins σ H s) {a : Addr} (h : s.heap.objs.size ≤ a) : a ∉ X.fs := fun hb => by
  obtain ⟨_, o, ho, _⟩ := I.ok.funs.mem hb
  exact absurd (Nat.lt_of_lt_of_le (Heap.lt_size ho) (Nat.le_trans I.sz h)) (Nat.lt_irrefl _)
theorem Inv.cne (I : Inv X pins σ H s) : ∀ x c, X.env.cells.lookup x = some c → c ≠ X.env.locals := fun x c e z => by
  obtain ⟨v, o, ho, hd⟩ := I.cell x c e
  obtain ⟨m, ⟨o', es, ep, ho', hd', _⟩, _⟩ := I.loc
  rw [z, ho'] at ho; cases ho; rw [hd'] at hd; cases hd
theorem Inv.funs (I : Inv X pins σ H s) : s.heap.FunFrames X.base X.outer := by
  have all : ∀ (l : List Env), (∀ b ∈ frs l, b ∈ X.fs) → X.s₀.heap.FunFrames X.base l → s.heap.FunFrames X.base l := by
    intro l
    induction l with
    | nil => intro _ _; trivial
    | cons env r ih =>
      intro hs hl
      obtain ⟨hk, ⟨L, o, hf, hn, ho, hd⟩, hr⟩ := hl
      have hL : L ∈ X.fs := hs L (by unfold frs; rw [List.filterMap_cons, hf]; exact List.mem_cons_self)
      obtain ⟨sl, e⟩ := I.base.slot L o ho (I.ok.frf L hL) hL fun z => I.ok.exfs L z hL
      exact ⟨hk, ⟨L, _, hf, hn, e, hd⟩, ih (fun b hb => hs b (by unfold frs; rw [List.filterMap_cons, hf]; exact List.mem_cons_of_mem _ hb)) hr⟩
  exact all X.outer (fun _ hb => hb) I.ok.funs
theorem Inv.stack (I : Inv X pins σ H s) : s.heap.FunFrames X.base X.stack := by
  rcases I.ok.stk with e | ⟨e, hf⟩
  · rw [e]; exact I.funs
  · rw [e]
    obtain ⟨m, hn, _⟩ := I.loc
    refine .cons (by rw [I.ok.kind]; decide) hf hn ?_ I.funs
    exact Heap.get?_none_of_le (Nat.le_trans I.ok.bsz I.ok.above)
theorem Inv.stkSub (I : Inv X pins σ H s) : ∀ b ∈ frs X.stack, b ∈ X.env.locals :: X.fs := fun b hb => by
  rcases I.ok.stk with e | ⟨e, hf⟩
  · rw [e] at hb; exact List.mem_cons_of_mem _ hb
  · rw [e] at hb
    unfold frs at hb
    rw [List.filterMap_cons, hf] at hb
    exact hb
theorem Inv.stkFree (I : Inv X pins σ H s) : ∀ b ∈ frs X.stack, H b = none := fun b hb => by
  rcases List.mem_cons.mp (I.stkSub b hb) with e | hb
  · rw [e]; exact I.free
  · obtain ⟨_, o, ho, _⟩ := I.ok.funs.mem hb
    exact I.base.free b o ho (I.ok.frf b hb) fun z => I.ok.exfs b z hb
theorem Inv.step {g' : Array GenState} {t' : Nat} {d' : Drawn} {ch : List Addr} (I : Inv X pins σ H s)
    (hch : ∀ b ∈ ch, (b ∈ X.ex ∨ X.s₀.heap.objs.size ≤ b) ∧ b ≠ X.env.locals ∧ (∀ x c, X.env.cells.lookup x = some c → c ≠ b) ∧ ∀ p ∈ X.pn ++ pins, p.1 ≠ b)
    (keep : ∀ b o, b ≠ X.env.locals → b ∉ X.fs → b ∉ ch → s.heap.get? b = some o → H b = none → h'.get? b = some o)
    (slot : ∀ b o, b ≠ X.env.locals → b ∈ X.fs → b ∉ ch → s.heap.get? b = some o → H b = none → ∃ sl, h'.get? b = some { o with slots := sl }) (free : ∀ b o, b ∉ ch → s.heap.get? b = some o → H b = none → H' b = none)
    (there : ∀ b o, b ∉ ch → s.heap.get? b = some o → ∃ o', h'.get? b = some o')
    (tups : ∀ b xs, H b = some (.tup xs) → H' b = some (.tup xs)) (frzs : ∀ b o u, H b = some (.frz o u) → H' b = some (.frz o u)) (tbls : ∀ b ps, H b = some (.tbl ps) → ∃ more, H' b = some (.tbl (ps ++ more)))
    (ns : ∀ m, s.heap.Ns X.env.locals m → h'.Ns X.env.locals m) (hok : HOk X.prog X.w H' h') (hg : AllBare g') :
    Inv X pins σ H' { s with heap := h', gens := g', drawn := d', toks := t' } := by
  have neL : ∀ b o, X.s₀.heap.get? b = some o → b ≠ X.env.locals := fun b o e => Nat.ne_of_lt (Nat.lt_of_lt_of_le (Heap.lt_size e) I.ok.above)
  have neC : ∀ b o, X.s₀.heap.get? b = some o → b ∉ X.ex → b ∉ ch := fun b o e hx hb => by
    rcases (hch b hb).1 with z | z
    · exact hx z
    · exact absurd (Nat.lt_of_lt_of_le (Heap.lt_size e) z) (Nat.lt_irrefl _)
  have cellK : ∀ x c, X.env.cells.lookup x = some c → ∀ v, s.heap.IsCell c v → h'.IsCell c v := fun x c e v ⟨o, ho, hd⟩ => by
    have nch : c ∉ ch := fun z => (hch c z).2.2.1 x c e rfl
    by_cases hc : c ∈ X.fs
    · obtain ⟨sl, q⟩ := slot c o (I.cne x c e) hc nch ho (I.freeC x c e)
      exact ⟨_, q, hd⟩
    · exact ⟨o, keep c o (I.cne x c e) hc nch ho (I.freeC x c e), hd⟩
  refine ⟨I.ok, I.os, hg, ⟨fun b o e n hb hx => ?_, fun b o e n hb hx => ?_, fun b o e n hx => ?_, fun b o e hx => ?_, fun b xs e => tups b xs (I.base.tups b xs e), fun b o xs e => frzs b o xs (I.base.frzs b o xs e), fun b ps e => ?_⟩, ?_, fun x c e => ?_, ?_, fun x c e => ?_, fun p hp => ?_, hok, I.len⟩
  · exact keep b o (neL b o e) hb (neC b o e hx) (I.base.keep b o e n hb hx) (I.base.free b o e n hx)
  · obtain ⟨sl, e1⟩ := I.base.slot b o e n hb hx
    obtain ⟨sl', e2⟩ := slot b _ (neL b o e) hb (neC b o e hx) e1 (I.base.free b o e n hx)
    exact ⟨sl', e2⟩
  · obtain ⟨o', e1⟩ := I.base.there b o e hx
    exact free b o' (neC b o e hx) e1 (I.base.free b o e n hx)
  · obtain ⟨o', e1⟩ := I.base.there b o e hx
    exact there b o' (neC b o e hx) e1
  · obtain ⟨m1, e1⟩ := I.base.tbls b ps e
    obtain ⟨m2, e2⟩ := tbls b _ e1
    exact ⟨m1 ++ m2, by rw [e2, Array.append_assoc]⟩
  · obtain ⟨m, hn, hl⟩ := I.loc
    refine ⟨m, ns m hn, fun i x v e1 e2 e3 => ?_⟩
    obtain ⟨u, r, l⟩ := hl i x v e1 e2 e3
    refine ⟨u, r, ?_⟩
    rcases l with l | ⟨k, c, e, z⟩
    · exact .inl l
    · exact .inr ⟨k, c, e, cellK x c e _ z⟩
  · obtain ⟨v, z⟩ := I.cell x c e
    exact ⟨v, cellK x c e v z⟩
  · obtain ⟨m, ⟨o, _, _, ho, _⟩, _⟩ := I.loc
    exact free _ o (fun z => (hch _ z).2.1 rfl) ho I.free
  · obtain ⟨v, o, ho, hd⟩ := I.cell x c e
    exact free c o (fun z => (hch c z).2.2.1 x c e rfl) ho (I.freeC x c e)
  · obtain ⟨e, n, ne, nf, d⟩ := I.pin p hp
    have nch : p.1 ∉ ch := fun z => (hch p.1 z).2.2.2 p hp rfl
    exact ⟨keep p.1 p.2 ne nf nch e n, free p.1 p.2 nch e n, ne, nf, d⟩
theorem Inv.un {t' : Nat} (I : Inv X pins σ H s) (u : Un X.fs [] H H' s.heap h') (hok : HOk X.prog X.w H' h') : Inv X pins σ H' { s with heap := h', toks := t' } := by
  obtain ⟨m, ⟨o, es, ep, ho, r⟩, _⟩ := id I.loc
  obtain ⟨sl, hL⟩ := u.any ho I.free (by simp)
  exact I.step (g' := s.gens) (d' := s.drawn) (ch := []) (fun _ z => nomatch z) (fun b o _ hb _ e n => u.keep b o e n hb (by simp)) (fun b o _ hb _ e n => u.slot b o e n hb (by simp)) (fun b o _ e n => u.free b o e n (by simp)) (fun b o _ e => u.there b o e (by simp)) u.tups u.frzs u.tbls (fun m' hm => by
    obtain ⟨o', es', ep', ho', r'⟩ := hm
    rw [ho] at ho'; cases ho'
    exact ⟨_, es', ep', hL, r'⟩) hok I.bare
theorem Inv.call {g' : Array GenState} {t' : Nat} {d' : Drawn} {ch : List Addr} (I : Inv X pins σ H s) (u : Un (frs X.stack) ch H H' s.heap h') (hok : HOk X.prog X.w H' h') (hg : AllBare g')
    (hch : ∀ b ∈ ch, (b ∈ X.ex ∨ X.s₀.heap.objs.size ≤ b) ∧ b ≠ X.env.locals ∧ (∀ x c, X.env.cells.lookup x = some c → c ≠ b) ∧ ∀ p ∈ X.pn ++ pins, p.1 ≠ b) :
    Inv X pins σ H' { s with heap := h', gens := g', drawn := d', toks := t' } := by
  obtain ⟨m, ⟨o, es, ep, ho, r⟩, _⟩ := id I.loc
  obtain ⟨sl, hL⟩ := u.any ho I.free fun z => (hch _ z).2.1 rfl
  exact I.step (ch := ch) hch (fun b o hL hb hc e n => u.keep b o e n (fun z => (List.mem_cons.mp (I.stkSub b z)).elim hL hb) hc) (fun b o _ _ hc e n => u.any e n hc) (fun b o hc e n => u.free b o e n hc) (fun b o hc e => u.there b o e hc) u.tups u.frzs u.tbls (fun m' hm => by
    obtain ⟨o', es', ep', ho', r'⟩ := hm
    rw [ho] at ho'; cases ho'
    exact ⟨_, es', ep', hL, r'⟩) hok hg
theorem Inv.turned {t' : Nat} {it : Addr} (I : Inv X pins σ H s) (k : ∀ b o, b ≠ it → s.heap.get? b = some o → h'.get? b = some o) (hn : H it = none) (hL : it ≠ X.env.locals)
    (h1 : it ∈ X.ex ∨ X.s₀.heap.objs.size ≤ it) (h2 : ∀ x c, X.env.cells.lookup x = some c → c ≠ it) (h3 : ∀ p ∈ X.pn ++ pins, p.1 ≠ it) : Inv X pins σ H { s with heap := h', toks := t' } := by
  have nit : ∀ b u, H b = some u → b ≠ it := fun b u e z => by rw [z, hn] at e; cases e
  refine I.step (g' := s.gens) (d' := s.drawn) (ch := [it]) (fun b hb => ?_) (fun b o _ _ hc e _ => k b o (fun z => hc (by simp [z])) e) (fun b o _ _ hc e _ => ⟨o.slots, k b o (fun z => hc (by simp [z])) e⟩) (fun _ _ _ _ n => n)
    (fun b o hc e => ⟨o, k b o (fun z => hc (by simp [z])) e⟩) (fun _ _ e => e) (fun _ _ _ e => e) (fun b ps e => ⟨#[], by rw [e]; simp⟩) (fun m hm => ?_) (fun b u e => ?_) I.bare
  · have e : b = it := by simpa using hb
    subst e
    exact ⟨h1, hL, h2, h3⟩
  · obtain ⟨o, es, ep, ho, r⟩ := hm
    exact ⟨o, es, ep, k _ o (Ne.symm hL) ho, r⟩
  · refine (I.hok b u e).stay (fun c v hc q => k c v ?_ q) (fun _ q => q) fun _ _ q => q
    rcases hc with z | z
    · rw [z]; exact nit b u e
    · exact nit c _ z
theorem Inv.tok (I : Inv X pins σ H s) (t : Nat) : Inv X pins σ H { s with toks := t } := I.un (h' := s.heap) (t' := t) Un.refl I.hok
theorem Inv.kept {t' : Nat} (I : Inv X pins σ H s) (k : ∀ b u, s.heap.get? b = some u → h'.get? b = some u) : Inv X pins σ H { s with heap := h', toks := t' } := I.un (Un.kept k) (I.hok.kept k)
theorem Inv.laid {a : Addr} {o : HO} {t' : Nat} (I : Inv X pins σ H s) (k : ∀ b u, s.heap.get? b = some u → h'.get? b = some u) (hp : s.heap.objs.size ≤ a) (new : ObjOk X.prog X.w (upd H a o) h' a o) :
    Inv X pins σ (upd H a o) { s with heap := h', toks := t' } := I.un (Un.laid k hp (I.hok.fresh hp)) (I.hok.laid k hp new)
theorem Inv.write {x e : Addr} {o : HO} {t' : Nat} (I : Inv X pins σ H s) (mu : Mut (H x)) (he : e = x ∨ H e = some (.own x)) (k : ∀ b u, b ≠ e → s.heap.get? b = some u → h'.get? b = some u) (heo : ∃ u, h'.get? e = some u)
    (new : ObjOk X.prog X.w (upd H x o) h' x o) : Inv X pins σ (upd H x o) { s with heap := h', toks := t' } := I.un (Un.write mu he k heo) (I.hok.write mu he k heo new)
theorem Inv.pins_of {pins' : List (Addr × Obj)} (I : Inv X pins σ H s) (h : ∀ p ∈ pins', s.heap.get? p.1 = some p.2 ∧ H p.1 = none ∧ p.1 ≠ X.env.locals ∧ p.1 ∉ X.fs ∧ ∀ v, p.2.data ≠ .cell v) : Inv X pins' σ H s :=
  ⟨I.ok, I.os, I.bare, I.base, I.loc, I.cell, I.free, I.freeC, fun p hp => (List.mem_append.mp hp).elim (fun z => I.pin p (List.mem_append_left _ z)) (h p), I.hok, I.len⟩
theorem nodup_ix {N : List Str} (hN : N.Nodup) {i j : Nat} {x : Str} (a : N[i]? = some x) (b : N[j]? = some x) : i = j := by
  obtain ⟨h1, e1⟩ := List.getElem?_eq_some_iff.mp a
  obtain ⟨h2, e2⟩ := List.getElem?_eq_some_iff.mp b
  exact (List.getElem_inj hN).mp (e1.trans e2.symm)
theorem store_ok2 {M : Model} {A : Around} {E : Value → Shared → Prop} {i : Nat} {x : Str} {v : V} {u : Value} {Q : Unit → Shared → Prop} (I : Inv X pins σ H s) (hN : X.N.Nodup) (hi : X.N[i]? = some x) (hx : Loc X.env.scope x) (r : RelV v u)
    (h : ∀ s', Inv X pins (σ.set i (some v)) H s' → (∃ a, Heap.SameBut a s.heap s'.heap ∧ (a = X.env.locals ∨ X.env.cells.lookup x = some a)) → Q () s') (hf : X.fn x = true ∨ X.env.scope.names.lookup x = some .local := by first | exact .inl rfl | exact .inr rfl | assumption) : wpAny M A (storeName X.env x u) Q E s := by
  obtain ⟨m, hn, hl⟩ := id I.loc
  have hcls : (X.env.scope.kind == .class || (X.env.scope.kind == .module && X.env.locals != X.env.globals)) = false := by rw [I.ok.kind]; rfl
  have hiσ : i < σ.length := by rw [I.len]; exact (List.getElem?_eq_some_iff.mp hi).1
  have cne := I.cne
  have tracked : ∀ {a : Addr} {h' : Heap}, (∃ o, s.heap.get? a = some o ∧ H a = none) → Heap.SameBut a s.heap h' → HOk X.prog X.w H h' := fun {a h'} ha hs b ob e => by
    obtain ⟨_, _, hfree⟩ := ha
    refine (I.hok b ob e).stay (fun c w' hc q => (hs.2 c ?_).trans q) (fun _ q => q) fun _ _ q => q
    rintro rfl
    rcases hc with rfl | hc
    · rw [hfree] at e; cases e
    · rw [hfree] at hc; cases hc
  rcases hx with hk | hk
  · refine wpAny_storeName_local hk hn (fun h' hn' hs => ?_) hcls
    obtain ⟨oL, _, _, hoL, _⟩ := id hn
    refine h _ ⟨I.ok, I.os, I.bare, ⟨fun b o e n hb hx => ?_, fun b o e n hb hx => ?_, I.base.free, fun b o e hx => ?_, I.base.tups, I.base.frzs, I.base.tbls⟩, ⟨_, hn', fun j y v' e1 e2 e3 => ?_⟩, fun y c e => ?_, I.free, I.freeC, fun p hp => ?_, tracked ⟨oL, hoL, I.free⟩ hs, by simpa using I.len⟩ ⟨_, hs, .inl rfl⟩
    · exact (hs.2 b (Nat.ne_of_lt (Nat.lt_of_lt_of_le (Heap.lt_size e) I.ok.above))).trans (I.base.keep b o e n hb hx)
    · obtain ⟨sl, e1⟩ := I.base.slot b o e n hb hx
      exact ⟨sl, (hs.2 b (Nat.ne_of_lt (Nat.lt_of_lt_of_le (Heap.lt_size e) I.ok.above))).trans e1⟩
    · obtain ⟨o', e1⟩ := I.base.there b o e hx
      exact ⟨o', (hs.2 b (Nat.ne_of_lt (Nat.lt_of_lt_of_le (Heap.lt_size e) I.ok.above))).trans e1⟩
    · by_cases hj : j = i
      · subst hj
        rw [hi] at e1; cases e1
        rw [List.getElem?_set_self hiσ] at e2
        cases e2
        exact ⟨u, r, .inl ⟨hk, by simp⟩⟩
      · rw [List.getElem?_set_ne (Ne.symm hj)] at e2
        obtain ⟨u', r', q⟩ := hl j y v' e1 e2 e3
        refine ⟨u', r', ?_⟩
        rcases q with ⟨k, e⟩ | ⟨k, c, e, z⟩
        · refine .inl ⟨k, ?_⟩
          have : y ≠ x := fun e => hj (nodup_ix hN e1 (e ▸ hi))
          simp [this, e]
        · exact .inr ⟨k, c, e, z.sameBut hs (cne y c e)⟩
    · obtain ⟨w', z⟩ := I.cell y c e
      exact ⟨w', z.sameBut hs (cne y c e)⟩
    · obtain ⟨e, n, ne, nf, d⟩ := I.pin p hp
      exact ⟨(hs.2 p.1 ne).trans e, n, ne, nf, d⟩
  · have hfn : X.fn x = true := by
      rcases hf with z | z
      · exact z
      · rw [z] at hk; cases hk
    obtain ⟨c, hc⟩ := I.ok.has x (.inl hk)
    obtain ⟨w', z⟩ := I.cell x c hc
    refine wpAny_storeName_cell I.ok.kind hk hc z (fun h' hc' hs => ?_)
    obtain ⟨oc, hoc, hocd⟩ := id z
    refine h { s with heap := h' } ⟨I.ok, I.os, I.bare, ⟨fun b o e n hb hx => ?_, fun b o e n hb hx => ?_, I.base.free, fun b o e hx => ?_, I.base.tups, I.base.frzs, I.base.tbls⟩, ⟨m, hn.sameBut hs (Ne.symm (cne x c hc)), fun j y v' e1 e2 e3 => ?_⟩, fun y c' e => ?_, I.free, I.freeC, fun p hp => ?_, tracked ⟨oc, hoc, I.freeC x c hc⟩ hs, by simpa using I.len⟩ ⟨c, hs, .inr hc⟩
    · exact (hs.2 b (Nat.ne_of_lt (Nat.lt_of_lt_of_le (Heap.lt_size e) (I.ok.cab x c hfn hc)))).trans (I.base.keep b o e n hb hx)
    · obtain ⟨sl, e1⟩ := I.base.slot b o e n hb hx
      exact ⟨sl, (hs.2 b (Nat.ne_of_lt (Nat.lt_of_lt_of_le (Heap.lt_size e) (I.ok.cab x c hfn hc)))).trans e1⟩
    · obtain ⟨o', e1⟩ := I.base.there b o e hx
      exact ⟨o', (hs.2 b (Nat.ne_of_lt (Nat.lt_of_lt_of_le (Heap.lt_size e) (I.ok.cab x c hfn hc)))).trans e1⟩
    · by_cases hj : j = i
      · subst hj
        rw [hi] at e1; cases e1
        rw [List.getElem?_set_self hiσ] at e2
        cases e2
        exact ⟨u, r, .inr ⟨.inl hk, c, hc, hc'⟩⟩
      · rw [List.getElem?_set_ne (Ne.symm hj)] at e2
        obtain ⟨u', r', q⟩ := hl j y v' e1 e2 e3
        refine ⟨u', r', ?_⟩
        rcases q with q | ⟨k, c', e, z'⟩
        · exact .inl q
        · refine .inr ⟨k, c', e, z'.sameBut hs ?_⟩
          rintro rfl
          exact hj (nodup_ix hN e1 (I.ok.inj _ _ _ e hc ▸ hi))
    · by_cases hcc : c' = c
      · subst hcc; exact ⟨_, hc'⟩
      · obtain ⟨w2, z2⟩ := I.cell y c' e
        exact ⟨w2, z2.sameBut hs hcc⟩
    · obtain ⟨e, n, ne, nf, d⟩ := I.pin p hp
      refine ⟨(hs.2 p.1 ?_).trans e, n, ne, nf, d⟩
      intro q
      rw [q, hoc] at e
      have q' : oc = p.2 := Option.some.inj e
      exact d w' (by rw [← q']; exact hocd)
theorem store_ok {M : Model} {A : Around} {E : Value → Shared → Prop} {i : Nat} {x : Str} {v : V} {u : Value} {Q : Unit → Shared → Prop} (I : Inv X pins σ H s) (hN : X.N.Nodup) (hi : X.N[i]? = some x) (hx : Loc X.env.scope x) (r : RelV v u)
    (h : ∀ s', Inv X pins (σ.set i (some v)) H s' → Q () s') (hf : X.fn x = true ∨ X.env.scope.names.lookup x = some .local := by first | exact .inl rfl | exact .inr rfl | assumption) : wpAny M A (storeName X.env x u) Q E s :=
  store_ok2 I hN hi hx r (fun s' I' _ => h s' I') hf
theorem Inv.call' {s' : Shared} {ch : List Addr} (I : Inv X pins σ H s) (ho : s'.os = s.os) (u : Un (frs X.stack) ch H H' s.heap s'.heap) (hok : HOk X.prog X.w H' s'.heap) (hg : AllBare s'.gens)
    (hch : ∀ b ∈ ch, (b ∈ X.ex ∨ X.s₀.heap.objs.size ≤ b) ∧ b ≠ X.env.locals ∧ (∀ x c, X.env.cells.lookup x = some c → c ≠ b) ∧ ∀ p ∈ X.pn ++ pins, p.1 ≠ b) : Inv X pins σ H' s' := by
  obtain ⟨h', g', d', t', o'⟩ := s'
  have e : o' = s.os := ho
  subst e
  exact I.call (g' := g') (t' := t') (d' := d') u hok hg hch
end
noncomputable abbrev XK := Value → Option Addr → Hp → Prop
noncomputable abbrev St := List (Option V)
noncomputable abbrev VK := V → Hp → Prop
noncomputable abbrev TE := St → Hp → VK → Prop
noncomputable abbrev TT := St → Hp → (Bool → Hp → Prop) → Prop
noncomputable abbrev TA := St → Hp → (List V → Hp → Prop) → Prop
structure Ends where
  nx : St → Hp → Prop
  rt : VK
  bk : St → Hp → Prop := fun _ _ => False
  ct : St → Hp → Prop := fun _ _ => False
noncomputable abbrev TS := Ends → St → Hp → Prop
noncomputable def EP (X : Cx) (pins : List (Addr × Obj)) (σ : St) (Q : VK) (u : Value) (s' : Shared) : Prop := ∃ v H', Inv X pins σ H' s' ∧ RelV v u ∧ Q v H'
noncomputable def TP (X : Cx) (pins : List (Addr × Obj)) (σ : St) (Q : Bool → Hp → Prop) (b : Bool) (s' : Shared) : Prop := ∃ H', Inv X pins σ H' s' ∧ Q b H'
noncomputable def AP (X : Cx) (pins : List (Addr × Obj)) (σ : St) (Q : List V → Hp → Prop) (us : List Value) (s' : Shared) : Prop := ∃ vs H', Inv X pins σ H' s' ∧ Vals vs us ∧ Q vs H'
noncomputable def SP (X : Cx) (pins : List (Addr × Obj)) (D : Ends) (f : Flow) (s' : Shared) : Prop :=
  match f with
  | .next => ∃ σ' H', Inv X pins σ' H' s' ∧ D.nx σ' H'
  | .brk => ∃ σ' H', Inv X pins σ' H' s' ∧ D.bk σ' H'
  | .cont => ∃ σ' H', Inv X pins σ' H' s' ∧ D.ct σ' H'
  | .ret u => ∃ v σ' H', Inv X pins σ' H' s' ∧ RelV v u ∧ D.rt v H'
noncomputable def PE (X : Cx) (e : Expr) (t : TE) : Prop :=
  ∀ (pins : List (Addr × Obj)) (s : Shared) (σ : St) (H : Hp) (Q : VK), Inv X pins σ H s → t σ H Q → wpAny (model X.prog X.w) X.A (eval e X.env) (EP X pins σ Q) X.xe s
noncomputable def PT (X : Cx) (e : Expr) (t : TT) : Prop :=
  ∀ (pins : List (Addr × Obj)) (s : Shared) (σ : St) (H : Hp) (Q : Bool → Hp → Prop), Inv X pins σ H s → t σ H Q → wpAny (model X.prog X.w) X.A (isTrue e X.env (eval e X.env)) (TP X pins σ Q) X.xe s
noncomputable def PW (X : Cx) (e : Expr) (t : TT) : Prop :=
  ∀ (whole : Sem Value) (pins : List (Addr × Obj)) (s : Shared) (σ : St) (H : Hp) (Q : Bool → Hp → Prop), Inv X pins σ H s → t σ H Q → wpAny (model X.prog X.w) X.A (isTrue e X.env whole) (TP X pins σ Q) X.xe s
theorem PW.pt {X : Cx} {e : Expr} {t : TT} (h : PW X e t) : PT X e t := h _
noncomputable def PA (X : Cx) (es : List Expr) (t : TA) : Prop :=
  ∀ (pos : Pos) (pins : List (Addr × Obj)) (s : Shared) (σ : St) (H : Hp) (Q : List V → Hp → Prop), Inv X pins σ H s → t σ H Q → wpAny (model X.prog X.w) X.A (spliced (backTo pos (starEach es X.env))) (AP X pins σ Q) X.xe s
noncomputable def PS (X : Cx) (st : Stmt) (t : TS) : Prop :=
  ∀ (pins : List (Addr × Obj)) (s : Shared) (σ : St) (H : Hp) (D : Ends), Inv X pins σ H s → t D σ H → wpAny (model X.prog X.w) X.A (exec st X.env) (SP X pins D) X.xe s
noncomputable def PSs (X : Cx) (st : List Stmt) (t : TS) : Prop :=
  ∀ (pins : List (Addr × Obj)) (s : Shared) (σ : St) (H : Hp) (D : Ends), Inv X pins σ H s → t D σ H → wpAny (model X.prog X.w) X.A (execs st X.env) (SP X pins D) X.xe s
theorem thn {α : Type} {t : Sem α} {Q Q' : α → Shared → Prop} {M : Model} {A : Around} {E : Value → Shared → Prop} {s : Shared} (h : wpAny M A t Q E s) (hQ : ∀ a s, Q a s → Q' a s) : wpAny M A t Q' E s := wpAny_mono h hQ fun _ _ x => x
end L2
namespace L2
open PySem PySem.Spec PyProof.Rows
section
variable {X : Cx}
noncomputable def tVar (i : Nat) : TE := fun σ H Q => ∃ v, σ[i]? = some (some v) ∧ Q v H
noncomputable def tC (v : V) : TE := fun _ H Q => Q v H
theorem pe_var {i : Nat} {x : Str} {pos : Pos} (hN : X.N[i]? = some x) (hv : Vis X.env.scope x) (hd : (x == ("__debug__" : Str)) = false := by decide) (hcd : (x == ("__classdict__" : Str)) = false := by decide) : PE X (.Name x pos) (tVar i) := by
  intro pins s σ H Q I h
  obtain ⟨v, e, h⟩ := h
  obtain ⟨m, hn, hl⟩ := I.loc
  obtain ⟨u, r, l⟩ := hl i x v hN e hv
  have fin : EP X pins σ Q u s := ⟨v, H, I, r, h⟩
  rcases l with ⟨hk, hm⟩ | ⟨hk, c, hc, hcell⟩
  · exact wpAny_Name (wpAny_loadName_local I.ok.kind hk hn hm fin) hd
  · rcases hk with hk | hk
    · exact wpAny_Name (wpAny_loadName_cell I.ok.kind hk hc hcell fin) hd
    · exact wpAny_Name (wpAny_loadName_free I.ok.kind hk hc hcell fin hcd) hd
theorem pe_int {i j pos} : PE X (.Constant (.int i) j pos) (tC (.int i)) := fun _ _ _ H _ I h => wpAny_Constant_int ⟨.int i, H, I.tok _, ⟨_, rfl⟩, h⟩
theorem pe_bl {b j pos} : PE X (.Constant (.bool b) j pos) (tC (.bl b)) := fun _ _ _ H _ I h => Constant_bool ⟨.bl b, H, I, rfl, h⟩
theorem pe_non {j pos} : PE X (.Constant .none j pos) (tC .non) := fun _ _ _ H _ I h => Constant_none ⟨.non, H, I, rfl, h⟩
theorem pe_str {x j pos} : PE X (.Constant (.str x) j pos) (tC (.str x)) := fun _ _ _ H _ I h => Calls.Constant_str ⟨.str x, H, I.tok _, ⟨_, rfl⟩, h⟩
noncomputable def Gl (X : Cx) (x : Str) : Prop := X.env.kindOf x = some .globalImplicit
theorem ld_glob {E : Value → Shared → Prop} {pins : List (Addr × Obj)} {s : Shared} {σ : St} {H : Hp} {x : Str} {u : Value} {pos : Pos} {Q : Value → Shared → Prop} (I : Inv X pins σ H s) (hg : Gl X x) (hm : X.mg x = some u) (h : Q u s)
    (hd : (x == ("__debug__" : Str)) = false := by decide) : wpAny (model X.prog X.w) X.A (eval (.Name x pos) X.env) Q E s :=
  Calls.Name_function_global I.ok.kind hg (Calls.loadGlobal_global (by rw [I.ok.glob]; exact I.mod.glob.keeps I.bk) hm h) hd
theorem ld_blt {E : Value → Shared → Prop} {pins : List (Addr × Obj)} {s : Shared} {σ : St} {H : Hp} {x : Str} {u : Value} {pos : Pos} {Q : Value → Shared → Prop} (I : Inv X pins σ H s) (hg : Gl X x) (hm : X.mg x = none) (hv : bootBuiltins x = some u) (h : Q u s)
    (hn : x ≠ "__name__" := by decide) (hd : (x == ("__debug__" : Str)) = false := by decide) : wpAny (model X.prog X.w) X.A (eval (.Name x pos) X.env) Q E s := by
  obtain ⟨mb, h1, h2⟩ := I.mod.blt
  exact Calls.Name_function_global I.ok.kind hg (Calls.loadGlobal_builtin (by rw [I.ok.glob]; exact I.mod.glob.keeps I.bk) hm (by rw [I.ok.blt]; exact h1.keeps I.bk) ((h2 x hn).trans hv) h) hd
theorem pe_glob {x : Str} {v : V} {u : Value} {pos : Pos} (hg : Gl X x) (hm : X.mg x = some u) (r : RelV v u) (hd : (x == ("__debug__" : Str)) = false := by decide) : PE X (.Name x pos) (tC v) :=
  fun _ _ _ H _ I h => ld_glob I hg hm ⟨v, H, I, r, h⟩ hd
theorem pe_bltn {x : Str} {v : V} {u : Value} {pos : Pos} (hg : Gl X x) (hm : X.mg x = none) (hv : bootBuiltins x = some u) (r : RelV v u) (hn : x ≠ "__name__" := by decide) (hd : (x == ("__debug__" : Str)) = false := by decide) : PE X (.Name x pos) (tC v) :=
  fun _ _ _ H _ I h => ld_blt I hg hm hv ⟨v, H, I, r, h⟩ hn hd
variable {a b : Expr} {ta tb : TE} {pos : Pos}
noncomputable def PC (X : Cx) (op : CmpOp) (a b : Expr) (t : TE) : Prop :=
  ∀ (pins : List (Addr × Obj)) (s : Shared) (σ : St) (H : Hp) (Q : VK), Inv X pins σ H s → t σ H Q →
    wpAny (model X.prog X.w) X.A (eval a X.env) (fun v s₁ => wpAny (model X.prog X.w) X.A (eval b X.env) (fun u s₂ => wpAny (model X.prog X.w) X.A (compareOp op v u) (EP X pins σ Q) X.xe s₂) X.xe s₁) X.xe s
theorem nobehind (b : Expr) {op : CmpOp} (h : op ≠ .In) (h2 : op ≠ .NotIn) : behindInMarks op b = false := by
  have e1 : (op == CmpOp.In) = false := by cases op <;> first | rfl | exact absurd rfl h
  have e2 : (op == CmpOp.NotIn) = false := by cases op <;> first | rfl | exact absurd rfl h2
  cases b <;> simp [behindInMarks, e1, e2]
noncomputable def tIsN (ta : TE) : TE := fun σ H Q => ta σ H fun x H1 => Q (.bl (decide (x = .non))) H1
noncomputable def tNotN (ta : TE) : TE := fun σ H Q => ta σ H fun x H1 => Q (.bl (!decide (x = .non))) H1
theorem RelV.none_iff {x : V} {v : Value} (r : RelV x v) : (v == Value.none) = decide (x = .non) := by
  cases x with
  | non => cases r; rfl
  | bl _ => cases r; rfl
  | int _ => obtain ⟨t, rfl⟩ := r; rfl
  | str _ => obtain ⟨t, rfl⟩ := r; rfl
  | byt _ => obtain ⟨t, rfl⟩ := r; rfl
  | flt _ => obtain ⟨t, rfl⟩ := r; rfl
  | ref _ => cases r; rfl
  | ty _ => cases r; rfl
theorem pc_isN {j pos'} (ha : PE X a ta) : PC X .Is a (.Constant .none j pos') (tIsN ta) := by
  intro pins s σ H Q I h
  refine thn (ha pins s σ H _ I h) fun v s1 ⟨x, H1, I1, r1, q1⟩ => ?_
  exact Constant_none (is_none_gen ⟨.bl _, H1, I1, by rw [r1.none_iff]; rfl, q1⟩)
theorem pc_notN {j pos'} (ha : PE X a ta) : PC X .IsNot a (.Constant .none j pos') (tNotN ta) := by
  intro pins s σ H Q I h
  refine thn (ha pins s σ H _ I h) fun v s1 ⟨x, H1, I1, r1, q1⟩ => ?_
  exact Constant_none (isnot_none_gen ⟨.bl _, H1, I1, by rw [r1.none_iff]; rfl, q1⟩)
noncomputable def tB (t : TE) : TT := fun σ H Q => t σ H fun x H1 => ∃ c, x = .bl c ∧ Q c H1
theorem pt_cmp {op : CmpOp} {t : TE} (h : PC X op a b t) (h1 : behindInMarks op b = false := by first | exact nobehind _ (by decide) (by decide) | rfl) : PT X (.Compare a [op] [b] pos) (tB t) := by
  intro pins s σ H Q I hw
  refine wpAny_isTrue_Compare1 (thn (h pins s σ H _ I hw) fun v s1 h1 => thn h1 fun u s2 h2 => thn h2 fun c s3 ⟨x, H1, I1, r1, q1⟩ => ?_) h1
  obtain ⟨d, rfl, q⟩ := q1
  cases r1
  exact wpAny_truthy_bool ⟨H1, I1, q⟩
theorem pt_val {e : Expr} {t : TE} (h : PE X e t) (he : ∀ whole, isTrue e X.env whole = (do let v ← whole; standAt e.pos; holding [v] (truthy v)) := by intro _; rfl) : PT X e (tB t) := by
  intro pins s σ H Q I hw
  refine isTrue_plain (thn (h pins s σ H _ I hw) fun v s1 ⟨x, H1, I1, r1, q1⟩ => ?_) (he _)
  obtain ⟨d, rfl, q⟩ := q1
  cases r1
  exact wpAny_truthy_bool ⟨H1, I1, q⟩
variable {tA tB' : TT} {rest : List Expr}
noncomputable def tAnd (t u : TT) : TT := fun σ H Q => t σ H fun c H1 => if c = true then u σ H1 Q else Q false H1
noncomputable def tOr (t u : TT) : TT := fun σ H Q => t σ H fun c H1 => if c = true then Q true H1 else u σ H1 Q
noncomputable def tNot (t : TT) : TT := fun σ H Q => t σ H fun c H1 => Q (!c) H1
theorem pw_and1 (ha : PT X a tA) : PW X (.BoolOp .And [a] pos) tA := by
  intro wh pins s σ H Q I h
  refine isTrue_and (thn (ha pins s σ H Q I h) fun c s1 e => ?_)
  cases c with
  | true => exact isTrue_and_nil e
  | false => exact e
theorem pw_or1 (ha : PT X a tA) : PW X (.BoolOp .Or [a] pos) tA := by
  intro wh pins s σ H Q I h
  refine isTrue_or (thn (ha pins s σ H Q I h) fun c s1 e => ?_)
  cases c with
  | false => exact isTrue_or_nil e
  | true => exact e
theorem pw_and (ha : PT X a tA) (hb : PW X (.BoolOp .And (b :: rest) pos) tB') : PW X (.BoolOp .And (a :: b :: rest) pos) (tAnd tA tB') := by
  intro wh pins s σ H Q I h
  refine isTrue_and (thn (ha pins s σ H _ I h) fun c s1 ⟨H1, I1, q1⟩ => ?_)
  cases c with
  | true => exact hb wh pins s1 σ H1 Q I1 q1
  | false => exact ⟨H1, I1, q1⟩
theorem pw_or (ha : PT X a tA) (hb : PW X (.BoolOp .Or (b :: rest) pos) tB') : PW X (.BoolOp .Or (a :: b :: rest) pos) (tOr tA tB') := by
  intro wh pins s σ H Q I h
  refine isTrue_or (thn (ha pins s σ H _ I h) fun c s1 ⟨H1, I1, q1⟩ => ?_)
  cases c with
  | true => exact ⟨H1, I1, q1⟩
  | false => exact hb wh pins s1 σ H1 Q I1 q1
theorem pt_not (ha : PT X a tA) : PT X (.UnaryOp .Not a pos) (tNot tA) := by
  intro pins s σ H Q I h
  exact isTrue_not (ha pins s σ H (fun c H1 => Q (!c) H1) I h)
noncomputable def tAndV (ta tb : TE) : TE := fun σ H Q => ta σ H fun x H1 => ∃ c, x = .bl c ∧ if c = true then tb σ H1 Q else Q (.bl false) H1
noncomputable def tOrV (ta tb : TE) : TE := fun σ H Q => ta σ H fun x H1 => ∃ c, x = .bl c ∧ if c = true then Q (.bl true) H1 else tb σ H1 Q
noncomputable def tNotV (ta : TE) : TE := fun σ H Q => ta σ H fun x H1 => ∃ c, x = .bl c ∧ Q (.bl (!c)) H1
theorem pe_one {op} {t : TE} (h : PE X a t) : PE X (.BoolOp op [a] pos) t := fun pins s σ H Q I hw => BoolOp_one (h pins s σ H Q I hw)
theorem pe_and (ha : PE X a ta) (hb : PE X (.BoolOp .And (b :: rest) pos) tb) : PE X (.BoolOp .And (a :: b :: rest) pos) (tAndV ta tb) := by
  intro pins s σ H Q I h
  refine BoolOp_and (thn (ha pins s σ H _ I h) fun v s1 ⟨x, H1, I1, r1, q1⟩ => ?_)
  obtain ⟨c, rfl, q1⟩ := q1
  cases r1
  refine wpAny_truthy_bool ?_
  cases c with
  | true => exact hb pins s1 σ H1 Q I1 q1
  | false => exact ⟨.bl false, H1, I1, rfl, q1⟩
theorem pe_or (ha : PE X a ta) (hb : PE X (.BoolOp .Or (b :: rest) pos) tb) : PE X (.BoolOp .Or (a :: b :: rest) pos) (tOrV ta tb) := by
  intro pins s σ H Q I h
  refine BoolOp_or (thn (ha pins s σ H _ I h) fun v s1 ⟨x, H1, I1, r1, q1⟩ => ?_)
  obtain ⟨c, rfl, q1⟩ := q1
  cases r1
  refine wpAny_truthy_bool ?_
  cases c with
  | false => exact hb pins s1 σ H1 Q I1 q1
  | true => exact ⟨.bl true, H1, I1, rfl, q1⟩
theorem pe_not (ha : PE X a ta) : PE X (.UnaryOp .Not a pos) (tNotV ta) := by
  intro pins s σ H Q I h
  refine UnaryOp_ (thn (ha pins s σ H _ I h) fun v s1 ⟨x, H1, I1, r1, q1⟩ => ?_)
  obtain ⟨c, rfl, q1⟩ := q1
  cases r1
  exact not_of (wpAny_truthy_bool ⟨.bl (!c), H1, I1, rfl, q1⟩)
noncomputable def tIf (t : TT) (ta tb : TE) : TE := fun σ H Q => t σ H fun c H1 => if c = true then ta σ H1 Q else tb σ H1 Q
theorem pe_ifExp {c : Expr} (hc : PT X c tA) (ha : PE X a ta) (hb : PE X b tb) : PE X (.IfExp c a b pos) (tIf tA ta tb) := by
  intro pins s σ H Q I h
  refine wpAny_IfExp (thn (hc pins s σ H _ I h) fun d s1 ⟨H1, I1, q1⟩ => ?_)
  cases d with
  | true => exact ha pins s1 σ H1 Q I1 q1
  | false => exact hb pins s1 σ H1 Q I1 q1
end
end L2
namespace L2
open PySem PySem.Spec PyProof.Rows
noncomputable def SqL (K : PySem.W.Frag) (H : Hp) (a : Addr) (xs : List V) : Prop :=
  Rd H a (.lst xs) ∨
    ∃ (o : Obj) (its : Array Value) (n : Nat), K.lookup a = some o ∧ o.cls = .type "list" ∧ o.dict = none ∧ o.data = .seq its n ∧ its.size ≤ sizeLine ∧ Vals xs its.toList
noncomputable def SqT (K : PySem.W.Frag) (H : Hp) (a : Addr) (xs : List V) : Prop :=
  Rd H a (.tup xs) ∨
    ∃ (o : Obj) (its : Array Value) (n : Nat), K.lookup a = some o ∧ o.cls = .type "tuple" ∧ o.data = .seq its n ∧ its.size ≤ sizeLine ∧ Vals xs its.toList
noncomputable def absV : Value → Option V
  | .none => some .non
  | .bool b => some (.bl b)
  | .int i _ => some (.int i)
  | .str x _ => some (.str x)
  | .bytes b _ => some (.byt b)
  | .float b _ => some (.flt b)
  | .ref a => some (.ref a)
  | .type n => some (.ty n)
  | _ => none
theorem RelV.abs {x : V} {u : Value} (r : RelV x u) : absV u = some x := by
  cases x with
  | non => cases r; rfl
  | bl _ => cases r; rfl
  | int _ => obtain ⟨t, rfl⟩ := r; rfl
  | str _ => obtain ⟨t, rfl⟩ := r; rfl
  | byt _ => obtain ⟨t, rfl⟩ := r; rfl
  | flt _ => obtain ⟨t, rfl⟩ := r; rfl
  | ref _ => cases r; rfl
  | ty _ => cases r; rfl
theorem RelV.inj {x y : V} {u : Value} (r : RelV x u) (q : RelV y u) : x = y := Option.some.inj (r.abs.symm.trans q.abs)
theorem Vals.inj : ∀ {xs ys : List V} {us : List Value}, Vals xs us → Vals ys us → xs = ys
  | _, _, _, .nil, .nil => rfl
  | _, _, _, .cons r t, .cons r' t' => by rw [r.inj r', Vals.inj t t']
section
variable {X : Cx} {pins : List (Addr × Obj)} {σ : St} {H : Hp} {s : Shared} {a : Addr} {xs ys : List V}
theorem SqL.of {K : PySem.W.Frag} (h : H a = some (.lst xs)) : SqL K H a xs := .inl (.inl h)
theorem SqT.of {K : PySem.W.Frag} (h : H a = some (.tup xs)) : SqT K H a xs := .inl (.inl h)
theorem Inv.list (I : Inv X pins σ H s) (h : SqL X.K H a xs) : ∃ its : List Value, Vals xs its ∧ PlainL s.heap a its.toArray ∧ xs.length ≤ sizeLine := by
  rcases h with h | ⟨o, its, n, hk, hc, hd, hs, hz, r⟩
  · obtain ⟨z, its, n, r, e⟩ := h.ok I.hok
    exact ⟨its, r, ⟨_, n, e, rfl, rfl, rfl⟩, z⟩
  · refine ⟨its.toList, r, ⟨o, n, I.kIn a o hk, hc, hd, by simpa using hs⟩, ?_⟩
    have e := r.length
    simp only [Array.length_toList] at e
    omega
theorem Inv.tuple (I : Inv X pins σ H s) (h : SqT X.K H a xs) : ∃ its : List Value, Vals xs its ∧ IsTup s.heap a its.toArray ∧ xs.length ≤ sizeLine := by
  rcases h with h | ⟨o, its, n, hk, hc, hs, hz, r⟩
  · obtain ⟨z, its, r, p⟩ := h.ok I.hok
    exact ⟨its, r, p, z⟩
  · refine ⟨its.toList, r, ⟨o, I.kIn a o hk, hc, n, by simpa using hs⟩, ?_⟩
    have e := r.length
    simp only [Array.length_toList] at e
    omega
theorem Inv.list_inj (I : Inv X pins σ H s) (h : SqL X.K H a xs) (h' : SqL X.K H a ys) : xs = ys := by
  obtain ⟨its, r, ⟨o, n, e, _, _, d⟩, _⟩ := I.list h
  obtain ⟨its', r', ⟨o', n', e', _, _, d'⟩, _⟩ := I.list h'
  rw [e] at e'; cases e'
  rw [d] at d'
  injection d' with d1 _
  have : its = its' := by simpa using congrArg Array.toList d1
  subst this
  exact r.inj r'
theorem Inv.tuple_inj (I : Inv X pins σ H s) (h : SqT X.K H a xs) (h' : SqT X.K H a ys) : xs = ys := by
  obtain ⟨its, r, ⟨o, e, _, n, d⟩, _⟩ := I.tuple h
  obtain ⟨its', r', ⟨o', e', _, n', d'⟩, _⟩ := I.tuple h'
  rw [e] at e'; cases e'
  rw [d] at d'
  injection d' with d1 _
  have : its = its' := by simpa using congrArg Array.toList d1
  subst this
  exact r.inj r'
end
noncomputable abbrev Cx.wish (X : Cx) (E : Value → Shared → Prop) : Cx := { X with xe := E }
noncomputable abbrev Cx.nox (X : Cx) : Cx := X.wish fun _ _ => False
theorem Cx.Ok.wish {X : Cx} (ok : X.Ok) (E : Value → Shared → Prop) : (X.wish E).Ok :=
  ⟨ok.mod, ok.kind, ok.glob, ok.blt, ok.above, ok.inj, ok.has, ok.cab, ok.hd, ok.frames, ok.stk, ok.exf, ok.bs, ok.bsz, ok.noex, ok.exfs, ok.funs, ok.frf⟩
theorem Cx.Ok.unwish {X : Cx} {E : Value → Shared → Prop} (ok : (X.wish E).Ok) : X.Ok :=
  ⟨ok.mod, ok.kind, ok.glob, ok.blt, ok.above, ok.inj, ok.has, ok.cab, ok.hd, ok.frames, ok.stk, ok.exf, ok.bs, ok.bsz, ok.noex, ok.exfs, ok.funs, ok.frf⟩
section
variable {X : Cx} {pins : List (Addr × Obj)} {σ : St} {H : Hp} {s : Shared} {E : Value → Shared → Prop}
theorem Inv.wish (I : Inv X pins σ H s) (E : Value → Shared → Prop) : Inv (X.wish E) pins σ H s := ⟨I.ok.wish E, I.os, I.bare, I.base, I.loc, I.cell, I.free, I.freeC, I.pin, I.hok, I.len⟩
theorem Inv.unwish (I : Inv (X.wish E) pins σ H s) : Inv X pins σ H s := ⟨I.ok.unwish, I.os, I.bare, I.base, I.loc, I.cell, I.free, I.freeC, I.pin, I.hok, I.len⟩
theorem SP.unwish {D : Ends} {f : Flow} {s' : Shared} (h : SP (X.wish E) pins D f s') : SP X pins D f s' := by
  cases f with
  | next => obtain ⟨σ', H', I, q⟩ := h; exact ⟨σ', H', I.unwish, q⟩
  | brk => obtain ⟨σ', H', I, q⟩ := h; exact ⟨σ', H', I.unwish, q⟩
  | cont => obtain ⟨σ', H', I, q⟩ := h; exact ⟨σ', H', I.unwish, q⟩
  | ret u => obtain ⟨v, σ', H', I, r, q⟩ := h; exact ⟨v, σ', H', I.unwish, r, q⟩
theorem PSs.nox {st : List Stmt} {t : TS} (h : PSs X.nox st t) : PSs X st t := fun pins s σ H D I hw =>
  wpAny_mono (h pins s σ H D (I.wish _) hw) (fun _ _ q => q.unwish) fun _ _ z => False.elim z
end
section
variable {X : Cx} {st : Stmt} {rest : List Stmt} {t u : TS} {e : Expr} {te : TE} {pos : Pos}
noncomputable def tNext : TS := fun D σ H => D.nx σ H
noncomputable def tSeq (t u : TS) : TS := fun D σ H => t { D with nx := u D } σ H
theorem pss_nil : PSs X [] tNext := fun _ _ σ H _ I h => wpAny_execs_nil ⟨σ, H, I, h⟩
theorem pss_cons (h1 : PS X st t) (h2 : PSs X rest u) : PSs X (st :: rest) (tSeq t u) := by
  intro pins s σ H D I h
  refine wpAny_execs_cons (thn (h1 pins s σ H { D with nx := u D } I h) fun f s1 q => ?_)
  cases f with
  | next =>
    obtain ⟨σ', H', I', q⟩ := q
    exact h2 pins s1 σ' H' D I' q
  | ret v => exact q
  | brk => exact q
  | cont => exact q
theorem pss_one (h1 : PS X st t) : PSs X [st] t := by
  intro pins s σ H D I h
  refine wpAny_execs_cons (thn (h1 pins s σ H D I h) fun f s1 q => ?_)
  cases f with
  | next => exact wpAny_execs_nil q
  | ret v => exact q
  | brk => exact q
  | cont => exact q
theorem Inv.quiet {pins : List (Addr × Obj)} {σ : St} {H : Hp} {s : Shared} (I : Inv X pins σ H s) : interactive X.env = false := by simp [interactive, I.ok.kind]
noncomputable def tDrop (te : TE) : TS := fun D σ H => te σ H fun _ H1 => D.nx σ H1
theorem ps_expr (he : PE X e te) (hs : swapsWith e none pos.line X.env = pure false := by rfl) : PS X (.Expr e pos) (tDrop te) := by
  intro pins s σ H D I h
  exact wpAny_Expr_any (thn (he pins s σ H _ I h) fun v s1 ⟨x, H1, I1, r1, q1⟩ => ⟨σ, H1, I1, q1⟩) I.quiet hs
noncomputable def tRet (te : TE) : TS := fun D σ H => te σ H D.rt
theorem ps_ret (he : PE X e te) : PS X (.Return (some e) pos) (tRet te) := by
  intro pins s σ H D I h
  exact wpAny_Return_some (thn (he pins s σ H _ I h) fun v s1 ⟨x, H1, I1, r1, q1⟩ => ⟨x, σ, H1, I1, r1, q1⟩)
noncomputable def tIfS (c : TT) (t u : TS) : TS := fun D σ H => c σ H fun b H1 => if b = true then t D σ H1 else u D σ H1
theorem ps_if {c : Expr} {a b : List Stmt} {tc : TT} (hc : PT X c tc) (ha : PSs X a t) (hb : PSs X b u) : PS X (.If c a b pos) (tIfS tc t u) := by
  intro pins s σ H D I h
  refine wpAny_If (thn (hc pins s σ H _ I h) fun d s1 ⟨H1, I1, q1⟩ => ?_)
  cases d with
  | true => exact ha pins s1 σ H1 D I1 q1
  | false => exact hb pins s1 σ H1 D I1 q1
end
noncomputable abbrev TG := V → St → Hp → (St → Hp → Prop) → Prop
noncomputable abbrev TGs := List V → St → Hp → (St → Hp → Prop) → Prop
noncomputable def PG (X : Cx) (target : Expr) (t : TG) : Prop :=
  ∀ (pins : List (Addr × Obj)) (s : Shared) (σ : St) (H : Hp) (v : V) (u : Value) (Q : St → Hp → Prop), Inv X pins σ H s → RelV v u → t v σ H Q →
    wpAny (model X.prog X.w) X.A (assign target X.env u) (fun _ s' => ∃ σ' H', Inv X pins σ' H' s' ∧ Q σ' H') X.xe s
noncomputable def PGs (X : Cx) (ts : List Expr) (t : TGs) : Prop :=
  ∀ (pins : List (Addr × Obj)) (s : Shared) (σ : St) (H : Hp) (vs : List V) (us : List Value) (Q : St → Hp → Prop), Inv X pins σ H s → Vals vs us → t vs σ H Q →
    wpAny (model X.prog X.w) X.A (assignInOrder ((assignEach ts X.env).map (·.2)) us) (fun _ s' => ∃ σ' H', Inv X pins σ' H' s' ∧ Q σ' H') X.xe s
section
variable {X : Cx} {pos : Pos}
noncomputable def gName (i : Nat) : TG := fun v σ H Q => Q (σ.set i (some v)) H
theorem pg_name {i : Nat} {x : Str} (hN : X.N.Nodup) (hi : X.N[i]? = some x) (hx : Loc X.env.scope x) (hf : X.fn x = true ∨ X.env.scope.names.lookup x = some .local := by first | exact .inl rfl | exact .inr rfl | assumption) : PG X (.Name x pos) (gName i) := by
  intro pins s σ H v u Q I r h
  exact wpAny_assign_Name (store_ok I hN hi hx r (fun s' I' => ⟨_, H, I', h⟩) hf)
noncomputable def gNil : TGs := fun vs σ H Q => vs = [] ∧ Q σ H
noncomputable def gCons (t : TG) (u : TGs) : TGs := fun vs σ H Q => ∃ v r, vs = v :: r ∧ t v σ H fun σ' H' => u r σ' H' Q
theorem pgs_nil : PGs X [] gNil := by
  intro pins s σ H vs us Q I r h
  obtain ⟨e, h⟩ := h
  subst e
  cases r
  exact assignInOrder_nil ⟨σ, H, I, h⟩
theorem pgs_cons {e : Expr} {es : List Expr} {t : TG} {u : TGs} (h1 : PG X e t) (h2 : PGs X es u)
    (hs : (assignEach (e :: es) X.env).map (·.2) = assign e X.env :: (assignEach es X.env).map (·.2) := by rfl) : PGs X (e :: es) (gCons t u) := by
  intro pins s σ H vs us Q I r h
  obtain ⟨v, vr, e1, h⟩ := h
  subst e1
  cases r with
  | cons r rr =>
    rw [hs]
    refine assignInOrder_cons (thn (h1 pins s σ H _ _ _ I r h) fun _ s1 ⟨σ1, H1, I1, q1⟩ => ?_)
    exact h2 pins s1 σ1 H1 _ _ Q I1 rr q1
noncomputable def gTup (K : PySem.W.Frag) (n : Nat) (t : TGs) : TG := fun v σ H Q => ∃ a xs, v = .ref a ∧ SqT K H a xs ∧ xs.length = n ∧ t xs σ H Q
theorem pg_tup {es : List Expr} {k : Nat} {t : TGs} {n : Nat} (hc : X.calm = true) (h : PGs X es t)
    (hn : (assignEach es X.env).length = n := by rfl) (hst : (assignEach es X.env).findIdx? (·.1) = none := by rfl) : PG X (.Tuple es k pos) (gTup X.K n t) := by
  intro pins s σ H v u Q I r hw
  obtain ⟨a, xs, e1, hq, hl, hw⟩ := hw
  subst e1
  cases r
  obtain ⟨its, rv, ht, hz⟩ := I.tuple hq
  refine assign_Tuple_tuple (I.ok.hd hc) ht (by simp [hn, ← hl, rv.length]) hst fun h' hx => ?_
  have I1 : Inv X pins σ H { s with heap := h' } := I.kept (t' := s.toks) fun b o e => hx b o (Nat.ne_of_lt (Heap.lt_size e)) e
  exact h pins _ σ H xs _ Q I1 (by simpa using rv) hw
noncomputable def tAsg (te : TE) (g : TG) : TS := fun D σ H => te σ H fun x H1 => g x σ H1 D.nx
theorem ps_set {i : Nat} {x : Str} {e : Expr} {te : TE} {pos' : Pos} (hN : X.N.Nodup) (hi : X.N[i]? = some x) (hx : Loc X.env.scope x) (he : PE X e te) (hs : swapsWith e (some (.Name x pos')) pos.line X.env = pure false := by rfl) (hf : X.fn x = true ∨ X.env.scope.names.lookup x = some .local := by first | exact .inl rfl | exact .inr rfl | assumption) :
    PS X (.Assign [.Name x pos'] e pos) (tAsg te (gName i)) := by
  intro pins s σ H D I h
  refine wpAny_Assign_Name (thn (he pins s σ H _ I h) fun v s1 ⟨y, H1, I1, r1, q1⟩ => ?_) hs
  exact store_ok I1 hN hi hx r1 (fun s2 I2 => ⟨_, H1, I2, q1⟩) hf
end
section
variable {X : Cx} {pos : Pos}
end
structure It where
  go : Nat → Hp → Prop
  yld : Nat → Hp → V → Hp → Prop
  stop : Nat → Hp → Prop
noncomputable def FpOk (X : Cx) (pins : List (Addr × Obj)) (H : Hp) (b : Addr) : Prop :=
  H b = none ∧ b ≠ X.env.locals ∧ b ∉ X.fs ∧ (b ∈ X.ex ∨ X.s₀.heap.objs.size ≤ b) ∧ (∀ x c, X.env.cells.lookup x = some c → c ≠ b) ∧ ∀ p ∈ X.pn ++ pins, p.1 ≠ b
theorem Inv.fpOk {X : Cx} {pins : List (Addr × Obj)} {σ : St} {H H' : Hp} {s : Shared} {b : Addr} (I : Inv X pins σ H s) (hb : s.heap.objs.size ≤ b) (hn : H' b = none) : FpOk X pins H' b := by
  refine ⟨hn, Nat.ne_of_gt (Nat.lt_of_lt_of_le I.lt hb), I.nofs hb, .inr (Nat.le_trans I.sz hb), fun x c e z => ?_, fun p hp z => ?_⟩
  · obtain ⟨v, q⟩ := I.cell x c e
    exact absurd (Nat.lt_of_lt_of_le q.lt (by rw [z]; exact hb)) (Nat.lt_irrefl _)
  · exact absurd (Nat.lt_of_lt_of_le (Heap.lt_size (I.pin p hp).1) (by rw [z]; exact hb)) (Nat.lt_irrefl _)
structure Turn (P : Program) (w : World) (K : PySem.W.Frag) (tg : Expr) (J : It) (fp : List Addr) (it : Addr) (tn : Nat → Heap → Prop) : Prop where
  mem : it ∈ fp
  obj : ∀ i h, tn i h → ∀ b ∈ fp, ∃ o, h.get? b = some o ∧ ∀ v, o.data ≠ .cell v
  keep : ∀ i h h', tn i h → (∀ b ∈ fp, ∀ o, h.get? b = some o → h'.get? b = some o) → tn i h'
  item : ∀ (X : Cx), X.prog = P → X.w = w → X.K = K → X.calm = true → ∀ (i : Nat) (pins : List (Addr × Obj)) (s : Shared) (σ : St) (H : Hp) (E : Value → Shared → Prop), Inv X pins σ H s → (∀ b ∈ fp, FpOk X pins H b) → tn i s.heap → J.go i H →
    wpAny (model P w) X.A (pyNext (.ref it)) (fun r s1 => ∃ u, r = some u ∧
      wpAny (model P w) X.A (letOwnedTupleGo tg (.ref it) u) (fun _ s2 => ∃ x H', Inv X pins σ H' s2 ∧ RelV x u ∧ J.yld i H x H' ∧ tn (i + 1) s2.heap ∧ ∀ b ∈ fp, H' b = none) E s1) E s
  done : ∀ (X : Cx), X.prog = P → X.w = w → X.K = K → X.calm = true → ∀ (i : Nat) (pins : List (Addr × Obj)) (s : Shared) (σ : St) (H : Hp) (E : Value → Shared → Prop), Inv X pins σ H s → (∀ b ∈ fp, FpOk X pins H b) → tn i s.heap → J.stop i H →
    wpAny (model P w) X.A (pyNext (.ref it)) (fun r s1 => r = none ∧ Inv X pins σ H s1) E s
  self : ∀ (A : Around) (i : Nat) (s : Shared) (Q : Value → Shared → Prop) (E : Value → Shared → Prop), tn i s.heap → Q (.ref it) s → wpAny (model P w) A (pyIter (.ref it)) Q E s
noncomputable abbrev TI := St → Hp → (It → Hp → Prop) → Prop
noncomputable def PIE (X : Cx) (pins : List (Addr × Obj)) (σ : St) (tg : Expr) (R : It → Hp → Prop) (itv : Value) (s2 : Shared) : Prop :=
  ∃ (it : Addr) (fp : List Addr) (tn : Nat → Heap → Prop) (J : It) (H' : Hp), itv = .ref it ∧ Inv X pins σ H' s2 ∧ Turn X.prog X.w X.K tg J fp it tn ∧ tn 0 s2.heap ∧ (∀ b ∈ fp, FpOk X pins H' b) ∧ R J H'
noncomputable def PI (X : Cx) (tg iter : Expr) (wi : TI) : Prop :=
  ∀ (pins : List (Addr × Obj)) (s : Shared) (σ : St) (H : Hp) (R : It → Hp → Prop), Inv X pins σ H s → wi σ H R →
    wpAny (model X.prog X.w) X.A (eval iter X.env) (fun v s1 => wpAny (model X.prog X.w) X.A (pyIter v) (PIE X pins σ tg R) X.xe s1) X.xe s
theorem go_of {M : Model} {A : Around} {E : Value → Shared → Prop} {s : Shared} {tg : Expr} {it : Addr} {u : Value} {o : Obj} {n : String} {vs : Array Value} {Q : Unit → Shared → Prop} (ho : s.heap.get? it = some o) (hc : o.cls = .type n) (hd : o.data = .fields vs)
    (hn : ["enumerate", "zip", "dict_itemiterator", "dict_reverseitemiterator", "odict_iterator", "itertools.zip_longest", "itertools.pairwise"].contains n = false) (hQ : Q () s) : wpAny M A (letOwnedTupleGo tg (.ref it) u) Q E s := by
  unfold letOwnedTupleGo
  cases tg <;> first
    | exact wpAny_pure hQ
    | (cases u <;> first
        | exact wpAny_pure hQ
        | (refine wpAny_bind (wpAny_load ho ?_)
           rw [hc, hd]
           show wpAny M A (if (["enumerate", "zip", "dict_itemiterator", "dict_reverseitemiterator", "odict_iterator", "itertools.zip_longest", "itertools.pairwise"].contains n && vs[0]? == some (rawInt _)) = true then _ else _) Q E s
           rw [if_neg (by intro h; rw [hn, Bool.false_and] at h; cases h)]
           exact wpAny_pure hQ))
noncomputable def Itl (K : PySem.W.Frag) (a : Addr) : It :=
  ⟨fun i H => ∃ xs x, SqL K H a xs ∧ xs[i]? = some x, fun i H x H' => H' = H ∧ ∀ xs, SqL K H a xs → xs[i]? = some x, fun i H => ∃ xs, SqL K H a xs ∧ xs.length ≤ i⟩
noncomputable def Itt (K : PySem.W.Frag) (a : Addr) : It :=
  ⟨fun i H => ∃ xs x, SqT K H a xs ∧ xs[i]? = some x, fun i H x H' => H' = H ∧ ∀ xs, SqT K H a xs → xs[i]? = some x, fun i H => ∃ xs, SqT K H a xs ∧ xs.length ≤ i⟩
noncomputable def Itr (lo : Int) (n : Nat) : It := ⟨fun i _ => i < n, fun i H x H' => H' = H ∧ x = .int (lo + i), fun i _ => n ≤ i⟩
theorem turn_list {P : Program} {w : World} {K : PySem.W.Frag} {tg : Expr} (a it : Addr) : Turn P w K tg (Itl K a) [it] it (fun i h => h.IsListIter it a i) where
  mem := by simp
  obj := fun i h st b hb => by
    have e : b = it := by simpa using hb
    subst e
    obtain ⟨o, e, c, d⟩ := st
    exact ⟨o, e, fun v z => by rw [d] at z; cases z⟩
  keep := fun i h h' st k => st.at fun o e => k it (by simp) o e
  item := by
    intro X hP hw hK hc i pins s σ H E I hf st hg
    subst hP hw hK
    obtain ⟨xs, x, hq, hx⟩ := hg
    obtain ⟨its, rv, p, hz⟩ := I.list hq
    obtain ⟨u, hu, ru⟩ := rv.get hx
    obtain ⟨f0, f1, f2, f3, f4, f5⟩ := hf it (by simp)
    refine wpAny_pyNext_list_item st p.isList (x := u) (by simpa using hu) fun h' st' sb => ?_
    have I1 : Inv X pins σ H { s with heap := h' } := I.turned (t' := s.toks) (fun b o hb e => (sb.2 b hb).trans e) f0 f1 f3 f4 f5
    obtain ⟨o, e, c, d⟩ := id st'
    exact ⟨u, rfl, go_of (s := { s with heap := h' }) e c d (by decide) ⟨x, H, I1, ru, ⟨rfl, fun ys hy => by rw [I.list_inj hy hq]; exact hx⟩, st', fun b hb => (hf b hb).1⟩⟩
  done := by
    intro X hP hw hK hc i pins s σ H E I hf st hg
    subst hP hw hK
    obtain ⟨xs, hq, hx⟩ := hg
    obtain ⟨its, rv, p, hz⟩ := I.list hq
    obtain ⟨f0, f1, f2, f3, f4, f5⟩ := hf it (by simp)
    have hl := rv.length
    exact wpAny_pyNext_list_end (I.ok.hd hc) st p.isList (by simp; omega) fun h' eb => ⟨rfl, I.turned (t' := s.toks) (fun b o hb e => eb b o hb e) f0 f1 f3 f4 f5⟩
  self := fun _ _ _ _ _ st h => wpAny_pyIter_listiter st h
theorem turn_tuple {P : Program} {w : World} {K : PySem.W.Frag} {tg : Expr} (a it : Addr) : Turn P w K tg (Itt K a) [it] it (fun i h => h.IsTupleIter it a i) where
  mem := by simp
  obj := fun i h st b hb => by
    have e : b = it := by simpa using hb
    subst e
    obtain ⟨o, e, c, d⟩ := st
    exact ⟨o, e, fun v z => by rw [d] at z; cases z⟩
  keep := fun i h h' st k => st.at fun o e => k it (by simp) o e
  item := by
    intro X hP hw hK hc i pins s σ H E I hf st hg
    subst hP hw hK
    obtain ⟨xs, x, hq, hx⟩ := hg
    obtain ⟨its, rv, p, hz⟩ := I.tuple hq
    obtain ⟨u, hu, ru⟩ := rv.get hx
    obtain ⟨f0, f1, f2, f3, f4, f5⟩ := hf it (by simp)
    refine wpAny_pyNext_tuple_item st (show s.heap.IsTuple a its.toArray from p) (x := u) (by simpa using hu) fun h' st' sb => ?_
    have I1 : Inv X pins σ H { s with heap := h' } := I.turned (t' := s.toks) (fun b o hb e => (sb.2 b hb).trans e) f0 f1 f3 f4 f5
    obtain ⟨o, e, c, d⟩ := id st'
    exact ⟨u, rfl, go_of (s := { s with heap := h' }) e c d (by decide) ⟨x, H, I1, ru, ⟨rfl, fun ys hy => by rw [I.tuple_inj hy hq]; exact hx⟩, st', fun b hb => (hf b hb).1⟩⟩
  done := by
    intro X hP hw hK hc i pins s σ H E I hf st hg
    subst hP hw hK
    obtain ⟨xs, hq, hx⟩ := hg
    obtain ⟨its, rv, p, hz⟩ := I.tuple hq
    obtain ⟨f0, f1, f2, f3, f4, f5⟩ := hf it (by simp)
    have hl := rv.length
    exact wpAny_pyNext_tuple_end (I.ok.hd hc) st (show s.heap.IsTuple a its.toArray from p) (by simp; omega) fun h' eb => ⟨rfl, I.turned (t' := s.toks) (fun b o hb e => eb b o hb e) f0 f1 f3 f4 f5⟩
  self := fun _ _ _ _ _ st h => wpAny_pyIter_tupleiter st h
theorem turn_range {P : Program} {w : World} {K : PySem.W.Frag} {tg : Expr} (it : Addr) (lo : Int) (n : Nat) : Turn P w K tg (Itr lo n) [it] it (fun i h => IsRangeIter h it (lo + (i : Nat) * 1) ((n : Int) - (i : Nat)) 1) where
  mem := by simp
  obj := fun i h st b hb => by
    have e : b = it := by simpa using hb
    subst e
    exact ⟨_, st, fun v z => by
      have z' : Data.fields _ = Data.cell v := z
      cases z'⟩
  keep := fun i h h' st k => k it (by simp) _ st
  item := by
    intro X hP hw hK hc i pins s σ H E I hf st hg
    subst hP hw hK
    obtain ⟨f0, f1, f2, f3, f4, f5⟩ := hf it (by simp)
    have W := Walks.range (prog := X.prog) (w := X.w) (I.ok.hd hc) it lo 1 n
    refine W.item i s _ _ hg st fun v h' tk hv st' kk => ?_
    obtain ⟨t, rfl⟩ := hv
    have I1 : Inv X pins σ H { s with heap := h', toks := tk } := I.turned (fun b o hb e => kk b o (by simpa using hb) e) f0 f1 f3 f4 f5
    refine ⟨_, rfl, go_of (s := { s with heap := h', toks := tk }) (n := "range_iterator") st' rfl rfl (by decide) ⟨.int (lo + i), H, I1, ⟨t, ?_⟩, ⟨rfl, rfl⟩, st', fun b hb => (hf b hb).1⟩⟩
    rw [Int.mul_one]
  done := by
    intro X hP hw hK hc i pins s σ H E I hf st hg
    subst hP hw hK
    obtain ⟨f0, f1, f2, f3, f4, f5⟩ := hf it (by simp)
    exact wpAny_pyNext_range_end (I.ok.hd hc) st (by have : n ≤ i := hg; omega) fun h' eb => ⟨rfl, I.turned (t' := s.toks) (fun b o hb e => eb b o hb e) f0 f1 f3 f4 f5⟩
  self := fun _ _ _ _ _ st h => wpAny_pyIter_rangeiter st h
end L2
namespace L2
open PySem PySem.Spec PyProof.Rows
section
variable {X : Cx} {tg : Expr}
noncomputable def iList (K : PySem.W.Frag) (tl : TE) : TI := fun σ H R => tl σ H fun x H1 => ∃ a, x = .ref a ∧ (∃ xs, SqL K H1 a xs) ∧ R (Itl K a) H1
noncomputable def iTup (K : PySem.W.Frag) (tl : TE) : TI := fun σ H R => tl σ H fun x H1 => ∃ a, x = .ref a ∧ (∃ xs, SqT K H1 a xs) ∧ R (Itt K a) H1
theorem pi_list {l : Expr} {tl : TE} (hl : PE X l tl) : PI X tg l (iList X.K tl) := by
  intro pins s σ H R I h
  refine thn (hl pins s σ H _ I h) fun v s1 ⟨x, H1, I1, r1, q1⟩ => ?_
  obtain ⟨a, e, ⟨xs, hq⟩, q⟩ := q1
  subst e
  cases r1
  obtain ⟨its, rv, p, hz⟩ := I1.list hq
  refine wpAny_pyIter_list p.isList ?_
  refine ⟨s1.heap.objs.size, [s1.heap.objs.size], _, _, H1, rfl, I1.kept (t' := s1.toks) fun b o e => Heap.get?_push_of_some _ e, turn_list a _, ⟨_, Heap.get?_push_size _ rfl, rfl, rfl⟩, fun b hb => ?_, q⟩
  have e : b = s1.heap.objs.size := by simpa using hb
  subst e
  exact I1.fpOk (Nat.le_refl _) (I1.hok.fresh (Nat.le_refl _))
theorem pi_tup {l : Expr} {tl : TE} (hl : PE X l tl) : PI X tg l (iTup X.K tl) := by
  intro pins s σ H R I h
  refine thn (hl pins s σ H _ I h) fun v s1 ⟨x, H1, I1, r1, q1⟩ => ?_
  obtain ⟨a, e, ⟨xs, hq⟩, q⟩ := q1
  subst e
  cases r1
  obtain ⟨its, rv, p, hz⟩ := I1.tuple hq
  refine wpAny_pyIter_tuple (show s1.heap.IsTuple a its.toArray from p) ?_
  refine ⟨s1.heap.objs.size, [s1.heap.objs.size], _, _, H1, rfl, I1.kept (t' := s1.toks) fun b o e => Heap.get?_push_of_some _ e, turn_tuple a _, ⟨_, Heap.get?_push_size _ rfl, rfl, rfl⟩, fun b hb => ?_, q⟩
  have e : b = s1.heap.objs.size := by simpa using hb
  subst e
  exact I1.fpOk (Nat.le_refl _) (I1.hok.fresh (Nat.le_refl _))
theorem range_it {pins : List (Addr × Obj)} {σ : St} {H : Hp} {s : Shared} {R : It → Hp → Prop} {E : Value → Shared → Prop} {lo hi : Int} {t u v : Tok} {tk : Nat} (I : Inv X pins σ H s) (h1 : -(2 ^ 62) ≤ lo) (h2 : lo < 2 ^ 62) (h3 : -(2 ^ 62) ≤ hi) (h4 : hi < 2 ^ 62)
    (q : R (Itr lo (hi - lo).toNat) H) : wpAny (model X.prog X.w) X.A (pyIter (.ref s.heap.objs.size)) (PIE X pins σ tg R) E { s with heap := s.heap.push { cls := .type "range", data := .fields #[.int lo t, .int hi u, .int 1 v] }, toks := tk } := by
  refine wpAny_pyIter_range (IsRange.new ..) (small_one h1 h2 h3 h4) ?_
  have I1 : Inv X pins σ H { s with heap := s.heap.push { cls := .type "range", data := .fields #[.int lo t, .int hi u, .int 1 v] }, toks := tk } := I.kept fun b o e => Heap.get?_push_of_some _ e
  refine ⟨(s.heap.push { cls := .type "range", data := .fields #[.int lo t, .int hi u, .int 1 v] }).objs.size, [(s.heap.push { cls := .type "range", data := .fields #[.int lo t, .int hi u, .int 1 v] }).objs.size], _, _, H, rfl,
    I1.kept (t' := tk) fun b o e => Heap.get?_push_of_some _ e, turn_range _ lo (hi - lo).toNat, ?_, fun b hb => ?_, q⟩
  · have e1 : lo + ((0 : Nat) : Int) * 1 = lo := by simp
    have e2 : (((hi - lo).toNat : Nat) : Int) - ((0 : Nat) : Int) = Builtin.Range.rangeSize lo hi 1 := by rw [rangeSize_one]; split <;> omega
    show IsRangeIter _ _ (lo + ((0 : Nat) : Int) * 1) ((((hi - lo).toNat : Nat) : Int) - ((0 : Nat) : Int)) 1
    rw [e1, e2]
    exact Heap.get?_push_size _ rfl
  · have e : b = (s.heap.push { cls := .type "range", data := .fields #[.int lo t, .int hi u, .int 1 v] }).objs.size := by simpa using hb
    subst e
    exact I1.fpOk (Nat.le_refl _) (I1.hok.fresh (Nat.le_refl _))
noncomputable def iRng1 (ta : TA) : TI := fun σ H R => ta σ H fun vs H1 => ∃ j : Int, vs = [.int j] ∧ -(2 ^ 62) ≤ j ∧ j < 2 ^ 62 ∧ R (Itr 0 j.toNat) H1
theorem pi_range1 {a : Expr} {ta : TA} {p pos : Pos} (hg : Gl X "range") (hm : X.mg "range" = none) (ha : PA X [a] ta) (hs : starEach [a] X.env = [(false, eval a X.env)] := by rfl) : PI X tg (.Call (.Name "range" p) [a] [] pos) (iRng1 ta) := by
  intro pins s σ H R I h
  refine Call_ (ld_blt I hg hm boot_range (PyProof.Rows.callWith_type1 (thn (ha pos pins s σ H _ I h) fun us s1 ⟨vs, H1, I1, r1, q1⟩ => ?_) hs rfl))
  obtain ⟨j, e, q1, q2, q⟩ := q1
  subst e
  cases r1 with
  | cons r rr =>
    cases rr
    obtain ⟨t, rfl⟩ := r
    exact call_range_1 (range_it I1 (by omega) (by omega) q1 q2 (by simpa using q))
noncomputable def tFor (wi : TI) (g : TG) (tb : TS) : TS := fun D σ H => wi σ H fun J H1 => ∃ W : Nat → Nat → St → Hp → Prop, (∃ m, W 0 m σ H1) ∧ ∀ i m σ H, W i m σ H →
  (J.stop i H ∧ D.nx σ H) ∨ (J.go i H ∧ ∃ N : St → Hp → Prop, (∀ σ' H', N σ' H' → ∃ m', m' < m ∧ W (i + 1) m' σ' H') ∧ ∀ x H', J.yld i H x H' → g x σ H' fun σ2 H2 => tb { D with nx := N, ct := N, bk := D.nx } σ2 H2)
noncomputable def pinsAt (fp : List Addr) (h : Heap) : List (Addr × Obj) := fp.filterMap fun b => (h.get? b).map fun o => (b, o)
theorem mem_pinsAt {fp : List Addr} {h : Heap} {b : Addr} {o : Obj} (hb : b ∈ fp) (e : h.get? b = some o) : (b, o) ∈ pinsAt fp h := List.mem_filterMap.mpr ⟨b, hb, by rw [e]; rfl⟩
theorem of_pinsAt {fp : List Addr} {h : Heap} {p : Addr × Obj} (hp : p ∈ pinsAt fp h) : p.1 ∈ fp ∧ h.get? p.1 = some p.2 := by
  obtain ⟨b, hb, e⟩ := List.mem_filterMap.mp hp
  cases q : h.get? b with
  | none => rw [q] at e; cases e
  | some o =>
    rw [q] at e
    have e' : (b, o) = p := Option.some.inj e
    subst e'
    exact ⟨hb, q⟩
theorem Inv.pinned {pins : List (Addr × Obj)} {σ : St} {H : Hp} {s : Shared} {fp : List Addr} (I : Inv X pins σ H s) (hf : ∀ b ∈ fp, FpOk X pins H b) (ho : ∀ b ∈ fp, ∃ o, s.heap.get? b = some o ∧ ∀ v, o.data ≠ .cell v) : Inv X (pins ++ pinsAt fp s.heap) σ H s :=
  I.pins_of fun p hp => (List.mem_append.mp hp).elim (fun z => I.pin p (List.mem_append_right _ z)) fun z => by
    obtain ⟨hb, e⟩ := of_pinsAt z
    obtain ⟨f0, f1, f2, _⟩ := hf p.1 hb
    obtain ⟨o, e', d⟩ := ho p.1 hb
    rw [e] at e'; cases e'
    exact ⟨e, f0, f1, f2, d⟩
theorem Inv.unpinned {pins pl : List (Addr × Obj)} {σ : St} {H : Hp} {s : Shared} (I : Inv X (pins ++ pl) σ H s) : Inv X pins σ H s := I.pins_of fun p hp => I.pin p (List.mem_append_right _ (List.mem_append_left _ hp))
theorem ps_for {iter : Expr} {body : List Stmt} {wi : TI} {g : TG} {tb : TS} {pos : Pos} (hp : PassesOwn (model X.prog X.w) X.A X.env X.xe) (hc : X.calm = true) (hi : PI X tg iter wi) (hg : PG X tg g) (hb : PSs X body tb)
    (hs : ∀ x, foldedSetIterable iter X.env x = pure x := by intro _; rfl) : PS X (.For tg iter body [] pos) (tFor wi g tb) := by
  intro pins s σ H D I h
  refine wpAny_For (thn (hi pins s σ H _ I h) fun v s1 h1 => thn h1 fun itv s2 h2 => ?_) hs
  obtain ⟨it, fp, tn, J, H2, e, I2, T, st2, f2, W, ⟨m0, w0⟩, turn⟩ := h2
  subst e
  have stat : ∀ {H' : Hp}, (∀ b ∈ fp, H' b = none) → ∀ b ∈ fp, FpOk X pins H' b := fun hn b hb => ⟨hn b hb, (f2 b hb).2⟩
  refine codeAny_forLoop_any (fun n s' => ∃ i σ' H', Inv X pins σ' H' s' ∧ tn i s'.heap ∧ (∀ b ∈ fp, H' b = none) ∧ W i n σ' H') ?_ m0 ⟨0, σ, H2, I2, st2, fun b hb => (f2 b hb).1, w0⟩
  rintro n s3 ⟨i, σ3, H3, I3, st3, fr3, w3⟩
  rcases turn i n σ3 H3 w3 with ⟨stop, qn⟩ | ⟨go, N, hN, step⟩
  · refine wpAny_passesOwn hp (thn (T.done X rfl rfl rfl hc i pins s3 σ3 H3 X.xe I3 (stat fr3) st3 stop) fun r s4 ⟨hr, I4⟩ => ?_)
    subst hr
    exact wpAny_execs_nil ⟨σ3, H3, I4, qn⟩
  · refine wpAny_passesOwn hp (thn (T.item X rfl rfl rfl hc i pins s3 σ3 H3 X.xe I3 (stat fr3) st3 go) fun r s4 ⟨u, hr, h4⟩ => ?_)
    subst hr
    refine wpAny_passesOwn hp (thn h4 fun _ s5 ⟨x, H5, I5, r5, y5, st5, fr5⟩ => ?_)
    have I5' := I5.pinned (stat fr5) (T.obj _ _ st5)
    refine wpAny_passesOwn hp (thn (hg _ s5 σ3 H5 x u _ I5' r5 (step x H5 y5)) fun _ s6 ⟨σ6, H6, I6, q6⟩ => ?_)
    refine wpAny_passesOwn hp (thn (hb _ s6 σ6 H6 _ I6 q6) fun f s7 q7 => ?_)
    have again : ∀ {σ7 : St} {H7 : Hp}, Inv X (pins ++ pinsAt fp s5.heap) σ7 H7 s7 → N σ7 H7 → ∃ m, m < n ∧ ∃ i σ' H', Inv X pins σ' H' s7 ∧ tn i s7.heap ∧ (∀ b ∈ fp, H' b = none) ∧ W i m σ' H' := fun {σ7 H7} I7 n7 => by
      obtain ⟨m', hm, w7⟩ := hN σ7 H7 n7
      refine ⟨m', hm, i + 1, σ7, H7, I7.unpinned, T.keep _ _ _ st5 fun b hb o e => (I7.pin (b, o) (List.mem_append_right _ (List.mem_append_right _ (mem_pinsAt hb e)))).1, fun b hb => ?_, w7⟩
      obtain ⟨o, e, d⟩ := T.obj _ _ st5 b hb
      exact (I7.pin (b, o) (List.mem_append_right _ (List.mem_append_right _ (mem_pinsAt hb e)))).2.1
    cases f with
    | next => obtain ⟨σ7, H7, I7, n7⟩ := q7; exact again I7 n7
    | cont => obtain ⟨σ7, H7, I7, n7⟩ := q7; exact again I7 n7
    | brk => obtain ⟨σ7, H7, I7, q7⟩ := q7; exact ⟨σ7, H7, I7.unpinned, q7⟩
    | ret v => obtain ⟨x7, σ7, H7, I7, r7, q7⟩ := q7; exact ⟨x7, σ7, H7, I7.unpinned, r7, q7⟩
end
theorem for_tup {K : PySem.W.Frag} {a : Addr} {xs : List V} {g : TG} {tb : TS} {D : Ends} {σ : St} {H : Hp} (Pv : Nat → St → Hp → Prop) (h0 : Pv 0 σ H) (hl : ∀ i σ H, i ≤ xs.length → Pv i σ H → SqT K H a xs)
    (hs : ∀ i x σ H, xs[i]? = some x → Pv i σ H → g x σ H fun σ2 H2 => tb { D with nx := Pv (i + 1), ct := Pv (i + 1), bk := D.nx } σ2 H2) (hd : ∀ σ H, Pv xs.length σ H → D.nx σ H) :
    ∃ W : Nat → Nat → St → Hp → Prop, (∃ m, W 0 m σ H) ∧ ∀ i m σ H, W i m σ H →
      ((Itt K a).stop i H ∧ D.nx σ H) ∨ ((Itt K a).go i H ∧ ∃ N : St → Hp → Prop, (∀ σ' H', N σ' H' → ∃ m', m' < m ∧ W (i + 1) m' σ' H') ∧ ∀ x H', (Itt K a).yld i H x H' → g x σ H' fun σ2 H2 => tb { D with nx := N, ct := N, bk := D.nx } σ2 H2) := by
  refine ⟨fun i m σ H => m = xs.length - i ∧ i ≤ xs.length ∧ Pv i σ H, ⟨xs.length, by simp, Nat.zero_le _, h0⟩, ?_⟩
  rintro i m σ H ⟨rfl, hi, p⟩
  have q := hl i σ H hi p
  by_cases hlt : i < xs.length
  · refine .inr ⟨⟨xs, xs[i], q, by simp [hlt]⟩, Pv (i + 1), fun σ' H' p' => ⟨xs.length - (i + 1), by omega, rfl, hlt, p'⟩, fun x H' y => ?_⟩
    obtain ⟨e, y⟩ := y
    subst e
    exact hs i x σ _ (y xs q) p
  · have e : i = xs.length := by omega
    subst e
    exact .inl ⟨⟨xs, q, Nat.le_refl _⟩, hd σ H p⟩
theorem for_range {lo : Int} {n : Nat} {g : TG} {tb : TS} {D : Ends} {σ : St} {H : Hp} (Pv : Nat → St → Hp → Prop) (h0 : Pv 0 σ H)
    (hs : ∀ i σ H, i < n → Pv i σ H → g (.int (lo + i)) σ H fun σ2 H2 => tb { D with nx := Pv (i + 1), ct := Pv (i + 1), bk := D.nx } σ2 H2) (hd : ∀ σ H, Pv n σ H → D.nx σ H) :
    ∃ W : Nat → Nat → St → Hp → Prop, (∃ m, W 0 m σ H) ∧ ∀ i m σ H, W i m σ H →
      ((Itr lo n).stop i H ∧ D.nx σ H) ∨ ((Itr lo n).go i H ∧ ∃ N : St → Hp → Prop, (∀ σ' H', N σ' H' → ∃ m', m' < m ∧ W (i + 1) m' σ' H') ∧ ∀ x H', (Itr lo n).yld i H x H' → g x σ H' fun σ2 H2 => tb { D with nx := N, ct := N, bk := D.nx } σ2 H2) := by
  refine ⟨fun i m σ H => m = n - i ∧ i ≤ n ∧ Pv i σ H, ⟨n, by simp, Nat.zero_le _, h0⟩, ?_⟩
  rintro i m σ H ⟨rfl, hi, p⟩
  by_cases hlt : i < n
  · refine .inr ⟨hlt, Pv (i + 1), fun σ' H' p' => ⟨n - (i + 1), by omega, rfl, hlt, p'⟩, fun x H' y => ?_⟩
    obtain ⟨e, y⟩ := y
    subst e y
    exact hs i σ _ hlt p
  · have e : i = n := by omega
    subst e
    exact .inl ⟨Nat.le_refl _, hd σ H p⟩
end L2
namespace L2
open PySem PySem.Spec PyProof.Rows
noncomputable abbrev R2 := V → V → Hp → VK → Prop
noncomputable def OpR (X : Cx) (f : Value → Value → Sem Value) (r : R2) : Prop :=
  ∀ (pins : List (Addr × Obj)) (s : Shared) (σ : St) (H : Hp) (x y : V) (v u : Value) (Q : VK), Inv X pins σ H s → RelV x v → RelV y u → r x y H Q →
    wpAny (model X.prog X.w) X.A (f v u) (EP X pins σ Q) X.xe s
noncomputable def UnR (X : Cx) (f : Value → Sem Value) (r : V → Hp → VK → Prop) : Prop :=
  ∀ (pins : List (Addr × Obj)) (s : Shared) (σ : St) (H : Hp) (x : V) (v : Value) (Q : VK), Inv X pins σ H s → RelV x v → r x H Q →
    wpAny (model X.prog X.w) X.A (f v) (EP X pins σ Q) X.xe s
noncomputable def CallR (X : Cx) (f : Value) (r : List V → Hp → VK → Prop) : Prop :=
  ∀ (pins : List (Addr × Obj)) (s : Shared) (σ : St) (H : Hp) (xs : List V) (us : List Value) (Q : VK), Inv X pins σ H s → Vals xs us → r xs H Q →
    wpAny (model X.prog X.w) X.A (call f us) (EP X pins σ Q) X.xe s
noncomputable def tOp (r : R2) (ta tb : TE) : TE := fun σ H Q => ta σ H fun x H1 => tb σ H1 fun y H2 => r x y H2 Q
noncomputable def tUn (r : V → Hp → VK → Prop) (ta : TE) : TE := fun σ H Q => ta σ H fun x H1 => r x H1 Q
noncomputable def rI (C : Int → Int → Prop) (g : Int → Int → V) : R2 := fun x y H Q => ∃ i j, x = .int i ∧ y = .int j ∧ C i j ∧ Q (g i j) H
noncomputable def rI0 (g : Int → Int → V) : R2 := fun x y H Q => ∃ i j, x = .int i ∧ y = .int j ∧ Q (g i j) H
noncomputable def rU (g : Int → V) : V → Hp → VK → Prop := fun x H Q => ∃ i, x = .int i ∧ Q (g i) H
section
variable {X : Cx} {a b c : Expr} {ta tb tc : TE} {pos : Pos}
theorem binT (ha : PE X a ta) (hb : PE X b tb) {pins : List (Addr × Obj)} {s : Shared} {σ : St} {H : Hp} {R : V → V → Hp → Prop} (I : Inv X pins σ H s)
    (h : ta σ H fun x H1 => tb σ H1 fun y H2 => R x y H2) {Q : Value → Shared → Prop} {f : Value → Value → Sem Value}
    (hf : ∀ v u s2 x y H2, Inv X pins σ H2 s2 → RelV x v → RelV y u → R x y H2 → wpAny (model X.prog X.w) X.A (f v u) Q X.xe s2) :
    wpAny (model X.prog X.w) X.A (eval a X.env) (fun v s₁ => wpAny (model X.prog X.w) X.A (eval b X.env) (fun u s₂ => wpAny (model X.prog X.w) X.A (f v u) Q X.xe s₂) X.xe s₁) X.xe s := by
  refine thn (ha pins s σ H _ I h) fun v s1 ⟨x, H1, I1, r1, q1⟩ => ?_
  refine thn (hb pins s1 σ H1 _ I1 q1) fun u s2 ⟨y, H2, I2, r2, q2⟩ => ?_
  exact hf v u s2 x y H2 I2 r1 r2 q2
theorem pe_op {op : Operator} {r : R2} (ho : OpR X (binaryOp op) r) (ha : PE X a ta) (hb : PE X b tb) : PE X (.BinOp a op b pos) (tOp r ta tb) := by
  intro pins s σ H Q I h
  exact wpAny_BinOp (binT ha hb I h fun v u s2 x y H2 I2 rx ry q => ho pins s2 σ H2 x y v u Q I2 rx ry q)
theorem pe_un {op : UnaryOp} {r : V → Hp → VK → Prop} (ho : UnR X (unaryOp op) r) (ha : PE X a ta) : PE X (.UnaryOp op a pos) (tUn r ta) := by
  intro pins s σ H Q I h
  exact UnaryOp_ (thn (ha pins s σ H _ I h) fun v s1 ⟨x, H1, I1, r1, q1⟩ => ho pins s1 σ H1 x v Q I1 r1 q1)
theorem opI {f : Value → Value → Sem Value} {C : Int → Int → Prop} {g : Int → Int → Int}
    (rule : ∀ (i j : Int) (t u : Tok) (s : Shared) (Q : Value → Shared → Prop) (E : Value → Shared → Prop), C i j → Q (.int (g i j) s.toks) { s with toks := s.toks + 1 } → wpAny (model X.prog X.w) X.A (f (.int i t) (.int j u)) Q E s) :
    OpR X f (rI C fun i j => .int (g i j)) := by
  intro pins s σ H x y v u Q I rx ry h
  obtain ⟨i, j, rfl, rfl, hc, q⟩ := h
  obtain ⟨t, rfl⟩ := rx
  obtain ⟨t', rfl⟩ := ry
  exact rule i j t t' s _ _ hc ⟨.int (g i j), H, I.tok _, ⟨_, rfl⟩, q⟩
theorem opI0 {f : Value → Value → Sem Value} {g : Int → Int → Int}
    (rule : ∀ (i j : Int) (t u : Tok) (s : Shared) (Q : Value → Shared → Prop) (E : Value → Shared → Prop), Q (.int (g i j) s.toks) { s with toks := s.toks + 1 } → wpAny (model X.prog X.w) X.A (f (.int i t) (.int j u)) Q E s) :
    OpR X f (rI0 fun i j => .int (g i j)) := by
  intro pins s σ H x y v u Q I rx ry h
  obtain ⟨i, j, rfl, rfl, q⟩ := h
  obtain ⟨t, rfl⟩ := rx
  obtain ⟨t', rfl⟩ := ry
  exact rule i j t t' s _ _ ⟨.int (g i j), H, I.tok _, ⟨_, rfl⟩, q⟩
theorem opB0 {f : Value → Value → Sem Value} {g : Int → Int → Bool}
    (rule : ∀ (i j : Int) (t u : Tok) (s : Shared) (Q : Value → Shared → Prop) (E : Value → Shared → Prop), Q (.bool (g i j)) s → wpAny (model X.prog X.w) X.A (f (.int i t) (.int j u)) Q E s) :
    OpR X f (rI0 fun i j => .bl (g i j)) := by
  intro pins s σ H x y v u Q I rx ry h
  obtain ⟨i, j, rfl, rfl, q⟩ := h
  obtain ⟨t, rfl⟩ := rx
  obtain ⟨t', rfl⟩ := ry
  exact rule i j t t' s _ _ ⟨.bl (g i j), H, I, rfl, q⟩
noncomputable def CDiv (i j : Int) : Prop := 0 < j ∧ j < 1073741824
noncomputable def CPow (i j : Int) : Prop := 0 ≤ j ∧ j ≤ 1000000 ∧ i.natAbs < 2 ^ 64
noncomputable def CMul (i j : Int) : Prop := (-(2 ^ 64) < i ∧ i < 2 ^ 64) ∨ (-(2 ^ 64) < j ∧ j < 2 ^ 64)
theorem CMul.ok {i j : Int} (h : CMul i j) : IntMulOk i j := by
  rcases h with ⟨h1, h2⟩ | ⟨h1, h2⟩
  · exact .of_left (intBits_le_64 h1 h2)
  · exact .of_right (intBits_le_64 h1 h2)
theorem op_add : OpR X (binaryOp .Add) (rI0 fun i j => .int (i + j)) := opI0 fun _ _ _ _ _ _ _ q => add_int q
theorem op_sub : OpR X (binaryOp .Sub) (rI0 fun i j => .int (i - j)) := opI0 fun _ _ _ _ _ _ _ q => sub_int q
theorem op_mul : OpR X (binaryOp .Mult) (rI CMul fun i j => .int (i * j)) := opI fun _ _ _ _ _ _ _ hc q => mul_int q hc.ok
theorem op_fdiv : OpR X (binaryOp .FloorDiv) (rI CDiv fun i j => .int (i / j)) := opI fun i j _ _ _ _ _ hc q => by
  have h1 : (0 : Int) < j := hc.1
  have h2 : j < 1073741824 := hc.2
  exact floordiv_int (by omega) (by rw [Int.fdiv_eq_ediv_of_nonneg i (by omega)]; exact q) (.inl (PyProof.noPylong_small (by omega)))
theorem op_mod : OpR X (binaryOp .Mod) (rI (fun _ j => 0 < j) fun i j => .int (i % j)) := opI fun i j _ _ _ _ _ hc q => by
  have h1 : (0 : Int) < j := hc
  exact mod_int' (by omega) (by rw [Int.fmod_eq_emod_of_nonneg i (by omega)]; exact q)
theorem op_pow : OpR X (binaryOp .Pow) (rI CPow fun i j => .int (i ^ j.toNat)) := opI fun _ _ _ _ _ _ _ hc q => pow_int_small hc.1 hc.2.1 hc.2.2 q
theorem op_and : OpR X (binaryOp .BitAnd) (rI0 fun i j => .int (Builtin.bitAnd i j)) := opI0 fun _ _ _ _ _ _ _ q => and_int q
theorem op_xor : OpR X (binaryOp .BitXor) (rI0 fun i j => .int (Builtin.bitXor i j)) := opI0 fun _ _ _ _ _ _ _ q => xor_int q
theorem unI {f : Value → Sem Value} {g : Int → Int}
    (rule : ∀ (i : Int) (t : Tok) (s : Shared) (Q : Value → Shared → Prop) (E : Value → Shared → Prop), Q (.int (g i) s.toks) { s with toks := s.toks + 1 } → wpAny (model X.prog X.w) X.A (f (.int i t)) Q E s) :
    UnR X f (rU fun i => .int (g i)) := by
  intro pins s σ H x v Q I rx h
  obtain ⟨i, rfl, q⟩ := h
  obtain ⟨t, rfl⟩ := rx
  exact rule i t s _ _ ⟨.int (g i), H, I.tok _, ⟨_, rfl⟩, q⟩
theorem un_neg : UnR X (unaryOp .USub) (rU fun i => .int (-i)) := unI fun _ _ _ _ _ q => neg_int q
end
noncomputable def scal : V → V → Bool
  | .non, .non => true | .non, .int _ => true | .int _, .non => true | .non, .bl _ => true | .bl _, .non => true | .non, .str _ => true | .str _, .non => true
  | .int _, .int _ => true | .bl _, .bl _ => true | .str _, .str _ => true | .byt _, .byt _ => true
  | .int _, .str _ => true | .str _, .int _ => true | .bl _, .str _ => true | .str _, .bl _ => true
  | _, _ => false
noncomputable def rEq : R2 := fun x y H Q => scal x y = true ∧ Q (.bl (decide (x = y))) H
noncomputable def rNe : R2 := fun x y H Q => scal x y = true ∧ Q (.bl (!decide (x = y))) H
theorem dec_int {i j : Int} : decide (V.int i = V.int j) = (i == j) := by
  rw [Bool.eq_iff_iff]
  simp
theorem dec_bl {i j : Bool} : decide (V.bl i = V.bl j) = (i == j) := by
  rw [Bool.eq_iff_iff]
  simp
theorem dec_str {i j : Str} : decide (V.str i = V.str j) = (i == j) := by
  rw [Bool.eq_iff_iff]
  simp
theorem dec_byt {i j : Array UInt8} : decide (V.byt i = V.byt j) = (i.toList == j.toList) := by
  rw [Bool.eq_iff_iff]
  cases i
  cases j
  simp
section
variable {X : Cx} {a b c : Expr} {ta tb tc : TE} {pos : Pos}
theorem fin_bl {pins : List (Addr × Obj)} {σ : St} {H : Hp} {s : Shared} {Q : VK} {k k' : Bool} (I : Inv X pins σ H s) (q : Q (.bl k) H) (e : k = k') : EP X pins σ Q (.bool k') s := by
  subst e
  exact ⟨.bl k, H, I, rfl, q⟩
theorem op_eq : OpR X (compareOp .Eq) rEq := by
  intro pins s σ H x y v u Q I rx ry h
  obtain ⟨hs, q⟩ := h
  cases x with
  | non =>
    cases rx
    cases y with
    | non => cases ry; exact PySem.EqNone.eq_none_none (fin_bl I q (by simp))
    | bl j => cases ry; exact PySem.EqNone.eq_none_bool (fin_bl I q (by simp))
    | int j => obtain ⟨t', rfl⟩ := ry; exact PySem.EqNone.eq_none_int (fin_bl I q (by simp))
    | str j => obtain ⟨t', rfl⟩ := ry; exact PySem.EqNone.eq_none_str (fin_bl I q (by simp))
    | _ => exact absurd (show false = true from hs) Bool.false_ne_true
  | bl i =>
    cases rx
    cases y with
    | non => cases ry; exact PySem.EqNone.eq_bool_none (fin_bl I q (by simp))
    | bl j => cases ry; exact eq_bool (fin_bl I q dec_bl)
    | str j => obtain ⟨t', rfl⟩ := ry; exact PySem.EqMixed.eq_bool_str (fin_bl I q (by simp))
    | _ => exact absurd (show false = true from hs) Bool.false_ne_true
  | int i =>
    obtain ⟨t, rfl⟩ := rx
    cases y with
    | non => cases ry; exact PySem.EqNone.eq_int_none (fin_bl I q (by simp))
    | int j => obtain ⟨t', rfl⟩ := ry; exact eq_int (fin_bl I q dec_int)
    | str j => obtain ⟨t', rfl⟩ := ry; exact PySem.EqMixed.eq_int_str (fin_bl I q (by simp))
    | _ => exact absurd (show false = true from hs) Bool.false_ne_true
  | str i =>
    obtain ⟨t, rfl⟩ := rx
    cases y with
    | non => cases ry; exact PySem.EqNone.eq_str_none (fin_bl I q (by simp))
    | bl j => cases ry; exact PySem.EqMixed.eq_str_bool (fin_bl I q (by simp))
    | int j => obtain ⟨t', rfl⟩ := ry; exact PySem.EqMixed.eq_str_int (fin_bl I q (by simp))
    | str j => obtain ⟨t', rfl⟩ := ry; exact eq_str (fin_bl I q dec_str)
    | _ => exact absurd (show false = true from hs) Bool.false_ne_true
  | byt i =>
    obtain ⟨t, rfl⟩ := rx
    cases y with
    | byt j => obtain ⟨t', rfl⟩ := ry; exact PySem.W.eq_bytes (fin_bl I q dec_byt)
    | _ => exact absurd (show false = true from hs) Bool.false_ne_true
  | _ => cases y <;> exact absurd (show false = true from hs) Bool.false_ne_true
theorem op_ne : OpR X (compareOp .NotEq) rNe := by
  intro pins s σ H x y v u Q I rx ry h
  obtain ⟨hs, q⟩ := h
  cases x with
  | non =>
    cases rx
    cases y with
    | non => cases ry; exact PySem.EqNone.ne_none_none (fin_bl I q (by simp))
    | bl j => cases ry; exact PySem.EqNone.ne_none_bool (fin_bl I q (by simp))
    | int j => obtain ⟨t', rfl⟩ := ry; exact PySem.EqNone.ne_none_int (fin_bl I q (by simp))
    | str j => obtain ⟨t', rfl⟩ := ry; exact PySem.EqNone.ne_none_str (fin_bl I q (by simp))
    | _ => exact absurd (show false = true from hs) Bool.false_ne_true
  | bl i =>
    cases rx
    cases y with
    | non => cases ry; exact PySem.EqNone.ne_bool_none (fin_bl I q (by simp))
    | bl j => cases ry; exact ne_bool (fin_bl I q (congrArg not dec_bl))
    | str j => obtain ⟨t', rfl⟩ := ry; exact PySem.EqMixed.ne_bool_str (fin_bl I q (by simp))
    | _ => exact absurd (show false = true from hs) Bool.false_ne_true
  | int i =>
    obtain ⟨t, rfl⟩ := rx
    cases y with
    | non => cases ry; exact PySem.EqNone.ne_int_none (fin_bl I q (by simp))
    | int j => obtain ⟨t', rfl⟩ := ry; exact ne_int (fin_bl I q (congrArg not dec_int))
    | str j => obtain ⟨t', rfl⟩ := ry; exact PySem.EqMixed.ne_int_str (fin_bl I q (by simp))
    | _ => exact absurd (show false = true from hs) Bool.false_ne_true
  | str i =>
    obtain ⟨t, rfl⟩ := rx
    cases y with
    | non => cases ry; exact PySem.EqNone.ne_str_none (fin_bl I q (by simp))
    | bl j => cases ry; exact PySem.EqMixed.ne_str_bool (fin_bl I q (by simp))
    | int j => obtain ⟨t', rfl⟩ := ry; exact PySem.EqMixed.ne_str_int (fin_bl I q (by simp))
    | str j => obtain ⟨t', rfl⟩ := ry; exact ne_str (fin_bl I q (congrArg not dec_str))
    | _ => exact absurd (show false = true from hs) Bool.false_ne_true
  | byt i =>
    obtain ⟨t, rfl⟩ := rx
    cases y with
    | byt j => obtain ⟨t', rfl⟩ := ry; exact PySem.W.ne_bytes (fin_bl I q (congrArg not dec_byt))
    | _ => exact absurd (show false = true from hs) Bool.false_ne_true
  | _ => cases y <;> exact absurd (show false = true from hs) Bool.false_ne_true
theorem op_lt : OpR X (compareOp .Lt) (rI0 fun i j => .bl (decide (i < j))) := opB0 fun _ _ _ _ _ _ _ q => lt_int q
theorem op_le : OpR X (compareOp .LtE) (rI0 fun i j => .bl (decide (i ≤ j))) := opB0 fun _ _ _ _ _ _ _ q => le_int q
theorem op_gt : OpR X (compareOp .Gt) (rI0 fun i j => .bl (decide (j < i))) := opB0 fun _ _ _ _ _ _ _ q => gt_int q
theorem nomark (b : Expr) {op : CmpOp} (h : op ≠ .In := by decide) (h2 : op ≠ .NotIn := by decide) : behindInMarks op b = false := by
  have e1 : (op == CmpOp.In) = false := by cases op <;> first | rfl | exact absurd rfl h
  have e2 : (op == CmpOp.NotIn) = false := by cases op <;> first | rfl | exact absurd rfl h2
  cases b <;> simp [behindInMarks, e1, e2]
theorem pe_cmpR {op : CmpOp} {r : R2} (ho : OpR X (compareOp op) r) (ha : PE X a ta) (hb : PE X b tb) (hm : behindInMarks op b = false) : PE X (.Compare a [op] [b] pos) (tOp r ta tb) := by
  intro pins s σ H Q I h
  exact wpAny_Compare1 (binT ha hb I h fun v u s2 x y H2 I2 rx ry q => ho pins s2 σ H2 x y v u Q I2 rx ry q) hm
noncomputable def tTest (t : TE) : TT := fun σ H Q => t σ H fun x H' => ∃ k, x = .bl k ∧ Q k H'
theorem pt_cmpR {op : CmpOp} {r : R2} (ho : OpR X (compareOp op) r) (ha : PE X a ta) (hb : PE X b tb) (hm : behindInMarks op b = false) : PT X (.Compare a [op] [b] pos) (tTest (tOp r ta tb)) := by
  intro pins s σ H Q I h
  refine wpAny_isTrue_Compare1 (thn (ha pins s σ H _ I h) fun v s1 ⟨x, H1, I1, r1, q1⟩ => thn (hb pins s1 σ H1 _ I1 q1) fun u s2 ⟨y, H2, I2, r2, q2⟩ =>
    thn (ho pins s2 σ H2 x y v u _ I2 r1 r2 q2) fun c s3 ⟨z, H3, I3, r3, k, e, q3⟩ => ?_) hm
  subst e
  cases r3
  exact wpAny_truthy_bool ⟨H3, I3, q3⟩
noncomputable def tChain (r r' : R2) (ta tb tc : TE) : TE := fun σ H Q => ta σ H fun x H1 => tb σ H1 fun y H2 => r x y H2 fun z H3 => ∃ k, z = .bl k ∧
  (if k = true then tc σ H3 fun w' H4 => r' y w' H4 Q else Q (.bl false) H3)
theorem pt_chain {op op' : CmpOp} {r r' : R2} (ho : OpR X (compareOp op) r) (ho' : OpR X (compareOp op') r') (ha : PE X a ta) (hb : PE X b tb) (hc : PE X c tc)
    (hm : lastMarks [op, op'] [b, c] = false := by with_unfolding_all rfl) : PT X (.Compare a [op, op'] [b, c] pos) (tTest (tChain r r' ta tb tc)) := by
  intro pins s σ H Q I h
  refine isTrue_chain (thn (ha pins s σ H _ I h) fun v s1 ⟨x, H1, I1, r1, q1⟩ => test_link (thn (hb pins s1 σ H1 _ I1 q1) fun u s2 ⟨y, H2, I2, r2, q2⟩ =>
    thn (ho pins s2 σ H2 x y v u _ I2 r1 r2 q2) fun d s3 ⟨z, H3, I3, r3, k, e, q3⟩ => ?_)) hm
  subst e
  cases r3
  refine wpAny_truthy_bool ?_
  cases k with
  | false =>
    obtain ⟨k', e', q'⟩ := q3
    cases e'
    exact ite_ff ⟨H3, I3, q'⟩
  | true =>
    refine ite_tt (test_last (thn (hc pins s3 σ H3 _ I3 q3) fun w' s4 ⟨z', H4, I4, r4, q4⟩ => thn (ho' pins s4 σ H4 y z' u w' _ I4 r2 r4 q4) fun d' s5 ⟨z2, H5, I5, r5, k2, e2, q5⟩ => ?_))
    subst e2
    cases r5
    exact wpAny_truthy_bool ⟨H5, I5, q5⟩
theorem line63 : (sizeLine : Nat) < 2 ^ 63 := by rw [sizeLine_eq]; decide
theorem vals1 {x : V} {us : List Value} (r : Vals [x] us) : ∃ u, us = [u] ∧ RelV x u := by
  cases r with
  | cons r1 r2 => cases r2; exact ⟨_, rfl, r1⟩
theorem vals2 {x y : V} {us : List Value} (r : Vals [x, y] us) : ∃ u w', us = [u, w'] ∧ RelV x u ∧ RelV y w' := by
  cases r with
  | cons r1 r2 =>
    cases r2 with
    | cons r3 r4 => cases r4; exact ⟨_, _, rfl, r1, r3⟩
theorem call_min2 (hc : X.calm = true) : CallR X (.builtin "min") (fun xs H Q => ∃ i j, xs = [.int i, .int j] ∧ Q (.int (if j < i then j else i)) H) := by
  intro pins s σ H xs us Q I r h
  obtain ⟨i, j, rfl, q⟩ := h
  obtain ⟨u, w', rfl, ⟨t, rfl⟩, ⟨t', rfl⟩⟩ := vals2 r
  refine min_two_ints (I.ok.hd hc) fun h' tk k => ⟨_, H, I.kept k, ?_, q⟩
  by_cases hj : j < i
  · rw [if_pos hj, if_pos hj]; exact ⟨_, rfl⟩
  · rw [if_neg hj, if_neg hj]; exact ⟨_, rfl⟩
theorem call_int1 : CallR X (.type "int") (fun xs H Q => (∃ i, xs = [.int i] ∧ Q (.int i) H) ∨ ∃ k, xs = [.bl k] ∧ Q (.int (if k then 1 else 0)) H) := by
  intro pins s σ H xs us Q I r h
  rcases h with ⟨i, rfl, q⟩ | ⟨k, rfl, q⟩
  · obtain ⟨u, rfl, t, rfl⟩ := vals1 r
    exact call_int_int ⟨.int i, H, I, ⟨_, rfl⟩, q⟩
  · obtain ⟨u, rfl, r1⟩ := vals1 r
    cases r1
    exact call_int_bool ⟨.int (if k then 1 else 0), H, I.tok _, ⟨_, rfl⟩, q⟩
end
end L2
namespace L2
open PySem PySem.Spec PyProof.Rows
structure ObjM (h : Heap) (x dx C : Addr) (mA : Str → Option Value) : Prop where
  obj : h.get? x = some (PySem.W.instObj C dx)
  ns : h.Ns1 dx mA
  ne : dx ≠ x
theorem lookIn_ns {h : Heap} {dx : Addr} {mA : Str → Option Value} (n : h.Ns1 dx mA) : ∃ od, h.get? dx = some od ∧ ∀ name, PySem.W.lookIn name od = some (mA name) := by
  obtain ⟨o, es, ep, ho, hd, hk, _, hm⟩ := n
  refine ⟨o, ho, fun name => ?_⟩
  have e := hm name
  unfold nsFind findBy at e
  rw [← Array.find?_toList] at e
  unfold PySem.W.lookIn
  rw [hd]
  dsimp only
  split
  · rename_i y q
    rw [q] at e
    exact congrArg some e
  · rename_i q
    rw [q] at e
    have a : es.toList.any (·.refKey) = false := by
      rw [List.any_eq_false]
      intro y hy
      obtain ⟨z, t, hkey⟩ := hk y (Array.mem_toList_iff.mp hy)
      simp [DictEntry.refKey, hkey]
    have a' : ¬ es.toList.any (·.refKey) = true := by rw [a]; exact Bool.false_ne_true
    rw [if_neg a']
    exact congrArg some e
theorem ObjM.look {h : Heap} {x dx C : Addr} {mA : Str → Option Value} (I : ObjM h x dx C mA) : ∃ od, PySem.W.InstAt h x (PySem.W.instObj C dx) C (some od) ∧ ∀ name, PySem.W.lookIn name od = some (mA name) :=
  let ⟨od, ho, hl⟩ := lookIn_ns I.ns
  ⟨od, ⟨I.obj, rfl, rfl, ho⟩, hl⟩
section
variable {prog : Program} {w : World} {A : Around} {E : Value → Shared → Prop} {s : Shared} {K : PySem.W.Frag} {x dx C f : Addr} {mA : Str → Option Value} {name : Str} {v : Value}
end
section
variable {P : Program} {w : World} {H H' : Hp} {h h' : Heap} {a C dx : Addr} {fs fs' : List (Str × V)}
theorem ins_get (hok : HOk P w H h) (e : H a = some (.ins C dx fs)) : ∃ mA, ObjM h a dx C mA ∧ (∀ f, RelO (fs.lookup f) (mA f)) ∧ PySem.Within mA (fs.map (·.1)) ∧ fs.length ≤ 1000 ∧ H dx = some (.own a) := by
  obtain ⟨d, z, ne, ob, mA, n, r, q⟩ := (show ObjOk P w H h a (.ins C dx fs) from hok a _ e)
  exact ⟨mA, ⟨ob, n, ne⟩, r, q, z, d⟩
end
structure Cls (K : PySem.W.Frag) (C : Addr) : Prop where
  pg : PySem.W.plainGet K C Str.empty = true
  hd : PySem.W.hasDictIn K C = true
  po : PySem.W.plainOver K C = true
  sa : PySem.W.findIn K (.ref C) "__setattr__" = some (some (.builtin "object.__setattr__"))
theorem Cls.get {K : PySem.W.Frag} {C : Addr} (c : Cls K C) (f : Str) : PySem.W.plainGet K C f = true := c.pg
section
variable {X : Cx} {pins : List (Addr × Obj)} {σ : St} {H : Hp} {s : Shared} {a C dx : Addr} {fs : List (Str × V)} {f : Str} {v : V} {A : Around} {E : Value → Shared → Prop}
end
section
variable {X : Cx} {o e value : Expr} {f : Str} {pos pos' tpos : Pos} {ta tv : TE}
end
section
variable {X : Cx} {pins : List (Addr × Obj)} {σ : St} {H : Hp} {s : Shared} {A : Around} {E : Value → Shared → Prop} {Q : Value → Shared → Prop} {c : Value} {b : Bool}
inductive TyOf (K : PySem.W.Frag) (H : Hp) : V → Value → Prop where
  | non : TyOf K H .non (.type "NoneType")
  | bl (x : Bool) : TyOf K H (.bl x) (.type "bool")
  | int (i : Int) : TyOf K H (.int i) (.type "int")
  | str (x : Str) : TyOf K H (.str x) (.type "str")
  | flt (x : UInt64) : TyOf K H (.flt x) (.type "float")
  | lst {a : Addr} {xs : List V} (e : H a = some (.lst xs)) : TyOf K H (.ref a) (.type "list")
  | frz {a : Addr} {o : Obj} {xs : List V} (e : H a = some (.frz o (.lst xs))) : TyOf K H (.ref a) (.type "list")
  | tup {a : Addr} {xs : List V} (e : H a = some (.tup xs)) : TyOf K H (.ref a) (.type "tuple")
  | dK {a : Addr} {kvs : List (Key × V)} (e : H a = some (.dK kvs)) : TyOf K H (.ref a) (.type "dict")
  | dT {a : Addr} {kvs : List (List Key × V)} (e : H a = some (.dT kvs)) : TyOf K H (.ref a) (.type "dict")
  | ins {a C dx : Addr} {fs : List (Str × V)} (e : H a = some (.ins C dx fs)) (cl : Cls K C) (ha : PySem.W.findIn K (.ref C) "__class__" = some (some (.builtin "object.__class__")))
      (hn : PySem.W.specialIn K (.builtin "object.__class__") "__get__" = some (some (.builtin "getset_descriptor.__get__"))) (htk : PySem.W.takesIn K (.builtin "object.__class__") = some true)
      (hm : PySem.W.mroIn K C (.type "object") = some true) : TyOf K H (.ref a) (.ref C)
theorem isinst_ok {x : V} {u t : Value} (I : Inv X pins σ H s) (rx : RelV x u) (ty : TyOf X.K H x t) (e : PySem.W.kitOne X.K t c = some b) (h : ∀ tk, Q (.bool b) { s with toks := tk }) :
    wpAny (model X.prog X.w) A (call (.builtin "isinstance") [u, c]) Q E s := by
  cases ty with
  | non => cases (show u = Value.none from rx); exact PySem.W.kia_one PySem.W.kitx_none I.kIn True.intro e (fun z => nomatch z) h
  | bl y => cases (show u = Value.bool y from rx); exact PySem.W.kia_one PySem.W.kitx_bool I.kIn True.intro e (fun z => nomatch z) h
  | int i => obtain ⟨t, q⟩ := (show ∃ t, u = Value.int i t from rx); cases q; exact PySem.W.kia_one PySem.W.kitx_int I.kIn True.intro e (fun z => nomatch z) h
  | str y => obtain ⟨t, q⟩ := (show ∃ t, u = Value.str y t from rx); cases q; exact PySem.W.kia_one PySem.W.kitx_str I.kIn True.intro e (fun z => nomatch z) h
  | flt y => obtain ⟨t, q⟩ := (show ∃ t, u = Value.float y t from rx); cases q; exact PySem.W.kia_one PySem.W.kitx_float I.kIn True.intro e (fun z => nomatch z) h
  | @lst a xs ea =>
    cases (show u = Value.ref a from rx)
    obtain ⟨_, _, n, _, h1⟩ := (show ObjOk X.prog X.w H s.heap a (.lst xs) from I.hok a _ ea)
    exact PySem.W.kia_one PySem.W.kitx_list I.kIn ⟨_, h1, rfl⟩ e (fun z => nomatch z) h
  | @frz a ob xs ea =>
    cases (show u = Value.ref a from rx)
    obtain ⟨_, _, _, n, _, h1⟩ := (show ObjOk X.prog X.w H s.heap a (.frz ob (.lst xs)) from I.hok a _ ea)
    exact PySem.W.kia_one PySem.W.kitx_list I.kIn ⟨_, h1, rfl⟩ e (fun z => nomatch z) h
  | @tup a xs ea =>
    cases (show u = Value.ref a from rx)
    obtain ⟨_, _, _, p⟩ := (show ObjOk X.prog X.w H s.heap a (.tup xs) from I.hok a _ ea)
    obtain ⟨o, h1, h2, _⟩ := p
    exact PySem.W.kia_one PySem.W.kitx_tuple I.kIn ⟨o, h1, h2⟩ e (fun z => nomatch z) h
  | @dK a kvs ea =>
    cases (show u = Value.ref a from rx)
    obtain ⟨_, _, vs, _, p⟩ := (show ObjOk X.prog X.w H s.heap a (.dK kvs) from I.hok a _ ea)
    obtain ⟨o, es, ep, h1, h2, _⟩ := p
    exact PySem.W.kia_one PySem.W.kitx_dict I.kIn ⟨o, h1, h2.1⟩ e (fun z => nomatch z) h
  | @dT a kvs ea =>
    cases (show u = Value.ref a from rx)
    obtain ⟨_, _, xs, _, o, es, ep, h1, h2, _⟩ := (show ObjOk X.prog X.w H s.heap a (.dT kvs) from I.hok a _ ea)
    exact PySem.W.kia_one PySem.W.kitx_dict I.kIn ⟨o, h1, h2.1⟩ e (fun z => nomatch z) h
  | @ins a C dx fs ea cl ha hn htk hm =>
    cases (show u = Value.ref a from rx)
    obtain ⟨mA, O, _⟩ := ins_get I.hok ea
    obtain ⟨od, J, _⟩ := O.look
    exact PySem.W.kia_one (PySem.W.kitx_own (cl.get _) cl.hd ha hn htk hm) I.kIn J e (fun z => nomatch z) h
end
end L2
namespace L2
open PySem PySem.Spec PyProof.Rows
structure Room (k : Nat) (A : Around) : Prop where
  hd : A.handled = none
  dp : A.depth + 3 * k + 5 < recursionLimit
  un : A.units + 16 * k + 200 < cLine
theorem Room.mono {j k : Nat} {A : Around} (r : Room k A) (h : j ≤ k) : Room j A := ⟨r.hd, by have := r.dp; omega, by have := r.un; omega⟩
theorem Room.deeper {k : Nat} {A : Around} (r : Room (k + 1) A) (env : Env) : Room k (A.deeper env) :=
  ⟨r.hd, by have := r.dp; show A.depth + 1 + 3 * k + 5 < _; omega, by have := r.un; show A.units + 3 + 16 * k + 200 < _; omega⟩
theorem Room.depth {k : Nat} {A : Around} (r : Room k A) : A.depth < recursionLimit := by have := r.dp; omega
theorem Room.units {k : Nat} {A : Around} (r : Room k A) : A.units + 64 < cLine := by have := r.un; omega
noncomputable def tNil : TA := fun _ H Q => Q [] H
noncomputable def tCons (ta : TE) (tr : TA) : TA := fun σ H Q => ta σ H fun x H1 => tr σ H1 fun xs H2 => Q (x :: xs) H2
section
variable {X : Cx} {e : Expr} {es : List Expr} {te : TE} {t : TA} {pos : Pos}
theorem pa_nil : PA X [] tNil := fun _ _ _ _ H Q I h => Calls.spliced_nil ⟨[], H, I, .nil, h⟩
theorem pa_cons (ha : PE X e te) (hr : PA X es t) (hs : starEach (e :: es) X.env = (false, eval e X.env) :: starEach es X.env := by rfl) : PA X (e :: es) (tCons te t) := by
  intro pos pins s σ H Q I h
  rw [hs]
  show wpAny _ _ (spliced ((false, eval e X.env) :: backTo pos (starEach es X.env))) _ _ s
  refine Calls.spliced_cons (thn (ha pins s σ H _ I h) fun u s1 ⟨x, H1, I1, r1, q1⟩ => ?_)
  exact thn (hr pos pins s1 σ H1 _ I1 q1) fun us s2 ⟨xs, H2, I2, r2, q2⟩ => ⟨x :: xs, H2, I2, .cons r1 r2, q2⟩
noncomputable def tTup (t : TA) : TE := fun σ H Q => t σ H fun xs H1 => xs.length ≤ sizeLine ∧ ∀ p, H1 p = none → Q (.ref p) (upd H1 p (.tup xs))
noncomputable def tLst (t : TA) : TE := fun σ H Q => t σ H fun xs H1 => xs.length ≤ sizeLine ∧ ∀ p, H1 p = none → Q (.ref p) (upd H1 p (.lst xs))
theorem pe_tup {x1} (h : PA X es t) : PE X (.Tuple es x1 pos) (tTup t) := by
  intro pins s σ H Q I hq
  refine wpAny_Tuple_spliced (thn (h pos pins s σ H _ I hq) fun us s1 ⟨xs, H1, I1, r, z, q⟩ => ⟨by rw [← r.length]; exact z, ?_⟩)
  have hf : H1 s1.heap.objs.size = none := I1.hok.fresh (Nat.le_refl _)
  refine ⟨.ref s1.heap.objs.size, upd H1 s1.heap.objs.size (.tup xs), I1.laid (t' := s1.toks) (fun b u e => Heap.get?_push_of_some _ e) (Nat.le_refl _) ?_, rfl, q _ hf⟩
  exact ⟨z, us, r, ⟨_, Heap.get?_push_size _ rfl, rfl, _, rfl⟩⟩
theorem pe_lst (h : PA X es t) : PE X (.List es pos) (tLst t) := by
  intro pins s σ H Q I hq
  refine wpAny_List_spliced (thn (h pos pins s σ H _ I hq) fun us s1 ⟨xs, H1, I1, r, z, q⟩ => ⟨by rw [← r.length]; exact z, ?_⟩)
  have hf : H1 s1.heap.objs.size = none := I1.hok.fresh (Nat.le_refl _)
  refine ⟨.ref s1.heap.objs.size, upd H1 s1.heap.objs.size (.lst xs), I1.laid (t' := s1.toks) (fun b u e => Heap.get?_push_of_some _ e) (Nat.le_refl _) ?_, rfl, q _ hf⟩
  exact ⟨z, us, 0, r, Heap.get?_push_size _ rfl⟩
end
noncomputable abbrev Sp := List V → Hp → VK → XK → Prop
noncomputable abbrev CXT := List Env → Hp → Shared → XK → Value → Shared → Prop
structure Env0 (P : Program) (w : World) (K : PySem.W.Frag) (mg : Str → Option Value) (base : Heap) (A : Around) (outer : List Env) (s : Shared) (H : Hp) : Prop where
  frames : A.frames = some outer
  mod : Mod K mg base
  bs : ∀ b o, base.get? b = some o → s.heap.get? b = some o ∧ H b = none
  bsz : base.objs.size ≤ s.heap.objs.size
  funs : s.heap.FunFrames base outer
  frf : ∀ b ∈ frs outer, H b = none
  hok : HOk P w H s.heap
  bare : AllBare s.gens
noncomputable def CE (outer : List Env) (P : Program) (w : World) (H : Hp) (s : Shared) (Q : VK) (u : Value) (s' : Shared) : Prop :=
  ∃ v H', s'.os = s.os ∧ AllBare s'.gens ∧ Un (frs outer) [] H H' s.heap s'.heap ∧ HOk P w H' s'.heap ∧ RelV v u ∧ Q v H'
noncomputable def CR (CX : CXT) (outer : List Env) (P : Program) (w : World) (H : Hp) (s : Shared) (Q : VK) (E : XK) (r : Result) (s' : Shared) : Prop :=
  match r with
  | .ok (.ret u) => CE outer P w H s Q u s'
  | .ok _ => False
  | .error e => CX outer H s E e s'
structure FnOk (P : Program) (w : World) (K : PySem.W.Frag) (mg : Str → Option Value) (base : Heap) (CX : CXT) (k : Nat) (f : Addr) (fd : FuncData) (ps : List Str) (sp : Sp) : Prop where
  len : ∀ vs H Q E, sp vs H Q E → vs.length = ps.length
  run : ∀ (A : Around) (outer : List Env) (s : Shared) (H : Hp) (args : Args) (us : List Value) (vs : List V) (Q : VK) (E : XK), Room k A → Env0 P w K mg base A outer s H → BindsTo s fd args (ps.zip us) → Vals vs us → sp vs H Q E →
    codeAny (model P w) A (.call (.ref f) args) (CR CX outer P w H s Q E) s
section
variable {X : Cx} {pins : List (Addr × Obj)} {σ : St} {H : Hp} {s s' : Shared}
theorem Inv.env0 (I : Inv X pins σ H s) : Env0 X.prog X.w X.K X.mg X.base X.A X.stack s H :=
  ⟨I.ok.frames, I.ok.mod, I.bs, Nat.le_trans I.ok.bsz I.sz, I.stack, I.stkFree, I.hok, I.bare⟩
theorem Inv.after {Q : VK} {u : Value} (I : Inv X pins σ H s) (h : CE X.stack X.prog X.w H s Q u s') : EP X pins σ Q u s' := by
  obtain ⟨v, H', os, bare, un, hok, r, q⟩ := h
  obtain ⟨hh, g, d, t, os'⟩ := s'
  obtain rfl : os' = s.os := os
  exact ⟨v, H', I.call (h' := hh) (g' := g) (d' := d) (t' := t) (ch := []) un hok bare (fun b z => absurd z (by simp)), r, q⟩
end
noncomputable def tCall (sp : Sp) (dvs : List V) (E : XK) (t : TA) : TE := fun σ H Q => t σ H fun vs H1 => sp (vs ++ dvs) H1 Q E
noncomputable def Binds (K : PySem.W.Frag) (fd : FuncData) (ps : List Str) (ds : List Value) : Prop :=
  ∀ (s : Shared) (us : List Value), K.In s.heap → (us ++ ds).length = ps.length → BindsTo s fd ⟨us, []⟩ (ps.zip (us ++ ds))
theorem Binds.all {K : PySem.W.Frag} {fd : FuncData} {ps : List Str} (h : ∀ us : List Value, us.length = ps.length → bindArgs fd ⟨us, []⟩ = pure (ps.zip us)) : Binds K fd ps [] := fun s us _ hl => by
  rw [List.append_nil] at hl ⊢
  exact .of_eq (h us hl)
noncomputable def Passes (CX : CXT) (X : Cx) (E : XK) : Prop := ∀ (pins : List (Addr × Obj)) (σ : St) (H : Hp) (s : Shared) (e : Value) (s' : Shared), Inv X pins σ H s → CX X.stack H s E e s' → X.xe e s'
section
variable {X : Cx} {CX : CXT} {k : Nat} {f C : Addr} {fd : FuncData} {ps : List Str} {sp : Sp} {dvs : List V} {ds : List Value} {E : XK} {x m : Str} {p pos apos : Pos} {e o : Expr} {es : List Expr} {ta : TE} {t : TA}
theorem run_fn {pins : List (Addr × Obj)} {σ : St} {H : Hp} {s : Shared} {Q : VK} {us : List Value} {vs : List V} (F : FnOk X.prog X.w X.K X.mg X.base CX k f fd ps sp) (hr : Room k X.A) (hb : Binds X.K fd ps ds) (hd : Vals dvs ds) (hx : Passes CX X E)
    (I : Inv X pins σ H s) (r : Vals vs us) (h : sp (vs ++ dvs) H Q E) : wpAny (model X.prog X.w) X.A (call (.ref f) us) (EP X pins σ Q) X.xe s := by
  have r2 : Vals (vs ++ dvs) (us ++ ds) := r.append hd
  have hl : (us ++ ds).length = ps.length := by rw [← r2.length]; exact F.len _ _ _ _ h
  refine wpAny_call (codeAny_mono (F.run X.A X.stack s H ⟨us, []⟩ (us ++ ds) (vs ++ dvs) Q E hr I.env0 (hb s us I.kIn hl) r2 h) fun r s' hq => ?_)
  cases r with
  | error e => exact hx pins σ H s e s' I hq
  | ok fl =>
    cases fl with
    | ret u => exact I.after hq
    | next => exact False.elim hq
    | brk => exact False.elim hq
    | cont => exact False.elim hq
theorem pe_call (F : FnOk X.prog X.w X.K X.mg X.base CX k f fd ps sp) (hr : Room k X.A) (hg : Gl X x) (hm : X.mg x = some (.ref f)) (hk : PySem.W.keepIn X.K (.ref f) = true) (hb : Binds X.K fd ps ds) (hd : Vals dvs ds) (hx : Passes CX X E)
    (ha : PA X (e :: es) t) (hdb : (x == ("__debug__" : Str)) = false := by decide) (he : starEach (e :: es) X.env = (false, eval e X.env) :: starEach es X.env := by rfl) (hpl : (backTo pos (starEach es X.env)).any (·.1) = false := by rfl) :
    PE X (.Call (.Name x p) (e :: es) [] pos) (tCall sp dvs E t) := by
  intro pins s σ H Q I h
  refine wpAny_Call_Name_kw (ld_glob I hg hm ?_ hdb)
  refine PySem.W.callWith_K (h₀ := X.base) I.ok.mod.kin hk (thn (ha pos pins s σ H _ I h) fun us s1 ⟨vs, H1, I1, r, q⟩ => ⟨I1.kIn, ?_⟩) he hpl
  exact run_fn F hr hb hd hx I1 r q
end
section
variable {X : Cx} {CX : CXT} {k : Nat} {f C : Addr} {fd : FuncData} {ps ks : List Str} {sp : Sp} {E : XK} {x m : Str} {p pos apos kpos : Pos} {e o : Expr} {es : List Expr} {kws : List Keyword} {te ta : TE} {t tk : TA} {nm : Option Str}
variable {g : List Value → List Value → List Value} {gV : List V → List V → List V}
end
structure FnScope (N P : List Str) (sc : Scope) : Prop where
  kind : sc.kind = .function
  co : sc.isCoroutine = false
  gen : sc.isGenerator = false
  nd : N.Nodup
  pre : N.take P.length = P
  par : ∀ x ∈ P, sc.names.lookup x = some .local ∨ sc.names.lookup x = some .cell
  nofree : ∀ y ∈ sc.names, y.2 ≠ .free
theorem bindL_out {kindOf : Str → Option NameKind} {x : Str} : ∀ {binds : List (Str × Value)} {m : Str → Option Value}, (∀ v, (x, v) ∉ binds) → bindL kindOf binds m x = m x
  | [], _, _ => rfl
  | (n, v) :: r, m, h => by
    unfold bindL
    rw [bindL_out fun w hw => h w (List.mem_cons_of_mem _ hw)]
    split
    · have : x ≠ n := by rintro rfl; exact h v List.mem_cons_self
      simp [this]
    · rfl
theorem bindC_out {kindOf : Str → Option NameKind} {x : Str} : ∀ {binds : List (Str × Value)} {m : Str → Option Value}, (∀ v, (x, v) ∉ binds) → bindC kindOf binds m x = m x
  | [], _, _ => rfl
  | (n, v) :: r, m, h => by
    unfold bindC
    rw [bindC_out fun w hw => h w (List.mem_cons_of_mem _ hw)]
    split
    · rfl
    · have : x ≠ n := by rintro rfl; exact h v List.mem_cons_self
      simp [this]
theorem bindL_get {kindOf : Str → Option NameKind} {x : Str} {v : Value} : ∀ {P : List Str} {vs : List Value} {i : Nat} {m : Str → Option Value}, P.Nodup → P[i]? = some x → vs[i]? = some v → kindOf x = some .local →
    bindL kindOf (P.zip vs) m x = some v
  | [], _, _, _, _, h, _, _ => by simp at h
  | _ :: _, [], _, _, _, _, h, _ => by simp at h
  | p :: P, w :: vs, 0, m, nd, h1, h2, hk => by
    simp at h1 h2; subst h1; subst h2
    show bindL kindOf ((p, w) :: P.zip vs) m p = _
    unfold bindL
    rw [bindL_out fun v hv => (List.nodup_cons.mp nd).1 (List.of_mem_zip hv).1, if_pos hk]
    simp
  | p :: P, w :: vs, i + 1, m, nd, h1, h2, hk => by
    show bindL kindOf ((p, w) :: P.zip vs) m x = _
    unfold bindL
    exact bindL_get (i := i) (List.nodup_cons.mp nd).2 (by simpa using h1) (by simpa using h2) hk
theorem bindC_get {kindOf : Str → Option NameKind} {x : Str} {v : Value} : ∀ {P : List Str} {vs : List Value} {i : Nat} {m : Str → Option Value}, P.Nodup → P[i]? = some x → vs[i]? = some v → kindOf x ≠ some .local →
    bindC kindOf (P.zip vs) m x = some v
  | [], _, _, _, _, h, _, _ => by simp at h
  | _ :: _, [], _, _, _, _, h, _ => by simp at h
  | p :: P, w :: vs, 0, m, nd, h1, h2, hk => by
    simp at h1 h2; subst h1; subst h2
    show bindC kindOf ((p, w) :: P.zip vs) m p = _
    unfold bindC
    rw [bindC_out fun v hv => (List.nodup_cons.mp nd).1 (List.of_mem_zip hv).1, if_neg hk]
    simp
  | p :: P, w :: vs, i + 1, m, nd, h1, h2, hk => by
    show bindC kindOf ((p, w) :: P.zip vs) m x = _
    unfold bindC
    exact bindC_get (i := i) (List.nodup_cons.mp nd).2 (by simpa using h1) (by simpa using h2) hk
noncomputable def start (N : List Str) (vs : List V) : St := vs.map some ++ List.replicate (N.length - vs.length) none
noncomputable def cxOf (CX : CXT) (P : Program) (w : World) (K : PySem.W.Frag) (mg : Str → Option Value) (base : Heap) (N : List Str) (qual : Str) (scope : Scope) (f : Addr) (cd : Value) (A : Around) (outer : List Env) (s : Shared) (H : Hp) (E : XK) : Cx where
  prog := P
  w := w
  K := K
  mg := mg
  base := base
  A := A.deeper (envOfC qual scope s.heap.objs.size f cd)
  N := N
  s₀ := s
  H₀ := H
  env := envOfC qual scope s.heap.objs.size f cd
  outer := outer
  stack := envOfC qual scope s.heap.objs.size f cd :: outer
  ex := []
  calm := true
  fn := fun _ => true
  pn := []
  xe := fun e s' => wpAny (model P w) (A.deeper (envOfC qual scope s.heap.objs.size f cd)) (leaving (envOfC qual scope s.heap.objs.size f cd) e) (fun _ s'' => CX outer H s E e s'') (fun e' s'' => CX outer H s E e' s'') s'
theorem cell_has {sc : Scope} {n : Nat} {x : Str} (h : sc.names.lookup x = some .cell) : ∃ c, (cellsFrom n sc.names []).lookup x = some c := by
  have q := PySem.W.cellsFrom_some sc.names n [] (.inl h)
  exact Option.isSome_iff_exists.mp q
theorem inv_start {CX : CXT} {P : Program} {w : World} {K : PySem.W.Frag} {mg : Str → Option Value} {base : Heap} {N ps : List Str} {qual : Str} {scope : Scope} {f : Addr} {cd : Value} {A : Around} {outer : List Env} {s s1 : Shared} {H : Hp} {E : XK} {us : List Value} {vs : List V}
    (S : FnScope N ps scope) (hd : A.handled = none) (e0 : Env0 P w K mg base A outer s H) (hl : vs.length = ps.length) (r : Vals vs us)
    (x : InCallC s s.heap.objs.size (bindL (envOfC qual scope s.heap.objs.size f cd).kindOf (ps.zip us) fun _ => none) (cellsFrom (s.heap.objs.size + 1) scope.names []) (bindC (envOfC qual scope s.heap.objs.size f cd).kindOf (ps.zip us) fun _ => none) s1) :
    Inv (cxOf CX P w K mg base N qual scope f cd A outer s H E) [] (start N vs) H s1 := by
  have hpl : ps.length ≤ N.length := by have := congrArg List.length S.pre; rw [List.length_take] at this; omega
  obtain ⟨h1, tk, rfl, hk⟩ := x.done
  have noA : ∀ b : Addr, b ∉ (cxOf CX P w K mg base N qual scope f cd A outer s H E).ex := fun b z => absurd (show b ∈ ([] : List Addr) from z) (by simp)
  refine ⟨⟨e0.mod, S.kind, rfl, rfl, Nat.le_refl _, fun y z c h1 h2 => ?_, fun y hy => ?_, fun y c _ h => ?_, fun _ => hd, Around.frames_deeper e0.frames, .inr ⟨rfl, rfl⟩, fun b z => absurd z (noA b), e0.bs, e0.bsz, fun b _ _ => noA b, fun b z => absurd z (noA b), e0.funs, e0.frf⟩,
    rfl, e0.bare, Un.kept hk, ⟨_, x.toInCall.ns, fun i y v h1 h2 h3 => ?_⟩, fun y c h => ⟨_, x.cell y c h⟩, e0.hok.fresh (Nat.le_refl _), fun y c h => ?_, fun p hp => absurd (show p ∈ ([] : List (Addr × Obj)) from hp) (by simp), e0.hok.kept hk, ?_⟩
  · exact name_of_addr x.apart (PySem.mem_of_lookup h1) (PySem.mem_of_lookup h2)
  · have hy : scope.names.lookup y = some .cell ∨ scope.names.lookup y = some .free := hy
    rcases hy with hy | hy
    · exact cell_has hy
    · exact absurd rfl (S.nofree _ (PySem.mem_of_lookup hy))
  · exact Nat.le_of_lt (x.above y c (PySem.mem_of_lookup h))
  · have hi : i < vs.length := by
      unfold start at h2
      by_cases hi : i < vs.length
      · exact hi
      · rw [List.getElem?_append_right (by simpa using hi)] at h2
        rw [List.getElem?_replicate] at h2
        split at h2 <;> cases h2
    have ha : vs[i]? = some v := by
      unfold start at h2
      rw [List.getElem?_append_left (by simpa using hi), List.getElem?_map] at h2
      cases e : vs[i]? with
      | none => rw [e] at h2; cases h2
      | some a => rw [e] at h2; cases h2; rfl
    obtain ⟨u, hu, rv⟩ := r.get ha
    have hp : ps[i]? = some y := by
      rw [← S.pre, List.getElem?_take_of_lt (by omega)]; exact h1
    have ndP : ps.Nodup := by rw [← S.pre]; exact S.nd.sublist (List.take_sublist _ _)
    refine ⟨u, rv, ?_⟩
    rcases S.par y (List.mem_of_getElem? hp) with k | k
    · exact .inl ⟨k, bindL_get ndP hp hu k⟩
    · obtain ⟨c, e⟩ := cell_has (n := s.heap.objs.size + 1) k
      refine .inr ⟨.inl k, c, e, ?_⟩
      have q := x.cell y c e
      rw [bindC_get ndP hp hu (by show scope.names.lookup y ≠ _; rw [k]; decide)] at q
      exact q
  · exact e0.hok.fresh (Nat.le_of_lt (x.above y c (PySem.mem_of_lookup h)))
  · unfold start
    show _ = N.length
    rw [List.length_append, List.length_map, List.length_replicate]
    omega
theorem fn_of {CX : CXT} {P : Program} {w : World} {K : PySem.W.Frag} {mg : Str → Option Value} {base : Heap} {k : Nat} {f : Addr} {name qual : Str} {params : Arguments} {body : List Stmt} {scope : Scope} {dV kV doc pm cdv ct oc : Value} {an od : Option Addr}
    {osl : Array (Option Value)} {N ps : List Str} {sp : Sp} (lk : K.lookup f = some ⟨oc, od, .func (PySem.W.fnOf name qual params body scope dV kV doc pm an cdv ct), osl⟩) (hcd : PySem.W.codeIn K cdv qual = true) (S : FnScope N ps scope)
    (len : ∀ vs H Q E, sp vs H Q E → vs.length = ps.length)
    (hbody : ∀ (A : Around) (outer : List Env) (s : Shared) (H : Hp) (vs : List V) (Q : VK) (E : XK), Room k (A.deeper (envOfC qual scope s.heap.objs.size f cdv)) → sp vs H Q E →
      ∃ t, PSs (cxOf CX P w K mg base N qual scope f cdv A outer s H E) body t ∧ t { nx := fun _ H' => Q .non H', rt := Q } (start N vs) H) :
    FnOk P w K mg base CX (k + 1) f (PySem.W.fnOf name qual params body scope dV kV doc pm an cdv ct) ps sp := by
  refine ⟨len, fun A outer s H args us vs Q E hr e0 hb r hsp => ?_⟩
  have hl := len _ _ _ _ hsp
  have KX : K.In s.heap := e0.mod.kin.keeps fun b o e => (e0.bs b o e).1
  have lim : s.heap.NoLimit := e0.mod.nolimit.keeps fun b o e => (e0.bs b o e).1
  have hkind : ∀ y ∈ ps.zip us, scope.names.lookup y.1 = some .local ∨ (scope.names.lookup y.1 = some .cell ∧ ((cellsFrom (s.heap.objs.size + 1) scope.names []).lookup y.1).isSome = true) := fun ⟨n, v⟩ hy => by
    rcases S.par n (List.of_mem_zip hy).1 with q | q
    · exact .inl q
    · exact .inr ⟨q, PySem.W.cellsFrom_some _ _ _ (.inl q)⟩
  refine codeAny_call_function hr.depth (KX _ _ lk) rfl S.co S.gen rfl (PySem.W.codeRec_of KX hcd) (hb _ _ _ _ ?_)
  refine wpAny_newFunctionEnv_cells S.kind hkind fun env he s1 x => ?_
  subst he
  refine ⟨lim.keeps x.toInCall.keep, codeAny_func ?_⟩
  obtain ⟨t, ht, hq⟩ := hbody A outer s H vs Q E (hr.deeper _) hsp
  have I : Inv (cxOf CX P w K mg base N qual scope f cdv A outer s H E) [] (start N vs) H s1 := inv_start S hr.hd e0 hl r x
  refine wpAny_mono (ht [] s1 (start N vs) H _ I hq) (fun fl s' hs => ?_) fun e s' hs => hs
  have fin : ∀ {σ' : St} {H' : Hp} {v : V} {u : Value}, Inv (cxOf CX P w K mg base N qual scope f cdv A outer s H E) [] σ' H' s' → RelV v u → Q v H' → CE outer P w H s Q u s' :=
    fun {σ' H' v u} J rv q => ⟨v, H', J.os, J.bare, J.base, J.hok, rv, q⟩
  cases fl with
  | ret u =>
    obtain ⟨v, σ', H', J, rv, q⟩ := hs
    exact fin J rv q
  | next =>
    obtain ⟨σ', H', J, q⟩ := hs
    exact fin (v := V.non) (u := Value.none) J rfl q
  | brk =>
    obtain ⟨_, _, _, q⟩ := hs
    exact False.elim q
  | cont =>
    obtain ⟨_, _, _, q⟩ := hs
    exact False.elim q
end L2
namespace L2
open PySem PySem.Spec PyProof.Rows
section
variable {X : Cx} {x : Str} {p pos : Pos} {e : Expr} {es : List Expr} {t : TA} {id T : String} {r : List V → Hp → VK → Prop}
noncomputable def tCB (r : List V → Hp → VK → Prop) (t : TA) : TE := fun σ H Q => t σ H fun vs H1 => r vs H1 Q
theorem pe_callB (hc : CallR X (.builtin id) r) (hg : Gl X x) (hm : X.mg x = none) (hv : bootBuiltins x = some (.builtin id)) (ha : PA X (e :: es) t) (hn : x ≠ "__name__" := by decide) (hdb : (x == ("__debug__" : Str)) = false := by decide)
    (he : starEach (e :: es) X.env = (false, eval e X.env) :: starEach es X.env := by rfl) (hpl : (backTo pos (starEach es X.env)).any (·.1) = false := by rfl) : PE X (.Call (.Name x p) (e :: es) [] pos) (tCB r t) := by
  intro pins s σ H Q I h
  refine wpAny_Call_Name_kw (ld_blt I hg hm hv ?_ hn hdb)
  exact PyProof.Rows.callWith_builtin1 (thn (ha pos pins s σ H _ I h) fun us s1 ⟨vs, H1, I1, r1, q1⟩ => hc pins s1 σ H1 vs us Q I1 r1 q1) he hpl
theorem pe_callTy (hc : CallR X (.type T) r) (hg : Gl X x) (hm : X.mg x = none) (hv : bootBuiltins x = some (.type T)) (ha : PA X (e :: es) t) (hn : x ≠ "__name__" := by decide) (hdb : (x == ("__debug__" : Str)) = false := by decide)
    (he : starEach (e :: es) X.env = (false, eval e X.env) :: starEach es X.env := by rfl) (hpl : (backTo pos (starEach es X.env)).any (·.1) = false := by rfl) : PE X (.Call (.Name x p) (e :: es) [] pos) (tCB r t) := by
  intro pins s σ H Q I h
  refine wpAny_Call_Name_kw (ld_blt I hg hm hv ?_ hn hdb)
  exact PyProof.Rows.callWith_type1 (thn (ha pos pins s σ H _ I h) fun us s1 ⟨vs, H1, I1, r1, q1⟩ => hc pins s1 σ H1 vs us Q I1 r1 q1) he hpl
end
end L2
namespace HT
open PySem PyProof.Rows
section
open PySem.SeqAt
open PySem.AutoSeq1 (wpAny_loadPart')
open PySem.MeetsSeq PySem.MeetsSeq2 PySem.MeetsSeq3
end
section
variable {prog : Program} {w : World} {A : Around} {E : Value → Shared → Prop} {s : Shared}
noncomputable def sIx (n d : Nat) : Option Int → Nat
  | none => d
  | some v => if v < 0 then (v + (n : Int)).toNat else min v.toNat n
end
end HT
namespace L2
open PySem PySem.Spec PyProof.Rows
noncomputable abbrev TO := St → Hp → (Option Int → Hp → Prop) → Prop
noncomputable def PO (X : Cx) (e : Option Expr) (t : TO) : Prop :=
  ∀ (pins : List (Addr × Obj)) (s : Shared) (σ : St) (H : Hp) (Q : Option Int → Hp → Prop), Inv X pins σ H s → t σ H Q →
    wpAny (model X.prog X.w) X.A (evalPart e X.env) (fun u s' => ∃ o H', Inv X pins σ H' s' ∧ IsPart u o ∧ Q o H') X.xe s
noncomputable def tNoPart : TO := fun _ H Q => Q none H
noncomputable def tPart (t : TE) : TO := fun σ H Q => t σ H fun x H1 => ∃ i, x = .int i ∧ Q (some i) H1
theorem intsAre_of {ns : List Int} : ∀ {us : List Value}, Vals (ns.map V.int) us → IntsAre us ns := by
  induction ns with
  | nil => intro us r; rw [List.map_nil] at r; cases r; exact .nil
  | cons n ns ih =>
    intro us r
    rw [List.map_cons] at r
    cases r with
    | cons r1 r2 =>
      obtain ⟨t, e⟩ := r1
      subst e
      exact .cons n t (ih r2)
section
variable {X : Cx} {e : Expr} {te : TE} {lo hi : Option Expr} {tl th : TO} {pos p2 : Pos}
theorem po_none : PO X none tNoPart := by
  intro pins s σ H Q I h
  rw [evalPart_none]
  exact wpAny_pure ⟨none, H, I, .none, h⟩
theorem po_some (h : PE X e te) : PO X (some e) (tPart te) := by
  intro pins s σ H Q I hw
  rw [evalPart_some]
  refine thn (h pins s σ H _ I hw) fun u s1 ⟨x, H1, I1, r1, q1⟩ => ?_
  obtain ⟨i, rfl, q⟩ := q1
  obtain ⟨t, rfl⟩ := r1
  exact ⟨some i, H1, I1, .int i t, q⟩
noncomputable def SlR (X : Cx) (r : V → Option Int → Option Int → Hp → VK → Prop) : Prop :=
  ∀ (pins : List (Addr × Obj)) (s : Shared) (σ : St) (H : Hp) (x : V) (v vl vu : Value) (lo hi : Option Int) (sl : Addr) (Q : VK), Inv X pins σ H s → RelV x v → s.heap.IsSliceOf sl vl vu .none → IsPart vl lo → IsPart vu hi → r x lo hi H Q →
    ∃ T id, typeLookup (.type T) "__getitem__" = pure (some (.builtin id)) ∧ s.TypeIs v T ∧ wpAny (model X.prog X.w) X.A (getItem v (.ref sl)) (EP X pins σ Q) X.xe s
noncomputable def tSl (r : V → Option Int → Option Int → Hp → VK → Prop) (te : TE) (tl th : TO) : TE := fun σ H Q => te σ H fun x H1 => tl σ H1 fun l H2 => th σ H2 fun u H3 => r x l u H3 Q
theorem pe_slice {r : V → Option Int → Option Int → Hp → VK → Prop} (hr : SlR X r) (he : PE X e te) (hl : PO X lo tl) (hu : PO X hi th) : PE X (.Subscript e (.Slice lo hi none p2) pos) (tSl r te tl th) := by
  intro pins s σ H Q I h
  refine Subscript_ (thn (he pins s σ H _ I h) fun v s1 ⟨x, H1, I1, r1, q1⟩ => ?_)
  refine wpAny_Slice (thn (hl pins s1 σ H1 _ I1 q1) fun vl s2 ⟨l, H2, I2, pl, q2⟩ => thn (hu pins s2 σ H2 _ I2 q2) fun vu s3 ⟨u, H3, I3, pu, q3⟩ => ?_)
  rw [evalPart_none]
  refine wpAny_pure ?_
  have I4 : Inv X pins σ H3 { s3 with heap := s3.heap.push { cls := .type "slice", data := .fields #[vl, vu, .none] } } := I3.kept (t' := s3.toks) fun b ob q => Heap.get?_push_of_some _ q
  obtain ⟨T, id, hT, ht, hg⟩ := hr pins { s3 with heap := s3.heap.push { cls := .type "slice", data := .fields #[vl, vu, .none] } } σ H3 x v vl vu l u s3.heap.objs.size Q I4 r1 (Heap.IsSliceOf.new ..) pl pu q3
  show wpAny (model X.prog X.w) X.A (subscriptTail e (.Slice lo hi none p2) v (.ref s3.heap.objs.size)) (EP X pins σ Q) X.xe { s3 with heap := s3.heap.push { cls := .type "slice", data := .fields #[vl, vu, .none] } }
  exact tail_any (ops := [.ref s3.heap.objs.size, v]) ht hT hg (by with_unfolding_all rfl)
noncomputable def cutV (xs : List V) (lo hi : Option Int) : List V := (xs.drop (HT.sIx xs.length 0 lo)).take (HT.sIx xs.length xs.length hi - HT.sIx xs.length 0 lo)
theorem cutV_length (xs : List V) (lo hi : Option Int) : (cutV xs lo hi).length ≤ xs.length := by
  unfold cutV
  rw [List.length_take, List.length_drop]
  omega
end
end L2
namespace L2
open PySem PySem.Spec PyProof.Rows
noncomputable def ixN (n : Nat) (i : Int) : Option Nat := if 0 ≤ i then (if i < n then some i.toNat else none) else if -(n : Int) ≤ i then some (i + n).toNat else none
noncomputable def atI {α : Type} (xs : List α) (i : Int) : Option α := (ixN xs.length i).bind fun j => xs[j]?
theorem ixN_seq {n : Nat} {i : Int} {j : Nat} (h : ixN n i = some j) : seqIndex? i n = some j ∧ j < n ∧ -(n : Int) ≤ i ∧ i < n := by
  unfold ixN at h
  by_cases h0 : 0 ≤ i
  · rw [if_pos h0] at h
    by_cases h1 : i < n
    · rw [if_pos h1] at h
      have e : i.toNat = j := Option.some.inj h
      exact ⟨by rw [seqIndex_of h0 h1, e], by omega, by omega, h1⟩
    · rw [if_neg h1] at h; cases h
  · rw [if_neg h0] at h
    by_cases h1 : -(n : Int) ≤ i
    · rw [if_pos h1] at h
      have e : (i + n).toNat = j := Option.some.inj h
      exact ⟨by rw [seqIndex_neg (by omega) h1, e], by omega, h1, by omega⟩
    · rw [if_neg h1] at h; cases h
theorem atI_get {α : Type} {xs : List α} {i : Int} {v : α} (h : atI xs i = some v) : ∃ j, seqIndex? i xs.length = some j ∧ xs[j]? = some v ∧ j < xs.length ∧ -(xs.length : Int) ≤ i ∧ i < xs.length := by
  unfold atI at h
  cases e : ixN xs.length i with
  | none => rw [e] at h; cases h
  | some j =>
    rw [e] at h
    obtain ⟨h1, h2, h3, h4⟩ := ixN_seq e
    exact ⟨j, h1, h, h2, h3, h4⟩
theorem atI_nat {α : Type} {xs : List α} {j : Nat} {v : α} (h : xs[j]? = some v) : atI xs (j : Int) = some v := by
  have hj : j < xs.length := (List.getElem?_eq_some_iff.mp h).1
  have e : ixN xs.length (j : Int) = some j := by
    unfold ixN
    rw [if_pos (by omega), if_pos (by omega)]; simp
  unfold atI; rw [e]; exact h
noncomputable def PlainIx (b : Expr) : Prop := ∀ o i, subscripted b false o i = operate [o, i] (getItem o i)
noncomputable def IxR (X : Cx) (r : R2) : Prop :=
  ∀ (value slice : Expr) (pins : List (Addr × Obj)) (s : Shared) (σ : St) (H : Hp) (x y : V) (v u : Value) (Q : VK), Inv X pins σ H s → RelV x v → RelV y u → r x y H Q →
    subscripted slice false v u = operate [v, u] (getItem v u) → wpAny (model X.prog X.w) X.A (subscriptTail value slice v u) (EP X pins σ Q) X.xe s
noncomputable def MtR (X : Cx) (id : String) (r : V → List V → Hp → VK → Prop) : Prop :=
  ∀ (pins : List (Addr × Obj)) (s : Shared) (σ : St) (H : Hp) (x : V) (xs : List V) (v : Value) (us : List Value) (Q : VK), Inv X pins σ H s → RelV x v → Vals xs us → r x xs H Q →
    wpAny (model X.prog X.w) X.A (call (.builtin id) (v :: us)) (EP X pins σ Q) X.xe s
section
variable {X : Cx} {a b : Expr} {ta tb : TE} {pos : Pos}
theorem pe_ix {r : R2} (hr : IxR X r) (ha : PE X a ta) (hb : PE X b tb) (hs : PlainIx b) : PE X (.Subscript a b pos) (tOp r ta tb) := by
  intro pins s σ H Q I h
  exact Subscript_ (binT ha hb I h fun v u s2 x y H2 I2 rx ry q => hr a b pins s2 σ H2 x y v u Q I2 rx ry q (hs _ _))
noncomputable def rIxL (K : PySem.W.Frag) : R2 := fun x y H Q => ∃ p xs i v, x = .ref p ∧ y = .int i ∧ SqL K H p xs ∧ atI xs i = some v ∧ Q v H
noncomputable def rIxT (K : PySem.W.Frag) : R2 := fun x y H Q => ∃ p xs i v, x = .ref p ∧ y = .int i ∧ SqT K H p xs ∧ atI xs i = some v ∧ Q v H
theorem ix_list : IxR X (rIxL X.K) := by
  intro value slice pins s σ H x y v u Q I rx ry h hs
  obtain ⟨p, xs, i, z, rfl, rfl, hq, he, q⟩ := h
  cases rx
  obtain ⟨t, rfl⟩ := ry
  obtain ⟨its, r, pl, hz⟩ := I.list hq
  obtain ⟨j, h1, h2, h3, h4, h5⟩ := atI_get he
  obtain ⟨w, ew, rw'⟩ := r.get h2
  have hl := r.length
  have hn := line63
  have fin : EP X pins σ Q w s := ⟨z, H, I, rw', q⟩
  by_cases h0 : 0 ≤ i
  · have hj : i.toNat = j := by
      rw [seqIndex_of h0 h5] at h1
      exact Option.some.inj h1
    exact item_listR pl.isList h0 (by omega) (by rw [hj]; simpa using ew) fin hs
  · have hj : (i + (its.toArray.size : Int)).toNat = j := by
      rw [seqIndex_neg (by omega) h4] at h1
      rw [List.size_toArray, ← hl]
      exact Option.some.inj h1
    exact subscriptTail_builtinR (x := w) pl.isList.typeIs slot_list_getitem.lookup
      (wpAny_getItem_list_neg (Q := fun r s' => r = w ∧ EP X pins σ Q r s') pl.isList (by omega) (by rw [List.size_toArray] <;> omega) (by omega) (by rw [hj]; simpa using ew) ⟨rfl, fin⟩) hs
theorem ix_tup : IxR X (rIxT X.K) := by
  intro value slice pins s σ H x y v u Q I rx ry h hs
  obtain ⟨p, xs, i, z, rfl, rfl, hq, he, q⟩ := h
  cases rx
  obtain ⟨t, rfl⟩ := ry
  obtain ⟨its, r, pl, hz⟩ := I.tuple hq
  obtain ⟨j, h1, h2, h3, h4, h5⟩ := atI_get he
  obtain ⟨w, ew, rw'⟩ := r.get h2
  have hl := r.length
  have hn := line63
  have fin : EP X pins σ Q w s := ⟨z, H, I, rw', q⟩
  exact subscriptTail_builtinR (x := w) pl.typeIs slot_tuple_getitem.lookup
    (getItem_tuple (j := j) (Q := fun r s' => r = w ∧ EP X pins σ Q r s') pl (by omega) (by omega) (by rw [List.size_toArray, ← hl]; exact h1) (by simpa using ew) ⟨rfl, fin⟩) hs
theorem slice_bounds (lo hi : Option Int) (n : Nat) : (sliceBounds lo hi none n).1 = ((HT.sIx n 0 lo : Nat) : Int) ∧ (sliceBounds lo hi none n).2.1 = ((HT.sIx n n hi : Nat) : Int) ∧ (sliceBounds lo hi none n).2.2 = 1 := by
  refine ⟨?_, ?_, rfl⟩
  · cases lo with
    | none => simp [sliceBounds, HT.sIx]
    | some i =>
      simp only [sliceBounds, HT.sIx, Option.getD_none, show (1 : Int) > 0 by decide, if_true]
      by_cases h : i < 0
      · simp only [h, if_true] <;> omega
      · simp only [h, if_false] <;> omega
  · cases hi with
    | none => simp [sliceBounds, HT.sIx]
    | some i =>
      simp only [sliceBounds, HT.sIx, Option.getD_none, show (1 : Int) > 0 by decide, if_true]
      by_cases h : i < 0
      · simp only [h, if_true] <;> omega
      · simp only [h, if_false] <;> omega
theorem slicePick_cut (its : List Value) (lo hi : Option Int) : slicePick its.toArray lo hi none = ((its.drop (HT.sIx its.length 0 lo)).take (HT.sIx its.length its.length hi - HT.sIx its.length 0 lo)).toArray := by
  obtain ⟨h1, h2, h3⟩ := slice_bounds lo hi its.toArray.size
  unfold slicePick
  rw [h1, h2, h3]
  simp only [sliceRange_one, pick_run, List.size_toArray] <;> rfl
noncomputable def rSlL (K : PySem.W.Frag) : V → Option Int → Option Int → Hp → VK → Prop := fun x lo hi H Q => ∃ a xs, x = .ref a ∧ SqL K H a xs ∧ ∀ p, H p = none → Q (.ref p) (upd H p (.lst (cutV xs lo hi)))
theorem sl_list : SlR X (rSlL X.K) := by
  intro pins s σ H x v vl vu lo hi sl Q I rx hs pl pu h
  obtain ⟨a, xs, rfl, hx, q⟩ := h
  cases rx
  obtain ⟨its, r, ht, hz⟩ := I.list hx
  have hlen := r.length
  refine ⟨"list", _, slot_list_getitem.lookup, ht.isList.typeIs, ?_⟩
  refine wpAny_getItem_list_slice ht.isList hs pl pu .none (by simp) ?_ (by rw [List.size_toArray] <;> omega)
  rw [slicePick_cut, ← hlen]
  refine ⟨.ref s.heap.objs.size, _, I.laid (t' := s.toks) (o := .lst (cutV xs lo hi)) (fun b ob q => Heap.get?_push_of_some _ q) (Nat.le_refl _) ?_, rfl, q _ (I.hok.fresh (Nat.le_refl _))⟩
  exact ⟨Nat.le_trans (cutV_length xs lo hi) hz, _, 0, (r.drop (HT.sIx xs.length 0 lo)).take (HT.sIx xs.length xs.length hi - HT.sIx xs.length 0 lo), Heap.get?_push_size _ rfl⟩
noncomputable def flatV : V → Bool
  | .non => true
  | .bl _ => true
  | .int _ => true
  | .str _ => true
  | _ => false
noncomputable def eqV : V → V → Bool
  | .non, .non => true
  | .bl a, .bl b => a == b
  | .bl a, .int b => (if a then 1 else 0) == b
  | .int a, .bl b => a == (if b then 1 else 0)
  | .int a, .int b => a == b
  | .str a, .str b => a == b
  | _, _ => false
theorem eqAt_V {A : Around} {s : Shared} {y x : V} {u v : Value} (ry : RelV y u) (rx : RelV x v) (fy : flatV y = true) (fx : flatV x = true) : SeqAt.EqAt A s u v (eqV y x) := by
  cases y with
  | non =>
    cases ry
    cases x with
    | non => cases rx; exact SeqAt.EqAt.same _
    | bl b => cases rx; exact SeqAt.EqAt.none_bool b
    | int b => obtain ⟨t, rfl⟩ := rx; exact SeqAt.EqAt.none_int b t
    | str b => obtain ⟨t, rfl⟩ := rx; exact SeqAt.EqAt.none_str b t
    | _ => exact absurd (show false = true from fx) Bool.false_ne_true
  | bl a =>
    cases ry
    cases x with
    | non => cases rx; exact SeqAt.EqAt.bool_none a
    | bl b => cases rx; exact SeqAt.EqAt.bool_bool a b
    | int b => obtain ⟨t, rfl⟩ := rx; exact SeqAt.EqAt.bool_int a b t
    | str b => obtain ⟨t, rfl⟩ := rx; exact SeqAt.EqAt.bool_str a b t
    | _ => exact absurd (show false = true from fx) Bool.false_ne_true
  | int a =>
    obtain ⟨t', rfl⟩ := ry
    cases x with
    | non => cases rx; exact SeqAt.EqAt.int_none a t'
    | bl b => cases rx; exact SeqAt.EqAt.int_bool a t' b
    | int b => obtain ⟨t, rfl⟩ := rx; exact SeqAt.EqAt.int_int a t' b t
    | str b => obtain ⟨t, rfl⟩ := rx; exact SeqAt.EqAt.int_str a t' b t
    | _ => exact absurd (show false = true from fx) Bool.false_ne_true
  | str a =>
    obtain ⟨t', rfl⟩ := ry
    cases x with
    | non => cases rx; exact SeqAt.EqAt.str_none a t'
    | bl b => cases rx; exact SeqAt.EqAt.str_bool a t' b
    | int b => obtain ⟨t, rfl⟩ := rx; exact SeqAt.EqAt.str_int a t' b t
    | str b => obtain ⟨t, rfl⟩ := rx; exact SeqAt.EqAt.str_str a t' b t
    | _ => exact absurd (show false = true from fx) Bool.false_ne_true
  | _ => exact absurd (show false = true from fy) Bool.false_ne_true
theorem call_len_seq : CallR X (.builtin "len") (fun xs H Q => ∃ p ys, xs = [.ref p] ∧ (SqL X.K H p ys ∨ SqT X.K H p ys) ∧ Q (.int ys.length) H) := by
  intro pins s σ H xs us Q I r h
  obtain ⟨p, ys, rfl, hq, q⟩ := h
  obtain ⟨u, rfl, rx⟩ := vals1 r
  cases rx
  have hn := line63
  rcases hq with hq | hq
  · obtain ⟨its, r', pl, hz⟩ := I.list hq
    have hlen := r'.length
    exact Calls.call_len_list pl.isList (by simp only [List.size_toArray] <;> omega) ⟨.int ys.length, H, I.tok _, ⟨s.toks + 1, by rw [List.size_toArray, hlen]⟩, q⟩
  · obtain ⟨its, r', pl, hz⟩ := I.tuple hq
    have hlen := r'.length
    exact len_tuple pl (by simp only [List.size_toArray] <;> omega) ⟨.int ys.length, H, I.tok _, ⟨s.toks + 1, by rw [List.size_toArray, hlen]⟩, q⟩
theorem call_list_of : CallR X (.type "list") (fun xs H Q => ∃ p ys, xs = [.ref p] ∧ (SqL X.K H p ys ∨ SqT X.K H p ys) ∧ ∀ l, H l = none → Q (.ref l) (upd H l (.lst ys))) := by
  intro pins s σ H xs us Q I r h
  obtain ⟨p, ys, rfl, hq, q⟩ := h
  obtain ⟨u, rfl, rx⟩ := vals1 r
  cases rx
  have fin : ∀ (its : List Value), Vals ys its → ys.length ≤ sizeLine → ∀ (h' : Heap) (c' : Nat), (∀ b o', s.heap.get? b = some o' → h'.get? b = some o') →
      h'.get? s.heap.objs.size = some { cls := .type "list", dict := none, data := .seq its.toArray c', slots := #[] } → EP X pins σ Q (.ref s.heap.objs.size) { s with heap := h' } := fun its r' hz h' c' kp e =>
    ⟨.ref s.heap.objs.size, _, I.laid (t' := s.toks) kp (Nat.le_refl _) (show ObjOk X.prog X.w _ h' _ (.lst ys) from ⟨hz, its, c', r', e⟩), rfl, q _ (I.hok.fresh (Nat.le_refl _))⟩
  rcases hq with hq | hq
  · obtain ⟨its, r', pl, hz⟩ := I.list hq
    have hlen := r'.length
    obtain ⟨o, ho, hc, n, hd⟩ := pl.isList
    exact call_list_seq p (.inl rfl) ho hc hd (fun h' c' kp e => fin its r' hz h' c' kp e) (by simp only [List.size_toArray] <;> omega)
  · obtain ⟨its, r', pl, hz⟩ := I.tuple hq
    have hlen := r'.length
    obtain ⟨o, ho, hc, n, hd⟩ := pl
    exact call_list_seq p (.inr rfl) ho hc hd (fun h' c' kp e => fin its r' hz h' c' kp e) (by simp only [List.size_toArray] <;> omega)
theorem call_tuple_of : CallR X (.type "tuple") (fun xs H Q => ∃ p ys, xs = [.ref p] ∧ ((SqL X.K H p ys ∧ ∀ l, H l = none → Q (.ref l) (upd H l (.tup ys))) ∨ (SqT X.K H p ys ∧ Q (.ref p) H))) := by
  intro pins s σ H xs us Q I r h
  obtain ⟨p, ys, rfl, h⟩ := h
  obtain ⟨u, rfl, rx⟩ := vals1 r
  cases rx
  rcases h with ⟨hq, q⟩ | ⟨hq, q⟩
  · obtain ⟨its, r', pl, hz⟩ := I.list hq
    have hlen := r'.length
    refine call_tuple_list pl.isList (fun h' kp => ?_) (by simp only [List.size_toArray] <;> omega)
    have I1 : Inv X pins σ H { s with heap := h' } := I.kept (t' := s.toks) kp
    have I2 : Inv X pins σ (upd H h'.objs.size (.tup ys)) { s with heap := h'.push { cls := .type "tuple", data := .seq its.toArray } } :=
      I1.laid (t' := s.toks) (fun b o e => Heap.get?_push_of_some _ e) (Nat.le_refl _) (show ObjOk X.prog X.w _ _ _ (.tup ys) from ⟨hz, its, r', IsTup.new _ _⟩)
    exact ⟨.ref h'.objs.size, _, I2, rfl, q _ (I1.hok.fresh (Nat.le_refl _))⟩
  · obtain ⟨its, r', pl, hz⟩ := I.tuple hq
    exact call_tuple_same pl ⟨.ref p, H, I, rfl, q⟩
noncomputable def tyV (K : PySem.W.Frag) (T : String) (x : V) (H : Hp) : Prop := match x with
  | .str _ => T = "str"
  | .int _ => T = "int"
  | .ref p => (T = "list" ∧ ∃ xs, SqL K H p xs) ∨ (T = "tuple" ∧ ∃ o, K.lookup p = some o ∧ o.cls = .type "tuple" ∧ o.dict = none) ∨
      (T = "dict" ∧ ((∃ kvs, H p = some (.dK kvs)) ∨ ∃ kvs, H p = some (.dT kvs))) ∨ (T = "set" ∧ ∃ S n, H p = some (.set S n))
  | _ => False
theorem tyV_is {pins : List (Addr × Obj)} {σ : St} {H : Hp} {s : Shared} {T : String} {x : V} {v : Value} (I : Inv X pins σ H s) (r : RelV x v) (ty : tyV X.K T x H) :
    s.TypeIs v T ∧ ∀ a, v = .ref a → ∃ ob, s.heap.get? a = some ob ∧ ob.dict = none := by
  cases x with
  | str z =>
    obtain ⟨t, rfl⟩ := r
    cases (show T = "str" from ty)
    exact ⟨typeIs_str s z t, fun _ e => nomatch e⟩
  | int i =>
    obtain ⟨t, rfl⟩ := r
    cases (show T = "int" from ty)
    exact ⟨typeIs_int s i t, fun _ e => nomatch e⟩
  | ref p =>
    cases r
    rcases ty with ⟨rfl, xs, hq⟩ | ⟨rfl, o, hk, hc, hd⟩ | ⟨rfl, hk⟩ | ⟨rfl, S, n, hk⟩
    · obtain ⟨its, _, pl, _⟩ := I.list hq
      refine ⟨pl.isList.typeIs, fun a e => ?_⟩
      cases e
      obtain ⟨o, n, e, c, hd, _⟩ := pl
      exact ⟨o, e, hd⟩
    · refine ⟨⟨o, I.kIn p o hk, hc⟩, fun a e => ?_⟩
      cases e
      exact ⟨o, I.kIn _ o hk, hd⟩
    · have z : ∃ o, s.heap.get? p = some o ∧ o.ExactDict := by
        rcases hk with ⟨kvs, hk⟩ | ⟨kvs, hk⟩
        · obtain ⟨_, _, _, _, o, _, _, e, ex, _⟩ := I.hok p _ hk
          exact ⟨o, e, ex⟩
        · obtain ⟨_, _, _, _, o, _, _, e, ex, _⟩ := I.hok p _ hk
          exact ⟨o, e, ex⟩
      obtain ⟨o, e, ex⟩ := z
      refine ⟨⟨o, e, ex.1⟩, fun a e2 => ?_⟩
      cases e2
      exact ⟨o, e, ex.2.1⟩
    · obtain ⟨o, _, _, _, e, ex, _⟩ := I.hok p _ hk
      refine ⟨⟨o, e, ex.1⟩, fun a e2 => ?_⟩
      cases e2
      exact ⟨o, e, ex.2.1⟩
  | _ => exact False.elim ty
noncomputable def tBM (K : PySem.W.Frag) (T : String) (r : V → List V → Hp → VK → Prop) (to : TE) (t : TA) : TE := fun σ H Q => to σ H fun x H1 => tyV K T x H1 ∧ t σ H1 fun xs H2 => r x xs H2 Q
variable {o e : Expr} {es : List Expr} {to : TE} {t : TA} {name : Str} {apos cpos : Pos} {T id : String} {r : V → List V → Hp → VK → Prop}
theorem pe_bm (pa : PlainAttrs T) (slot : Slot T name id) (hty : typeOf (.builtin id) = pure (.type "method_descriptor")) (hm : MtR X id r) (ho : PE X o to) (ha : PA X (e :: es) t)
    (hbase : attributeBase o name X.env (eval o X.env) = eval o X.env := by rfl)
    (hfew : ((backTo cpos (starEach (e :: es) X.env)).all (fun x => !x.1) && (backToKw cpos (keywordEach [] X.env)).all (fun x => x.1.isSome)
      && decide ((e :: es).length + ([] : List Keyword).length + (if ([] : List Keyword).isEmpty then 0 else 1) < 30)) = true := by rfl)
    (hline : (apos.endLine == cpos.line) = true := by rfl) (hs : starEach (e :: es) X.env = (false, eval e X.env) :: starEach es X.env := by rfl) (hplain : (backTo cpos (starEach es X.env)).any (·.1) = false := by rfl) :
    PE X (.Call (.Attribute o name apos) (e :: es) [] cpos) (tBM X.K T r to t) := by
  intro pins s σ H Q I h
  refine wpAny_Call_method_late hbase hfew hline rfl (thn (ho pins s σ H _ I h) fun v s1 ⟨x, H1, I1, r1, ty, q1⟩ => ?_)
  obtain ⟨h1, h2⟩ := tyV_is I1 r1 ty
  refine ⟨T, id, pa, slot, hty, h1, h2, ?_⟩
  have hA := ha cpos pins s1 σ H1 _ I1 q1
  rw [hs] at hA ⊢
  refine Calls.callWith_builtin (by show (false || (backTo cpos (starEach es X.env)).any (·.1)) = false; rw [hplain] <;> rfl) (Calls.evalArgs_plain ?_)
  exact thn hA fun us s2 ⟨vs, H2, I2, r2, q2⟩ => hm pins s2 σ H2 x vs v us Q I2 r1 r2 q2
end
end L2
namespace L2
open PySem PySem.Spec PyProof.Rows
noncomputable def MtM (X : Cx) (id : String) (r : V → List V → Hp → VK → Prop) : Prop :=
  ∀ (pins : List (Addr × Obj)) (s : Shared) (σ : St) (H : Hp) (x : V) (xs : List V) (v : Value) (us : List Value) (Q : VK), Inv X pins σ H s → RelV x v → Vals xs us → r x xs H Q →
    wpAny (model X.prog X.w) X.A (call (.builtin id) (v :: us)) (EP X pins σ Q) X.xe s
theorem Vals.one : ∀ {x : V} {us : List Value}, Vals [x] us → ∃ u, us = [u] ∧ RelV x u
  | _, _, .cons r .nil => ⟨_, rfl, r⟩
theorem Vals.rep {xs : List V} {us : List Value} (h : Vals xs us) : ∀ k : Nat, Vals (List.replicate k xs).flatten (List.replicate k us).flatten
  | 0 => .nil
  | k + 1 => by
    rw [List.replicate_succ, List.replicate_succ, List.flatten_cons, List.flatten_cons]
    exact Vals.append h (Vals.rep h k)
theorem foldl_rep (its : List Value) : ∀ (k : Nat) (acc : List Value),
    List.foldl (fun x1 x2 => x1 ++ x2) acc.toArray (List.replicate k its.toArray) = (acc ++ (List.replicate k its).flatten).toArray
  | 0, acc => by simp
  | k + 1, acc => by
    have e : acc.toArray ++ its.toArray = (acc ++ its).toArray := by simp
    have e2 : (acc ++ its) ++ (List.replicate k its).flatten = acc ++ (List.replicate (k + 1) its).flatten := by
      rw [List.replicate_succ, List.flatten_cons, List.append_assoc]
    rw [← e2, ← foldl_rep its k (acc ++ its), ← e, List.replicate_succ, List.foldl_cons]
section
variable {X : Cx} {pins : List (Addr × Obj)} {σ : St} {H : Hp} {s : Shared} {l b : Addr} {xs ys zs : List V}
theorem Inv.lset {its its' : List Value} {n : Nat} {f : Array Value → Array Value} {t' : Nat} (I : Inv X pins σ H s) (hH : H l = some (.lst xs))
    (e : s.heap.get? l = some { cls := .type "list", data := .seq its.toArray n }) (hf : f its.toArray = its'.toArray) (hv : Vals ys its') (hz : ys.length ≤ sizeLine) :
    Inv X pins σ (upd H l (.lst ys)) { s with heap := s.heap.update l (Obj.mapSeq f), toks := t' } := by
  have q := PySem.IsL.update e f
  rw [hf] at q
  refine I.write (x := l) (e := l) (by rw [hH]; exact trivial) (.inl rfl) (fun b' u hb hu => (Heap.get?_update_other s.heap (Obj.mapSeq f) (Ne.symm hb)).trans hu) ⟨_, q⟩ ?_
  exact ⟨hz, its', _, hv, q⟩
theorem Inv.lnew {its : List Value} {t' : Nat} (I : Inv X pins σ H s) (hv : Vals ys its) (hz : ys.length ≤ sizeLine) :
    Inv X pins σ (upd H s.heap.objs.size (.lst ys)) { s with heap := s.heap.push { cls := .type "list", data := .seq its.toArray }, toks := t' } :=
  I.laid (fun _ _ q => Heap.get?_push_of_some _ q) (Nat.le_refl _) ⟨hz, its, 0, hv, Heap.get?_push_size _ rfl⟩
theorem Inv.fresh (I : Inv X pins σ H s) : H s.heap.objs.size = none := I.hok.fresh (Nat.le_refl _)
theorem Inv.lstM (I : Inv X pins σ H s) (hH : H l = some (.lst xs)) : xs.length ≤ sizeLine ∧ ∃ (its : List Value) (n : Nat), Vals xs its ∧ xs.length = its.length ∧ s.heap.get? l = some { cls := .type "list", data := .seq its.toArray n } := by
  obtain ⟨z, its, n, r, e⟩ := I.hok l _ hH
  exact ⟨z, its, n, r, r.length, e⟩
theorem notLongL {n : Nat} (h : n ≤ sizeLine) : Builtin.List.listTooLong n = false := by
  unfold Builtin.List.listTooLong
  exact decide_eq_false (by omega)
end
section
variable {X : Cx}
noncomputable def rAppend : V → List V → Hp → VK → Prop := fun x vs H Q => ∃ l xs y, x = .ref l ∧ vs = [y] ∧ H l = some (.lst xs) ∧ xs.length < sizeLine ∧ Q .non (upd H l (.lst (xs ++ [y])))
theorem mt_append : MtM X "list.append" rAppend := by
  intro pins s σ H x vs v us Q I rx rv h
  obtain ⟨l, xs, y, rfl, rfl, hH, hz, q⟩ := h
  cases rx
  obtain ⟨u, rfl, ru⟩ := rv.one
  obtain ⟨z, its, n, r, hl, e⟩ := I.lstM hH
  refine call_meets F.slot_list_append ⟨_, e, rfl⟩ F.entry_list_append (F.args_list_append_2 _ _) (PySem.list_append l its.toArray n u (by rw [List.size_toArray]; omega)) ⟨e, ?_⟩
  refine ⟨.non, _, I.lset (its' := its ++ [u]) hH e (by simp) (r.append (.cons ru .nil)) ?_, rfl, q⟩
  rw [List.length_append, List.length_singleton]
  omega
noncomputable def rCat : R2 := fun x y H Q => ∃ l b xs zs, x = .ref l ∧ y = .ref b ∧ H l = some (.lst xs) ∧ H b = some (.lst zs) ∧ xs.length + zs.length ≤ sizeLine ∧ ∀ p, H p = none → Q (.ref p) (upd H p (.lst (xs ++ zs)))
theorem op_cat : OpR X (binaryOp .Add) rCat := by
  intro pins s σ H x y v u Q I rx ry h
  obtain ⟨l, b, xs, zs, rfl, rfl, hH, hB, hz, q⟩ := h
  cases rx
  cases ry
  obtain ⟨z, its, n, r, hl, e⟩ := I.lstM hH
  obtain ⟨z2, its2, n2, r2, hl2, e2⟩ := I.lstM hB
  refine PySem.P.add_list e e2 ?_ (by rw [List.size_toArray, List.size_toArray]; omega)
  have ea : its.toArray ++ its2.toArray = (its ++ its2).toArray := by simp
  rw [ea]
  exact ⟨.ref _, _, I.lnew (t' := s.toks) (r.append r2) (by rw [List.length_append]; omega), rfl, q _ I.fresh⟩
noncomputable def rRep : R2 := fun x y H Q => ∃ l k xs, x = .ref l ∧ y = .int k ∧ H l = some (.lst xs) ∧ -(2 ^ 63) ≤ k ∧ k < 2 ^ 63 ∧ xs.length * k.toNat ≤ sizeLine ∧
  ∀ p, H p = none → Q (.ref p) (upd H p (.lst (List.replicate k.toNat xs).flatten))
theorem len_rep {α : Type} (xs : List α) (k : Nat) : (List.replicate k xs).flatten.length = k * xs.length := by
  induction k with
  | zero => simp
  | succ k ih => rw [List.replicate_succ, List.flatten_cons, List.length_append, ih, Nat.succ_mul, Nat.add_comm]
theorem op_rep : OpR X (binaryOp .Mult) rRep := by
  intro pins s σ H x y v u Q I rx ry h
  obtain ⟨l, k, xs, rfl, rfl, hH, h1, h2, hz, q⟩ := h
  cases rx
  obtain ⟨t, rfl⟩ := ry
  obtain ⟨z, its, n, r, hl, e⟩ := I.lstM hH
  have hlen : its.toArray.size * k.toNat ≤ sizeLine := by rw [List.size_toArray, ← hl]; exact hz
  have hcap : ¬ its.toArray.size * k.toNat > (2 ^ 63 - 1) / 8 := by
    have : (sizeLine : Nat) ≤ (2 ^ 63 - 1) / 8 := by decide
    omega
  have hfit : ¬ (!Builtin.List.listFitsIndex k) = true := by
    rw [fitsIndex_both h1 h2]
    exact Bool.false_ne_true
  have hlong : ¬ Builtin.List.listTooLong (its.toArray.size * k.toNat) = true := by
    rw [notLongL hlen]
    exact Bool.false_ne_true
  have hnew : List.foldl (fun x1 x2 => x1 ++ x2) #[] (List.replicate (if its.toArray.isEmpty = true then 0 else k.toNat) its.toArray) = (List.replicate k.toNat its).flatten.toArray := by
    have f0 : ∀ m : Nat, List.foldl (fun x1 x2 => x1 ++ x2) #[] (List.replicate m its.toArray) = (List.replicate m its).flatten.toArray := fun m => by
      have := foldl_rep its m []
      rw [List.nil_append] at this
      exact this
    rw [f0]
    cases its with
    | nil => simp
    | cons a r' => rw [if_neg (by simp)]
  refine wpAny_binaryOp_repeat_ref (T := "list") (U := "int") (by decide) ⟨_, e, rfl⟩ (fun s' => typeIs_int s' k t) noFill_list_mul F.fills_int_mul F.slot_int_rmul repeat_list F.slot_int_index.lookup
    (call_meets F.slot_int_rmul (typeIs_int s k t) F.entry_int_rmul (F.args_int_rmul_2 _ _) (int___rmul___int_list k t l its.toArray n)
      ⟨e, rfl, ⟨_, e, rfl⟩, call_meets F.slot_list_mul ⟨_, e, rfl⟩ F.entry_list_mul (F.args_list_mul_2 _ _) (AutoListH.list___mul___list_int_3 l its.toArray n k t hfit hcap hlong) ⟨e, ?_⟩⟩)
  rw [hnew]
  exact ⟨.ref _, _, I.lnew (t' := s.toks) (r.rep k.toNat) (by rw [len_rep, Nat.mul_comm]; exact hz), rfl, q _ I.fresh⟩
end
section
variable {prog : Program} {w : World} {A : Around} {E : Value → Shared → Prop} {s : Shared}
end
section
variable {X : Cx}
end
end L2
namespace Att
open PySem PySem.W PySem.Calls PyProof.Rows
theorem ints_of_wellAll {P : Params} {h : Heap} : ∀ (ns : List Int) (vs : List Value), WellAll P h vs (ns.map WData.int) → IntsAre vs ns := by
  intro ns
  induction ns with
  | nil =>
    intro vs w
    rw [List.map_nil] at w
    cases w
    exact .nil
  | cons n ns ih =>
    intro vs w
    rw [List.map_cons] at w
    cases w with
    | cons a b =>
      cases a
      exact .cons _ _ (ih _ b)
theorem script_of {l : OpenLaw} {n : Nat} (hn : l.most = some n) {P : Params} {h : Heap} {args : List WData} {vals : List Value}
    (hpre : l.row.toRowW.claim.pre args = true) (hwl : WellAll P h vals args) :
    ∃ a vs ns, vals = [Value.ref a] ∧ args = [WData.list (ns.map WData.int)] ∧ h.get? a = some { cls := .type "list", data := .seq vs.toArray } ∧ IntsAre vs ns ∧ ns.length ≤ n := by
  have hsh : WShape.hasAll [] args [.list .int] = true := (pre_splitW hpre).1
  have hc : l.pre.holds [] { args := args } = true := (pre_splitW hpre).2
  obtain ⟨d, r, rfl, h1, h2⟩ := hasAllW_cons hsh
  obtain rfl := hasAllW_nil h2
  obtain ⟨xs, rfl, h3⟩ := hasW_list h1
  obtain ⟨ns, rfl⟩ := items_int h3
  have hlen : ns.length ≤ n := by
    unfold OpenLaw.pre at hc
    have h4 : (WTm.not (.lt (.lit (.int (n : Int))) (.len (.arg 0)))).holds [] { args := [.list (ns.map .int)] } = true := by
      have h4 := (holds_andW hc).1
      rw [hn] at h4
      exact h4
    have h5 := condW_of h4 (w_not (w_lt w_lit (w_len_list (w_arg rfl))))
    rw [List.length_map] at h5
    refine Nat.le_of_not_lt fun q => ?_
    have q' : (n : Int) < ((ns.length : Nat) : Int) := by omega
    first
      | (rw [decide_eq_true q'] at h5; exact absurd h5 (by decide))
      | (simp at h5; omega)
  cases hwl with
  | cons w1 w2 =>
    cases w2
    cases w1 with
    | list ho hall => exact ⟨_, _, ns, rfl, rfl, ho, ints_of_wellAll ns _ hall, hlen⟩
theorem post_true (l : OpenLaw) (args : List WData) : l.row.toRowW.claim.post args (.bool true) args = true :=
  postW_of (r := l.row.toRowW) (X := (true == true))
    (show WShape.has [] (.bool true) .bool = true by first | rfl | decide | simp [WShape.has, WShape.arms, WShape.armsAll])
    (show (WTm.eq .res (.lit (.bool true))).value [] { args := args, res := some (.bool true), after := args } = some (.bool (true == true)) from w_eq_bool (w_res rfl) w_lit) rfl
section
variable {prog : Program} {w : World} {A : Around} {E : Value → Shared → Prop} {s : Shared} {K : Frag}
end
end Att
namespace L2
open PySem PySem.Spec PyProof.Rows
theorem vals_ints : ∀ {vs : List Value} {ns : List Int}, IntsAre vs ns → Vals (ns.map V.int) vs
  | _, _, .nil => .nil
  | _, _, .cons n t h => .cons ⟨t, rfl⟩ (vals_ints h)
end L2
namespace L2
open PySem PySem.Spec PyProof.Rows
end L2
namespace L2
open PySem PySem.Spec PyProof.Rows
noncomputable def defArgs (s : Stmt) : Arguments := match s with
  | .FunctionDef _ a _ _ _ _ _ _ _ _ => a
  | _ => { posonlyargs := [], args := [], vararg := none, kwonlyargs := [], kw_defaults := [], kwarg := none, defaults := [] }
noncomputable def defBody (s : Stmt) : List Stmt := match s with
  | .FunctionDef _ _ b _ _ _ _ _ _ _ => b
  | _ => []
noncomputable def defScope (s : Stmt) : Scope := match s with
  | .FunctionDef _ _ _ _ _ _ sc _ _ _ => sc
  | _ => { kind := .function, names := [], isGenerator := false, isCoroutine := false }
noncomputable abbrev CX0 : CXT := fun _ _ _ _ _ _ => False
noncomputable abbrev E0 : XK := fun _ _ _ => False
theorem pass0 {X : Cx} : Passes CX0 X E0 := fun _ _ _ _ _ _ _ h => h.elim
section
variable {P : Program} {w : World} {K : PySem.W.Frag} {mg : Str → Option Value} {base : Heap}
end
section
variable {X : Cx}
theorem pv (i : Nat) {x : Str} {pos : Pos} (hN : X.N[i]? = some x := by rfl) (hv : Vis X.env.scope x := by first | exact Or.inl rfl | exact Or.inr (Or.inl rfl) | exact Or.inr (Or.inr rfl)) (hd : (x == ("__debug__" : Str)) = false := by decide)
    (hcd : (x == ("__classdict__" : Str)) = false := by decide) : PE X (.Name x pos) (tVar i) := pe_var hN hv hd hcd
end
theorem iteF {A B : Prop} (h : B) : if false = true then A else B := by
  rw [if_neg Bool.false_ne_true]
  exact h
theorem iteT {A B : Prop} (h : A) : if true = true then A else B := by
  rw [if_pos rfl]
  exact h
theorem ite2 {c A B : Prop} [Decidable c] (h1 : c → A) (h2 : ¬ c → B) : if c then A else B := by
  by_cases h : c
  · rw [if_pos h]
    exact h1 h
  · rw [if_neg h]
    exact h2 h
noncomputable def Same (H H' : Hp) : Prop := ∀ b o, H b = some o → H' b = some o
theorem Same.refl (H : Hp) : Same H H := fun _ _ h => h
theorem Same.trans {H H1 H2 : Hp} (a : Same H H1) (b : Same H1 H2) : Same H H2 := fun c o h => b c o (a c o h)
theorem Same.free {H H' : Hp} (e : Same H H') {l : Addr} (h : H' l = Option.none) : H l = Option.none := by
  cases q : H l with
  | none => rfl
  | some o =>
    rw [e l o q] at h
    cases h
theorem Same.seq {K : PySem.W.Frag} {H H' : Hp} {a : Addr} {xs : List V} (e : Same H H') (h : SqL K H a xs) : SqL K H' a xs := by
  rcases h with (h | ⟨o, h⟩) | h
  · exact .inl (.inl (e _ _ h))
  · exact .inl (.inr ⟨o, e _ _ h⟩)
  · exact .inr h
end L2
namespace C5
open PySem
section
variable {M : Model} {A : Around} {E : Value → Shared → Prop} {s : Shared}
noncomputable def clGo (env : Env) : List (Str × NameKind) → List (Str × Addr) → List (Str × Addr)
  | [], cs => cs
  | (n, k) :: r, cs => clGo env r (if k == .free then (n, (env.cells.lookup n).getD 0) :: cs else cs)
theorem clGo_cons (env : Env) (n : Str) (k : NameKind) (r : List (Str × NameKind)) (cs : List (Str × Addr)) : clGo env ((n, k) :: r) cs = clGo env r (if k == .free then (n, (env.cells.lookup n).getD 0) :: cs else cs) := rfl
noncomputable def clOf (sc : Scope) (env : Env) : List (Str × Addr) := clGo env sc.names []
theorem clGo_run {env : Env} (f : Str × NameKind → List (Str × Addr) → Sem (ForInStep (List (Str × Addr))))
    (hf : ∀ n k cs, f (n, k) cs = if k == .free then (do let a ← cellOf env n; pure (.yield ((n, a) :: cs))) else pure (.yield cs)) :
    ∀ (l : List (Str × NameKind)) (cs : List (Str × Addr)), (∀ y ∈ l, y.2 = .free → ∃ c, env.cells.lookup y.1 = some c) → forIn l cs f = pure (clGo env l cs)
  | [], cs, _ => by rw [List.forIn_nil]; rfl
  | (n, k) :: r, cs, h => by
    rw [List.forIn_cons, hf]
    have hr := fun cs' => clGo_run f hf r cs' fun y hy => h y (List.mem_cons_of_mem _ hy)
    cases hk : k == NameKind.free with
    | false =>
      simp only [Bool.false_eq_true, if_false, pure_bind]
      rw [hr, clGo_cons, hk]; rfl
    | true =>
      obtain ⟨c, hc⟩ := h (n, k) List.mem_cons_self (by simpa using hk)
      have hc' : cellOf env n = pure c := by
        unfold cellOf
        rw [show env.cells.lookup n = some c from hc]
      simp only [if_true, hc', pure_bind]
      rw [hr, clGo_cons, hk, show env.cells.lookup n = some c from hc]; rfl
theorem clos_of {sc : Scope} {env : Env} (h : ∀ y ∈ sc.names, y.2 = .free → ∃ c, env.cells.lookup y.1 = some c) : closureFor sc env = pure (clOf sc env) := by
  unfold closureFor clOf
  dsimp only
  rw [clGo_run (env := env) _ (fun n k cs => by cases hk : k == NameKind.free <;> simp [hk]) sc.names [] h]
  exact pure_bind _ _
theorem clGo_mem {env : Env} : ∀ (l : List (Str × NameKind)) (cs : List (Str × Addr)) (x : Str) (c : Addr), (x, c) ∈ clGo env l cs → (x, c) ∈ cs ∨ ((x, NameKind.free) ∈ l ∧ c = (env.cells.lookup x).getD 0)
  | [], cs, x, c, h => .inl h
  | (n, k) :: r, cs, x, c, h => by
    unfold clGo at h
    rcases clGo_mem r _ x c h with h | ⟨h, e⟩
    · cases hk : k == NameKind.free with
      | false => rw [hk, if_neg Bool.false_ne_true] at h; exact .inl h
      | true =>
        rw [hk, if_pos rfl] at h
        have hk' : k = .free := by simpa using hk
        rcases List.mem_cons.mp h with e | h
        · cases e; subst hk'; exact .inr ⟨List.mem_cons_self, rfl⟩
        · exact .inl h
    · exact .inr ⟨List.mem_cons_of_mem _ h, e⟩
theorem clGo_keep {env : Env} : ∀ (l : List (Str × NameKind)) (cs : List (Str × Addr)) (p : Str × Addr), p ∈ cs → p ∈ clGo env l cs
  | [], _, _, h => h
  | (n, k) :: r, cs, p, h => by
    unfold clGo
    refine clGo_keep r _ p ?_
    split
    · exact List.mem_cons_of_mem _ h
    · exact h
theorem clGo_has {env : Env} : ∀ (l : List (Str × NameKind)) (cs : List (Str × Addr)) (x : Str), (x, NameKind.free) ∈ l → (x, (env.cells.lookup x).getD 0) ∈ clGo env l cs
  | (n, k) :: r, cs, x, h => by
    unfold clGo
    rcases List.mem_cons.mp h with e | h
    · cases e
      refine clGo_keep r _ _ ?_
      simp
    · exact clGo_has r _ x h
theorem lookup_of_mem {α : Type} : ∀ {l : List (Str × α)} {x : Str} {c : α}, (x, c) ∈ l → (∀ c', (x, c') ∈ l → c' = c) → l.lookup x = some c
  | (k, v) :: r, x, c, h, u => by
    rw [List.lookup_cons]
    cases hb : x == k with
    | true =>
      have e := beq_iff_eq.mp hb
      subst e
      rw [u v List.mem_cons_self]
    | false =>
      rcases List.mem_cons.mp h with e | h
      · cases e; simp at hb
      · exact lookup_of_mem h fun c' h' => u c' (List.mem_cons_of_mem _ h')
theorem clOf_sub {sc : Scope} {env : Env} (h : ∀ y ∈ sc.names, y.2 = .free → ∃ c, env.cells.lookup y.1 = some c) {x : Str} {c : Addr} (e : (clOf sc env).lookup x = some c) :
    env.cells.lookup x = some c ∧ (x, NameKind.free) ∈ sc.names := by
  rcases clGo_mem sc.names [] x c (mem_of_lookup e) with z | ⟨z, q⟩
  · exact absurd z (by simp)
  · obtain ⟨c', hc⟩ := h _ z rfl
    have hc : env.cells.lookup x = some c' := hc
    rw [hc] at q
    exact ⟨by rw [hc, q]; rfl, z⟩
theorem clOf_has {sc : Scope} {env : Env} {x : Str} (e : (x, NameKind.free) ∈ sc.names) : (clOf sc env).lookup x = some ((env.cells.lookup x).getD 0) :=
  lookup_of_mem (clGo_has sc.names [] x e) fun c' h' => by
    rcases clGo_mem sc.names [] x c' h' with z | ⟨_, q⟩
    · exact absurd z (by simp)
    · exact q
theorem cellsFrom_app : ∀ (names : List (Str × NameKind)) (n : Nat) (acc : List (Str × Addr)), cellsFrom n names acc = cellsFrom n names [] ++ acc
  | [], _, _ => rfl
  | (x, k) :: r, n, acc => by
    unfold cellsFrom
    split
    · rw [cellsFrom_app r (n + 1) ((x, n) :: acc), cellsFrom_app r (n + 1) [(x, n)]]; simp
    · exact cellsFrom_app r n acc
theorem cellsFrom_key : ∀ (names : List (Str × NameKind)) (n : Nat) (x : Str) (c : Addr), (x, c) ∈ cellsFrom n names [] → (x, NameKind.cell) ∈ names
  | [], _, _, _, h => by simp [cellsFrom] at h
  | (y, k) :: r, n, x, c, h => by
    unfold cellsFrom at h
    split at h
    · rename_i hk
      have hk' : k = .cell := by simpa using hk
      rw [cellsFrom_app] at h
      rcases List.mem_append.mp h with h | h
      · exact List.mem_cons_of_mem _ (cellsFrom_key r _ x c h)
      · have e : (x, c) = (y, n) := by simpa using h
        cases e; subst hk'; exact List.mem_cons_self
    · exact List.mem_cons_of_mem _ (cellsFrom_key r _ x c h)
noncomputable def bkEnv (sc : Scope) (cl : List (Str × Addr)) (C : Addr) (env : Env) : Env :=
  { scope := relabel sc env, locals := C, globals := env.globals, cells := cellsFrom (C + 1) sc.names cl, qual := env.qual, func := none, code := env.code, frame := env.frame, builtins := env.builtins }
theorem newBlock {sc : Scope} {cl : List (Str × Addr)} {env : Env} {Q : Env → Shared → Prop}
    (h : Q (newEnv sc s.heap.objs.size env.globals (cellsFrom (s.heap.objs.size + 1) sc.names cl) env.qual none .none (some env) builtinsNs) { s with heap := pushCells (s.heap.push { cls := .type "dict", data := .dict #[] }) sc.names }) :
    wpAny M A (newFunctionEnv sc env.globals cl [] env.qual none .none (some env)) Q E s := by
  simp only [newFunctionEnv, Option.isSome_some, if_true]
  refine wpAny_bind (wpAny_alloc ?_)
  refine wpAny_bind (wpAny_layCells _ (fun name kind cells => by cases hkc : kind == NameKind.cell <;> simp [hkc]) _ _ _ _ ?_)
  rw [show ({ s with heap := s.heap.push { cls := .type "dict", data := .dict #[] } } : Shared).heap.objs.size = s.heap.objs.size + 1 from Heap.size_push ..]
  rw [List.forIn_nil]
  exact wpAny_bind (wpAny_pure (wpAny_pure h))
theorem relabel_cell {sc : Scope} {env : Env} : ∀ {l : List (Str × NameKind)} {x : Str},
    (l.map fun (n, k) => if (k == NameKind.free && env.scope.kind == .function && env.kindOf n == some .cell) then (n, NameKind.cell) else (n, k)).lookup x = some .cell → l.lookup x = some .cell ∨ l.lookup x = some .free
  | [], x, h => by simp at h
  | (n, k) :: r, x, h => by
    rw [List.map_cons] at h
    rw [List.lookup_cons]
    cases hx : x == n with
    | true =>
      dsimp only at h
      split at h
      · rename_i hc
        rw [Bool.and_eq_true, Bool.and_eq_true] at hc
        have : k = .free := by simpa using hc.1.1
        rw [this]; exact .inr rfl
      · simp only [List.lookup_cons, hx] at h
        exact .inl h
    | false =>
      refine relabel_cell (sc := sc) (env := env) (l := r) ?_
      dsimp only at h
      split at h <;> simpa only [List.lookup_cons, hx] using h
theorem relabel_free {env : Env} : ∀ {l : List (Str × NameKind)} {x : Str},
    (l.map fun (n, k) => if (k == NameKind.free && env.scope.kind == .function && env.kindOf n == some .cell) then (n, NameKind.cell) else (n, k)).lookup x = some .free → l.lookup x = some .free
  | [], x, h => by simp at h
  | (n, k) :: r, x, h => by
    rw [List.map_cons] at h
    rw [List.lookup_cons]
    cases hx : x == n with
    | true =>
      dsimp only at h
      split at h
      · simp only [List.lookup_cons, hx] at h
        cases h
      · simp only [List.lookup_cons, hx] at h
        exact h
    | false =>
      refine relabel_free (env := env) (l := r) ?_
      dsimp only at h
      split at h <;> simpa only [List.lookup_cons, hx] using h
theorem relabel_of_free {env : Env} : ∀ {l : List (Str × NameKind)} {x : Str}, l.lookup x = some .free →
    (l.map fun (n, k) => if (k == NameKind.free && env.scope.kind == .function && env.kindOf n == some .cell) then (n, NameKind.cell) else (n, k)).lookup x = some .cell ∨
    (l.map fun (n, k) => if (k == NameKind.free && env.scope.kind == .function && env.kindOf n == some .cell) then (n, NameKind.cell) else (n, k)).lookup x = some .free
  | [], x, h => by simp at h
  | (n, k) :: r, x, h => by
    rw [List.map_cons]
    rw [List.lookup_cons] at h
    cases hx : x == n with
    | true =>
      rw [hx] at h
      cases h
      dsimp only
      split
      · exact .inl (by simp only [List.lookup_cons, hx])
      · exact .inr (by simp only [List.lookup_cons, hx])
    | false =>
      rw [hx] at h
      have := relabel_of_free (env := env) (l := r) h
      dsimp only
      split <;> simpa only [List.lookup_cons, hx] using this
end
section
variable {prog : Program} {w : World} {A : Around} {R : Result → Shared → Prop} {s : Shared}
theorem compLoop_go {elt target iter : Expr} {ifs : List Expr} {scope : Scope} {pos : Pos} {it acc : Value} {env : Env} (I : Nat → Shared → Prop)
    (turn : ∀ n s, I n s → wpAny (model prog w) A (pyNext it) (fun r s₁ => match r with
      | none => R (.ok .next) s₁
      | some v => wpAny (model prog w) A (letOwnedTupleGo target it v) (fun _ s₁' => wpAny (model prog w) A (assign target env v) (fun _ s₂ =>
          wpAny (model prog w) A (forIn ifs true fun c r => if r = true then do let ok ← isTrue c env (eval c env); pure (ForInStep.yield ok) else pure (ForInStep.yield r)) (fun ok s₃ =>
            if ok = true then wpAny (model prog w) A (eval elt env) (fun x s₄ =>
              wpAny (model prog w) A (call (.builtin "list.append") [acc, x]) (fun _ s₅ => ∃ m, m < n ∧ I m s₅) (fun _ _ => False) s₄) (fun _ _ => False) s₃
            else ∃ m, m < n ∧ I m s₃) (fun _ _ => False) s₂) (fun _ _ => False) s₁') (fun _ _ => False) s₁) (fun _ _ => False) s)
    (n : Nat) (h : I n s) :
    codeAny (model prog w) A (.compLoop (.ListComp elt [⟨target, iter, ifs, 0⟩] scope pos) 0 it acc env) R s := by
  refine codeAny_loop rfl I (fun n s hI => ?_) n h
  show wpAny _ A ((compTurn (.ListComp elt [⟨target, iter, ifs, 0⟩] scope pos) 0 it acc env).onRaise (fun x => do noteFrame x env; theTreesLotGoes x)) _ _ s
  refine wpAny_noted ?_
  rw [compTurn_list]
  refine wpAny_bind (wpAny_standAt (wpAny_bind (wpAny_mono (turn n s hI) (fun r s₁ h₁ => ?_) fun _ _ h' => h'.elim)))
  cases r with
  | none => exact wpAny_pure h₁
  | some v =>
    refine wpAny_bind (wpAny_mono h₁ (fun _ s₁' h₁' => ?_) fun _ _ h' => h'.elim)
    refine wpAny_bind (wpAny_mono h₁' (fun _ s₂ h₂ => wpAny_bind (wpAny_mono h₂ (fun ok s₃ h₃ => ?_) fun _ _ h' => h'.elim)) fun _ _ h' => h'.elim)
    cases ok with
    | false => exact wpAny_pure ⟨rfl, h₃⟩
    | true =>
      exact wpAny_bind (wpAny_bind (wpAny_mono h₃ (fun x s₄ h₄ => wpAny_bind (wpAny_mono h₄ (fun _ s₅ h₅ => wpAny_pure (wpAny_pure ⟨rfl, h₅⟩)) fun _ _ h' => h'.elim)) fun _ _ h' => h'.elim))
end
end C5
set_option Elab.async false
set_option linter.all false
set_option maxRecDepth 100000
namespace L2
open PySem PySem.Spec PyProof.Rows C5
noncomputable def entry (src : List (Option Nat)) (σ : St) : St := src.map fun o => o.bind fun i => (σ[i]?).join
structure BkScope (so sc : Scope) (No N : List Str) (src : List (Option Nat)) : Prop where
  kind : sc.kind = .function
  free : sc.names.all (fun y => !(y.2 == .free) || (so.names.lookup y.1 == some .cell || so.names.lookup y.1 == some .free)) = true
  uniq : sc.names.all (fun y => sc.names.lookup y.1 == some y.2) = true
  len : src.length = N.length
  src : (src.zip N).all (fun p => match p.1 with | none => true | some i => No[i]? == some p.2 && sc.names.lookup p.2 == some .free) = true
  nd : N.Nodup
noncomputable def cxB (X : Cx) (sc : Scope) (N : List Str) (fp : List Addr) (C : Addr) (s : Shared) (H : Hp) : Cx :=
  { X with N := N, s₀ := s, H₀ := H, env := bkEnv sc (clOf sc X.env) C X.env, outer := X.stack, stack := X.stack, ex := fp, fn := fun x => sc.names.lookup x == some .cell, pn := [], xe := fun _ _ => False }
section
variable {X : Cx} {pins : List (Addr × Obj)} {σ : St} {H : Hp} {s : Shared} {sc : Scope} {N : List Str} {src : List (Option Nat)}
theorem BkScope.has {so : Scope} {No : List Str} (B : BkScope so sc No N src) (hso : X.env.scope = so) (ok : X.Ok) : ∀ y ∈ sc.names, y.2 = .free → ∃ c, X.env.cells.lookup y.1 = some c := by
  intro y hy hk
  have h := List.all_eq_true.mp B.free y hy
  rw [hk] at h
  simp only [beq_self_eq_true, Bool.not_true, Bool.false_or, Bool.or_eq_true, beq_iff_eq] at h
  rw [← hso] at h
  rcases h with h | h
  · exact ok.has y.1 (.inl h)
  · exact ok.has y.1 (.inr h)
theorem BkScope.look {so : Scope} {No : List Str} (B : BkScope so sc No N src) {x : Str} {k : NameKind} (h : (x, k) ∈ sc.names) : sc.names.lookup x = some k := by
  have := List.all_eq_true.mp B.uniq (x, k) h
  simpa using this
theorem lookup_app {α : Type} : ∀ {l r : List (Str × α)} {x : Str} {c : α}, (l ++ r).lookup x = some c → l.lookup x = some c ∨ r.lookup x = some c
  | [], _, _, _, h => .inr h
  | (k, v) :: l, r, x, c, h => by
    rw [List.cons_append, List.lookup_cons] at h
    rw [List.lookup_cons]
    cases hb : x == k with
    | true => rw [hb] at h; exact .inl h
    | false => rw [hb] at h; exact lookup_app h
theorem lookup_app_r {α : Type} : ∀ {l r : List (Str × α)} {x : Str}, (∀ c, (x, c) ∉ l) → (l ++ r).lookup x = r.lookup x
  | [], _, _, _ => rfl
  | (k, v) :: l, r, x, h => by
    rw [List.cons_append, List.lookup_cons]
    have hb : (x == k) = false := beq_eq_false_iff_ne.mpr fun e => h v (by rw [e]; exact List.mem_cons_self)
    rw [hb]
    exact lookup_app_r fun c hc => h c (List.mem_cons_of_mem _ hc)
theorem Inv.block {fp : List Addr} {h1 : Heap} {C : Nat} {t : Nat} (I : Inv X pins σ H s) (B : BkScope X.env.scope sc X.N N src) (hf : ∀ b ∈ fp, FpOk X pins H b) (hlt : ∀ b ∈ fp, b < s.heap.objs.size)
    (hC : C = s.heap.objs.size + 1) (e1 : h1 = pushCells ((s.heap.push { cls := .type "list", data := .seq #[] }).push { cls := .type "dict", data := .dict #[] }) sc.names) :
    Inv (cxB X sc N fp C s H) [] (entry src σ) (upd H s.heap.objs.size (.lst [])) { s with heap := h1, toks := t } := by
  have has := B.has rfl I.ok
  have szL : (s.heap.push { cls := .type "list", data := .seq #[] } : Heap).objs.size = C := by rw [Heap.size_push, hC]
  have szD : ((s.heap.push { cls := .type "list", data := .seq #[] }).push { cls := .type "dict", data := .dict #[] } : Heap).objs.size = C + 1 := by rw [Heap.size_push, szL]
  have own := cellsFrom_ok sc.names ((s.heap.push { cls := .type "list", data := .seq #[] }).push { cls := .type "dict", data := .dict #[] }) (C + 1) [] ⟨fun _ _ hm => (nomatch hm), List.Pairwise.nil⟩ (by rw [szD]; exact Nat.le_refl _)
  rw [szD, ← e1] at own
  have keep0 : ∀ b o, ((s.heap.push { cls := .type "list", data := .seq #[] }).push { cls := .type "dict", data := .dict #[] } : Heap).get? b = some o → h1.get? b = some o := fun b o e => by rw [e1]; exact pushCells_keeps _ _ b o e
  have keep : ∀ b o, s.heap.get? b = some o → h1.get? b = some o := fun b o e => keep0 b o (Heap.get?_push_of_some _ (Heap.get?_push_of_some _ e))
  have atD : h1.get? s.heap.objs.size = some { cls := .type "list", data := .seq #[] } := keep0 _ _ (Heap.get?_push_of_some _ (Heap.get?_push_size _ rfl))
  have nsC : h1.Ns C (fun _ => none) := by
    have q := Heap.Ns.new (s.heap.push { cls := .type "list", data := .seq #[] }) (.type "dict")
    rw [szL] at q
    exact q.keeps keep0
  have fresh : ∀ b, s.heap.objs.size ≤ b → H b = none := fun b hb => I.hok.fresh hb
  have cells : ∀ x c, (cellsFrom (C + 1) sc.names (clOf sc X.env)).lookup x = some c →
      ((x, c) ∈ cellsFrom (C + 1) sc.names [] ∧ h1.IsCell c none ∧ C + 1 ≤ c) ∨ (X.env.cells.lookup x = some c ∧ (x, NameKind.free) ∈ sc.names) := fun x c e => by
    rw [cellsFrom_app] at e
    rcases lookup_app e with e | e
    · have hm := mem_of_lookup e
      obtain ⟨q1, q2⟩ := own.empty x c hm
      exact .inl ⟨hm, q1, q2⟩
    · exact .inr (clOf_sub has e)
  have cellLt : ∀ x c, X.env.cells.lookup x = some c → @LT.lt Nat instLTNat c s.heap.objs.size := fun x c e => by
    obtain ⟨v, z⟩ := I.cell x c e
    exact z.lt
  have freeIn : ∀ x, (x, NameKind.free) ∈ sc.names → (cellsFrom (C + 1) sc.names (clOf sc X.env)).lookup x = X.env.cells.lookup x := fun x hx => by
    rw [cellsFrom_app, lookup_app_r (fun c hc => ?_), clOf_has hx]
    · obtain ⟨c, hc⟩ := has _ hx rfl
      have hc : X.env.cells.lookup x = some c := hc
      rw [hc]; rfl
    · have k1 := B.look (cellsFrom_key sc.names _ x c hc)
      have k2 := B.look hx
      rw [k1] at k2; cases k2
  have ex : (cxB X sc N fp C s H).ex = fp := rfl
  refine ⟨⟨I.ok.mod, B.kind, I.ok.glob, I.ok.blt, ?_, ?_, ?_, ?_, I.ok.hd, I.ok.frames, .inl rfl, ?_, I.bs, Nat.le_trans I.ok.bsz I.sz, ?_, ?_, I.stack, I.stkFree⟩, rfl, I.bare, Un.laid keep (Nat.le_refl _) (fresh _ (Nat.le_refl _)), ?_, ?_, ?_, ?_, ?_, ?_, ?_⟩
  · -- above
    show s.heap.objs.size ≤ C
    omega
  · -- inj
    intro x y c h1' h2'
    rcases cells x c h1' with ⟨m1, _, g1⟩ | ⟨e1', _⟩
    · rcases cells y c h2' with ⟨m2, _, _⟩ | ⟨e2', _⟩
      · exact name_of_addr own.apart m1 m2
      · have := cellLt y c e2'; omega
    · rcases cells y c h2' with ⟨_, _, g2⟩ | ⟨e2', _⟩
      · have := cellLt x c e1'; omega
      · exact I.ok.inj x y c e1' e2'
  · -- has
    intro x hx
    show ∃ c, (cellsFrom (C + 1) sc.names (clOf sc X.env)).lookup x = some c
    have hx' : sc.names.lookup x = some .cell ∨ sc.names.lookup x = some .free := by
      rcases hx with hx | hx
      · exact relabel_cell (sc := sc) (env := X.env) hx
      · exact .inr (relabel_free (env := X.env) hx)
    rcases hx' with hx' | hx'
    · exact Option.isSome_iff_exists.mp (PySem.W.cellsFrom_some sc.names (C + 1) (clOf sc X.env) (.inl hx'))
    · rw [freeIn x (PySem.mem_of_lookup hx')]
      exact has _ (PySem.mem_of_lookup hx') rfl
  · -- cab
    intro x c hfn hc
    have hfn' : sc.names.lookup x = some .cell := by simpa [cxB] using hfn
    show s.heap.objs.size ≤ c
    rcases cells x c hc with ⟨_, _, g⟩ | ⟨_, hfr⟩
    · omega
    · have := B.look hfr
      rw [hfn'] at this; cases this
  · -- exf
    intro b hb
    rw [ex] at hb
    have hb' : @LT.lt Nat instLTNat b s.heap.objs.size := hlt b hb
    obtain ⟨f0, f1, f2, f3, f4, f5⟩ := hf b hb
    refine ⟨Nat.ne_of_lt (show @LT.lt Nat instLTNat b C by omega), fun x c hc => ?_⟩
    rcases cells x c hc with ⟨_, _, g⟩ | ⟨e, _⟩
    · exact Nat.ne_of_gt (show @LT.lt Nat instLTNat b c by omega)
    · exact f4 x c e
  · -- noex
    intro b o e hb
    rw [ex] at hb
    obtain ⟨f0, f1, f2, f3, f4, f5⟩ := hf b hb
    rcases f3 with f3 | f3
    · exact I.ok.noex b o e f3
    · exact absurd (Nat.lt_of_lt_of_le (Heap.lt_size e) (Nat.le_trans I.ok.bsz f3)) (Nat.lt_irrefl _)
  · -- exfs
    intro b hb hb2
    rw [ex] at hb
    obtain ⟨f0, f1, f2, f3, f4, f5⟩ := hf b hb
    rcases List.mem_cons.mp (I.stkSub b hb2) with z | z
    · exact f1 z
    · exact f2 z
  · -- loc
    refine ⟨fun _ => none, nsC, fun j x v hj hv _ => ?_⟩
    have hj : N[j]? = some x := hj
    unfold entry at hv
    rw [List.getElem?_map] at hv
    cases hs : src[j]? with
    | none => rw [hs] at hv; cases hv
    | some o =>
      rw [hs] at hv
      cases o with
      | none => cases hv
      | some i =>
        have hv : ((σ[i]?).join) = some v := by simpa using hv
        have hm : (some i, x) ∈ src.zip N := by
          rw [List.mem_iff_getElem?]
          exact ⟨j, by rw [List.getElem?_zip_eq_some]; exact ⟨hs, hj⟩⟩
        have q := List.all_eq_true.mp B.src _ hm
        simp only [Bool.and_eq_true, beq_iff_eq] at q
        obtain ⟨q1, q2⟩ := q
        have hfr := PySem.mem_of_lookup q2
        have hσ : σ[i]? = some (some v) := by
          cases e : σ[i]? with
          | none => rw [e] at hv; cases hv
          | some u => rw [e] at hv; cases u with
            | none => cases hv
            | some w' => cases hv; rfl
        obtain ⟨m, hn, hl⟩ := I.loc
        have hso := List.all_eq_true.mp B.free _ hfr
        simp only [beq_self_eq_true, Bool.not_true, Bool.false_or, Bool.or_eq_true, beq_iff_eq] at hso
        have hvis : Vis X.env.scope x := by
          rcases hso with z | z
          · exact .inr (.inl z)
          · exact .inr (.inr z)
        obtain ⟨u, ru, lk⟩ := hl i x v q1 hσ hvis
        refine ⟨u, ru, .inr ⟨?_, ?_⟩⟩
        · exact relabel_of_free (env := X.env) q2
        · rcases lk with ⟨kk, _⟩ | ⟨_, c, hc, hcell⟩
          · have kk : X.env.scope.names.lookup x = some .local := kk
            rcases hso with z | z
            · rw [kk] at z; cases z
            · rw [kk] at z; cases z
          · refine ⟨c, ?_, hcell.keeps keep⟩
            show (cellsFrom (C + 1) sc.names (clOf sc X.env)).lookup x = some c
            rw [freeIn x hfr]; exact hc
  · -- cell
    intro x c hc
    rcases cells x c hc with ⟨_, g, _⟩ | ⟨e, _⟩
    · exact ⟨none, g⟩
    · obtain ⟨v, z⟩ := I.cell x c e
      exact ⟨v, z.keeps keep⟩
  · -- free
    show upd H s.heap.objs.size (.lst []) C = none
    rw [upd_ne (Nat.ne_of_gt (show @LT.lt Nat instLTNat s.heap.objs.size C by omega))]
    exact fresh _ (show @LE.le Nat instLENat s.heap.objs.size C by omega)
  · -- freeC
    intro x c hc
    rcases cells x c hc with ⟨_, _, g⟩ | ⟨e, _⟩
    · rw [upd_ne (Nat.ne_of_gt (show @LT.lt Nat instLTNat s.heap.objs.size c by omega))]; exact fresh _ (show @LE.le Nat instLENat s.heap.objs.size c by omega)
    · rw [upd_ne (Nat.ne_of_lt (cellLt x c e))]; exact I.freeC x c e
  · -- pin
    intro p hp
    exact absurd (show p ∈ ([] : List (Addr × Obj)) from hp) (by simp)
  · -- hok
    refine I.hok.laid keep (Nat.le_refl _) ?_
    exact ⟨Nat.zero_le _, [], 0, .nil, atD⟩
  · -- len
    unfold entry
    rw [List.length_map]
    exact B.len
noncomputable def PTs (X : Cx) (ifs : List Expr) (t : TT) : Prop :=
  ∀ (pins : List (Addr × Obj)) (s : Shared) (σ : St) (H : Hp) (Q : Bool → Hp → Prop), Inv X pins σ H s → t σ H Q →
    wpAny (model X.prog X.w) X.A (forIn ifs true fun c r => if r = true then do let ok ← isTrue c X.env (eval c X.env); pure (ForInStep.yield ok) else pure (ForInStep.yield r)) (TP X pins σ Q) X.xe s
noncomputable def tTrue : TT := fun _ H Q => Q true H
theorem pts_nil : PTs X [] tTrue := fun _ _ _ H _ I h => wpAny_tests_nil ⟨H, I, h⟩
theorem pts_one {c : Expr} {t : TT} (h : PT X c t) : PTs X [c] t := fun pins s σ H Q I hw => wpAny_tests_one (h pins s σ H Q I hw)
noncomputable def tComp (src : List (Option Nat)) (wi : TI) (g : TG) (tt : TT) (te : TE) : TE := fun σ H Q => wi σ H fun J H1 => ∀ D, H1 D = none →
  ∃ W : Nat → Nat → St → Hp → Prop, (∃ m, W 0 m (entry src σ) (upd H1 D (.lst []))) ∧ ∀ i m σ' H', W i m σ' H' →
    (J.stop i H' ∧ Q (.ref D) H') ∨ (J.go i H' ∧ ∃ N : St → Hp → Prop, (∀ σ2 H2, N σ2 H2 → ∃ m', m' < m ∧ W (i + 1) m' σ2 H2) ∧ ∀ x H2, J.yld i H' x H2 → g x σ' H2 fun σ3 H3 => tt σ3 H3 fun b H4 =>
      if b = true then te σ3 H4 fun v H5 => ∃ xs, H5 D = some (.lst xs) ∧ xs.length < sizeLine ∧ N σ3 (upd H5 D (.lst (xs ++ [v]))) else N σ3 H4)
theorem pe_comp {elt tgt iter : Expr} {ifs : List Expr} {wi : TI} {g : TG} {tt : TT} {te : TE} {pos : Pos} (hc : X.calm = true) (B : BkScope X.env.scope sc X.N N src) (hi : PI X tgt iter wi)
    (hg : ∀ (s : Shared) (H : Hp) (C : Addr) (fp : List Addr), PG (cxB X sc N fp C s H) tgt g) (ht : ∀ (s : Shared) (H : Hp) (C : Addr) (fp : List Addr), PTs (cxB X sc N fp C s H) ifs tt)
    (he : ∀ (s : Shared) (H : Hp) (C : Addr) (fp : List Addr), PE (cxB X sc N fp C s H) elt te) (hs : ∀ x, foldedSetIterable iter X.env x = pure x := by intro _; rfl) :
    PE X (.ListComp elt [⟨tgt, iter, ifs, 0⟩] sc pos) (tComp src wi g tt te) := by
  intro pins s σ H Q I h
  rw [eval_ListComp]
  have has := B.has rfl I.ok
  refine wpAny_comprehension_free (use := none) rfl hs (clos_of has) B.kind (fun y hy hk => by have := B.look (x := y.1) (k := y.2) hy; rw [hk] at this; exact this)
    (thn (hi pins s σ H _ I h) fun v s1 h1 => thn h1 fun itv s2 h2 => ?_)
  obtain ⟨it, fp, tn, J, H2, e, I2, T, st2, f2, q⟩ := h2
  subst e
  refine wpAny_newObj_type (newBlock ?_)
  obtain ⟨W, ⟨m0, w0⟩, turn⟩ := q s2.heap.objs.size (I2.hok.fresh (Nat.le_refl _))
  have hlt : ∀ b ∈ fp, b < s2.heap.objs.size := fun b hb => by
    obtain ⟨o, ho, _⟩ := T.obj 0 _ st2 b hb
    exact Heap.lt_size ho
  have szL : (s2.heap.push { cls := .type "list", dict := none, data := .seq ([] : List Value).toArray } : Heap).objs.size = s2.heap.objs.size + 1 := Heap.size_push ..
  generalize hh1 : pushCells ((s2.heap.push { cls := .type "list", dict := none, data := .seq ([] : List Value).toArray } : Heap).push { cls := .type "dict", data := .dict #[] }) sc.names = hB
  have IB := I2.block (C := (s2.heap.push { cls := .type "list", dict := none, data := .seq ([] : List Value).toArray } : Heap).objs.size) (t := s2.toks) B f2 hlt szL hh1.symm
  generalize (s2.heap.push { cls := .type "list", dict := none, data := .seq ([] : List Value).toArray } : Heap).objs.size = C at IB szL ⊢
  have keepB : ∀ b o, s2.heap.get? b = some o → hB.get? b = some o := fun b o e => by
    rw [← hh1]
    exact pushCells_keeps _ _ b o (Heap.get?_push_of_some _ (Heap.get?_push_of_some _ e))
  have stB : tn 0 hB := T.keep 0 _ _ st2 fun b _ o e => keepB b o e
  have frB : ∀ b ∈ fp, upd H2 s2.heap.objs.size (.lst []) b = none := fun b hb => by
    rw [upd_ne (Nat.ne_of_lt (hlt b hb))]
    exact (f2 b hb).1
  have stat : ∀ {H' : Hp}, (∀ b ∈ fp, H' b = none) → ∀ b ∈ fp, FpOk (cxB X sc N fp C s2 H2) [] H' b := fun {H'} hn b hb => by
    obtain ⟨z1, z2⟩ := IB.ok.exf b hb
    exact ⟨hn b hb, z1, IB.ok.exfs b hb, .inl hb, z2, fun p hp => absurd (show p ∈ ([] : List (Addr × Obj)) from hp) (by simp)⟩
  show codeAny (model X.prog X.w) X.A (.compStart (.ListComp elt [⟨tgt, iter, ifs, 0⟩] sc pos) 0 (.ref it) (.ref s2.heap.objs.size) (bkEnv sc (clOf sc X.env) C X.env)) (compPost (model X.prog X.w) X.A X.xe none (EP X pins σ Q) (.ref s2.heap.objs.size) C) { s2 with heap := hB }
  have loop : codeAny (model X.prog X.w) X.A (.compLoop (.ListComp elt [⟨tgt, iter, ifs, 0⟩] sc pos) 0 (.ref it) (.ref s2.heap.objs.size) (bkEnv sc (clOf sc X.env) C X.env))
      (compPost (model X.prog X.w) X.A X.xe none (EP X pins σ Q) (.ref s2.heap.objs.size) C) { s2 with heap := hB } := by
    refine compLoop_go (fun n s' => ∃ i σ' H', Inv (cxB X sc N fp C s2 H2) [] σ' H' s' ∧ tn i s'.heap ∧ (∀ b ∈ fp, H' b = none) ∧ W i n σ' H') ?_ m0 ⟨0, _, _, IB, stB, frB, w0⟩
    rintro n s3 ⟨i, σ3, H3, I3, st3, fr3, w3⟩
    rcases turn i n σ3 H3 w3 with ⟨stop, qn⟩ | ⟨go, N', hN, step⟩
    · refine thn (T.done (cxB X sc N fp C s2 H2) rfl rfl rfl hc i [] s3 σ3 H3 _ I3 (stat fr3) st3 stop) fun r s4 ⟨hr, I4⟩ => ?_
      subst hr
      obtain ⟨m, hn, _⟩ := I4.loc
      refine ⟨m, hn, fun h' hs' => ?_⟩
      refine ⟨.ref s2.heap.objs.size, H3, ?_, rfl, qn⟩
      have ltC : ∀ b o, s2.heap.get? b = some o → b ≠ C := fun b o e => Nat.ne_of_lt (show @LT.lt Nat instLTNat b C by have : @LT.lt Nat instLTNat b s2.heap.objs.size := Heap.lt_size e; omega)
      have base := I4.base
      have freeC : H3 C = none := I4.free
      refine I2.call' (s' := { s4 with heap := h' }) (ch := fp) I4.os ⟨fun b o e n hb hx => ?_, fun b o e n hb hx => ?_, base.free, fun b o e hx => ?_, base.tups, base.frzs, base.tbls⟩ (fun b ob e => ?_) I4.bare (fun b hb => ?_)
      · exact (hs'.2 b (ltC b o e)).trans (base.keep b o e n hb hx)
      · obtain ⟨sl, e1⟩ := base.slot b o e n hb hx
        exact ⟨sl, (hs'.2 b (ltC b o e)).trans e1⟩
      · obtain ⟨o', e1⟩ := base.there b o e hx
        exact ⟨o', (hs'.2 b (ltC b o e)).trans e1⟩
      · refine (I4.hok b ob e).stay (fun c w' hc' q' => (hs'.2 c ?_).trans q') (fun _ q' => q') fun _ _ q' => q'
        intro z
        rcases hc' with z' | z'
        · rw [← z', z, freeC] at e; cases e
        · rw [z, freeC] at z'; cases z'
      · obtain ⟨f0, f1, f2', f3, f4, f5⟩ := f2 b hb
        exact ⟨f3, f1, f4, f5⟩
    · refine thn (T.item (cxB X sc N fp C s2 H2) rfl rfl rfl hc i [] s3 σ3 H3 _ I3 (stat fr3) st3 go) fun r s4 ⟨u, hr, h4⟩ => ?_
      subst hr
      refine thn h4 fun _ s5 ⟨x, H5, I5, r5, y5, st5, fr5⟩ => ?_
      have I5' := I5.pinned (stat fr5) (T.obj _ _ st5)
      have again : ∀ {s7 : Shared} {σ7 : St} {H7 : Hp}, Inv (cxB X sc N fp C s2 H2) ([] ++ pinsAt fp s5.heap) σ7 H7 s7 → N' σ7 H7 → ∃ m, m < n ∧ ∃ i σ' H', Inv (cxB X sc N fp C s2 H2) [] σ' H' s7 ∧ tn i s7.heap ∧ (∀ b ∈ fp, H' b = none) ∧ W i m σ' H' := fun {s7 σ7 H7} I7 n7 => by
        obtain ⟨m', hm, w7⟩ := hN σ7 H7 n7
        refine ⟨m', hm, i + 1, σ7, H7, I7.unpinned, T.keep _ _ _ st5 fun b hb o e => (I7.pin (b, o) (List.mem_append_right _ (List.mem_append_right _ (mem_pinsAt hb e)))).1, fun b hb => ?_, w7⟩
        obtain ⟨o, e, d⟩ := T.obj _ _ st5 b hb
        exact (I7.pin (b, o) (List.mem_append_right _ (List.mem_append_right _ (mem_pinsAt hb e)))).2.1
      refine thn (hg s2 H2 C fp _ s5 σ3 H5 x u _ I5' r5 (step x H5 y5)) fun _ s6 ⟨σ6, H6, I6, q6⟩ => ?_
      refine thn (ht s2 H2 C fp _ s6 σ6 H6 _ I6 q6) fun b s7 ⟨H7, I7, q7⟩ => ?_
      cases b with
      | false =>
        rw [if_neg Bool.false_ne_true] at q7 ⊢
        exact again I7 q7
      | true =>
        rw [if_pos rfl] at q7 ⊢
        refine thn (he s2 H2 C fp _ s7 σ6 H7 _ I7 q7) fun u8 s8 ⟨v8, H8, I8, r8, xs, hD, hz, n8⟩ => ?_
        exact thn (mt_append (X := cxB X sc N fp C s2 H2) _ s8 σ6 H8 (.ref s2.heap.objs.size) [v8] (.ref s2.heap.objs.size) [u8] (fun _ H => N' σ6 H) I8 rfl (.cons r8 .nil) ⟨_, xs, v8, rfl, rfl, hD, hz, n8⟩) fun _ s9 ⟨_, H9, I9, _, n9⟩ => again I9 n9
  exact codeAny_compStart_list loop (T.self _ 0 _ _ _ stB loop)
end
section
variable {X : Cx}
noncomputable def rSum (K : PySem.W.Frag) : List V → Hp → VK → Prop := fun xs H Q => ∃ (p : Addr) (ns : List Int), xs = [.ref p] ∧ SqL K H p (ns.map V.int) ∧ Q (.int ns.sum) H
theorem call_sum (hc : X.calm = true) : CallR X (.builtin "sum") (rSum X.K) := by
  intro pins s σ H xs us Q I rs h
  obtain ⟨p, ns, rfl, hq, q⟩ := h
  obtain ⟨u, rfl, r1⟩ := vals1 rs
  cases r1
  obtain ⟨its, r, pl, hz⟩ := I.list hq
  have hi : IntsAre its ns := intsAre_of r
  obtain ⟨xs, ex⟩ := hi.allInts.items
  refine sum_intListG (xs := xs) (I.ok.hd hc) (by rw [← ex]; exact pl.isList) fun h' tk t' hk => ?_
  have e : preSum (numAt xs) xs.size = ns.sum := by
    have e1 : numsOf its.toArray.toList = ns := by rw [show its.toArray.toList = its from rfl]; exact hi.numsOf
    rw [preSum_eq, List.take_of_length_le (by simp), ← e1, ex, nums_intItems]
  rw [e]
  exact ⟨.int ns.sum, H, I.kept hk, ⟨_, rfl⟩, q⟩
noncomputable def rAll (K : PySem.W.Frag) : List V → Hp → VK → Prop := fun xs H Q => ∃ (p : Addr) (bs : List Bool), xs = [.ref p] ∧ SqL K H p (bs.map V.bl) ∧ Q (.bl (bs.all id)) H
theorem all_range (bs : List Bool) : ((List.range bs.length).all fun i => bs.getD i false) = bs.all id := by
  induction bs with
  | nil => rfl
  | cons b r ih =>
    rw [List.length_cons, List.range_succ_eq_map, List.all_cons, List.all_map, List.all_cons, ← ih]
    rfl
theorem call_all (hc : X.calm = true) : CallR X (.builtin "all") (rAll X.K) := by
  intro pins s σ H xs us Q I rs h
  obtain ⟨p, bs, rfl, hq, q⟩ := h
  obtain ⟨u, rfl, r1⟩ := vals1 rs
  cases r1
  obtain ⟨its, r, pl, hz⟩ := I.list hq
  have hlen : its.length = bs.length := by have := r.length; rw [List.length_map] at this; exact this.symm
  refine call_function_tree F.kind_all F.plain_all F.entry_all (F.args_all1 _) ?_
  show wpAny _ X.A.in1 (pyIter (.ref p) >>= _) _ _ s
  refine wpAny_bind (wpAny_pyIter_list pl.isList ?_)
  have hne : p ≠ s.heap.objs.size := by
    obtain ⟨o, ho, _⟩ := pl.isList
    exact Nat.ne_of_lt (Heap.lt_size ho)
  refine wpAny_pure ⟨plainId_quiet F.plain_all_loop _, ?_⟩
  refine codeAny_all_loop (Walks.list (A := X.A.in1) (I.ok.hd hc) s.heap.objs.size p hne its.toArray) (fun i => bs.getD i false) (fun i v s' Q' E' hP hQ' => ?_) its.toArray.size 0 _ rfl (Nat.zero_le _)
    ⟨⟨_, Heap.get?_push_size _ rfl, rfl, rfl⟩, (show s.heap.IsList p its.toArray from pl.isList).at fun o e => Heap.get?_push_of_some _ e⟩ fun h' tk hk => ?_
  · have hP' : its[i]? = some v := by simpa using hP
    have hi : i < bs.length := by rw [← hlen]; exact (List.getElem?_eq_some_iff.mp hP').1
    obtain ⟨u, hu, ru⟩ := r.get (i := i) (x := V.bl (bs[i])) (by simp [hi])
    rw [hP'] at hu; cases hu
    obtain rfl : v = Value.bool bs[i] := ru
    have e : bs.getD i false = bs[i] := by simp [List.getD, hi]
    dsimp only at hQ'
    rw [e] at hQ'
    exact wpAny_truthy_bool hQ'
  · refine ⟨.bl (bs.all id), H, I.kept (t' := tk) fun b o e => hk b o (fun z => ?_) (Heap.get?_push_of_some _ e), ?_, q⟩
    · have z' : b = s.heap.objs.size := by simpa using z
      exact absurd (Heap.lt_size e) (by rw [z']; exact Nat.lt_irrefl _)
    · show Value.bool _ = Value.bool _
      rw [List.drop_zero, List.size_toArray, hlen, all_range]
end
end L2
set_option Elab.async false
set_option linter.all false
set_option maxRecDepth 100000
namespace L2
open PySem PySem.Spec PyProof.Rows
structure FunD (K : PySem.W.Frag) (x qual : Str) (st : Stmt) (dV : Value) (f : Addr) (fd : FuncData) : Prop where
  ex : ∃ (oc : Value) (od : Option Addr) (kV doc pm : Value) (an : Option Addr) (cdv ct : Value) (osl : Array (Option Value)),
    fd = PySem.W.fnOf x qual (defArgs st) (defBody st) (defScope st) dV kV doc pm an cdv ct ∧ K.lookup f = some ⟨oc, od, .func fd, osl⟩ ∧ PySem.W.codeIn K cdv qual = true
  kp : PySem.W.keepIn K (.ref f) = true
theorem funD_mk {K : PySem.W.Frag} {x qual : Str} {st : Stmt} {dV : Value} {f : Addr} {oc : Value} {od an : Option Addr} {osl : Array (Option Value)} {kV doc pm cdv ct : Value}
    (l : K.lookup f = some ⟨oc, od, .func (PySem.W.fnOf x qual (defArgs st) (defBody st) (defScope st) dV kV doc pm an cdv ct), osl⟩)
    (c : PySem.W.codeIn K cdv qual = true) (k : PySem.W.keepIn K (.ref f) = true) : FunD K x qual st dV f (PySem.W.fnOf x qual (defArgs st) (defBody st) (defScope st) dV kV doc pm an cdv ct) := ⟨⟨oc, od, kV, doc, pm, an, cdv, ct, osl, rfl, l, c⟩, k⟩
structure Def (P : Program) (w : World) (K : PySem.W.Frag) (mg : Str → Option Value) (base : Heap) (k : Nat) (x : Str) (ps : List Str) (ds : List V) (sp : Sp) : Prop where
  ex : ∃ (f : Addr) (fd : FuncData) (dvs : List Value), FnOk P w K mg base CX0 k f fd ps sp ∧ mg x = some (.ref f) ∧ PySem.W.keepIn K (.ref f) = true ∧ Binds K fd ps dvs ∧ Vals ds dvs
section
variable {P : Program} {w : World} {K : PySem.W.Frag} {mg : Str → Option Value} {base : Heap}
theorem FunD.ok {x qual : Str} {st : Stmt} {dV : Value} {f : Addr} {fd : FuncData} {N ps : List Str} {k : Nat} {sp : Sp} (F : FunD K x qual st dV f fd) (S : FnScope N ps (defScope st)) (len : ∀ vs H Q E, sp vs H Q E → vs.length = ps.length)
    (hbody : ∀ (cdv : Value) (A : Around) (outer : List Env) (s : Shared) (H : Hp) (vs : List V) (Q : VK) (E : XK), Room k (A.deeper (envOfC qual (defScope st) s.heap.objs.size f cdv)) → sp vs H Q E →
      ∃ t, PSs (cxOf CX0 P w K mg base N qual (defScope st) f cdv A outer s H E).nox (defBody st) t ∧ t { nx := fun _ H' => Q .non H', rt := Q } (start N vs) H) : FnOk P w K mg base CX0 (k + 1) f fd ps sp := by
  obtain ⟨oc, od, kV, doc, pm, an, cdv, ct, osl, rfl, lk, hcd⟩ := F.ex
  refine fn_of lk hcd S len fun A outer s H vs Q E hr hsp => ?_
  obtain ⟨t, h, q⟩ := hbody cdv A outer s H vs Q E hr hsp
  exact ⟨t, h.nox, q⟩
theorem FunD.def {x qual : Str} {st : Stmt} {f : Addr} {fd : FuncData} {ps : List Str} {k : Nat} {sp : Sp} (F : FunD K x qual st .none f fd) (G : FnOk P w K mg base CX0 k f fd ps sp) (hm : mg x = some (.ref f))
    (h : ∀ (kV doc pm : Value) (an : Option Addr) (cdv ct : Value) (us : List Value), us.length = ps.length → bindArgs (PySem.W.fnOf x qual (defArgs st) (defBody st) (defScope st) .none kV doc pm an cdv ct) ⟨us, []⟩ = pure (ps.zip us)) : Def P w K mg base k x ps [] sp := by
  obtain ⟨oc, od, kV, doc, pm, an, cdv, ct, osl, rfl, lk, hcd⟩ := F.ex
  exact ⟨f, _, [], G, hm, F.kp, .all (h kV doc pm an cdv ct), .nil⟩
end
section
variable {X : Cx}
theorem pe_callD {k : Nat} {x : Str} {ps : List Str} {ds : List V} {sp : Sp} {e : Expr} {es : List Expr} {t : TA} {p pos : Pos} (D : Def X.prog X.w X.K X.mg X.base k x ps ds sp) (hr : Room k X.A) (hg : Gl X x)
    (ha : PA X (e :: es) t) (hdb : (x == ("__debug__" : Str)) = false := by decide) (he : starEach (e :: es) X.env = (false, eval e X.env) :: starEach es X.env := by rfl) (hpl : (backTo pos (starEach es X.env)).any (·.1) = false := by rfl) :
    PE X (.Call (.Name x p) (e :: es) [] pos) (tCall sp ds E0 t) := by
  obtain ⟨f, fd, dvs, F, hm, hk, hb, hd⟩ := D.ex
  exact pe_call F hr hg hm hk hb hd pass0 ha hdb he hpl
end
end L2
namespace Att
open PySem PySem.W PySem.Calls PyProof.Rows
theorem weight_mem : ∀ {ns : List Int} {x : Int}, x ∈ ns → Builtin.Int.intBits x ≤ WData.weightAll (ns.map WData.int)
  | n :: r, x, h => by
    rw [List.map_cons]
    unfold WData.weightAll
    rcases List.mem_cons.mp h with e | h
    · subst e
      have : WData.weight (.int x) = Builtin.Int.intBits x := by unfold WData.weight Builtin.Int.intBits; rfl
      omega
    · have := weight_mem h
      omega
theorem bits_of_lay {ns : List Int} (h : WData.layableAll [WData.list (ns.map WData.int)] = true) : ∀ x ∈ ns, Builtin.Int.intBits x ≤ 2 ^ 20 := fun x hx => by
  have h1 : WData.layable (WData.list (ns.map WData.int)) = true := by simpa [WData.layableAll] using h
  unfold WData.layable at h1
  rw [Bool.and_eq_true] at h1
  have h2 : WData.weight (WData.list (ns.map WData.int)) ≤ 2 ^ 20 := of_decide_eq_true h1.2
  have h3 : WData.weight (WData.list (ns.map WData.int)) = WData.weightAll (ns.map WData.int) := by unfold WData.weight; rfl
  have h4 := weight_mem hx
  omega
theorem attach_callB {l : OpenLaw} {n : Nat} {q : Program} {loose : List Str} {XP : (Str → Option Value) → Heap → Prop} {YP : World → Heap → Prop} {d : DefRec}
    (hn : l.most = some n) (hdf : d.params.defaults = [])
    (call : ∀ (w : World) (s₀ s₁ : Shared) (mg mb : Str → Option Value) (fa : Addr) (o : Obj) (pm cd doc : Value) (a : Addr) (vs : List Value) (ns : List Int),
      Ground q loose [] XP w s₀ mg mb s₁.heap → YP w s₁.heap →
      s₁.heap.get? fa = some o → o.data = .func (docDef d.name d.params d.body d.scope pm cd doc) → s₁.heap.CodeRec cd d.name → mg d.name = some (.ref fa) →
      s₁.heap.get? a = some { cls := .type "list", data := .seq vs.toArray } → IntsAre vs ns → ns.length ≤ n → (∀ x ∈ ns, Builtin.Int.intBits x ≤ 2 ^ 20) → s₁.gens = #[] →
      codeAny (model l.prog w) callerA (.call (.ref fa) ⟨[.ref a], []⟩) (fun r s' => r = .ok (.ret (.bool true)) ∧ OldK s₁.heap s'.heap ∧ s'.os = s₁.os ∧ AllBare s'.gens) s₁) :
    WalkO q loose XP YP l.row.toRowW d [] (fun f vs => PySem.call f vs) := by
  intro w s₀ s₁ mg mb G Y fa o pm cd doc dV kV ho hd hcd hD hmg hg args vals as hpre hlay hrd hwl hlo
  obtain rfl : dV = .none := Dflts.none hD hdf
  obtain rfl : kV = .none := Dflts.noKw hD
  obtain ⟨a, vs, ns, rfl, rfl, hobj, hints, hlen⟩ := script_of hn hpre hwl
  refine enter_call (codeAny_mono (call w s₀ s₁ mg mb fa o pm cd doc a vs ns G Y ho (fd_plain hd) hcd hmg hobj hints hlen (bits_of_lay hlay) hg) fun r s' hq => ?_)
  obtain ⟨rfl, h2, h3, h4⟩ := hq
  exact ⟨.inl ⟨.bool true, .bool true, [], rfl, fun _ => rfl, .bool true, post_true l _, fun _ => ⟨List.Pairwise.nil, fun _ hm => (nomatch hm)⟩⟩, h2, h3, h4⟩
end Att
namespace L2
open PySem PySem.Spec PyProof.Rows
end L2
set_option Elab.async false
set_option linter.all false
set_option maxRecDepth 100000
namespace L2
open PySem PySem.Spec PyProof.Rows
structure Flew (P : Program) (w : World) (outer : List Env) (H H' : Hp) (h B h' : Heap) (ea : Addr) : Prop where
  hok : HOk P w H' B
  keep : ∀ b o, h.get? b = some o → H b = none → b ∉ frs outer → B.get? b = some o
  slot : ∀ b o, h.get? b = some o → b ∈ frs outer → ∃ sl, h'.get? b = some { o with slots := sl }
  free : ∀ b o, h.get? b = some o → H b = none → H' b = none
  there : ∀ b o, h.get? b = some o → b ∉ frs outer → ∃ o', B.get? b = some o'
  tups : ∀ b xs, H b = some (.tup xs) → H' b = some (.tup xs)
  frzs : ∀ b o u, H b = some (.frz o u) → H' b = some (.frz o u)
  tbls : ∀ b ps, H b = some (.tbl ps) → ∃ more, H' b = some (.tbl (ps ++ more))
  exc : H' ea = none
noncomputable def CX1 (P : Program) (w : World) : CXT := fun outer H s E e s' =>
  ∃ (ea : Addr) (cls a0 : Value) (H' : Hp) (B : Heap), e = .ref ea ∧ Heap.FlyingW B outer ea cls a0 s'.heap ∧ s'.os = s.os ∧ AllBare s'.gens ∧ Flew P w outer H H' s.heap B s'.heap ea ∧ E cls none H'
section
variable {P : Program} {w : World} {outer : List Env} {H H' : Hp} {h B h' h'' : Heap} {ea : Addr}
theorem Flew.up {cls a0 : Value} (f : Flew P w outer H H' h B h' ea) (fl : Heap.FlyingW B outer ea cls a0 h') (up : h'.UpToSlots h'') : Flew P w outer H H' h B h'' ea :=
  ⟨f.hok, f.keep, fun b o e hb => by
    obtain ⟨sl, e1⟩ := f.slot b o e hb
    obtain ⟨_, o1, e2, nf⟩ := fl.2.2.1.mem hb
    rw [e1] at e2
    cases e2
    obtain ⟨sl', e3⟩ := up b _ e1 nf
    exact ⟨sl', e3⟩, f.free, f.there, f.tups, f.frzs, f.tbls, f.exc⟩
theorem Flew.un (f : Flew P w outer H H' h B h' ea) (st : B.StaysIn h') : Un (frs outer) [] H H' h h' where
  keep := fun b o e n hb _ => st b o (f.keep b o e n hb)
  slot := fun b o e _ hb _ => f.slot b o e hb
  free := fun b o e n _ => f.free b o e n
  there := fun b o e _ => by
    by_cases hb : b ∈ frs outer
    · obtain ⟨sl, e1⟩ := f.slot b o e hb
      exact ⟨_, e1⟩
    · obtain ⟨o', e1⟩ := f.there b o e hb
      exact ⟨o', st b o' e1⟩
  tups := f.tups
  frzs := f.frzs
  tbls := f.tbls
theorem Flew.ok (f : Flew P w outer H H' h B h' ea) (st : B.StaysIn h') : HOk P w H' h' := f.hok.kept st
end
section
variable {P : Program} {w : World} {K : PySem.W.Frag} {mg : Str → Option Value} {base : Heap} {N : List Str} {qual : Str} {scope : Scope} {f : Addr} {cd : Value} {A : Around} {outer : List Env} {s₀ : Shared} {H₀ : Hp} {E : XK}
theorem passes1 : Passes (CX1 P w) (cxOf (CX1 P w) P w K mg base N qual scope f cd A outer s₀ H₀ E) E := by
  intro pins σ H s e s' I hc
  obtain ⟨ea, cls, a0, H', B, rfl, fl, os, bare, fw, q⟩ := hc
  have fr : frs (envOfC qual scope s₀.heap.objs.size f cd :: outer) = s₀.heap.objs.size :: frs outer := rfl
  have neL : ∀ b o, s₀.heap.get? b = some o → b ∉ frs outer → b ∉ frs (envOfC qual scope s₀.heap.objs.size f cd :: outer) := fun b o e hb z => by
    rw [fr] at z
    rcases List.mem_cons.mp z with z | z
    · have := Heap.lt_size e
      rw [z] at this
      exact absurd this (Nat.lt_irrefl _)
    · exact hb z
  show wpAny (model P w) (A.deeper (envOfC qual scope s₀.heap.objs.size f cd)) (leaving (envOfC qual scope s₀.heap.objs.size f cd) (.ref ea)) (fun _ s'' => CX1 P w outer H₀ s₀ E (.ref ea) s'') (fun e' s'' => CX1 P w outer H₀ s₀ E e' s'') s'
  refine wpAny_leaves_onW I.ok.frames rfl fl fun h'' fl'' up => ?_
  have fu := fw.up fl up
  have ub : Un (frs outer) [] H₀ H s₀.heap s.heap := I.base
  refine ⟨ea, cls, a0, H', B, rfl, fl'', os.trans I.os, bare, ⟨fw.hok, fun b o e n hb => ?_, fun b o e hb => ?_, fun b o e n => ?_, fun b o e hb => ?_, fun b xs e => fw.tups b xs (ub.tups b xs e), fun b o u e => fw.frzs b o u (ub.frzs b o u e), fun b ps e => ?_, fw.exc⟩, q⟩
  · exact fw.keep b o (ub.keep b o e n hb (by simp)) (ub.free b o e n (by simp)) (neL b o e hb)
  · obtain ⟨sl, e1⟩ := ub.slot b o e (I.ok.frf b hb) hb (by simp)
    obtain ⟨sl', e2⟩ := fu.slot b _ e1 (show b ∈ frs (envOfC qual scope s₀.heap.objs.size f cd :: outer) by rw [fr]; exact List.mem_cons_of_mem _ hb)
    exact ⟨sl', e2⟩
  · obtain ⟨o', e1⟩ := ub.there b o e (by simp)
    exact fw.free b o' e1 (ub.free b o e n (by simp))
  · obtain ⟨o', e1⟩ := ub.there b o e (by simp)
    exact fw.there b o' e1 (neL b o e hb)
  · obtain ⟨m1, e1⟩ := ub.tbls b ps e
    obtain ⟨m2, e2⟩ := fw.tbls b _ e1
    exact ⟨m1 ++ m2, by rw [e2, Array.append_assoc]⟩
noncomputable def Raises (X : Cx) (E : XK) (cls : Value) : Prop := ∀ (pins : List (Addr × Obj)) (σ : St) (H : Hp) (s : Shared) (ea : Addr) (h' : Heap) (vs : List Value), Inv X pins σ H s → Heap.MadeExcOf s.heap h' ea cls vs → E cls none H → X.xe (.ref ea) { s with heap := h' }
theorem raises1 {cls : Value} : Raises (cxOf (CX1 P w) P w K mg base N qual scope f cd A outer s₀ H₀ E) E cls := by
  intro pins σ H s ea h' vs I hx q
  have fr : frs (envOfC qual scope s₀.heap.objs.size f cd :: outer) = s₀.heap.objs.size :: frs outer := rfl
  have neL : ∀ b o, s₀.heap.get? b = some o → b ∉ frs outer → b ∉ frs (envOfC qual scope s₀.heap.objs.size f cd :: outer) := fun b o e hb z => by
    rw [fr] at z
    rcases List.mem_cons.mp z with z | z
    · have := Heap.lt_size e
      rw [z] at this
      exact absurd this (Nat.lt_irrefl _)
    · exact hb z
  have stk : s.heap.FunFrames base (envOfC qual scope s₀.heap.objs.size f cd :: outer) := I.stack
  have hin : ∀ env ∈ (envOfC qual scope s₀.heap.objs.size f cd :: outer), ∀ b, env.frame = some b → b ∈ frs (envOfC qual scope s₀.heap.objs.size f cd :: outer) := fun env he b hb => List.mem_filterMap.mpr ⟨env, he, hb⟩
  have sf : ∀ b u, H b = some u → b ∉ frs (envOfC qual scope s₀.heap.objs.size f cd :: outer) := fun b u e z => by
    have n := I.stkFree b z
    rw [e] at n; cases n
  show wpAny (model P w) (A.deeper (envOfC qual scope s₀.heap.objs.size f cd)) (leaving (envOfC qual scope s₀.heap.objs.size f cd) (.ref ea)) (fun _ s'' => CX1 P w outer H₀ s₀ E (.ref ea) s'') (fun e' s'' => CX1 P w outer H₀ s₀ E e' s'') { s with heap := h' }
  refine wpAny_leaves_madeW (base := PySem.W.hideAll s.heap (frs (envOfC qual scope s₀.heap.objs.size f cd :: outer))) (h := s.heap) I.ok.frames rfl (fun b o e => PySem.W.of_hideAll _ e) (PySem.W.funFrames_hide stk hin) hx fun h'' t fl tup hbt up => ?_
  have ub : Un (frs outer) [] H₀ H s₀.heap s.heap := I.base
  have toB : ∀ b o, s.heap.get? b = some o → b ∉ frs (envOfC qual scope s₀.heap.objs.size f cd :: outer) → (PySem.W.hideAll s.heap (frs (envOfC qual scope s₀.heap.objs.size f cd :: outer))).get? b = some o := fun b o e hb => PySem.W.hideAll_get _ e hb
  refine ⟨ea, cls, .ref t, H, _, rfl, fl, I.os, I.bare, ⟨fun a o e => ?_, fun b o e n hb => ?_, fun b o e hb => ?_, fun b o e n => ?_, fun b o e hb => ?_, ub.tups, ub.frzs, ub.tbls, ?_⟩, q⟩
  · refine (I.hok a o e).stay (fun b u hb g => toB b u g ?_) (fun _ g => g) fun _ _ g => g
    rcases hb with hb | hb
    · rw [hb]; exact sf a o e
    · exact sf b _ hb
  · exact toB b o (ub.keep b o e n hb (by simp)) (neL b o e hb)
  · obtain ⟨sl, e1⟩ := ub.slot b o e (I.ok.frf b hb) hb (by simp)
    obtain ⟨_, o1, e2, nf⟩ := I.funs.mem hb
    rw [e1] at e2
    cases e2
    obtain ⟨sl', e3⟩ := up b _ (hx.keeps b _ e1) nf
    exact ⟨sl', e3⟩
  · exact ub.free b o e n (by simp)
  · obtain ⟨o', e1⟩ := ub.there b o e (by simp)
    exact ⟨o', toB b o' e1 (neL b o e hb)⟩
  · cases g : H ea with
    | none => rfl
    | some u =>
      have z : ∃ o, s.heap.get? ea = some o := by
        have := (I.hok ea u g)
        cases u with
        | lst xs => obtain ⟨_, _, _, _, e⟩ := this; exact ⟨_, e⟩
        | tup xs => obtain ⟨_, _, _, o, e, _⟩ := this; exact ⟨o, e⟩
        | dK kvs => obtain ⟨_, _, _, _, o, _, _, e, _⟩ := this; exact ⟨o, e⟩
        | dT kvs => obtain ⟨_, _, _, _, o, _, _, e, _⟩ := this; exact ⟨o, e⟩
        | set S n => obtain ⟨o, _, _, _, e, _⟩ := this; exact ⟨o, e⟩
        | ins C dx fs => obtain ⟨_, _, _, e, _⟩ := this; exact ⟨_, e⟩
        | own y => exact this
        | xd fs => obtain ⟨_, ⟨o, _, _, e, _⟩, _⟩ := this; exact ⟨o, e⟩
        | rng lo hi => obtain ⟨_, _, _, e⟩ := this; exact ⟨_, e⟩
        | frz ob u => obtain ⟨e, _⟩ := this; exact ⟨_, e⟩
        | tbl ps => exact ⟨_, this⟩
        | met f y => exact ⟨_, this⟩
        | ext φ => obtain ⟨_, e, _⟩ := this; exact e
      obtain ⟨o, e⟩ := z
      rw [hx.new] at e; cases e
end
end L2
set_option Elab.async false
set_option linter.all false
set_option maxRecDepth 100000
namespace L2
open PySem PySem.Spec PyProof.Rows
theorem exc_obj {K : PySem.W.Frag} {h : Heap} {C : Addr} {bmB : List Value} {newId : String} (KX : K.In h) (q : PySem.W.excIn K C bmB newId = true) :
    ∃ bm nsA nm qn bs hd sn sub ab col dd k0 k1 k2 k3 k5 mN, h.get? C = some (excClassObj nm qn C nsA bs bm hd sn sub ab col dd k0 k1 k2 k3 k5 newId) ∧ h.Ns nsA mN ∧ mN "__init__" = none ∧ OwnTail h bmB bm := by
  unfold PySem.W.excIn at q
  split at q
  · rename_i dd cd sl look
    split at q
    · rename_i C2 bm k0 k1 k2 k3 n k5 hmro hsl
      simp only [Bool.and_eq_true, beq_iff_eq, Bool.not_eq_true'] at q
      obtain ⟨⟨⟨⟨⟨qC, qn'⟩, qdel⟩, qtail⟩, qok⟩, qinit⟩ := q
      cases qC
      cases qn'
      obtain ⟨nm, bs, mro, nsA, qn, hd, sn, sub, ab, col, del⟩ := cd
      have hmro' : mro = _ :: bm := hmro
      have qdel' : del = false := qdel
      cases hmro'
      cases qdel'
      have esl : sl = #[k0, k1, k2, k3, some (.builtin newId), k5] := by
        cases sl with
        | mk l => exact congrArg Array.mk hsl
      cases esl
      exact ⟨bm, nsA, nm, qn, bs, hd, sn, sub, ab, col, dd, k0, k1, k2, k3, k5, _, KX _ _ look, .of_isNs (PySem.W.isNs_of_in KX qok), PySem.W.nsMap_none_of_in KX qok qinit, PySem.W.tail_of_in KX qtail⟩
    · exact absurd q Bool.false_ne_true
  · exact absurd q Bool.false_ne_true
abbrev mroVE : List Value := [.type "ValueError", .type "Exception", .type "BaseException", .type "object"]
section
variable {X : Cx} {E : XK} {C : Addr} {x : Str}
noncomputable def tRaise (E : XK) (cls : Value) (t : TA) : TS := fun _ σ H => t σ H fun vs H1 => vs.length ≤ sizeLine ∧ E cls none H1
theorem ps_raise {e : Expr} {es : List Expr} {t : TA} {np cpos pos : Pos} (hc : X.calm = true) (hR : Raises X E (.ref C)) (hg : Gl X x) (hm : X.mg x = some (.ref C)) (hE : PySem.W.excIn X.K C mroVE "ValueError.__new__" = true)
    (ha : PA X (e :: es) t) (hdb : (x == ("__debug__" : Str)) = false := by decide) (he : starEach (e :: es) X.env = (false, eval e X.env) :: starEach es X.env := by rfl) (hpl : (backTo cpos (starEach es X.env)).any (·.1) = false := by rfl) :
    PS X (.Raise (some (.Call (.Name x np) (e :: es) [] cpos)) none pos) (tRaise E (.ref C) t) := by
  intro pins s σ H D I hq
  obtain ⟨bm, nsA, nm, qn, bs, hd, sn, sub, ab, col, dd, k0, k1, k2, k3, k5, mN, hC, hN, hni, T⟩ := exc_obj (h := X.base) I.ok.mod.kin hE
  refine wpAny_Raise_call_subU (C := C) (nm := nm) (q := qn) (N := nsA) (bs := bs) (bm := bm) (hdct := hd) (sn := sn) (sub := sub) (ab := ab) (col := col) (dd := dd) (k0 := k0) (k1 := k1) (k2 := k2) (k3 := k3) (k5 := k5)
    PySem.F.excBase_ValueError (by decide) PySem.F.excBase_ValueError (mN := mN) (T.hasType (by decide)) (I.ok.hd hc) (by rw [he]; show (false || (backTo cpos (starEach es X.env)).any (·.1)) = false; rw [hpl]; rfl) hni (ld_glob I hg hm ⟨rfl, ?_⟩ hdb)
  have h1 := ha cpos pins s σ H _ I hq
  rw [he] at h1 ⊢
  refine Calls.evalArgs_plain (thn h1 fun us s2 ⟨vs, H2, I2, r, hz, q⟩ => ⟨rfl, ?_, ?_⟩)
  · show us.length ≤ sizeLine
    rw [← r.length]; exact hz
  · exact ⟨I2.bk _ _ hC, hN.keeps I2.bk, T.keeps I2.bk, fun h' ea hx => hR pins σ H2 s2 ea h' us I2 hx q⟩
end
end L2
set_option Elab.async false
set_option linter.all false
set_option maxRecDepth 100000
namespace L2
open PySem PySem.Spec PyProof.Rows
noncomputable def ExcO (ea C : Addr) : HO := .ext fun h => ∃ o vs, h.get? ea = some o ∧ o.cls = .ref C ∧ o.data = .fields vs
noncomputable def Cx.marked (X : Cx) (ea : Addr) : Cx := { X with A := X.A.mark (some (.ref ea)), calm := false, xe := fun _ _ => False }
section
variable {X : Cx} {pins : List (Addr × Obj)} {σ : St} {H : Hp} {s : Shared} {ea : Addr}
theorem Cx.Ok.marked (ok : X.Ok) (ea : Addr) : (X.marked ea).Ok :=
  ⟨ok.mod, ok.kind, ok.glob, ok.blt, ok.above, ok.inj, ok.has, ok.cab, (fun z => absurd (show false = true from z) (by decide)), ok.frames, ok.stk, ok.exf, ok.bs, ok.bsz, ok.noex, ok.exfs, ok.funs, ok.frf⟩
theorem Inv.marked (I : Inv X pins σ H s) (ea : Addr) : Inv (X.marked ea) pins σ H s := ⟨I.ok.marked ea, I.os, I.bare, I.base, I.loc, I.cell, I.free, I.freeC, I.pin, I.hok, I.len⟩
theorem Inv.unmarked (ok : X.Ok) (I : Inv (X.marked ea) pins σ H s) : Inv X pins σ H s := ⟨ok, I.os, I.bare, I.base, I.loc, I.cell, I.free, I.freeC, I.pin, I.hok, I.len⟩
theorem Inv.gone {i : Nat} {n : Str} {h' : Heap} {v : Option Value} {m : Str → Option Value} {t : Nat} (I : Inv X pins σ H s) (hN : X.N.Nodup) (hi : X.N[i]? = some n) (hk : X.env.scope.names.lookup n = some .local)
    (hl : ∀ (j : Nat) (x : Str) (v : V), X.N[j]? = some x → σ[j]? = some (some v) → Vis X.env.scope x → ∃ u, RelV v u ∧ Look X.env s.heap m x u)
    (hn' : h'.Ns X.env.locals (fun x => if x = n then v else m x)) (hs : Heap.SameBut X.env.locals s.heap h') : Inv X pins (σ.set i none) H { s with heap := h', toks := t } := by
  have ltL : ∀ b o, X.s₀.heap.get? b = some o → b ≠ X.env.locals := fun b o e => Nat.ne_of_lt (Nat.lt_of_lt_of_le (Heap.lt_size e) I.ok.above)
  refine ⟨I.ok, I.os, I.bare, ⟨fun b o e q hb hx => ?_, fun b o e q hb hx => ?_, I.base.free, fun b o e hx => ?_, I.base.tups, I.base.frzs, I.base.tbls⟩, ⟨_, hn', fun j y v' e1 e2 e3 => ?_⟩, fun y c e => ?_, I.free, I.freeC, fun p hp => ?_, fun b u e => ?_, by rw [List.length_set]; exact I.len⟩
  · exact (hs.2 b (ltL b o e)).trans (I.base.keep b o e q hb hx)
  · obtain ⟨sl, e1⟩ := I.base.slot b o e q hb hx
    exact ⟨sl, (hs.2 b (ltL b o e)).trans e1⟩
  · obtain ⟨o', e1⟩ := I.base.there b o e hx
    exact ⟨o', (hs.2 b (ltL b o e)).trans e1⟩
  · by_cases hj : j = i
    · subst hj
      rw [List.getElem?_set] at e2
      simp at e2
    · rw [List.getElem?_set_ne (Ne.symm hj)] at e2
      obtain ⟨u, r, q⟩ := hl j y v' e1 e2 e3
      refine ⟨u, r, ?_⟩
      rcases q with ⟨k, e⟩ | ⟨k, c, e, z⟩
      · refine .inl ⟨k, ?_⟩
        have ne : y ≠ n := fun z => hj (nodup_ix hN e1 (z ▸ hi))
        simp [ne, e]
      · exact .inr ⟨k, c, e, z.sameBut hs (I.cne y c e)⟩
  · obtain ⟨w', z⟩ := I.cell y c e
    exact ⟨w', z.sameBut hs (I.cne y c e)⟩
  · obtain ⟨e, q, ne, nf, d⟩ := I.pin p hp
    exact ⟨(hs.2 p.1 ne).trans e, q, ne, nf, d⟩
  · refine (I.hok b u e).stay (fun c w' hc q => (hs.2 c ?_).trans q) (fun _ q => q) fun _ _ q => q
    intro z
    rcases hc with hc | hc
    · rw [← hc, z, I.free] at e; cases e
    · rw [z, I.free] at hc; cases hc
noncomputable def endsX (i : Nat) (D : Ends) : Ends := { nx := fun σ H => D.nx (σ.set i none) H, rt := D.rt, bk := fun σ H => D.bk (σ.set i none) H, ct := fun σ H => D.ct (σ.set i none) H }
noncomputable def catchX (K : PySem.W.Frag) (CF : Addr) (i : Nat) (ts : TS) (D : Ends) (σ : St) : XK := fun cls _ H1 =>
  ∃ C, cls = .ref C ∧ PySem.W.exmOne K (.ref C) (.ref CF) = some true ∧ ∀ ea, H1 ea = none → ts (endsX i D) (σ.set i (some (.ref ea))) (upd H1 ea (ExcO ea C))
end
end L2
set_option Elab.async false
set_option linter.all false
set_option maxRecDepth 100000
namespace L2
open PySem PySem.Spec PyProof.Rows
noncomputable def EqL (K : PySem.W.Frag) (H : Hp) (rec : V → V → Bool → Prop) (p q : Addr) (b : Bool) : Prop :=
  ∃ xs ys, (SqL K H p xs ∧ SqL K H q ys ∧ xs.length ≠ ys.length ∧ b = false) ∨
    (((SqL K H p xs ∧ SqL K H q ys) ∨ (SqT K H p xs ∧ SqT K H q ys)) ∧ xs.length = ys.length ∧ ∃ e : Nat → Bool, (∀ i x y, xs[i]? = some x → ys[i]? = some y → rec x y (e i)) ∧ b = (List.range xs.length).all e)
noncomputable def EqD (K : PySem.W.Frag) (H : Hp) : Nat → V → V → Bool → Prop
  | 0, x, y, b => (∃ a, x = .ref a ∧ y = .ref a ∧ b = true) ∨ (flatV x = true ∧ flatV y = true ∧ b = eqV x y)
  | n + 1, x, y, b => EqD K H n x y b ∨ ∃ p q, x = .ref p ∧ y = .ref q ∧ p ≠ q ∧ EqL K H (EqD K H n) p q b
section
variable {X : Cx} {pins : List (Addr × Obj)} {σ : St} {H : Hp} {s : Shared}
theorem eqL_at {A : Around} {rec : V → V → Bool → Prop} {p q : Addr} {b : Bool} (I : Inv X pins σ H s) (hu : A.units < cLine) (hr : ∀ x y b u v, rec x y b → RelV x u → RelV y v → SeqAt.EqAt A.in1 s u v b) (h : EqL X.K H rec p q b) :
    SeqAt.RcAt A s (.ref p) (.ref q) b ∧ SeqAt.RcNeAt A s (.ref p) (.ref q) (!b) := by
  obtain ⟨xs, ys, ⟨h1, h2, hl, rfl⟩ | ⟨hk, hl, e, he, rfl⟩⟩ := h
  · obtain ⟨its, r, pl, _⟩ := I.list h1
    obtain ⟨its2, r2, pl2, _⟩ := I.list h2
    have e1 := r.length
    have e2 := r2.length
    have hne : (its.toArray.size != its2.toArray.size) = true := by
      rw [bne_iff_ne]; simp only [List.size_toArray]; omega
    exact ⟨SeqAt.RcAt.lists_lengths pl.isList pl2.isList hne hu, SeqAt.RcNeAt.lists_lengths pl.isList pl2.isList hne hu⟩
  · have items : ∀ (its its2 : List Value), Vals xs its → Vals ys its2 → ∀ j (h1 : j < its.toArray.size) (h2 : j < its2.toArray.size), SeqAt.EqAt A.in1 s its.toArray[j] its2.toArray[j] (e j) := by
      intro its its2 r r2 j h1 h2
      have l1 := r.length
      have l2 := r2.length
      simp only [List.size_toArray] at h1 h2
      have g1 : j < xs.length := by omega
      have g2 : j < ys.length := by omega
      obtain ⟨u, hu1, ru⟩ := r.get (i := j) (x := xs[j]) (by simp [g1])
      obtain ⟨v, hv1, rv⟩ := r2.get (i := j) (x := ys[j]) (by simp [g2])
      have eu : its.toArray[j] = u := by
        have : its[j]? = some its[j] := by simp [h1]
        rw [this] at hu1
        simpa using hu1
      have ev : its2.toArray[j] = v := by
        have : its2[j]? = some its2[j] := by simp [h2]
        rw [this] at hv1
        simpa using hv1
      rw [eu, ev]
      exact hr _ _ _ _ _ (he j _ _ (by simp [g1]) (by simp [g2])) ru rv
    rcases hk with ⟨h1, h2⟩ | ⟨h1, h2⟩
    · obtain ⟨its, r, pl, _⟩ := I.list h1
      obtain ⟨its2, r2, pl2, _⟩ := I.list h2
      have l1 := r.length
      have l2 := r2.length
      have hsz : its.toArray.size = its2.toArray.size := by simp only [List.size_toArray]; omega
      have a1 := SeqAt.RcAt.lists pl.isList pl2.isList hsz hu (items its its2 r r2)
      have a2 := SeqAt.RcNeAt.lists pl.isList pl2.isList hsz hu (items its its2 r r2)
      have es : its.toArray.size = xs.length := by simp only [List.size_toArray]; omega
      rw [es] at a1 a2
      exact ⟨a1, a2⟩
    · obtain ⟨its, r, pl, _⟩ := I.tuple h1
      obtain ⟨its2, r2, pl2, _⟩ := I.tuple h2
      have l1 := r.length
      have l2 := r2.length
      have t1 : s.heap.IsTuple p its.toArray := pl
      have t2 : s.heap.IsTuple q its2.toArray := pl2
      have a1 := SeqAt.RcAt.tuples t1 t2 hu (items its its2 r r2)
      have a2 := SeqAt.RcNeAt.tuples t1 t2 hu (items its its2 r r2)
      have es : min its.toArray.size its2.toArray.size = xs.length := by simp only [List.size_toArray]; omega
      have ez : (its.toArray.size == its2.toArray.size) = true := by rw [beq_iff_eq]; simp only [List.size_toArray]; omega
      rw [es, ez, Bool.and_true] at a1 a2
      exact ⟨a1, a2⟩
theorem eqD_at (I : Inv X pins σ H s) : ∀ (n : Nat) (A : Around), A.units + n < cLine → ∀ x y b u v, EqD X.K H n x y b → RelV x u → RelV y v → SeqAt.EqAt A s u v b
  | 0, A, hu, x, y, b, u, v, h, rx, ry => by
    rcases h with ⟨a, rfl, rfl, rfl⟩ | ⟨f1, f2, rfl⟩
    · cases rx; cases ry; exact SeqAt.EqAt.same _
    · exact eqAt_V rx ry f1 f2
  | n + 1, A, hu, x, y, b, u, v, h, rx, ry => by
    rcases h with h | ⟨p, q, rfl, rfl, ne, h⟩
    · exact eqD_at I n A (by omega) x y b u v h rx ry
    · cases rx; cases ry
      refine SeqAt.EqAt.of_refs ne (eqL_at (A := A) I (by omega) (fun x y b u v h rx ry => eqD_at I n A.in1 ?_ x y b u v h rx ry) h).1
      show A.units + 1 + n < cLine
      omega
noncomputable def rEqD (K : PySem.W.Frag) (neg : Bool) : R2 := fun x y H Q => ∃ n p q b, n ≤ 8 ∧ x = .ref p ∧ y = .ref q ∧ EqL K H (EqD K H n) p q b ∧ Q (.bl (if neg then !b else b)) H
theorem op_eqD (hu : X.A.units + 64 < cLine) : OpR X (compareOp .Eq) (rEqD X.K false) := by
  intro pins s σ H x y v u Q I rx ry h
  obtain ⟨n, p, q, b, hn, rfl, rfl, he, k⟩ := h
  cases rx; cases ry
  refine (eqL_at (A := X.A) I (by omega) (fun x y b u v h rx ry => eqD_at I n X.A.in1 ?_ x y b u v h rx ry) he).1 _ _ _ _ ⟨.bl b, H, I, rfl, k⟩
  show X.A.units + 1 + n < cLine
  omega
theorem op_neD (hu : X.A.units + 64 < cLine) : OpR X (compareOp .NotEq) (rEqD X.K true) := by
  intro pins s σ H x y v u Q I rx ry h
  obtain ⟨n, p, q, b, hn, rfl, rfl, he, k⟩ := h
  cases rx; cases ry
  refine (eqL_at (A := X.A) I (by omega) (fun x y b u v h rx ry => eqD_at I n X.A.in1 ?_ x y b u v h rx ry) he).2 _ _ _ _ ⟨.bl (!b), H, I, rfl, k⟩
  show X.A.units + 1 + n < cLine
  omega
end
theorem range_all {n : Nat} {e : Nat → Bool} (h : ∀ i, i < n → e i = true) : (List.range n).all e = true := by
  rw [List.all_eq_true]
  intro i hi
  exact h i (List.mem_range.mp hi)
theorem eqV_self {x : V} (f : flatV x = true) : eqV x x = true := by
  cases x <;> first | rfl | (simp [eqV]; done) | exact absurd (show false = true from f) Bool.false_ne_true
theorem EqL.same {K : PySem.W.Frag} {H : Hp} {p q : Addr} {xs : List V} (h : (SqL K H p xs ∧ SqL K H q xs) ∨ (SqT K H p xs ∧ SqT K H q xs)) (hf : ∀ x ∈ xs, flatV x = true ∨ ∃ a, x = .ref a) : EqL K H (EqD K H 0) p q true := by
  refine ⟨xs, xs, .inr ⟨h, rfl, fun _ => true, fun i x y h1 h2 => ?_, (range_all fun _ _ => rfl).symm⟩⟩
  rw [h1] at h2; cases h2
  rcases hf x (List.mem_of_getElem? h1) with f | ⟨a, rfl⟩
  · exact .inr ⟨f, f, (eqV_self f).symm⟩
  · exact .inl ⟨a, rfl, rfl, rfl⟩
theorem EqL.nil {K : PySem.W.Frag} {H : Hp} {p q : Addr} {xs : List V} (h1 : SqL K H p xs) (h2 : SqL K H q []) : EqL K H (EqD K H 0) p q xs.isEmpty := by
  cases xs with
  | nil => exact ⟨[], [], .inr ⟨.inl ⟨h1, h2⟩, rfl, fun _ => true, fun i x y e => by simp at e, rfl⟩⟩
  | cons x r => exact ⟨x :: r, [], .inl ⟨h1, h2, by simp, rfl⟩⟩
theorem EqL.ints {K : PySem.W.Frag} {H : Hp} {p q : Addr} {ns ms : List Int} (h1 : SqL K H p (ns.map V.int)) (h2 : SqL K H q (ms.map V.int)) : EqL K H (EqD K H 0) p q (decide (ns = ms)) := by
  by_cases hl : ns.length = ms.length
  · refine ⟨_, _, .inr ⟨.inl ⟨h1, h2⟩, by simp [hl], fun i => ns[i]? == ms[i]?, fun i x y e1 e2 => ?_, ?_⟩⟩
    · rw [List.getElem?_map] at e1 e2
      cases g1 : ns[i]? with
      | none => rw [g1] at e1; cases e1
      | some n =>
        cases g2 : ms[i]? with
        | none => rw [g2] at e2; cases e2
        | some m =>
          rw [g1] at e1; rw [g2] at e2
          cases e1; cases e2
          refine .inr ⟨rfl, rfl, ?_⟩
          show (ns[i]? == ms[i]?) = (n == m)
          rw [g1, g2, Bool.eq_iff_iff]; simp
    · rw [List.length_map, Bool.eq_iff_iff, decide_eq_true_iff, List.all_eq_true]
      constructor
      · rintro rfl i _; simp
      · intro h
        refine List.ext_getElem? fun i => ?_
        by_cases hi : i < ns.length
        · have := h i (List.mem_range.mpr hi)
          exact beq_iff_eq.mp this
        · rw [List.getElem?_eq_none (by omega), List.getElem?_eq_none (by omega)]
  · refine ⟨_, _, .inl ⟨h1, h2, by simpa using hl, ?_⟩⟩
    exact decide_eq_false fun e => hl (by rw [e])
section
variable {X : Cx}
end
end L2
set_option Elab.async false
set_option linter.all false
set_option maxRecDepth 100000
namespace L2
open PySem PySem.Spec PyProof.Rows
section
variable {X : Cx} {tg : Expr}
noncomputable def DictO (_ : Addr) : HO := .dK []
end
noncomputable def PassesR (CX : CXT) (X : Cx) (R : St → XK) : Prop := ∀ (pins : List (Addr × Obj)) (σ : St) (H : Hp) (s : Shared) (e : Value) (s' : Shared), Inv X pins σ H s → CX X.stack H s (R σ) e s' → X.xe e s'
structure DefX (P : Program) (w : World) (K : PySem.W.Frag) (mg : Str → Option Value) (base : Heap) (k : Nat) (x : Str) (ps : List Str) (ds : List V) (sp : Sp) : Prop where
  ex : ∃ (f : Addr) (fd : FuncData) (dvs : List Value), FnOk P w K mg base (CX1 P w) k f fd ps sp ∧ mg x = some (.ref f) ∧ PySem.W.keepIn K (.ref f) = true ∧ Binds K fd ps dvs ∧ Vals ds dvs
noncomputable def tCallR (sp : Sp) (dvs : List V) (R : St → XK) (t : TA) : TE := fun σ H Q => t σ H fun vs H1 => sp (vs ++ dvs) H1 Q (R σ)
section
variable {X : Cx}
theorem pe_callX {k : Nat} {x : Str} {ps : List Str} {ds : List V} {sp : Sp} {e : Expr} {es : List Expr} {t : TA} {p pos : Pos} {R : St → XK} (D : DefX X.prog X.w X.K X.mg X.base k x ps ds sp) (hr : Room k X.A) (hx : PassesR (CX1 X.prog X.w) X R) (hg : Gl X x)
    (ha : PA X (e :: es) t) (hdb : (x == ("__debug__" : Str)) = false := by decide) (he : starEach (e :: es) X.env = (false, eval e X.env) :: starEach es X.env := by rfl) (hpl : (backTo pos (starEach es X.env)).any (·.1) = false := by rfl) :
    PE X (.Call (.Name x p) (e :: es) [] pos) (tCallR sp ds R t) := by
  obtain ⟨f, fd, dvs, F, hm, hk, hb, hd⟩ := D.ex
  intro pins s σ H Q I h
  refine wpAny_Call_Name_kw (ld_glob I hg hm ?_ hdb)
  refine PySem.W.callWith_K (h₀ := X.base) I.ok.mod.kin hk (thn (ha pos pins s σ H _ I h) fun us s1 ⟨vs, H1, I1, r, q⟩ => ⟨I1.kIn, ?_⟩) he hpl
  have r2 : Vals (vs ++ ds) (us ++ dvs) := r.append hd
  have hl : (us ++ dvs).length = ps.length := by rw [← r2.length]; exact F.len _ _ _ _ q
  refine wpAny_call (codeAny_mono (F.run X.A X.stack s1 H1 ⟨us, []⟩ (us ++ dvs) (vs ++ ds) Q (R σ) hr I1.env0 (hb s1 us I1.kIn hl) r2 q) fun res s' hq => ?_)
  cases res with
  | error er => exact hx pins σ H1 s1 er s' I1 hq
  | ok fl =>
    cases fl with
    | ret u => exact I1.after hq
    | next => exact False.elim hq
    | brk => exact False.elim hq
    | cont => exact False.elim hq
theorem passF {P : Program} {w : World} : PassesR (CX1 P w) X fun _ => E0 := fun _ _ _ _ _ _ _ h => by
  obtain ⟨_, _, _, _, _, _, _, _, _, _, q⟩ := h
  exact False.elim q
theorem PS.nox {st : Stmt} {t : TS} (h : PS X.nox st t) : PS X st t := fun pins s σ H D I hw =>
  wpAny_mono (h pins s σ H D (I.wish _) hw) (fun _ _ q => q.unwish) fun _ _ z => False.elim z
end
section
variable {P : Program} {w : World} {K : PySem.W.Frag} {mg : Str → Option Value} {base : Heap}
theorem passes1R {N : List Str} {qual : Str} {scope : Scope} {f : Addr} {cd : Value} {A : Around} {outer : List Env} {s₀ : Shared} {H₀ : Hp} {E : XK} :
    PassesR (CX1 P w) (cxOf (CX1 P w) P w K mg base N qual scope f cd A outer s₀ H₀ E) fun _ => E := fun pins σ H s e s' I h => passes1 pins σ H s e s' I h
theorem FunD.okX {x qual : Str} {st : Stmt} {dV : Value} {f : Addr} {fd : FuncData} {N ps : List Str} {k : Nat} {sp : Sp} (F : FunD K x qual st dV f fd) (S : FnScope N ps (defScope st)) (len : ∀ vs H Q E, sp vs H Q E → vs.length = ps.length)
    (hbody : ∀ (cdv : Value) (A : Around) (outer : List Env) (s : Shared) (H : Hp) (vs : List V) (Q : VK) (E : XK), Room k (A.deeper (envOfC qual (defScope st) s.heap.objs.size f cdv)) → sp vs H Q E →
      ∃ t, PSs (cxOf (CX1 P w) P w K mg base N qual (defScope st) f cdv A outer s H E) (defBody st) t ∧ t { nx := fun _ H' => Q .non H', rt := Q } (start N vs) H) : FnOk P w K mg base (CX1 P w) (k + 1) f fd ps sp := by
  obtain ⟨oc, od, kV, doc, pm, an, cdv, ct, osl, rfl, lk, hcd⟩ := F.ex
  exact fn_of lk hcd S len fun A outer s H vs Q E hr hsp => hbody cdv A outer s H vs Q E hr hsp
theorem FunD.defX {x qual : Str} {st : Stmt} {f : Addr} {fd : FuncData} {ps : List Str} {k : Nat} {sp : Sp} (F : FunD K x qual st .none f fd) (G : FnOk P w K mg base (CX1 P w) k f fd ps sp) (hm : mg x = some (.ref f))
    (h : ∀ (kV doc pm : Value) (an : Option Addr) (cdv ct : Value) (us : List Value), us.length = ps.length → bindArgs (PySem.W.fnOf x qual (defArgs st) (defBody st) (defScope st) .none kV doc pm an cdv ct) ⟨us, []⟩ = pure (ps.zip us)) : DefX P w K mg base k x ps [] sp := by
  obtain ⟨oc, od, kV, doc, pm, an, cdv, ct, osl, rfl, lk, hcd⟩ := F.ex
  exact ⟨f, _, [], G, hm, F.kp, .all (h kV doc pm an cdv ct), .nil⟩
end
section
variable {X : Cx} {pins pn : List (Addr × Obj)} {σ : St} {H : Hp} {s : Shared} {XE : Value → Shared → Prop}
noncomputable abbrev Cx.at (X : Cx) (pn : List (Addr × Obj)) (XE : Value → Shared → Prop) : Cx := { X with pn := pn, xe := XE }
theorem Cx.Ok.at (ok : X.Ok) : (X.at pn XE).Ok :=
  ⟨ok.mod, ok.kind, ok.glob, ok.blt, ok.above, ok.inj, ok.has, ok.cab, ok.hd, ok.frames, ok.stk, ok.exf, ok.bs, ok.bsz, ok.noex, ok.exfs, ok.funs, ok.frf⟩
theorem Cx.Ok.unat (ok : (X.at pn XE).Ok) : X.Ok :=
  ⟨ok.mod, ok.kind, ok.glob, ok.blt, ok.above, ok.inj, ok.has, ok.cab, ok.hd, ok.frames, ok.stk, ok.exf, ok.bs, ok.bsz, ok.noex, ok.exfs, ok.funs, ok.frf⟩
theorem Inv.at (I : Inv X pins σ H s) : Inv (X.at (X.pn ++ pins) XE) [] σ H s := ⟨I.ok.at, I.os, I.bare, I.base, I.loc, I.cell, I.free, I.freeC, fun p hp => I.pin p (by simpa using hp), I.hok, I.len⟩
theorem Inv.unat {pins' : List (Addr × Obj)} (I : Inv (X.at (X.pn ++ pins) XE) pins' σ H s) : Inv X pins σ H s := ⟨I.ok.unat, I.os, I.bare, I.base, I.loc, I.cell, I.free, I.freeC, fun p hp => I.pin p (List.mem_append_left _ hp), I.hok, I.len⟩
noncomputable def tTry2 (K : PySem.W.Frag) (CF : Addr) (i : Nat) (tb : (St → XK) → TS) (ts : TS) : TS := fun D σ H => tb (fun σ' => catchX K CF i ts D σ') D σ H
theorem ps_try2 {body : List Stmt} {cx n : Str} {CF : Addr} {i : Nat} {b0 : Stmt} {suite : List Stmt} {np hpos pos : Pos} {tb : (St → XK) → TS} {ts : TS}
    (hN : X.N.Nodup) (hi : X.N[i]? = some n) (hl : X.env.scope.names.lookup n = some .local) (hg : Gl X cx) (hm : X.mg cx = some (.ref CF)) (hst : X.stack = X.env :: X.outer) (hf : X.env.frame = some X.env.locals)
    (hb : ∀ (pn : List (Addr × Obj)) (XE : Value → Shared → Prop) (R : St → XK), PassesR (CX1 X.prog X.w) (X.at pn XE) R → PSs (X.at pn XE) body (tb R))
    (hs : ∀ ea, PSs (X.marked ea) (b0 :: suite) ts) (hdb : (cx == ("__debug__" : Str)) = false := by decide) :
    PS X (.Try body [.ExceptHandler (some (.Name cx np)) (some n) (b0 :: suite) hpos] [] [] pos) (tTry2 X.K CF i tb ts) := by
  intro pins s σ H D I hq
  refine wpAny_Try_except (wpAny_mono (hb (X.pn ++ pins) _ (fun σ' => catchX X.K CF i ts D σ') ?_ [] s σ H D I.at hq) (fun f s1 q => ?_) fun e s1 q => q)
  · intro pins0 σ0 H0 s0 e s' I0' hc
    have I0 : Inv X pins σ0 H0 s0 := I0'.unat
    obtain ⟨ea, cls, a0, H', B, rfl, fl, os, bare, fw, C, rfl, hex, q⟩ := hc
    replace fl : Heap.FlyingW B (X.env :: X.outer) ea (.ref C) a0 s'.heap := by rw [← hst]; exact fl
    replace fw : Flew X.prog X.w (X.env :: X.outer) H0 H' s0.heap B s'.heap ea := by rw [← hst]; exact fw
    have fr0 : X.A.frames = some (X.env :: X.outer) := by rw [I0.ok.frames, hst]
    have new0 : s0.heap.get? ea = none := by
      cases g : s0.heap.get? ea with
      | none => rfl
      | some o =>
        by_cases hb : ea ∈ frs (X.env :: X.outer)
        · obtain ⟨_, o1, e1, nf⟩ := fl.2.2.1.mem hb
          obtain ⟨oe, vs, e2, _, d2, _⟩ := fl.first
          rw [e1] at e2; cases e2
          exact absurd d2 (nf vs)
        · obtain ⟨o', e1⟩ := fw.there ea o g hb
          rw [fl.2.1] at e1; cases e1
    refine wpAny_looks_onW fr0 hf fl fun h4 held4 up4 => ?_
    refine wpAny_landsW held4 fun h5 fl5 up5 => ?_
    have inv : ∀ {h6 : Heap} {tk : Nat}, Heap.FlyingW B (X.env :: X.outer) ea (.ref C) a0 h6 → s'.heap.UpToSlots h6 → Inv X pins σ0 (upd H' ea (ExcO ea C)) { s' with heap := h6, toks := tk } := fun {h6 tk} fl6 up6 => by
      have f6 := fw.up fl up6
      have u6 := f6.un fl6.1
      obtain ⟨oe, vs, e6, c6, d6, _⟩ := fl6.first
      refine I0.call' (s' := { s' with heap := h6, toks := tk }) (ch := []) os (by
        rw [hst]
        exact ⟨u6.keep, u6.slot, fun b o e n hx => by
          rw [upd_ne (fun z => by rw [z, new0] at e; cases e)]
          exact u6.free b o e n hx, u6.there, fun b xs e => by
          have z := u6.tups b xs e
          rw [upd_ne (ne_of_none z fw.exc)]; exact z, fun b o u e => by
          have z := u6.frzs b o u e
          rw [upd_ne (ne_of_none z fw.exc)]; exact z, fun b ps e => by
          obtain ⟨more, z⟩ := u6.tbls b ps e
          exact ⟨more, by rw [upd_ne (ne_of_none z fw.exc)]; exact z⟩⟩) (fun b u e => ?_) bare (fun b hb => absurd hb (by simp))
      by_cases hbe : b = ea
      · subst hbe
        rw [upd_same] at e
        cases e
        refine ⟨⟨oe, vs, e6, c6, d6⟩, ⟨oe, e6⟩, fun h1 h2 p k => ?_⟩
        obtain ⟨o, ws, p1, p2, p3⟩ := p
        exact ⟨o, ws, k o p1, p2, p3⟩
      · rw [upd_ne hbe] at e
        refine (f6.ok fl6.1 b u e).stay (fun _ _ _ g => g) (fun c g => ?_) fun c xs g => ?_
        · rw [upd_ne (ne_of_none g fw.exc)]; exact g
        · rw [upd_ne (ne_of_none g fw.exc)]; exact g
    have I5 := inv (tk := s'.toks) fl5 (up4.trans up5)
    refine wpAny_handleBy_cons (codeAny_handlers_test (ld_glob (X := X.marked ea) (I5.marked ea) hg hm ?_ hdb)) (by intro z; cases z)
    obtain ⟨ob, hob, hobc⟩ := fl5.there
    have LT : PySem.W.Looks (model X.prog X.w) h5 (typeOf (.ref ea)) (.ref C) := by
      rw [← hobc]
      exact (PySem.W.Looks.ld hob).andThen .now
    refine (PySem.W.exm_one (h := h5) I5.kIn LT hex).here ?_
    refine codeAny_handlers_suite_as ?_
    refine lands_againW fl5 fun h6 fl6 up6 => ?_
    have I6 := inv (tk := s'.toks) fl6 ((up4.trans up5).trans up6)
    refine store_ok I6 hN hi (Or.inl hl) (show RelV (.ref ea) (.ref ea) from rfl) (fun s7 I7 => ?_) (.inr hl)
    refine wpAny_mono (hs ea pins s7 _ _ _ (I7.marked ea) (q ea fw.exc)) (fun f s8 sp => ?_) fun _ _ z => z.elim
    have fin : ∀ {σ8 : St} {H8 : Hp} {Q8 : Shared → Prop}, Inv (X.marked ea) pins σ8 H8 s8 → (∀ s9, Inv X pins (σ8.set i none) H8 s9 → Q8 s9) →
        wpAny (model X.prog X.w) X.A (do bindName X.env n .none; unbindBehindTheSuite X.env n hpos) (fun _ s9 => Q8 s9) X.xe s8 := fun {σ8 H8 Q8} J k => by
      have J' := J.unmarked I0.ok
      obtain ⟨m, hn, hlk⟩ := J'.loc
      refine wpAny_nameGoes_keeps hl hn (by rw [I0.ok.kind]; rfl) fun h9 v hn9 sb9 => k _ ?_
      exact J'.gone hN hi hl hlk hn9 sb9
    cases f with
    | next =>
      obtain ⟨σ8, H8, J, z⟩ := sp
      exact fin J fun s9 I9 => ⟨_, H8, I9, z⟩
    | brk =>
      obtain ⟨σ8, H8, J, z⟩ := sp
      exact fin J fun s9 I9 => ⟨_, H8, I9, z⟩
    | cont =>
      obtain ⟨σ8, H8, J, z⟩ := sp
      exact fin J fun s9 I9 => ⟨_, H8, I9, z⟩
    | ret u =>
      obtain ⟨v, σ8, H8, J, r, z⟩ := sp
      exact fin J fun s9 I9 => ⟨v, _, H8, I9, r, z⟩
  · cases f with
    | next => obtain ⟨σ1, H1, J, z⟩ := q; exact wpAny_execs_nil ⟨σ1, H1, J.unat, z⟩
    | brk => obtain ⟨σ1, H1, J, z⟩ := q; exact ⟨σ1, H1, J.unat, z⟩
    | cont => obtain ⟨σ1, H1, J, z⟩ := q; exact ⟨σ1, H1, J.unat, z⟩
    | ret u => obtain ⟨v, σ1, H1, J, r, z⟩ := q; exact ⟨v, σ1, H1, J.unat, r, z⟩
end
end L2
set_option Elab.async false
set_option linter.all false
set_option maxRecDepth 100000
namespace L2
open PySem PySem.Spec PyProof.Rows
structure XCls (K : PySem.W.Frag) (D : Addr) : Prop where
  ga : PySem.W.findIn K (.ref D) "__getattribute__" = some (some (.builtin "BaseException.__getattribute__"))
  gx : PySem.W.findIn K (.ref D) "__getattr__" = some none
  cl : PySem.W.findIn K (.ref D) "__class__" = some (some (.builtin "object.__class__"))
  mB : PySem.W.mroIn K D (.type "BaseException") = some true
  mo : PySem.W.mroIn K D (.type "object") = some true
  isc : (PySem.W.clsIn K D).isSome = true
noncomputable def ExcAt (x D : Addr) (h : Heap) : Prop := ∃ o vs, h.get? x = some o ∧ o.cls = .ref D ∧ o.data = .fields vs
section
variable {prog : Program} {w : World} {A : Around} {E : Value → Shared → Prop} {s : Shared} {K : PySem.W.Frag} {x D : Addr}
theorem ExcAt.ty {M : Model} {h : Heap} (e : ExcAt x D h) : PySem.W.Looks M h (typeOf (.ref x)) (.ref D) := by
  obtain ⟨o, vs, h1, h2, _⟩ := e
  exact h2 ▸ (PySem.W.Looks.ld h1).andThen .now
theorem exc_class_get {R : Result → Shared → Prop} (KX : K.In s.heap) (e : ExcAt x D s.heap) (c : XCls K D) (h : R (.ok (.ret (.ref D))) s) :
    codeAny (model prog w) A (.call (.builtin "getset_descriptor.__get__") ⟨[.builtin "object.__class__", .ref x, .ref D], []⟩) R s := by
  obtain ⟨hh, g, dr, t, os⟩ := s
  have L0 : PySem.W.Looks (model prog w) hh (typeOf (.ref x)) (.ref D) := e.ty
  have L1 : PySem.W.Looks (model prog w) hh (isSubtype (.ref D) (.type (".".intercalate ("object.__class__".cutAt '.').dropLast))) true := by rw [F.owner_object_class]; exact PySem.W.looks_mroIn KX c.mo
  have LI : PySem.W.Looks (model prog w) hh (isInstance (.ref x) (.type (".".intercalate ("object.__class__".cutAt '.').dropLast))) true := L0.andThen L1
  have hT5 : (⟨hh, g, dr, t, os⟩ : Shared).TypeIs (.builtin "object.__class__") "getset_descriptor" := F.typeOf_object_class
  refine codeAny_call_builtin F.slot_gs_get.plain F.entry_gs_get (F.slot_gs_get.check _ _ _ _ _ _ _ _ hT5 (F.args_gs_get _ _ _) ?_)
  repeat (any_goals (first | assumption | (with_reducible refine LI.at ?_) | (with_reducible refine L0.at ?_) | (with_reducible refine L1.at ?_) | wp_step))
  refine ⟨Code.quiet_builtin _ (by decide +kernel), codeAny_builtin F.entry_object_class ?_⟩
  repeat (any_goals (first | assumption | (with_reducible refine L0.at ?_) | wp_step))
theorem exc_entry {tk : Tok} {Q : Fin → Shared → Prop} (KX : K.In s.heap) (e : ExcAt x D s.heap) (c : XCls K D) (h : Q (.done (.ret (.ref D))) s) :
    wpAny (model prog w) A (Builtin.«object.__getattribute__» ⟨[.ref x, .str "__class__" tk], []⟩) Q E s := by
  obtain ⟨hh, g, dr, t, os⟩ := s
  have L0 : PySem.W.Looks (model prog w) hh (typeOf (.ref x)) (.ref D) := e.ty
  have L4 := PySem.W.looks_findIn (M := model prog w) KX c.cl
  have hT5 : (⟨hh, g, dr, t, os⟩ : Shared).TypeIs (.builtin "object.__class__") "getset_descriptor" := F.typeOf_object_class
  have f5 := F.typeOf_object_class
  have f6 := F.slot_gs_get.lookup
  have f7 := F.slot_gs_set.lookup
  repeat (any_goals (first | assumption | (with_reducible refine L0.at ?_) | (with_reducible refine L4.at ?_) | wp_step))
  refine exc_class_get KX e c ?_
  exact wpAny_pure h
theorem bega_split : splitId "BaseException.__getattribute__" = some ("BaseException", "__getattribute__") := by decide +kernel
theorem bega_kind : builtinKind "BaseException.__getattribute__" = some .slot := by decide +kernel
theorem exc_check {M : Model} {v : Value} {Q : Unit → Shared → Prop} (KX : K.In s.heap) (e : ExcAt x D s.heap) (c : XCls K D) (h : Q () s) :
    wpAny M A (checkBuiltinCall "BaseException.__getattribute__" ⟨[.ref x, v], []⟩) Q E s := by
  have L0 : PySem.W.Looks M s.heap (typeOf (.ref x)) (.ref D) := e.ty
  have LI : PySem.W.Looks M s.heap (isInstance (.ref x) (.type "BaseException")) true := L0.andThen (PySem.W.looks_mroIn KX c.mB)
  have hA := F.args_bexc_ga (.ref x) v
  simp only [checkBuiltinCall, bega_split, bega_kind]
  refine wpAny_bind (LI.at ?_)
  unfold argsOk at hA
  cases hsig : Manifest.signature? "BaseException.__getattribute__" with
  | none =>
    rw [hsig] at hA
    simp only [Bool.not_true, Bool.false_eq_true, if_false]
    exact wpAny_pure h
  | some sig =>
    rw [hsig] at hA
    simp only [Bool.not_true, Bool.false_eq_true, if_false]
    exact wpAny_of_eq hA h
theorem exc_class {Q : Option Value → Shared → Prop} (KX : K.In s.heap) (e : ExcAt x D s.heap) (c : XCls K D) (h : Q (some (.ref D)) { s with toks := s.toks + 1 }) :
    wpAny (model prog w) A (getAttr? (.ref x) "__class__") Q E s := by
  obtain ⟨hh, g, dr, t, os⟩ := s
  have L0 : PySem.W.Looks (model prog w) hh (typeOf (.ref x)) (.ref D) := e.ty
  have L1 := PySem.W.looks_findIn (M := model prog w) KX c.ga
  have L2 := PySem.W.looks_findIn (M := model prog w) KX c.gx
  have hbind := F.excAttr_ValueError.ga.bind (.ref x)
  unfold getAttr? getAttrBy?
  repeat (any_goals (first | assumption | (with_reducible refine L0.at ?_) | (with_reducible refine L1.at ?_) | (with_reducible refine L2.at ?_) | wp_step))
  refine codeAny_call_builtin F.excAttr_ValueError.ga.plain F.entry_bexc_ga (exc_check (s := ⟨hh, g, dr, t + 1, os⟩) KX e c (exc_entry (s := ⟨hh, g, dr, t + 1, os⟩) KX e c ?_))
  repeat (any_goals (first | assumption | wp_step))
theorem kitx_exc (c : XCls K D) : PySem.W.KitX K (.ref x) (.ref D) (ExcAt x D) where
  ty := fun _ _ _ e => e.ty
  it := fun M h KX _ => by
    have hc := c.isc
    unfold PySem.W.clsIn at hc
    split at hc
    · rename_i c' d' cd' sl' ho
      intro A' Q' E' s' k q
      unfold isType loadHead
      exact wpAny_bind (wpAny_loadPart (k _ _ (KX _ _ ho)) (wpAny_pure q))
    · cases hc
  ne := fun h tp dd its n sl KX htp => by
    have hc := c.isc
    refine Bool.eq_false_iff.mpr fun q => ?_
    have e : D = tp := Value.ref.inj (beq_iff_eq.mp q)
    subst e
    unfold PySem.W.clsIn at hc
    split at hc
    · rename_i c' d' cd' sl' ho
      have z := (KX _ _ ho).symm.trans htp
      cases z
    · cases hc
  ca := fun KX e k => exc_class KX e c k
end
inductive TyX (K : PySem.W.Frag) (H : Hp) : V → Value → Prop where
  | of {x : V} {t : Value} (h : TyOf K H x t) : TyX K H x t
  | exc {a C : Addr} (e : H a = some (ExcO a C)) (c : XCls K C) : TyX K H (.ref a) (.ref C)
  | dict {a : Addr} (e : H a = some (DictO a)) : TyX K H (.ref a) (.type "dict")
noncomputable def IsX (K : PySem.W.Frag) (H : Hp) (x : V) (c : Value) (b : Bool) : Prop := ∃ t, TyX K H x t ∧ PySem.W.kitOne K t c = some b
noncomputable def rIsX (K : PySem.W.Frag) : List V → Hp → VK → Prop := fun xs H Q => match xs with
  | [x, .ty n] => ∃ b, IsX K H x (.type n) b ∧ Q (.bl b) H
  | [x, .ref C] => ∃ b, IsX K H x (.ref C) b ∧ Q (.bl b) H
  | _ => False
section
variable {X : Cx}
theorem isX_ok {A : Around} {E : Value → Shared → Prop} {Q : Value → Shared → Prop} {pins : List (Addr × Obj)} {σ : St} {H : Hp} {s : Shared} {x : V} {u c : Value} {b : Bool} (I : Inv X pins σ H s) (rx : RelV x u) (h : IsX X.K H x c b) (k : ∀ tk, Q (.bool b) { s with toks := tk }) :
    wpAny (model X.prog X.w) A (call (.builtin "isinstance") [u, c]) Q E s := by
  obtain ⟨t, ty, e⟩ := h
  cases ty with
  | of ty => exact isinst_ok I rx ty e k
  | @exc a C ea cc =>
    cases (show u = Value.ref a from rx)
    obtain ⟨p, _, _⟩ := (show ObjOk X.prog X.w H s.heap a (ExcO a C) from I.hok a _ ea)
    exact PySem.W.kia_one (kitx_exc cc) I.kIn p e (fun z => nomatch z) k
  | @dict a ea =>
    cases (show u = Value.ref a from rx)
    obtain ⟨_, _, vs, _, p⟩ := (show ObjOk X.prog X.w H s.heap a (.dK []) from I.hok a _ ea)
    obtain ⟨o, es, ep, h1, h2, _⟩ := p
    exact PySem.W.kia_one PySem.W.kitx_dict I.kIn ⟨o, h1, h2.1⟩ e (fun z => nomatch z) k
theorem call_isX : CallR X (.builtin "isinstance") (rIsX X.K) := by
  intro pins s σ H xs us Q I rs h
  unfold rIsX at h
  split at h
  · obtain ⟨u, w', rfl, r1, r2⟩ := vals2 rs
    cases r2
    obtain ⟨b, hb, q⟩ := h
    exact isX_ok I r1 hb fun tk => ⟨.bl b, H, I.tok tk, rfl, q⟩
  · obtain ⟨u, w', rfl, r1, r2⟩ := vals2 rs
    cases r2
    obtain ⟨b, hb, q⟩ := h
    exact isX_ok I r1 hb fun tk => ⟨.bl b, H, I.tok tk, rfl, q⟩
  · exact h.elim
theorem pe_isiX {e : Expr} {te : TE} {T : Str} {n : String} {p p2 pos : Pos} (he : PE X e te) (h1 : Gl X "isinstance") (h2 : X.mg "isinstance" = none) (h3 : Gl X T) (h4 : X.mg T = none) (h5 : bootBuiltins T = some (.type n)) (h6 : T ≠ "__name__" := by decide) (h7 : (T == ("__debug__" : Str)) = false := by decide)
    (s1 : starEach [e, .Name T p2] X.env = (false, eval e X.env) :: starEach [.Name T p2] X.env := by rfl) (s2 : starEach [.Name T p2] X.env = (false, eval (.Name T p2) X.env) :: starEach [] X.env := by rfl) (hpl : (backTo pos (starEach [.Name T p2] X.env)).any (·.1) = false := by rfl) :
    PE X (.Call (.Name "isinstance" p) [e, .Name T p2] [] pos) (tCB (rIsX X.K) (tCons te (tCons (tC (.ty n)) tNil))) :=
  pe_callB call_isX h1 h2 PyProof.Rows.boot_isinstance (pa_cons he (pa_cons (pe_bltn h3 h4 h5 rfl h6 h7) pa_nil s2) s1) (by decide) (by decide) s1 hpl
theorem pe_isiC {e : Expr} {te : TE} {T : Str} {C : Addr} {p p2 pos : Pos} (he : PE X e te) (h1 : Gl X "isinstance") (h2 : X.mg "isinstance" = none) (h3 : Gl X T) (h4 : X.mg T = some (.ref C)) (h7 : (T == ("__debug__" : Str)) = false := by decide)
    (s1 : starEach [e, .Name T p2] X.env = (false, eval e X.env) :: starEach [.Name T p2] X.env := by rfl) (s2 : starEach [.Name T p2] X.env = (false, eval (.Name T p2) X.env) :: starEach [] X.env := by rfl) (hpl : (backTo pos (starEach [.Name T p2] X.env)).any (·.1) = false := by rfl) :
    PE X (.Call (.Name "isinstance" p) [e, .Name T p2] [] pos) (tCB (rIsX X.K) (tCons te (tCons (tC (.ref C)) tNil))) :=
  pe_callB call_isX h1 h2 PyProof.Rows.boot_isinstance (pa_cons he (pa_cons (pe_glob h3 h4 rfl h7) pa_nil s2) s1) (by decide) (by decide) s1 hpl
end
end L2
set_option Elab.async false
set_option linter.all false
set_option maxRecDepth 100000
namespace L2
open PySem PySem.Spec PyProof.Rows
theorem same_upd {H H' : Hp} {D : Addr} {o : HO} (s : Same H H') (h : H D = none) : Same H (upd H' D o) := fun b u e => by rw [upd_ne (ne_of_none e h)]; exact s b u e
theorem same_new {H : Hp} {D : Addr} {o : HO} (h : H D = none) : Same H (upd H D o) := same_upd (Same.refl H) h
inductive Kd (K : PySem.W.Frag) (H : Hp) : V → Prop where
  | non : Kd K H .non
  | bl (b : Bool) : Kd K H (.bl b)
  | int (i : Int) : Kd K H (.int i)
  | str (x : Str) : Kd K H (.str x)
  | lst {a : Addr} {xs : List V} (e : H a = some (.lst xs)) : Kd K H (.ref a)
  | tup {a : Addr} {xs : List V} (e : H a = some (.tup xs)) : Kd K H (.ref a)
  | dict {a : Addr} (e : H a = some (DictO a)) : Kd K H (.ref a)
theorem Kd.mono {K : PySem.W.Frag} {H H' : Hp} {x : V} (k : Kd K H x) (s : Same H H') : Kd K H' x := by
  cases k with
  | non => exact .non
  | bl b => exact .bl b
  | int i => exact .int i
  | str y => exact .str y
  | lst e => exact .lst (s _ _ e)
  | tup e => exact .tup (s _ _ e)
  | dict e => exact .dict (s _ _ e)
noncomputable def isI : V → Bool
  | .int _ => true
  | .bl _ => true
  | _ => false
noncomputable def isB : V → Bool
  | .bl _ => true
  | _ => false
noncomputable def isL (H : Hp) : V → Bool
  | .ref a => match H a with
    | some (.lst _) => true
    | _ => false
  | _ => false
section
variable {K : PySem.W.Frag}
theorem k_ii : PySem.W.kitOne K (.type "int") (.type "int") = some true := by kernel_rfl
theorem k_ib : PySem.W.kitOne K (.type "int") (.type "bool") = some false := by kernel_rfl
theorem k_il : PySem.W.kitOne K (.type "int") (.type "list") = some false := by kernel_rfl
theorem k_bi : PySem.W.kitOne K (.type "bool") (.type "int") = some true := by kernel_rfl
theorem k_bb : PySem.W.kitOne K (.type "bool") (.type "bool") = some true := by kernel_rfl
theorem k_bL : PySem.W.kitOne K (.type "bool") (.type "list") = some false := by kernel_rfl
theorem k_ni : PySem.W.kitOne K (.type "NoneType") (.type "int") = some false := by kernel_rfl
theorem k_nb : PySem.W.kitOne K (.type "NoneType") (.type "bool") = some false := by kernel_rfl
theorem k_nl : PySem.W.kitOne K (.type "NoneType") (.type "list") = some false := by kernel_rfl
theorem k_si : PySem.W.kitOne K (.type "str") (.type "int") = some false := by kernel_rfl
theorem k_sb : PySem.W.kitOne K (.type "str") (.type "bool") = some false := by kernel_rfl
theorem k_sl : PySem.W.kitOne K (.type "str") (.type "list") = some false := by kernel_rfl
theorem k_li : PySem.W.kitOne K (.type "list") (.type "int") = some false := by kernel_rfl
theorem k_lb : PySem.W.kitOne K (.type "list") (.type "bool") = some false := by kernel_rfl
theorem k_ll : PySem.W.kitOne K (.type "list") (.type "list") = some true := by kernel_rfl
theorem k_ti : PySem.W.kitOne K (.type "tuple") (.type "int") = some false := by kernel_rfl
theorem k_tb : PySem.W.kitOne K (.type "tuple") (.type "bool") = some false := by kernel_rfl
theorem k_tl : PySem.W.kitOne K (.type "tuple") (.type "list") = some false := by kernel_rfl
theorem k_di : PySem.W.kitOne K (.type "dict") (.type "int") = some false := by kernel_rfl
theorem k_db : PySem.W.kitOne K (.type "dict") (.type "bool") = some false := by kernel_rfl
theorem k_dl : PySem.W.kitOne K (.type "dict") (.type "list") = some false := by kernel_rfl
variable {H : Hp} {x : V}
theorem Kd.isInt (k : Kd K H x) : IsX K H x (.type "int") (isI x) := by
  cases k with
  | non => exact ⟨_, .of .non, k_ni⟩
  | bl b => exact ⟨_, .of (.bl b), k_bi⟩
  | int i => exact ⟨_, .of (.int i), k_ii⟩
  | str y => exact ⟨_, .of (.str y), k_si⟩
  | lst e => exact ⟨_, .of (.lst e), k_li⟩
  | tup e => exact ⟨_, .of (.tup e), k_ti⟩
  | dict e => exact ⟨_, .dict e, k_di⟩
theorem Kd.isBool (k : Kd K H x) : IsX K H x (.type "bool") (isB x) := by
  cases k with
  | non => exact ⟨_, .of .non, k_nb⟩
  | bl b => exact ⟨_, .of (.bl b), k_bb⟩
  | int i => exact ⟨_, .of (.int i), k_ib⟩
  | str y => exact ⟨_, .of (.str y), k_sb⟩
  | lst e => exact ⟨_, .of (.lst e), k_lb⟩
  | tup e => exact ⟨_, .of (.tup e), k_tb⟩
  | dict e => exact ⟨_, .dict e, k_db⟩
theorem Kd.isList (k : Kd K H x) : IsX K H x (.type "list") (isL H x) := by
  cases k with
  | non => exact ⟨_, .of .non, k_nl⟩
  | bl b => exact ⟨_, .of (.bl b), k_bL⟩
  | int i => exact ⟨_, .of (.int i), k_il⟩
  | str y => exact ⟨_, .of (.str y), k_sl⟩
  | lst e => refine ⟨_, .of (.lst e), ?_⟩; simp only [isL, e]; exact k_ll
  | tup e => refine ⟨_, .of (.tup e), ?_⟩; simp only [isL, e]; exact k_tl
  | dict e => refine ⟨_, .dict e, ?_⟩; simp only [isL, e, DictO]; exact k_dl
theorem isList_lst {a : Addr} {xs : List V} (e : H a = some (.lst xs)) : IsX K H (.ref a) (.type "list") true := ⟨_, .of (.lst e), k_ll⟩
end
noncomputable def Src (J : It) (L : List V) (H : Hp) : Prop := ∀ H', Same H H' → (∀ i x, L[i]? = some x → J.go i H' ∧ ∀ y H2, J.yld i H' y H2 → y = x ∧ H2 = H') ∧ J.stop L.length H'
theorem Same.sq {K : PySem.W.Frag} {H H' : Hp} {a : Addr} {xs : List V} (e : Same H H') (h : SqL K H a xs) : SqL K H' a xs := e.seq h
theorem src_list {K : PySem.W.Frag} {a : Addr} {xs : List V} {H : Hp} (h : SqL K H a xs) : Src (Itl K a) xs H := fun H' sm =>
  ⟨fun i x e => ⟨⟨xs, x, sm.seq h, e⟩, fun y H2 ⟨q1, q2⟩ => ⟨by have := q2 xs (sm.seq h); rw [e] at this; exact (Option.some.inj this).symm, q1⟩⟩, ⟨xs, sm.seq h, Nat.le_refl _⟩⟩
theorem src_range {lo : Int} {n : Nat} {H : Hp} : Src (Itr lo n) ((List.range n).map fun (i : Nat) => V.int (lo + i)) H := fun H' sm => by
  refine ⟨fun i x e => ?_, ?_⟩
  · have hi : i < n := by
      have := (List.getElem?_eq_some_iff.mp e).1
      simpa using this
    refine ⟨hi, fun y H2 ⟨q1, q2⟩ => ⟨?_, q1⟩⟩
    rw [List.getElem?_map, List.getElem?_range hi] at e
    rw [q2]
    exact Option.some.inj e
  · show n ≤ _
    simp
theorem comp_fm {J : It} {L : List V} {k : Nat} {tt : TT} {te : TE} {D : Addr} {σ0 : St} {H : Hp} {Fn : Hp → Prop} (f : V → V) (p : V → Bool) (S : Src J L H) (hn : L.length ≤ sizeLine) (hD : H D = none)
    (ht : ∀ x ∈ L, ∀ (H' : Hp) (Qb : Bool → Hp → Prop), Same H H' → (∀ H'', Same H' H'' → Qb (p x) H'') → tt (σ0.set k (some x)) H' Qb)
    (he : ∀ x ∈ L, p x = true → ∀ (H' : Hp) (Q : VK), Same H H' → (∀ H'', Same H' H'' → Q (f x) H'') → te (σ0.set k (some x)) H' Q)
    (hd : ∀ H', Same H H' → H' D = some (.lst ((L.filter p).map f)) → Fn H') :
    ∃ W : Nat → Nat → St → Hp → Prop, (∃ m, W 0 m σ0 (upd H D (.lst []))) ∧ ∀ i m σ' H', W i m σ' H' →
      (J.stop i H' ∧ Fn H') ∨ (J.go i H' ∧ ∃ N : St → Hp → Prop, (∀ σ2 H2, N σ2 H2 → ∃ m', m' < m ∧ W (i + 1) m' σ2 H2) ∧ ∀ x H2, J.yld i H' x H2 → gName k x σ' H2 fun σ3 H3 => tt σ3 H3 fun b H4 =>
        if b = true then te σ3 H4 fun v H5 => ∃ xs, H5 D = some (.lst xs) ∧ xs.length < sizeLine ∧ N σ3 (upd H5 D (.lst (xs ++ [v]))) else N σ3 H4) := by
  refine ⟨fun i m σ' H' => m = L.length - i ∧ i ≤ L.length ∧ (∀ y, σ'.set k y = σ0.set k y) ∧ Same H H' ∧ H' D = some (.lst (((L.take i).filter p).map f)), ⟨L.length, rfl, Nat.zero_le _, fun _ => rfl, same_new hD, by rw [upd_same]; rfl⟩, ?_⟩
  rintro i m σ' H' ⟨rfl, hi, hσ, sm, hH⟩
  by_cases hlt : i < L.length
  · have hx : L[i]? = some L[i] := by simp [hlt]
    obtain ⟨go, yl⟩ := (S H' sm).1 i _ hx
    refine .inr ⟨go, fun σ2 H2 => (∀ y, σ2.set k y = σ0.set k y) ∧ Same H H2 ∧ H2 D = some (.lst (((L.take (i + 1)).filter p).map f)), ?_, ?_⟩
    · rintro σ2 H2 ⟨q1, q2, q3⟩
      exact ⟨L.length - (i + 1), by omega, rfl, hlt, q1, q2, q3⟩
    · intro x H2 y
      obtain ⟨rfl, rfl⟩ := yl x H2 y
      show tt (σ'.set k (some L[i])) H2 _
      rw [hσ]
      have hm : L[i] ∈ L := List.getElem_mem hlt
      have tk : L.take (i + 1) = L.take i ++ [L[i]] := by rw [List.take_add_one, hx]; rfl
      refine ht _ hm H2 _ sm fun H4 s4 => ?_
      cases hp : p L[i] with
      | true =>
        refine iteT (he _ hm hp H4 _ (sm.trans s4) fun H5 s5 => ⟨_, s5 D _ (s4 D _ hH), ?_, fun y => by rw [List.set_set], same_upd (sm.trans (s4.trans s5)) hD, ?_⟩)
        · have h1 : (((L.take i).filter p).map f).length ≤ (L.take i).length := by rw [List.length_map]; exact List.length_filter_le _ _
          rw [List.length_take] at h1
          omega
        · rw [upd_same, tk, List.filter_append, List.map_append]
          simp [hp]
      | false =>
        refine iteF ⟨fun y => by rw [List.set_set], sm.trans s4, ?_⟩
        rw [tk, List.filter_append, List.filter_cons_of_neg (by simp [hp])]
        simpa using s4 D _ hH
  · have e : i = L.length := by omega
    subst e
    exact .inl ⟨(S H' sm).2, hd H' sm (by rw [hH, List.take_length])⟩
structure PicV (H : Hp) (a : Addr) (ps : List Addr) (R : List (List V)) : Prop where
  top : H a = some (.lst (ps.map V.ref))
  row : Paired (fun p r => H p = some (.lst r)) ps R
  nd : ps.Nodup
  out : a ∉ ps
noncomputable def Fresh (H : Hp) (ps : List Addr) : Prop := ∀ q ∈ ps, H q = none
theorem Paired.mapI {α β : Type} {F G : α → β → Prop} : ∀ {l₁ : List α} {l₂ : List β}, Paired F l₁ l₂ → (∀ a b, a ∈ l₁ → F a b → G a b) → Paired G l₁ l₂
  | _, _, .nil, _ => .nil
  | _, _, .cons r t, f => .cons (f _ _ List.mem_cons_self r) (Paired.mapI t fun a b h => f a b (List.mem_cons_of_mem _ h))
theorem Paired.app {α β : Type} {F : α → β → Prop} : ∀ {l₁ m₁ : List α} {l₂ m₂ : List β}, Paired F l₁ l₂ → Paired F m₁ m₂ → Paired F (l₁ ++ m₁) (l₂ ++ m₂)
  | _, _, _, _, .nil, q => q
  | _, _, _, _, .cons r t, q => .cons r (Paired.app t q)
theorem Paired.getL {α β : Type} {F : α → β → Prop} : ∀ {l₁ : List α} {l₂ : List β} {i : Nat} {a : α}, Paired F l₁ l₂ → l₁[i]? = some a → ∃ b, l₂[i]? = some b ∧ F a b
  | _, _, _, _, .nil, e => by simp at e
  | _, _, 0, _, .cons r t, e => by simp at e; subst e; exact ⟨_, rfl, r⟩
  | _, _, i + 1, a, .cons r t, e => by
    obtain ⟨b, h1, h2⟩ := Paired.getL (i := i) (a := a) t (by simpa using e)
    exact ⟨b, by simpa using h1, h2⟩
section
variable {H H' : Hp} {a : Addr} {ps : List Addr} {R : List (List V)}
theorem PicV.mono (p : PicV H a ps R) (s : Same H H') : PicV H' a ps R := ⟨s _ _ p.top, Paired.mapI p.row fun _ _ _ e => s _ _ e, p.nd, p.out⟩
theorem PicV.len (p : PicV H a ps R) : ps.length = R.length := Paired.length p.row
theorem PicV.at {i : Nat} {q : Addr} (p : PicV H a ps R) (h : ps[i]? = some q) : ∃ r, R[i]? = some r ∧ H q = some (.lst r) := Paired.getL p.row h
theorem PicV.mem (p : PicV H a ps R) {q : Addr} (hq : q ∈ ps) : ∃ r, r ∈ R ∧ H q = some (.lst r) := by
  obtain ⟨i, hi⟩ := List.mem_iff_getElem?.mp hq
  obtain ⟨r, hr, e⟩ := p.at hi
  exact ⟨r, List.mem_of_getElem? hr, e⟩
end
theorem comp_rows {J : It} {L : List V} {k : Nat} {te : TE} {D : Addr} {σ0 : St} {H : Hp} {Fn : Hp → Prop} (g : V → List V) (S : Src J L H) (hn : L.length ≤ sizeLine) (hD : H D = none)
    (he : ∀ x ∈ L, ∀ (H' : Hp) (Q : VK), Same H H' → (∀ q H'', Same H' H'' → H' q = none → H'' q = some (.lst (g x)) → Q (.ref q) H'') → te (σ0.set k (some x)) H' Q)
    (hd : ∀ ps H', Same H H' → Fresh H ps → PicV H' D ps (L.map g) → Fn H') :
    ∃ W : Nat → Nat → St → Hp → Prop, (∃ m, W 0 m σ0 (upd H D (.lst []))) ∧ ∀ i m σ' H', W i m σ' H' →
      (J.stop i H' ∧ Fn H') ∨ (J.go i H' ∧ ∃ N : St → Hp → Prop, (∀ σ2 H2, N σ2 H2 → ∃ m', m' < m ∧ W (i + 1) m' σ2 H2) ∧ ∀ x H2, J.yld i H' x H2 → gName k x σ' H2 fun σ3 H3 => tTrue σ3 H3 fun b H4 =>
        if b = true then te σ3 H4 fun v H5 => ∃ xs, H5 D = some (.lst xs) ∧ xs.length < sizeLine ∧ N σ3 (upd H5 D (.lst (xs ++ [v]))) else N σ3 H4) := by
  refine ⟨fun i m σ' H' => m = L.length - i ∧ i ≤ L.length ∧ (∀ y, σ'.set k y = σ0.set k y) ∧ Same H H' ∧ ∃ ps, Fresh H ps ∧ PicV H' D ps ((L.take i).map g), ⟨L.length, rfl, Nat.zero_le _, fun _ => rfl, same_new hD, [], (fun q h => nomatch h), ⟨by rw [upd_same]; rfl, .nil, List.nodup_nil, by simp⟩⟩, ?_⟩
  rintro i m σ' H' ⟨rfl, hi, hσ, sm, ps, fr, pic⟩
  by_cases hlt : i < L.length
  · have hx : L[i]? = some L[i] := by simp [hlt]
    obtain ⟨go, yl⟩ := (S H' sm).1 i _ hx
    refine .inr ⟨go, fun σ2 H2 => (∀ y, σ2.set k y = σ0.set k y) ∧ Same H H2 ∧ ∃ ps, Fresh H ps ∧ PicV H2 D ps ((L.take (i + 1)).map g), ?_, ?_⟩
    · rintro σ2 H2 ⟨q1, q2, q3⟩
      exact ⟨L.length - (i + 1), by omega, rfl, hlt, q1, q2, q3⟩
    · intro x H2 y
      obtain ⟨rfl, rfl⟩ := yl x H2 y
      simp only [gName, tTrue, if_true]
      rw [hσ]
      have hm : L[i] ∈ L := List.getElem_mem hlt
      have tk : L.take (i + 1) = L.take i ++ [L[i]] := by rw [List.take_add_one, hx]; rfl
      have hl : ps.length = i := by have := pic.len; rw [List.length_map, List.length_take] at this; omega
      refine he _ hm H2 _ sm fun q H5 s5 hq hq5 => ⟨_, s5 D _ pic.top, by rw [List.length_map, hl]; omega, fun y => by rw [List.set_set], same_upd (sm.trans s5) hD, ps ++ [q], ?_, ?_⟩
      · intro c hc
        rcases List.mem_append.mp hc with hc | hc
        · exact fr c hc
        · have e : c = q := by simpa using hc
          subst e
          exact sm.free hq
      · have nq : q ∉ ps := fun z => by
          obtain ⟨r, _, e⟩ := pic.mem z
          rw [hq] at e; cases e
        have nD : D ≠ q := ne_of_none pic.top hq
        refine ⟨by rw [upd_same, List.map_append]; rfl, ?_, ?_, ?_⟩
        · rw [tk, List.map_append]
          refine Paired.app (Paired.mapI pic.row fun c r hc e => ?_) (.cons ?_ .nil)
          · have ne : c ≠ D := fun z => pic.out (by rw [← z]; exact hc)
            rw [upd_ne ne]
            exact s5 _ _ e
          · rw [upd_ne (Ne.symm nD)]
            exact hq5
        · rw [List.nodup_append]
          exact ⟨pic.nd, by simp, fun c hc d hd z => by
            have e : d = q := by simpa using hd
            subst e; subst z
            exact nq hc⟩
        · intro z
          rcases List.mem_append.mp z with z | z
          · exact pic.out z
          · exact nD (by simpa using z)
  · have e : i = L.length := by omega
    subst e
    exact .inl ⟨(S H' sm).2, hd ps H' sm fr (by rw [List.take_length] at pic; exact pic)⟩
end L2
set_option Elab.async false
set_option linter.all false
set_option maxRecDepth 100000
namespace L2
open PySem PySem.Spec PyProof.Rows
section
variable {X : Cx} (K : PySem.W.Frag)
theorem ixK (h : X.K = K) : IxR X (rIxL K) := by subst h; exact ix_list
theorem slK (h : X.K = K) : SlR X (rSlL K) := by subst h; exact sl_list
theorem lenK (h : X.K = K) : CallR X (.builtin "len") (fun xs H Q => ∃ p ys, xs = [.ref p] ∧ (SqL K H p ys ∨ SqT K H p ys) ∧ Q (.int ys.length) H) := by subst h; exact call_len_seq
theorem listK (h : X.K = K) : CallR X (.type "list") (fun xs H Q => ∃ p ys, xs = [.ref p] ∧ (SqL K H p ys ∨ SqT K H p ys) ∧ ∀ l, H l = none → Q (.ref l) (upd H l (.lst ys))) := by subst h; exact call_list_of
theorem allK (h : X.K = K) (hc : X.calm = true) : CallR X (.builtin "all") (rAll K) := by subst h; exact call_all hc
theorem eqDK (h : X.K = K) (hu : X.A.units + 64 < cLine) : OpR X (compareOp .Eq) (rEqD K false) := by subst h; exact op_eqD hu
theorem neDK (h : X.K = K) (hu : X.A.units + 64 < cLine) : OpR X (compareOp .NotEq) (rEqD K true) := by subst h; exact op_neD hu
theorem piK {tg l : Expr} {tl : TE} (h : X.K = K) (hl : PE X l tl) : PI X tg l (iList K tl) := by subst h; exact pi_list hl
theorem isiK {e : Expr} {te : TE} {T : Str} {n : String} {p p2 pos : Pos} (h : X.K = K) (he : PE X e te) (h1 : Gl X "isinstance") (h2 : X.mg "isinstance" = none) (h3 : Gl X T) (h4 : X.mg T = none) (h5 : bootBuiltins T = some (.type n)) (h6 : T ≠ "__name__" := by decide) (h7 : (T == ("__debug__" : Str)) = false := by decide)
    (s1 : starEach [e, .Name T p2] X.env = (false, eval e X.env) :: starEach [.Name T p2] X.env := by rfl) (s2 : starEach [.Name T p2] X.env = (false, eval (.Name T p2) X.env) :: starEach [] X.env := by rfl) (hpl : (backTo pos (starEach [.Name T p2] X.env)).any (·.1) = false := by rfl) :
    PE X (.Call (.Name "isinstance" p) [e, .Name T p2] [] pos) (tCB (rIsX K) (tCons te (tCons (tC (.ty n)) tNil))) := by
  subst h; exact pe_isiX he h1 h2 h3 h4 h5 h6 h7 s1 s2 hpl
theorem isiCK {e : Expr} {te : TE} {T : Str} {C : Addr} {p p2 pos : Pos} (h : X.K = K) (he : PE X e te) (h1 : Gl X "isinstance") (h2 : X.mg "isinstance" = none) (h3 : Gl X T) (h4 : X.mg T = some (.ref C)) (h7 : (T == ("__debug__" : Str)) = false := by decide)
    (s1 : starEach [e, .Name T p2] X.env = (false, eval e X.env) :: starEach [.Name T p2] X.env := by rfl) (s2 : starEach [.Name T p2] X.env = (false, eval (.Name T p2) X.env) :: starEach [] X.env := by rfl) (hpl : (backTo pos (starEach [.Name T p2] X.env)).any (·.1) = false := by rfl) :
    PE X (.Call (.Name "isinstance" p) [e, .Name T p2] [] pos) (tCB (rIsX K) (tCons te (tCons (tC (.ref C)) tNil))) := by
  subst h; exact pe_isiC he h1 h2 h3 h4 h7 s1 s2 hpl
end
open C5
section
variable {X : Cx} {sc : Scope} {N : List Str} {src : List (Option Nat)}
theorem ps_setC {x : Str} {ix : Nat} {p1 spos : Pos} {elt tgt iter : Expr} {ifs : List Expr} {wi : TI} {g : TG} {tt : TT} {te : TE} {pos : Pos} (hN : X.N.Nodup) (hix : X.N[ix]? = some x) (hxl : X.env.scope.names.lookup x = some .local) (hc : X.calm = true) (B : BkScope X.env.scope sc X.N N src) (hi : PI X tgt iter wi)
    (hg : ∀ (s : Shared) (H : Hp) (C : Addr) (fp : List Addr), PG (cxB X sc N fp C s H) tgt g) (ht : ∀ (s : Shared) (H : Hp) (C : Addr) (fp : List Addr), PTs (cxB X sc N fp C s H) ifs tt)
    (he : ∀ (s : Shared) (H : Hp) (C : Addr) (fp : List Addr), PE (cxB X sc N fp C s H) elt te) (hs : ∀ x, foldedSetIterable iter X.env x = pure x := by intro _; rfl)
    (hsw : swapsWith (.ListComp elt [⟨tgt, iter, ifs, 0⟩] sc pos) (some (.Name x p1)) spos.line X.env = pure true := by rfl) :
    PS X (.Assign [.Name x p1] (.ListComp elt [⟨tgt, iter, ifs, 0⟩] sc pos) spos) (tAsg (tComp src wi g tt te) (gName ix)) := by
  intro pins s σ H D I h
  rw [exec_Assign_Name_used _ _ _ _ hsw]
  refine wpAny_bind (wpAny_standAt (wpAny_bind ?_))
  show wpAny _ X.A (do let _ ← comprehension (.ListComp elt [⟨tgt, iter, ifs, 0⟩] sc pos) sc X.env _ (newList []) false (eval iter X.env) (some (assign (.Name x p1) X.env))) _ _ s
  have has := B.has rfl I.ok
  refine wpAny_bind (wpAny_mono (wpAny_comprehension_free (use := some (assign (.Name x p1) X.env)) (Q := fun _ s' => SP X pins D .next s') rfl hs (clos_of has) B.kind (fun y hy hk => by have := B.look (x := y.1) (k := y.2) hy; rw [hk] at this; exact this)
    (thn (hi pins s σ H _ I h) fun v s1 h1 => thn h1 fun itv s2 h2 => ?_)) (fun _ s' hq => wpAny_pure (wpAny_pure hq)) fun _ _ z => z)
  obtain ⟨it, fp, tn, J, H2, e, I2, T, st2, f2, q⟩ := h2
  subst e
  refine wpAny_newObj_type (newBlock ?_)
  obtain ⟨W, ⟨m0, w0⟩, turn⟩ := q s2.heap.objs.size (I2.hok.fresh (Nat.le_refl _))
  have hlt : ∀ b ∈ fp, b < s2.heap.objs.size := fun b hb => by
    obtain ⟨o, ho, _⟩ := T.obj 0 _ st2 b hb
    exact Heap.lt_size ho
  have szL : (s2.heap.push { cls := .type "list", dict := none, data := .seq ([] : List Value).toArray } : Heap).objs.size = s2.heap.objs.size + 1 := Heap.size_push ..
  generalize hh1 : pushCells ((s2.heap.push { cls := .type "list", dict := none, data := .seq ([] : List Value).toArray } : Heap).push { cls := .type "dict", data := .dict #[] }) sc.names = hB
  have IB := I2.block (C := (s2.heap.push { cls := .type "list", dict := none, data := .seq ([] : List Value).toArray } : Heap).objs.size) (t := s2.toks) B f2 hlt szL hh1.symm
  generalize (s2.heap.push { cls := .type "list", dict := none, data := .seq ([] : List Value).toArray } : Heap).objs.size = C at IB szL ⊢
  have keepB : ∀ b o, s2.heap.get? b = some o → hB.get? b = some o := fun b o e => by
    rw [← hh1]
    exact pushCells_keeps _ _ b o (Heap.get?_push_of_some _ (Heap.get?_push_of_some _ e))
  have stB : tn 0 hB := T.keep 0 _ _ st2 fun b _ o e => keepB b o e
  have frB : ∀ b ∈ fp, upd H2 s2.heap.objs.size (.lst []) b = none := fun b hb => by
    rw [upd_ne (Nat.ne_of_lt (hlt b hb))]
    exact (f2 b hb).1
  have stat : ∀ {H' : Hp}, (∀ b ∈ fp, H' b = none) → ∀ b ∈ fp, FpOk (cxB X sc N fp C s2 H2) [] H' b := fun {H'} hn b hb => by
    obtain ⟨z1, z2⟩ := IB.ok.exf b hb
    exact ⟨hn b hb, z1, IB.ok.exfs b hb, .inl hb, z2, fun p hp => absurd (show p ∈ ([] : List (Addr × Obj)) from hp) (by simp)⟩
  show codeAny (model X.prog X.w) X.A (.compStart (.ListComp elt [⟨tgt, iter, ifs, 0⟩] sc pos) 0 (.ref it) (.ref s2.heap.objs.size) (bkEnv sc (clOf sc X.env) C X.env)) (compPost (model X.prog X.w) X.A X.xe (some (assign (.Name x p1) X.env)) (fun _ s' => SP X pins D .next s') (.ref s2.heap.objs.size) C) { s2 with heap := hB }
  have loop : codeAny (model X.prog X.w) X.A (.compLoop (.ListComp elt [⟨tgt, iter, ifs, 0⟩] sc pos) 0 (.ref it) (.ref s2.heap.objs.size) (bkEnv sc (clOf sc X.env) C X.env))
      (compPost (model X.prog X.w) X.A X.xe (some (assign (.Name x p1) X.env)) (fun _ s' => SP X pins D .next s') (.ref s2.heap.objs.size) C) { s2 with heap := hB } := by
    refine compLoop_go (fun n s' => ∃ i σ' H', Inv (cxB X sc N fp C s2 H2) [] σ' H' s' ∧ tn i s'.heap ∧ (∀ b ∈ fp, H' b = none) ∧ W i n σ' H') ?_ m0 ⟨0, _, _, IB, stB, frB, w0⟩
    rintro n s3 ⟨i, σ3, H3, I3, st3, fr3, w3⟩
    rcases turn i n σ3 H3 w3 with ⟨stop, qn⟩ | ⟨go, N', hN, step⟩
    · refine thn (T.done (cxB X sc N fp C s2 H2) rfl rfl rfl hc i [] s3 σ3 H3 _ I3 (stat fr3) st3 stop) fun r s4 ⟨hr, I4⟩ => ?_
      subst hr
      obtain ⟨m, hn, _⟩ := I4.loc
      have ltC : ∀ b o, s2.heap.get? b = some o → b ≠ C := fun b o e => Nat.ne_of_lt (show @LT.lt Nat instLTNat b C by have : @LT.lt Nat instLTNat b s2.heap.objs.size := Heap.lt_size e; omega)
      have base := I4.base
      have freeC : H3 C = none := I4.free
      have J : Inv X pins σ H3 s4 := by
        refine I2.call' (s' := s4) (ch := fp) I4.os ⟨base.keep, base.slot, base.free, base.there, base.tups, base.frzs, base.tbls⟩ I4.hok I4.bare (fun b hb => ?_)
        obtain ⟨f0, f1, f2', f3, f4, f5⟩ := f2 b hb
        exact ⟨f3, f1, f4, f5⟩
      have neL : C ≠ X.env.locals := fun z => by
        obtain ⟨m', ⟨o, _, _, ho, _⟩, _⟩ := I2.loc
        exact ltC _ o ho z.symm
      have neCell : ∀ y c, X.env.cells.lookup y = some c → c ≠ C := fun y c e => by
        obtain ⟨v', o, ho, _⟩ := I2.cell y c e
        exact ltC c o ho
      show wpAny (model X.prog X.w) X.A (assign (.Name x p1) X.env (.ref s2.heap.objs.size)) _ _ s4
      refine wpAny_assign_Name (store_ok2 J hN hix (.inl hxl) (show RelV (.ref s2.heap.objs.size) (.ref s2.heap.objs.size) from rfl) (fun s5 J5 hsb => ?_) (.inr hxl))
      obtain ⟨a, sb, ha⟩ := hsb
      have neA : C ≠ a := by
        rcases ha with z | z
        · rw [z]; exact neL
        · exact fun q => neCell _ _ z q.symm
      refine ⟨m, hn.sameBut sb neA, fun h' hs' => ?_⟩
      refine ⟨_, H3, J5.turned (t' := s5.toks) (it := C) (fun b o hb e => (hs'.2 b hb).trans e) freeC neL (.inr ?_) neCell (fun p hp => ltC p.1 p.2 (I2.pin p hp).1), qn⟩
      exact Nat.le_trans I2.sz (show @LE.le Nat instLENat s2.heap.objs.size C by omega)
    · refine thn (T.item (cxB X sc N fp C s2 H2) rfl rfl rfl hc i [] s3 σ3 H3 _ I3 (stat fr3) st3 go) fun r s4 ⟨u, hr, h4⟩ => ?_
      subst hr
      refine thn h4 fun _ s5 ⟨x, H5, I5, r5, y5, st5, fr5⟩ => ?_
      have I5' := I5.pinned (stat fr5) (T.obj _ _ st5)
      have again : ∀ {s7 : Shared} {σ7 : St} {H7 : Hp}, Inv (cxB X sc N fp C s2 H2) ([] ++ pinsAt fp s5.heap) σ7 H7 s7 → N' σ7 H7 → ∃ m, m < n ∧ ∃ i σ' H', Inv (cxB X sc N fp C s2 H2) [] σ' H' s7 ∧ tn i s7.heap ∧ (∀ b ∈ fp, H' b = none) ∧ W i m σ' H' := fun {s7 σ7 H7} I7 n7 => by
        obtain ⟨m', hm, w7⟩ := hN σ7 H7 n7
        refine ⟨m', hm, i + 1, σ7, H7, I7.unpinned, T.keep _ _ _ st5 fun b hb o e => (I7.pin (b, o) (List.mem_append_right _ (List.mem_append_right _ (mem_pinsAt hb e)))).1, fun b hb => ?_, w7⟩
        obtain ⟨o, e, d⟩ := T.obj _ _ st5 b hb
        exact (I7.pin (b, o) (List.mem_append_right _ (List.mem_append_right _ (mem_pinsAt hb e)))).2.1
      refine thn (hg s2 H2 C fp _ s5 σ3 H5 x u _ I5' r5 (step x H5 y5)) fun _ s6 ⟨σ6, H6, I6, q6⟩ => ?_
      refine thn (ht s2 H2 C fp _ s6 σ6 H6 _ I6 q6) fun b s7 ⟨H7, I7, q7⟩ => ?_
      cases b with
      | false =>
        rw [if_neg Bool.false_ne_true] at q7 ⊢
        exact again I7 q7
      | true =>
        rw [if_pos rfl] at q7 ⊢
        refine thn (he s2 H2 C fp _ s7 σ6 H7 _ I7 q7) fun u8 s8 ⟨v8, H8, I8, r8, xs, hD, hz, n8⟩ => ?_
        exact thn (mt_append (X := cxB X sc N fp C s2 H2) _ s8 σ6 H8 (.ref s2.heap.objs.size) [v8] (.ref s2.heap.objs.size) [u8] (fun _ H => N' σ6 H) I8 rfl (.cons r8 .nil) ⟨_, xs, v8, rfl, rfl, hD, hz, n8⟩) fun _ s9 ⟨_, H9, I9, _, n9⟩ => again I9 n9
  exact codeAny_compStart_list loop (T.self _ 0 _ _ _ stB loop)
end
end L2
namespace L2
open PySem
theorem exm_mk {K : PySem.W.Frag} {C F : Addr} (h1 : PySem.W.subIn K (.ref F) (.type "BaseException") = some true) (h2 : PySem.W.isClsIn K F = true) (h3 : PySem.W.typeIn K (.ref F) = some (.type "type")) (h4 : PySem.W.subIn K (.ref C) (.ref F) = some true) : PySem.W.exmOne K (.ref C) (.ref F) = some true := by
  unfold PySem.W.exmOne PySem.W.kitCls
  have h2' : (PySem.W.clsIn K F).isSome = true := h2
  rw [h1, if_pos (by decide)]
  dsimp only
  rw [h2', h3, if_pos (by simp), h4]
end L2
set_option Elab.async false
set_option linter.all false
set_option maxRecDepth 100000
namespace L2
open PySem PySem.Spec PyProof.Rows
section
variable {X : Cx}
end
end L2
set_option Elab.async false
set_option linter.all false
set_option maxRecDepth 100000
namespace L2
open PySem PySem.Spec PyProof.Rows
noncomputable def Ite (K : PySem.W.Frag) (a : Addr) : It :=
  ⟨fun i H => ∃ xs x, SqL K H a xs ∧ xs[i]? = some x,
   fun i H v H' => ∃ T x, v = .ref T ∧ H T = none ∧ H' = upd H T (.tup [.int (i : Int), x]) ∧ ∀ xs, SqL K H a xs → xs[i]? = some x,
   fun i H => ∃ xs, SqL K H a xs ∧ xs.length ≤ i⟩
noncomputable def ESt (e it a : Addr) (i : Nat) (h : Heap) : Prop := (∃ old, IsEnum h e it (i : Int) old) ∧ h.IsListIter it a i
theorem turn_enum {P : Program} {w : World} {K : PySem.W.Frag} {elts : List Expr} {x1} {pos : Pos} {e it a : Addr} (D : e ≠ it) :
    Turn P w K (.Tuple elts x1 pos) (Ite K a) [e, it] e (ESt e it a) where
  mem := by simp
  obj := fun i h st c hc => by
    obtain ⟨⟨old, s1⟩, ⟨o4, e4, c4, d4⟩⟩ := st
    simp only [List.mem_cons, List.not_mem_nil, or_false] at hc
    rcases hc with rfl | rfl
    · exact ⟨_, s1, fun v e => by cases e⟩
    · exact ⟨_, e4, fun v e => by rw [d4] at e; cases e⟩
  keep := fun i h h' st k => by
    obtain ⟨⟨old, s1⟩, s4⟩ := st
    exact ⟨⟨old, k e (by simp) _ s1⟩, s4.at fun o q => k it (by simp) o q⟩
  item := by
    intro X hP hw hK hc i pins s σ H E I hf st hg
    subst hP hw hK
    obtain ⟨⟨old, s1⟩, s4⟩ := st
    obtain ⟨xs, x, hx, ex⟩ := hg
    obtain ⟨its, r, pl, _⟩ := I.list hx
    obtain ⟨v1, hv1, rv1⟩ := r.get ex
    refine wpAny_pyNext_enum_item s1 s4 pl.isList (x := v1) (by simpa using hv1) D fun h' a1 a2 a5 a6 hk => ?_
    have fresh : H s.heap.objs.size = none := I.hok.fresh (Nat.le_refl _)
    have inF : ∀ c, c ∈ [e, it] → FpOk X pins H c := fun c hc => hf c hc
    have hk' : ∀ c o, c ∉ [e, it] → s.heap.get? c = some o → h'.get? c = some o := fun c o hc q => by
      simp only [List.mem_cons, List.not_mem_nil, or_false, not_or] at hc
      exact hk c o hc.1 hc.2 q
    have nF : ∀ c u, H c = some u → c ∉ [e, it] := fun c u q hc => by have := (inF c hc).1; rw [q] at this; cases this
    have I1 : Inv X pins σ (upd H s.heap.objs.size (.tup [.int (i : Int), x])) { s with heap := h', toks := s.toks + 1 } := by
      refine I.step (g' := s.gens) (d' := s.drawn) (t' := s.toks + 1) (ch := [e, it]) (fun c hc => ?_) (fun c o _ _ hc e _ => hk' c o hc e) (fun c o _ _ hc e _ => ⟨o.slots, hk' c o hc e⟩) (fun c o hc e n => ?_)
        (fun c o hc e => ⟨o, hk' c o hc e⟩) (fun c zs e => ?_) (fun c o u e => ?_) (fun c ps e => ?_) (fun m hm => ?_) (fun c u e => ?_) I.bare
      · obtain ⟨f0, f1, f2, f3, f4, f5⟩ := inF c hc
        exact ⟨f3, f1, f4, f5⟩
      · rw [upd_ne (Nat.ne_of_lt (Heap.lt_size e))]; exact n
      · rw [upd_ne (ne_of_none e fresh)]; exact e
      · rw [upd_ne (ne_of_none e fresh)]; exact e
      · exact ⟨#[], by rw [upd_ne (ne_of_none e fresh), e]; simp⟩
      · obtain ⟨o, es, ep, ho, rr⟩ := hm
        exact ⟨o, es, ep, hk' _ o (fun hc => (inF _ hc).2.1 rfl) ho, rr⟩
      · by_cases hce : c = s.heap.objs.size
        · subst hce
          rw [upd_same] at e
          cases e
          exact ⟨by show 2 ≤ sizeLine; decide, [_, v1], .cons ⟨_, rfl⟩ (.cons rv1 .nil), ⟨_, a5, rfl, _, rfl⟩⟩
        · rw [upd_ne hce] at e
          refine (I.hok c u e).stay (fun d o hd q => hk' d o ?_ q) (fun d q => ?_) fun d zs q => ?_
          · rcases hd with z1 | z1
            · rw [z1]; exact nF c u e
            · exact nF d _ z1
          · rw [upd_ne (ne_of_none q fresh)]; exact q
          · rw [upd_ne (ne_of_none q fresh)]; exact q
    refine ⟨_, rfl, wpAny_letOwnedTupleGo_enum a1 fun h2 hz2 hs2 => ?_⟩
    obtain ⟨f0, f1, f2, f3, f4, f5⟩ := inF e (by simp)
    have nez : e ≠ s.heap.objs.size := Nat.ne_of_lt (Heap.lt_size s1)
    have I2 : Inv X pins σ (upd H s.heap.objs.size (.tup [.int (i : Int), x])) { s with heap := h2, toks := s.toks + 1 } := I1.turned (t' := s.toks + 1) (fun c o hc e => hs2.extBut c o hc e) (by rw [upd_ne nez]; exact f0) f1 f3 f4 f5
    refine ⟨.ref s.heap.objs.size, _, I2, rfl, ⟨_, x, rfl, fresh, rfl, fun zs q1 => by rw [I.list_inj q1 hx]; exact ex⟩, ⟨⟨v1, ?_⟩, a2.extBut hs2.extBut (Ne.symm D)⟩, fun c hc => ?_⟩
    · have q : ((i + 1 : Nat) : Int) = (i : Int) + 1 := by push_cast; rfl
      rw [q]; exact hz2
    obtain ⟨o, ho⟩ : ∃ o, s.heap.get? c = some o := by
      simp only [List.mem_cons, List.not_mem_nil, or_false] at hc
      obtain ⟨o4, e4, _⟩ := s4
      rcases hc with rfl | rfl
      · exact ⟨_, s1⟩
      · exact ⟨_, e4⟩
    rw [upd_ne (Nat.ne_of_lt (Heap.lt_size ho))]
    exact (inF c hc).1
  done := by
    intro X hP hw hK hc i pins s σ H E I hf st hg
    subst hP hw hK
    obtain ⟨⟨old, s1⟩, s4⟩ := st
    obtain ⟨xs, hx, hl⟩ := hg
    obtain ⟨its, r, pl, _⟩ := I.list hx
    have l1 := r.length
    obtain ⟨f0, f1, f2, f3, f4, f5⟩ := hf it (by simp)
    refine wpAny_pyNext_enum_end (I.ok.hd hc) s1 s4 pl.isList (by simp; omega) fun h' hk => ⟨rfl, ?_⟩
    exact I.turned (t' := s.toks) (fun c o hc e => hk c o hc e) f0 f1 f3 f4 f5
  self := fun _ _ _ _ _ st h => by obtain ⟨⟨old, s1⟩, _⟩ := st; exact wpAny_pyIter_enum s1 h
noncomputable def iEnum (K : PySem.W.Frag) (ta : TA) : TI := fun σ H R => ta σ H fun vs H1 => ∃ a, vs = [.ref a] ∧ (∃ xs, SqL K H1 a xs) ∧ R (Ite K a) H1
section
variable {X : Cx}
theorem pi_enum {a : Expr} {ta : TA} {p pos : Pos} {elts : List Expr} {x1} {tpos : Pos} (hg : Gl X "enumerate") (hm : X.mg "enumerate" = none) (ha : PA X [a] ta) (hs : starEach [a] X.env = [(false, eval a X.env)] := by rfl) :
    PI X (.Tuple elts x1 tpos) (.Call (.Name "enumerate" p) [a] [] pos) (iEnum X.K ta) := by
  intro pins s σ H R I h
  refine Call_ (ld_blt I hg hm boot_enumerate (PyProof.Rows.callWith_type1 (thn (ha pos pins s σ H _ I h) fun us s1 ⟨vs, H1, I1, r1, q1⟩ => ?_) (by rw [hs]; rfl) (by rfl)))
  obtain ⟨l1, e, ⟨xs, hx⟩, q⟩ := q1
  subst e
  obtain ⟨u1, rfl, ru1⟩ := Vals.one r1
  cases ru1
  obtain ⟨its, r, pl, _⟩ := I1.list hx
  refine call_enumerate_list pl.isList fun h' a1 a4 a6 hk => ?_
  have I2 : Inv X pins σ H1 { s1 with heap := h' } := I1.kept (t' := s1.toks) hk
  refine wpAny_pyIter_enum (s := { s1 with heap := h' }) a1 ?_
  refine ⟨s1.heap.objs.size + 1, [s1.heap.objs.size + 1, s1.heap.objs.size], _, Ite X.K l1, H1, rfl, I2, turn_enum (Nat.succ_ne_self _), ⟨⟨_, a1⟩, a4⟩, fun c hc => ?_, q⟩
  have hle : s1.heap.objs.size ≤ c := by
    simp only [List.mem_cons, List.not_mem_nil, or_false] at hc
    show @LE.le Nat instLENat s1.heap.objs.size c
    rcases hc with e | e <;> (rw [e]; omega)
  exact I1.fpOk hle (I1.hok.fresh hle)
end
theorem for_enum {K : PySem.W.Frag} {a : Addr} {xs : List V} {g : TG} {tb : TS} {D : Ends} {σ : St} {H : Hp} (Pv : Nat → St → Hp → Prop) (h0 : Pv 0 σ H) (hl : ∀ i σ H, i ≤ xs.length → Pv i σ H → SqL K H a xs)
    (hs : ∀ i x σ H T, xs[i]? = some x → Pv i σ H → H T = none → g (.ref T) σ (upd H T (.tup [.int (i : Int), x])) fun σ2 H2 => tb { D with nx := Pv (i + 1), ct := Pv (i + 1), bk := D.nx } σ2 H2) (hd : ∀ σ H, Pv xs.length σ H → D.nx σ H) :
    ∃ W : Nat → Nat → St → Hp → Prop, (∃ m, W 0 m σ H) ∧ ∀ i m σ H, W i m σ H →
      ((Ite K a).stop i H ∧ D.nx σ H) ∨ ((Ite K a).go i H ∧ ∃ N : St → Hp → Prop, (∀ σ' H', N σ' H' → ∃ m', m' < m ∧ W (i + 1) m' σ' H') ∧ ∀ x H', (Ite K a).yld i H x H' → g x σ H' fun σ2 H2 => tb { D with nx := N, ct := N, bk := D.nx } σ2 H2) := by
  refine ⟨fun i m σ H => m = xs.length - i ∧ i ≤ xs.length ∧ Pv i σ H, ⟨xs.length, by simp, Nat.zero_le _, h0⟩, ?_⟩
  rintro i m σ H ⟨rfl, hi, p⟩
  have q1 := hl i σ H hi p
  by_cases hlt : i < xs.length
  · refine .inr ⟨⟨xs, xs[i], q1, by simp [hlt]⟩, Pv (i + 1), fun σ' H' p' => ⟨xs.length - (i + 1), by omega, rfl, hlt, p'⟩, fun v H' y => ?_⟩
    obtain ⟨T, x, rfl, hT, rfl, yy⟩ := y
    exact hs i x σ H T (yy xs q1) p hT
  · have e : i = xs.length := by omega
    subst e
    exact .inl ⟨⟨xs, q1, Nat.le_refl _⟩, hd σ H p⟩
end L2
set_option Elab.async false
set_option linter.all false
set_option maxRecDepth 100000
namespace L2
open PySem PySem.Spec PyProof.Rows C5
section
variable {X : Cx} {Ec : XK}
end
section
variable {M : Model} {A : Around} {E : Value → Shared → Prop} {s : Shared} {B : Heap} {env : Env} {outer : List Env} {L ea : Addr} {cls a0 fl : Value} {Q : Unit → Shared → Prop}
end
section
variable {P : Program} {w : World} {K : PySem.W.Frag} {mg : Str → Option Value} {base : Heap} {N : List Str} {qual : Str} {scope : Scope} {f : Addr} {cd : Value} {A : Around} {outer : List Env} {s₀ : Shared} {H₀ : Hp} {E : XK}
end
end L2
set_option Elab.async false
set_option linter.all false
set_option maxRecDepth 100000
namespace C5
open PySem
section
variable {prog : Program} {w : World} {A : Around} {R : Result → Shared → Prop} {s : Shared}
end
end C5
namespace L2
open PySem PySem.Spec PyProof.Rows C5
section
variable {X : Cx} {pins : List (Addr × Obj)} {σ : St} {H : Hp} {s : Shared} {sc : Scope} {N : List Str} {src : List (Option Nat)}
end
end L2
set_option Elab.async false
set_option linter.all false
set_option maxRecDepth 100000
namespace L2
open PySem PySem.Spec PyProof.Rows
theorem pg_tupK {X : Cx} {es : List Expr} {k : Nat} {t : TGs} {n : Nat} {pos : Pos} (K : PySem.W.Frag) (hK : X.K = K) (hc : X.calm = true) (h : PGs X es t)
    (hn : (assignEach es X.env).length = n := by rfl) (hst : (assignEach es X.env).findIdx? (·.1) = none := by rfl) : PG X (.Tuple es k pos) (gTup K n t) := by
  subst hK
  exact pg_tup hc h hn hst
noncomputable def g2 (K : PySem.W.Frag) (k1 k2 : Nat) : TG := gTup K 2 (gCons (gName k1) (gCons (gName k2) gNil))
noncomputable def set2 (σ : St) (k1 k2 : Nat) (p : V × V) : St := (σ.set k1 (some p.1)).set k2 (some p.2)
noncomputable def Src2 (J : It) (g : TG) (L : List (V × V)) (k1 k2 : Nat) (H : Hp) : Prop := ∀ H', Same H H' → (∀ i p, L[i]? = some p → J.go i H' ∧ ∀ y H2, J.yld i H' y H2 → ∀ (σ : St) (C : St → Hp → Prop), (∀ H3, Same H' H3 → C (set2 σ k1 k2 p) H3) → g y σ H2 C) ∧ J.stop L.length H'
section
variable {K : PySem.W.Frag} {H : Hp} {k1 k2 : Nat}
noncomputable def enumL (xs : List V) : List (V × V) := (List.range xs.length).map fun (i : Nat) => (V.int (i : Int), xs.getD i .non)
theorem enumL_len (xs : List V) : (enumL xs).length = xs.length := by simp [enumL]
theorem enumL_at {xs : List V} {i : Nat} {p : V × V} (h : (enumL xs)[i]? = some p) : ∃ x, xs[i]? = some x ∧ p = (.int (i : Int), x) := by
  unfold enumL at h
  have hi : i < xs.length := by
    have := (List.getElem?_eq_some_iff.mp h).1
    simpa using this
  rw [List.getElem?_map, List.getElem?_range hi] at h
  refine ⟨xs[i], List.getElem?_eq_getElem hi, ?_⟩
  have := (Option.some.inj h).symm
  simpa [List.getD, hi] using this
theorem src2_enum {a : Addr} {xs : List V} (hx : SqL K H a xs) : Src2 (Ite K a) (g2 K k1 k2) (enumL xs) k1 k2 H := fun H' sm => by
  refine ⟨fun i p e => ?_, xs, sm.seq hx, by rw [enumL_len]; exact Nat.le_refl _⟩
  obtain ⟨x, e1, rfl⟩ := enumL_at e
  refine ⟨⟨xs, x, sm.seq hx, e1⟩, fun v H2 hv σ C hC => ?_⟩
  obtain ⟨T, x', rfl, hT, rfl, hv⟩ := hv
  have q1 := hv xs (sm.seq hx)
  rw [e1] at q1; cases q1
  exact ⟨T, _, rfl, SqT.of upd_same, rfl, _, _, rfl, _, _, rfl, rfl, hC _ (same_new hT)⟩
theorem set2_set2 {σ : St} {p q : V × V} : set2 (set2 σ k1 k2 p) k1 k2 q = set2 σ k1 k2 q := by
  unfold set2
  by_cases h : k1 = k2
  · subst h; simp only [List.set_set]
  · rw [List.set_comm (some p.2) (some q.1) (Ne.symm h), List.set_set, List.set_set]
theorem comp2_fm {J : It} {g : TG} {L : List (V × V)} {tt : TT} {te : TE} {D : Addr} {σ0 : St} {Fn : Hp → Prop} (f : V × V → V) (p : V × V → Bool) (S : Src2 J g L k1 k2 H) (hn : L.length ≤ sizeLine) (hD : H D = none)
    (ht : ∀ x ∈ L, ∀ (H' : Hp) (Qb : Bool → Hp → Prop), Same H H' → (∀ H'', Same H' H'' → Qb (p x) H'') → tt (set2 σ0 k1 k2 x) H' Qb)
    (he : ∀ x ∈ L, p x = true → ∀ (H' : Hp) (Q : VK), Same H H' → (∀ H'', Same H' H'' → Q (f x) H'') → te (set2 σ0 k1 k2 x) H' Q)
    (hd : ∀ H', Same H H' → H' D = some (.lst ((L.filter p).map f)) → Fn H') :
    ∃ W : Nat → Nat → St → Hp → Prop, (∃ m, W 0 m σ0 (upd H D (.lst []))) ∧ ∀ i m σ' H', W i m σ' H' →
      (J.stop i H' ∧ Fn H') ∨ (J.go i H' ∧ ∃ N : St → Hp → Prop, (∀ σ2 H2, N σ2 H2 → ∃ m', m' < m ∧ W (i + 1) m' σ2 H2) ∧ ∀ x H2, J.yld i H' x H2 → g x σ' H2 fun σ3 H3 => tt σ3 H3 fun b H4 =>
        if b = true then te σ3 H4 fun v H5 => ∃ xs, H5 D = some (.lst xs) ∧ xs.length < sizeLine ∧ N σ3 (upd H5 D (.lst (xs ++ [v]))) else N σ3 H4) := by
  refine ⟨fun i m σ' H' => m = L.length - i ∧ i ≤ L.length ∧ (∀ y, set2 σ' k1 k2 y = set2 σ0 k1 k2 y) ∧ Same H H' ∧ H' D = some (.lst (((L.take i).filter p).map f)), ⟨L.length, rfl, Nat.zero_le _, fun _ => rfl, same_new hD, by rw [upd_same]; rfl⟩, ?_⟩
  rintro i m σ' H' ⟨rfl, hi, hσ, sm, hH⟩
  by_cases hlt : i < L.length
  · have hx : L[i]? = some L[i] := by simp [hlt]
    obtain ⟨go, yl⟩ := (S H' sm).1 i _ hx
    refine .inr ⟨go, fun σ2 H2 => (∀ y, set2 σ2 k1 k2 y = set2 σ0 k1 k2 y) ∧ Same H H2 ∧ H2 D = some (.lst (((L.take (i + 1)).filter p).map f)), ?_, ?_⟩
    · rintro σ2 H2 ⟨q1, q2, q3⟩
      exact ⟨L.length - (i + 1), by omega, rfl, hlt, q1, q2, q3⟩
    · intro x H2 y
      refine yl x H2 y σ' _ fun H3 s3 => ?_
      rw [hσ]
      have hm : L[i] ∈ L := List.getElem_mem hlt
      have tk : L.take (i + 1) = L.take i ++ [L[i]] := by rw [List.take_add_one, hx]; rfl
      refine ht _ hm H3 _ (sm.trans s3) fun H4 s4 => ?_
      have s34 := s3.trans s4
      cases hp : p L[i] with
      | true =>
        refine iteT (he _ hm hp H4 _ (sm.trans s34) fun H5 s5 => ⟨_, s5 D _ (s34 D _ hH), ?_, fun y => set2_set2, same_upd (sm.trans (s34.trans s5)) hD, ?_⟩)
        · have h1 : (((L.take i).filter p).map f).length ≤ (L.take i).length := by rw [List.length_map]; exact List.length_filter_le _ _
          rw [List.length_take] at h1
          omega
        · rw [upd_same, tk, List.filter_append, List.map_append]
          simp [hp]
      | false =>
        refine iteF ⟨fun y => set2_set2, sm.trans s34, ?_⟩
        rw [tk, List.filter_append, List.filter_cons_of_neg (by simp [hp])]
        simpa using s34 D _ hH
  · have e : i = L.length := by omega
    subst e
    exact .inl ⟨(S H' sm).2, hd H' sm (by rw [hH, List.take_length])⟩
theorem comp2_rows {J : It} {g : TG} {L : List (V × V)} {te : TE} {D : Addr} {σ0 : St} {Fn : Hp → Prop} (G : V × V → List V) (S : Src2 J g L k1 k2 H) (hn : L.length ≤ sizeLine) (hD : H D = none)
    (he : ∀ x ∈ L, ∀ (H' : Hp) (Q : VK), Same H H' → (∀ q H'', Same H' H'' → H' q = none → H'' q = some (.lst (G x)) → Q (.ref q) H'') → te (set2 σ0 k1 k2 x) H' Q)
    (hd : ∀ ps H', Same H H' → Fresh H ps → PicV H' D ps (L.map G) → Fn H') :
    ∃ W : Nat → Nat → St → Hp → Prop, (∃ m, W 0 m σ0 (upd H D (.lst []))) ∧ ∀ i m σ' H', W i m σ' H' →
      (J.stop i H' ∧ Fn H') ∨ (J.go i H' ∧ ∃ N : St → Hp → Prop, (∀ σ2 H2, N σ2 H2 → ∃ m', m' < m ∧ W (i + 1) m' σ2 H2) ∧ ∀ x H2, J.yld i H' x H2 → g x σ' H2 fun σ3 H3 => tTrue σ3 H3 fun b H4 =>
        if b = true then te σ3 H4 fun v H5 => ∃ xs, H5 D = some (.lst xs) ∧ xs.length < sizeLine ∧ N σ3 (upd H5 D (.lst (xs ++ [v]))) else N σ3 H4) := by
  refine ⟨fun i m σ' H' => m = L.length - i ∧ i ≤ L.length ∧ (∀ y, set2 σ' k1 k2 y = set2 σ0 k1 k2 y) ∧ Same H H' ∧ ∃ ps, Fresh H ps ∧ PicV H' D ps ((L.take i).map G), ⟨L.length, rfl, Nat.zero_le _, fun _ => rfl, same_new hD, [], (fun q h => nomatch h), ⟨by rw [upd_same]; rfl, .nil, List.nodup_nil, by simp⟩⟩, ?_⟩
  rintro i m σ' H' ⟨rfl, hi, hσ, sm, ps, fr, pic⟩
  by_cases hlt : i < L.length
  · have hx : L[i]? = some L[i] := by simp [hlt]
    obtain ⟨go, yl⟩ := (S H' sm).1 i _ hx
    refine .inr ⟨go, fun σ2 H2 => (∀ y, set2 σ2 k1 k2 y = set2 σ0 k1 k2 y) ∧ Same H H2 ∧ ∃ ps, Fresh H ps ∧ PicV H2 D ps ((L.take (i + 1)).map G), ?_, ?_⟩
    · rintro σ2 H2 ⟨q1, q2, q3⟩
      exact ⟨L.length - (i + 1), by omega, rfl, hlt, q1, q2, q3⟩
    · intro x H2 y
      refine yl x H2 y σ' _ fun H3 s3 => ?_
      simp only [tTrue, if_true]
      rw [hσ]
      have hm : L[i] ∈ L := List.getElem_mem hlt
      have tk : L.take (i + 1) = L.take i ++ [L[i]] := by rw [List.take_add_one, hx]; rfl
      have hl : ps.length = i := by have := pic.len; rw [List.length_map, List.length_take] at this; omega
      have pic := pic.mono s3
      have sm := sm.trans s3
      refine he _ hm H3 _ sm fun q H5 s5 hq hq5 => ⟨_, s5 D _ pic.top, by rw [List.length_map, hl]; omega, fun y => set2_set2, same_upd (sm.trans s5) hD, ps ++ [q], ?_, ?_⟩
      · intro c hc
        rcases List.mem_append.mp hc with hc | hc
        · exact fr c hc
        · have e : c = q := by simpa using hc
          subst e
          exact sm.free hq
      · have nq : q ∉ ps := fun z => by
          obtain ⟨r, _, e⟩ := pic.mem z
          rw [hq] at e; cases e
        have nD : D ≠ q := ne_of_none pic.top hq
        refine ⟨by rw [upd_same, List.map_append]; rfl, ?_, ?_, ?_⟩
        · rw [tk, List.map_append]
          refine Paired.app (Paired.mapI pic.row fun c r hc e => ?_) (.cons ?_ .nil)
          · have ne : c ≠ D := fun z => pic.out (by rw [← z]; exact hc)
            rw [upd_ne ne]
            exact s5 _ _ e
          · rw [upd_ne (Ne.symm nD)]
            exact hq5
        · rw [List.nodup_append]
          exact ⟨pic.nd, by simp, fun c hc d hd z => by
            have e : d = q := by simpa using hd
            subst e; subst z
            exact nq hc⟩
        · intro z
          rcases List.mem_append.mp z with z | z
          · exact pic.out z
          · have e : D = q := by simpa using z
            exact nD e
  · have e : i = L.length := by omega
    subst e
    exact .inl ⟨(S H' sm).2, hd ps H' sm fr (by rw [List.take_length] at pic; exact pic)⟩
end
end L2
set_option Elab.async false
set_option linter.all false
set_option maxRecDepth 100000
namespace L2
open PySem PySem.Spec PyProof.Rows
theorem comp_refs {J : It} {L : List V} {k : Nat} {te : TE} {D : Addr} {σ0 : St} {H : Hp} {Fn : Hp → Prop} (Pr : V → Addr → Hp → Prop) (mono : ∀ x q H1 H2, (∀ b o, H1 b = some o → b ≠ D → H2 b = some o) → Pr x q H1 → Pr x q H2)
    (S : Src J L H) (hn : L.length ≤ sizeLine) (hD : H D = none)
    (he : ∀ x ∈ L, ∀ (H' : Hp) (Q : VK), Same H H' → (∃ ys, H' D = some (.lst ys)) → (∀ q H'', Same H' H'' → Pr x q H'' → Q (.ref q) H'') → te (σ0.set k (some x)) H' Q)
    (hd : ∀ (qs : List Addr) H', Same H H' → H' D = some (.lst (qs.map V.ref)) → qs.length = L.length → (∀ (i : Nat) x q, L[i]? = some x → qs[i]? = some q → Pr x q H') → Fn H') :
    ∃ W : Nat → Nat → St → Hp → Prop, (∃ m, W 0 m σ0 (upd H D (.lst []))) ∧ ∀ i m σ' H', W i m σ' H' →
      (J.stop i H' ∧ Fn H') ∨ (J.go i H' ∧ ∃ N : St → Hp → Prop, (∀ σ2 H2, N σ2 H2 → ∃ m', m' < m ∧ W (i + 1) m' σ2 H2) ∧ ∀ x H2, J.yld i H' x H2 → gName k x σ' H2 fun σ3 H3 => tTrue σ3 H3 fun b H4 =>
        if b = true then te σ3 H4 fun v H5 => ∃ xs, H5 D = some (.lst xs) ∧ xs.length < sizeLine ∧ N σ3 (upd H5 D (.lst (xs ++ [v]))) else N σ3 H4) := by
  refine ⟨fun i m σ' H' => m = L.length - i ∧ i ≤ L.length ∧ (∀ y, σ'.set k y = σ0.set k y) ∧ Same H H' ∧ ∃ qs : List Addr, H' D = some (.lst (qs.map V.ref)) ∧ qs.length = i ∧ (∀ (j : Nat) x q, L[j]? = some x → qs[j]? = some q → Pr x q H'), ⟨L.length, rfl, Nat.zero_le _, fun _ => rfl, same_new hD, [], upd_same, rfl, fun _ _ _ _ z => nomatch z⟩, ?_⟩
  rintro i m σ' H' ⟨rfl, hi, hσ, sm, qs, hH, hl, pr⟩
  by_cases hlt : i < L.length
  · have hx : L[i]? = some L[i] := by simp [hlt]
    obtain ⟨go, yl⟩ := (S H' sm).1 i _ hx
    refine .inr ⟨go, fun σ2 H2 => (∀ y, σ2.set k y = σ0.set k y) ∧ Same H H2 ∧ ∃ qs : List Addr, H2 D = some (.lst (qs.map V.ref)) ∧ qs.length = i + 1 ∧ (∀ (j : Nat) x q, L[j]? = some x → qs[j]? = some q → Pr x q H2), ?_, ?_⟩
    · rintro σ2 H2 ⟨q1, q2, q3⟩
      exact ⟨L.length - (i + 1), by omega, rfl, hlt, q1, q2, q3⟩
    · intro x H2 y
      obtain ⟨rfl, rfl⟩ := yl x H2 y
      simp only [gName, tTrue, if_true]
      rw [hσ]
      have hm : L[i] ∈ L := List.getElem_mem hlt
      refine he _ hm H2 _ sm ⟨_, hH⟩ fun q H5 s5 hq => ⟨_, s5 D _ hH, by rw [List.length_map, hl]; omega, fun y => by rw [List.set_set], same_upd (sm.trans s5) hD, qs ++ [q], ?_, ?_, fun j x q' ex eq => ?_⟩
      · rw [upd_same, List.map_append]; rfl
      · rw [List.length_append, hl]; rfl
      · refine mono x q' H5 _ (fun b o e hb => by rw [upd_ne hb]; exact e) ?_
        by_cases hj : j < qs.length
        · rw [List.getElem?_append_left hj] at eq
          exact mono x q' H2 _ (fun b o e _ => s5 b o e) (pr j x q' ex eq)
        · rw [List.getElem?_append_right (by omega)] at eq
          cases ej : j - qs.length with
          | zero =>
            rw [ej] at eq
            cases eq
            have : j = i := by omega
            subst this
            rw [hx] at ex; cases ex
            exact hq
          | succ n => rw [ej] at eq; cases eq
  · have e : i = L.length := by omega
    subst e
    exact .inl ⟨(S H' sm).2, hd qs H' sm hH hl pr⟩
end L2
set_option Elab.async false
set_option linter.all false
set_option maxRecDepth 100000
namespace L2
open PySem PySem.Spec PyProof.Rows
section
variable {X : Cx} {tg : Expr}
end
end L2
namespace PySem
namespace F
end F
section
variable {prog : Program} {w : World} {A : Around} {E : Value → Shared → Prop} {s : Shared} {I l : Addr} {items : Array Value}
end
end PySem
namespace L2
open PySem PySem.Spec PyProof.Rows
section
variable {X : Cx}
end
end L2
set_option Elab.async false
set_option linter.all false
set_option maxRecDepth 100000
namespace L2
open PySem PySem.Spec PyProof.Rows
noncomputable def Sl (e : Expr) : Prop := ∀ es env, starEach (e :: es) env = (false, eval e env) :: starEach es env
structure LitE (e : Expr) (t : TE) : Prop where
  pe : ∀ X : Cx, PE X e t
  sl : Sl e
structure LitA (es : List Expr) (t : TA) : Prop where
  pa : ∀ X : Cx, PA X es t
theorem la_nil : LitA [] tNil := ⟨fun _ => pa_nil⟩
theorem la_cons {e : Expr} {es : List Expr} {t : TE} {ts : TA} (h : LitE e t) (hs : LitA es ts) : LitA (e :: es) (tCons t ts) := ⟨fun X => pa_cons (h.pe X) (hs.pa X) (h.sl _ _)⟩
theorem lit_non {k : Nat} {p : Pos} : LitE (.Constant .none k p) (L2.tC .non) := ⟨fun _ => pe_non, fun _ _ => rfl⟩
theorem lit_int {n : Int} {k : Nat} {p : Pos} : LitE (.Constant (.int n) k p) (L2.tC (.int n)) := ⟨fun _ => pe_int, fun _ _ => rfl⟩
theorem lit_str {x : Str} {k : Nat} {p : Pos} : LitE (.Constant (.str x) k p) (L2.tC (.str x)) := ⟨fun _ => pe_str, fun _ _ => rfl⟩
theorem lit_bl {b : Bool} {k : Nat} {p : Pos} : LitE (.Constant (.bool b) k p) (L2.tC (.bl b)) := ⟨fun _ => pe_bl, fun _ _ => rfl⟩
theorem lit_lst {es : List Expr} {ts : TA} {p : Pos} (h : LitA es ts) : LitE (.List es p) (tLst ts) := ⟨fun X => pe_lst (h.pa X), fun _ _ => rfl⟩
theorem drop_at {α : Type} {l : List α} {n : Nat} {x : α} (h : l[n]? = some x) (m : Nat) (hm : n + 1 = m) : l.drop n = x :: l.drop m := by
  subst hm
  obtain ⟨hlt, rfl⟩ := List.getElem?_eq_some_iff.mp h
  exact List.drop_eq_getElem_cons hlt
theorem pss_at {X : Cx} {body : List Stmt} {n : Nat} {st : Stmt} {t u : TS} (m : Nat) (h : body[n]? = some st) (hm : n + 1 = m) (h1 : PS X st t) (h2 : PSs X (body.drop m) u) : PSs X (body.drop n) (tSeq t u) := by
  rw [drop_at h m hm]; exact pss_cons h1 h2
end L2
set_option Elab.async false
set_option linter.all false
set_option maxRecDepth 100000
namespace L2
open PySem PySem.Spec PyProof.Rows
section
variable {X : Cx} {tg : Expr}
end
section
variable {X : Cx}
end
end L2
namespace L2
open PySem
end L2
namespace L2
open PySem PySem.Spec PyProof.Rows
end L2
set_option Elab.async false
set_option linter.all false
set_option maxRecDepth 100000
namespace L2
open PySem PySem.Spec PyProof.Rows
section
variable {X : Cx}
end
end L2
set_option Elab.async false
set_option linter.all false
set_option maxRecDepth 100000
namespace L2
open PySem PySem.Spec PyProof.Rows
section
variable {K : PySem.W.Frag}
variable {H : Hp} {x : V}
end
section
variable {X : Cx}
end
end L2
set_option Elab.async false
set_option linter.all false
set_option maxRecDepth 100000
namespace L2
open PySem PySem.Spec PyProof.Rows
structure DefA (P : Program) (w : World) (K : PySem.W.Frag) (mg : Str → Option Value) (base : Heap) (k : Nat) (f : Addr) (ps : List Str) (ds : List V) (sp : Sp) : Prop where
  ex : ∃ (fd : FuncData) (dvs : List Value), FnOk P w K mg base CX0 k f fd ps sp ∧ PySem.W.keepIn K (.ref f) = true ∧ Binds K fd ps dvs ∧ Vals ds dvs
section
variable {P : Program} {w : World} {K : PySem.W.Frag} {mg : Str → Option Value} {base : Heap}
theorem FunD.defA {x qual : Str} {st : Stmt} {f : Addr} {fd : FuncData} {ps : List Str} {k : Nat} {sp : Sp} (F : FunD K x qual st .none f fd) (G : FnOk P w K mg base CX0 k f fd ps sp)
    (h : ∀ (kV doc pm : Value) (an : Option Addr) (cdv ct : Value) (us : List Value), us.length = ps.length → bindArgs (PySem.W.fnOf x qual (defArgs st) (defBody st) (defScope st) .none kV doc pm an cdv ct) ⟨us, []⟩ = pure (ps.zip us)) : DefA P w K mg base k f ps [] sp := by
  obtain ⟨oc, od, kV, doc, pm, an, cdv, ct, osl, rfl, lk, hcd⟩ := F.ex
  exact ⟨_, [], G, F.kp, .all (h kV doc pm an cdv ct), .nil⟩
end
section
variable {X : Cx}
theorem ld_var {E : Value → Shared → Prop} {pins : List (Addr × Obj)} {s : Shared} {σ : St} {H : Hp} {i : Nat} {x : Str} {v : V} {pos : Pos} {Q : Value → Shared → Prop} (I : Inv X pins σ H s) (hN : X.N[i]? = some x) (hv : Vis X.env.scope x) (e : σ[i]? = some (some v)) (h : ∀ u, RelV v u → Q u s)
    (hd : (x == ("__debug__" : Str)) = false := by decide) (hcd : (x == ("__classdict__" : Str)) = false := by decide) : wpAny (model X.prog X.w) X.A (eval (.Name x pos) X.env) Q E s := by
  obtain ⟨m, hn, hl⟩ := I.loc
  obtain ⟨u, r, l⟩ := hl i x v hN e hv
  have fin := h u r
  rcases l with ⟨hk, hm⟩ | ⟨hk, c, hc, hcell⟩
  · exact wpAny_Name (wpAny_loadName_local I.ok.kind hk hn hm fin) hd
  · rcases hk with hk | hk
    · exact wpAny_Name (wpAny_loadName_cell I.ok.kind hk hc hcell fin) hd
    · exact wpAny_Name (wpAny_loadName_free I.ok.kind hk hc hcell fin hcd) hd
noncomputable def tCallV (i : Nat) (f : Addr) (sp : Sp) (dvs : List V) (E : XK) (t : TA) : TE := fun σ H Q => σ[i]? = some (some (.ref f)) ∧ tCall sp dvs E t σ H Q
theorem pe_callV (i : Nat) {k : Nat} {x : Str} {f : Addr} {ps : List Str} {ds : List V} {sp : Sp} {e : Expr} {es : List Expr} {t : TA} {p pos : Pos} (D : DefA X.prog X.w X.K X.mg X.base k f ps ds sp) (hr : Room k X.A) (ha : PA X (e :: es) t)
    (hN : X.N[i]? = some x := by rfl) (hv : Vis X.env.scope x := by first | exact Or.inl rfl | exact Or.inr (Or.inl rfl) | exact Or.inr (Or.inr rfl)) (hdb : (x == ("__debug__" : Str)) = false := by decide) (hcd : (x == ("__classdict__" : Str)) = false := by decide)
    (he : starEach (e :: es) X.env = (false, eval e X.env) :: starEach es X.env := by rfl) (hpl : (backTo pos (starEach es X.env)).any (·.1) = false := by rfl) :
    PE X (.Call (.Name x p) (e :: es) [] pos) (tCallV i f sp ds E0 t) := by
  obtain ⟨fd, dvs, F, hk, hb, hd⟩ := D.ex
  intro pins s σ H Q I ⟨hi, h⟩
  refine wpAny_Call_Name_kw (ld_var I hN hv hi (fun u r => ?_) hdb hcd)
  obtain rfl : u = Value.ref f := r
  refine PySem.W.callWith_K (h₀ := X.base) I.ok.mod.kin hk (thn (ha pos pins s σ H _ I h) fun us s1 ⟨vs, H1, I1, r, q⟩ => ⟨I1.kIn, ?_⟩) he hpl
  exact run_fn F hr hb hd pass0 I1 r q
end
end L2
set_option Elab.async false
set_option linter.all false
set_option maxRecDepth 100000
namespace L2
open PySem PySem.Spec PyProof.Rows
section
variable {X : Cx}
noncomputable def rIsXE (K : PySem.W.Frag) : List V → Hp → VK → Prop := fun xs H Q => ∃ (a C tp : Addr) (Cs : List Addr) (b : Bool), xs = [.ref a, .ref tp] ∧ H a = some (ExcO a C) ∧ XCls K C ∧ SqT K H tp (Cs.map V.ref) ∧ PySem.W.kitAny K (.ref C) (Cs.map Value.ref) = some b ∧ Q (.bl b) H
theorem vals_refs : ∀ {Cs : List Addr} {us : List Value}, Vals (Cs.map V.ref) us → us = Cs.map Value.ref
  | [], _, r => by cases r; rfl
  | C :: Cs, _, .cons r t => by rw [show _ = Value.ref C from r, vals_refs t]; rfl
theorem call_isXE (K : PySem.W.Frag) (hK : X.K = K) : CallR X (.builtin "isinstance") (rIsXE K) := by
  subst hK
  intro pins s σ H xs us Q I rs h
  obtain ⟨a, C, tp, Cs, b, rfl, ea, cc, ht, e, q⟩ := h
  obtain ⟨u, w', rfl, r1, r2⟩ := vals2 rs
  cases r1
  cases r2
  obtain ⟨its, r, p1, _⟩ := I.tuple ht
  have ei := vals_refs r
  subst ei
  obtain ⟨⟨oc, od, odt, osl⟩, e1, ec, n, ed⟩ := p1
  cases ec
  cases ed
  obtain ⟨p, _, _⟩ := (show ObjOk X.prog X.w H s.heap a (ExcO a C) from I.hok a _ ea)
  exact PySem.W.kia_tup (kitx_exc cc) I.kIn p e1 e (fun z => nomatch z) fun tk => ⟨.bl b, H, I.tok tk, rfl, q⟩
theorem kitAny_none {K : PySem.W.Frag} {t : Value} : ∀ {Cs : List Addr}, (∀ c ∈ Cs, PySem.W.kitOne K t (.ref c) = some false) → PySem.W.kitAny K t (Cs.map Value.ref) = some false
  | [], _ => rfl
  | c :: r, h => by
    rw [List.map_cons]
    unfold PySem.W.kitAny
    rw [h c List.mem_cons_self]
    exact kitAny_none fun d hd => h d (List.mem_cons_of_mem _ hd)
end
end L2
set_option Elab.async false
set_option linter.all false
namespace L2
open PySem PySem.Spec PyProof.Rows
section
variable {X : Cx} {e : Expr} {te : TE} {e3 : Expr} {ts : TO} {pos p2 : Pos}
end
end L2
set_option Elab.async false
set_option linter.all false
set_option maxRecDepth 100000
namespace L2
open PySem PySem.Spec PyProof.Rows
noncomputable def CodeO (c : Addr) (qual : Str) : HO := .ext fun h => h.CodeRec (.ref c) qual
noncomputable def BMain (mg : Str → Option Value) (base : Heap) : Prop := ∃ bm ob, mg "__builtins__" = some (.ref bm) ∧ bm ≠ builtinsNs ∧ base.get? bm = some ob ∧ ob.cls = .type "module" ∧ ob.dict = some builtinsNs ∧ ob.data = .plain
section
variable {P : Program} {w : World} {H : Hp} {h : Heap}
theorem codeO_ok {c : Addr} {qual : Str} (e : h.CodeRec (.ref c) qual) : ObjOk P w H h c (CodeO c qual) := by
  obtain ⟨c2, oc, vs, t, e2, hoc, hd, hv⟩ := id e
  cases e2
  exact ⟨e, ⟨oc, hoc⟩, fun h1 h2 ⟨c3, o3, v3, t3, e3, f1, f2, f3⟩ k => by cases e3; exact ⟨_, o3, v3, t3, rfl, k _ f1, f2, f3⟩⟩
end
section
variable {X : Cx}
end
end L2
set_option Elab.async false
set_option linter.all false
set_option maxRecDepth 100000
namespace L2
open PySem PySem.Spec PyProof.Rows
section
variable {P : Program} {w : World} {K : PySem.W.Frag} {mg : Str → Option Value} {base : Heap}
end
section
variable {X : Cx}
end
end L2
set_option Elab.async false
set_option linter.all false
set_option maxRecDepth 100000
namespace L2
open PySem PySem.Spec PyProof.Rows
section
variable {P : Program} {w : World} {K : PySem.W.Frag} {mg : Str → Option Value} {base : Heap}
theorem FunD.okT {x qual : Str} {st : Stmt} {dV : Value} {f c : Addr} {fd : FuncData} {N ps : List Str} {k : Nat} {sp : Sp} (F : FunD K x qual st dV f fd) (hc : fd.code = .ref c) (S : FnScope N ps (defScope st)) (len : ∀ vs H Q E, sp vs H Q E → vs.length = ps.length)
    (hbody : ∀ (cdv : Value) (hcdv : cdv = .ref c) (A : Around) (outer : List Env) (s : Shared) (H : Hp) (vs : List V) (Q : VK) (E : XK), Room k (A.deeper (envOfC qual (defScope st) s.heap.objs.size f cdv)) → sp vs H Q E →
      ∃ t, PSs (cxOf CX0 P w K mg base N qual (defScope st) f cdv A outer s H E).nox (defBody st) t ∧ t { nx := fun _ H' => Q .non H', rt := Q } (start N vs) H) : FnOk P w K mg base CX0 (k + 1) f fd ps sp := by
  obtain ⟨oc, od, kV, doc, pm, an, cdv, ct, osl, rfl, lk, hcd⟩ := F.ex
  refine fn_of lk hcd S len fun A outer s H vs Q E hr hsp => ?_
  obtain ⟨t, h, q⟩ := hbody cdv hc A outer s H vs Q E hr hsp
  exact ⟨t, h.nox, q⟩
end
theorem law_callT {P : Program} {w : World} {K : PySem.W.Frag} {mg mb : Str → Option Value} {CX : CXT} {k : Nat} {fa a : Addr} {fd : FuncData} {x : Str} {sp : Sp} {s₁ : Shared} {vs : List Value} {ns : List Int} {ts : List Addr}
    (KX : K.In s₁.heap) (hns : s₁.heap.Ns mainGlobals mg) (hb : s₁.heap.Ns builtinsNs mb) (hbb : ∀ x : Str, x ≠ "__name__" → mb x = bootBuiltins x) (hlim : s₁.heap.NoLimit) (hg : s₁.gens = #[])
    (hBM : BMain mg s₁.heap) (hT : ∀ p ∈ ts, s₁.heap.get? p = some (PySem.W.tabObj #[])) (hC : ∀ p ∈ ts, ∃ c, PySem.W.codeHdIn K c p = true) (hNT : PySem.W.noTabs K = true)
    (ha : s₁.heap.get? a = some { cls := .type "list", data := .seq vs.toArray }) (hi : IntsAre vs ns) (hl : ns.length ≤ sizeLine) (hr : Room k callerA)
    (F : ∀ base : Heap, K.In base → base.Ns mainGlobals mg → BMain mg base → FnOk P w K mg base CX k fa fd [x] sp) (hbind : ∀ (s : Shared) (u : Value), BindsTo s fd ⟨[u], []⟩ [(x, u)])
    (hsp : ∀ H : Hp, (∀ p ∈ ts, H p = some (.tbl #[])) → SqL K H a (ns.map V.int) → sp [.ref a] H (fun v _ => v = .bl true) fun _ _ _ => False)
    (hCX : ∀ H e s', CX [] H s₁ (fun _ _ _ => False) e s' → False) :
    codeAny (model P w) callerA (.call (.ref fa) ⟨[.ref a], []⟩) (fun r s' => r = .ok (.ret (.bool true)) ∧ OldK s₁.heap s'.heap ∧ s'.os = s₁.os ∧ AllBare s'.gens) s₁ := by
  have rv := vals_ints hi
  have lenV := hi.length
  have nat : a ∉ ts := fun z => by
    have := hT a z
    rw [ha] at this; cases this
  have core : ∀ H : Hp, (∀ b, H b = none ∨ (∃ o xs, H b = some (.frz o (.lst xs))) ∨ (H b = some (.tbl #[]) ∧ b ∈ ts)) → (∀ p ∈ ts, H p = some (.tbl #[])) → SqL K H a (ns.map V.int) → HOk P w H s₁.heap → (∀ b, H b ≠ none → b = a ∨ b ∈ ts) → (H a ≠ none → K.lookup a = none) →
      codeAny (model P w) callerA (.call (.ref fa) ⟨[.ref a], []⟩) (fun r s' => r = .ok (.ret (.bool true)) ∧ OldK s₁.heap s'.heap ∧ s'.os = s₁.os ∧ AllBare s'.gens) s₁ := by
    intro H hO hTs hS hok hA hK
    have base_of : ∀ {b : Addr} {o : Obj}, s₁.heap.get? b = some o → H b = none → (hidT s₁.heap H).get? b = some o := fun e n => hidT_get e n
    have noB : ∀ {b : Addr} {o : Obj}, s₁.heap.get? b = some o → o ≠ { cls := .type "list", data := .seq vs.toArray } → o ≠ PySem.W.tabObj #[] → H b = none := fun {b o} e n1 n2 => by
      cases q : H b with
      | none => rfl
      | some u =>
        rcases hA b (by rw [q]; simp) with e' | e'
        · subst e'
          rw [ha] at e; cases e
          exact absurd rfl n1
        · have := hT b e'
          rw [e] at this; cases this
          exact absurd rfl n2
    have nsK : ∀ {b : Addr} {m : Str → Option Value}, s₁.heap.Ns b m → (hidT s₁.heap H).Ns b m := fun {b m} ⟨o, es, ep, e, d, r⟩ => ⟨o, es, ep, base_of e (noB e (fun z => by rw [z] at d; cases d) (fun z => by rw [z] at d; cases d)), d, r⟩
    have hKb : K.In (hidT s₁.heap H) := fun b o e => base_of (KX b o e) (by
      cases q : H b with
      | none => rfl
      | some u =>
        rcases hA b (by rw [q]; simp) with e' | e'
        · subst e'
          rw [hK (by rw [q]; simp)] at e; cases e
        · have e3 := hT b e'
          rw [KX b o e] at e3; cases e3
          have h2 := List.all_eq_true.mp hNT (b, _) (PySem.W.mem_of_lookupK e)
          exact absurd (show false = true from h2) Bool.false_ne_true)
    have hBMb : BMain mg (hidT s₁.heap H) := by
      obtain ⟨bm, ob, b1, b2, b3, b4, b5, b6⟩ := hBM
      exact ⟨bm, ob, b1, b2, base_of b3 (noB b3 (fun z => by rw [z] at b6; cases b6) (fun z => by rw [z] at b6; cases b6)), b4, b5, b6⟩
    have hM : Mod K mg (hidT s₁.heap H) := ⟨hKb, nsK hns, ⟨mb, nsK hb, hbb⟩, let ⟨mc, h1, h2⟩ := hlim; ⟨mc, nsK h1, h2⟩⟩
    have e0 : Env0 P w K mg (hidT s₁.heap H) callerA [] s₁ H := ⟨rfl, hM, fun b o e => of_hidT e, Nat.le_of_eq (hidT_size _ _), trivial, fun b hb => absurd (show b ∈ ([] : List Addr) from hb) (by simp), hok, .of_eq hg⟩
    refine codeAny_mono ((F _ hKb (nsK hns) hBMb).run callerA [] s₁ H ⟨[.ref a], []⟩ [.ref a] [.ref a] _ _ hr e0 (hbind s₁ (.ref a)) (.cons rfl .nil) (hsp H hTs hS)) fun r s' h => ?_
    cases r with
    | error e => exact (hCX H e s' h).elim
    | ok fl =>
      cases fl with
      | next => exact False.elim h
      | brk => exact False.elim h
      | cont => exact False.elim h
      | ret u =>
        obtain ⟨v, H', os, bare, un, hok', r', q⟩ := h
        have q' : v = .bl true := q
        subst q'
        obtain rfl : u = Value.bool true := r'
        have kept : ∀ b o, b ∉ ts → s₁.heap.get? b = some o → s'.heap.get? b = some o := fun b o nb e => by
          cases q : H b with
          | none => exact un.keep b o e q (by intro z; exact absurd (show b ∈ ([] : List Addr) from z) (by simp)) (by simp)
          | some u =>
            rcases hO b with z | ⟨ob, xs, z⟩ | ⟨_, z⟩
            · rw [q] at z; cases z
            · have z2 := un.frzs b ob _ z
              obtain ⟨e1, _⟩ := hok b _ z
              obtain ⟨e2, _⟩ := hok' b _ z2
              rw [e] at e1; cases e1
              exact e2
            · exact absurd z nb
        have grown : ∀ b ∈ ts, ∃ more : Array Value, s'.heap.get? b = some (PySem.W.tabObj (#[] ++ more)) := fun b hb => by
          obtain ⟨more, z⟩ := un.tbls b _ (hTs b hb)
          exact ⟨more, hok' b _ z⟩
        refine ⟨rfl, ⟨fun b o e => ?_, fun b o e => ?_⟩, os, bare⟩
        · by_cases hbt : b ∈ ts
          · obtain ⟨more, z⟩ := grown b hbt
            have e2 := hT b hbt
            rw [e] at e2; cases e2
            obtain ⟨c, hc⟩ := hC b hbt
            exact .inr (.inl ⟨((PySem.W.codeHd_of_K KX hc).tab (hT b hbt)).isCodeTable, rfl, #[], more, rfl, z⟩)
          · exact .inl (kept b o hbt e)
        · by_cases hbt : b ∈ ts
          · obtain ⟨more, z⟩ := grown b hbt
            exact ⟨_, z⟩
          · exact ⟨o, kept b o hbt e⟩
  cases hk : K.lookup a with
  | some o =>
    have e := KX a o hk
    rw [ha] at e
    cases e
    refine core (fun b => if b ∈ ts then some (.tbl #[]) else none) (fun b => ?_) (fun p hp => if_pos hp) (.inr ⟨_, vs.toArray, _, hk, rfl, rfl, rfl, by rw [List.size_toArray, lenV]; exact hl, by simpa using rv⟩) (fun b u z => ?_) (fun b z => ?_) fun z => absurd (if_neg nat) z
    · by_cases hb : b ∈ ts
      · exact .inr (.inr ⟨if_pos hb, hb⟩)
      · exact .inl (if_neg hb)
    · by_cases hb : b ∈ ts
      · have z' := (if_pos hb).symm.trans z
        cases z'
        exact hT b hb
      · have z' := (if_neg hb).symm.trans z
        cases z'
    · by_cases hb : b ∈ ts
      · exact .inr hb
      · exact absurd (if_neg hb) z
  | none =>
    have ifa : ∀ b, b = a → (if b = a then some (HO.frz { cls := .type "list", data := .seq vs.toArray } (.lst (ns.map V.int))) else if b ∈ ts then some (.tbl #[]) else none) = some (HO.frz { cls := .type "list", data := .seq vs.toArray } (.lst (ns.map V.int))) := fun b hb => if_pos hb
    have ift : ∀ b, b ∈ ts → (if b = a then some (HO.frz { cls := .type "list", data := .seq vs.toArray } (.lst (ns.map V.int))) else if b ∈ ts then some (.tbl #[]) else none) = some (HO.tbl #[]) := fun b hb => by
      have nb : ¬ b = a := fun z => nat (by rw [← z]; exact hb)
      rw [if_neg nb, if_pos hb]
    have ifn : ∀ b, b ≠ a → b ∉ ts → (if b = a then some (HO.frz { cls := .type "list", data := .seq vs.toArray } (.lst (ns.map V.int))) else if b ∈ ts then some (.tbl #[]) else none) = none := fun b n1 n2 => by
      rw [if_neg n1, if_neg n2]
    refine core (fun b => if b = a then some (.frz { cls := .type "list", data := .seq vs.toArray } (.lst (ns.map V.int))) else if b ∈ ts then some (.tbl #[]) else none) (fun b => ?_) (fun p hp => ift p hp) (.inl (.inr ⟨{ cls := .type "list", data := .seq vs.toArray }, ifa a rfl⟩)) (fun b u z => ?_) (fun b z => ?_) fun _ => hk
    · by_cases hb : b = a
      · exact .inr (.inl ⟨_, _, ifa b hb⟩)
      · by_cases ht : b ∈ ts
        · exact .inr (.inr ⟨ift b ht, ht⟩)
        · exact .inl (ifn b hb ht)
    · by_cases hb : b = a
      · have z' := (ifa b hb).symm.trans z
        cases z'
        subst hb
        exact ⟨ha, by rw [List.length_map]; exact hl, vs, _, rv, ha⟩
      · by_cases ht : b ∈ ts
        · have z' := (ift b ht).symm.trans z
          cases z'
          exact hT b ht
        · have z' := (ifn b hb ht).symm.trans z
          cases z'
    · by_cases hb : b = a
      · exact .inl hb
      · by_cases ht : b ∈ ts
        · exact .inr ht
        · exact absurd (ifn b hb ht) z
theorem walk_ofT {l : PySem.W.OpenLaw} {n k : Nat} {q : Program} {loose : List Str} {XP : (Str → Option Value) → Heap → Prop} {YP : World → Heap → Prop} {d : DefRec} {K : Params → PySem.W.Frag} {CX : CXT} {sp : PySem.W.Frag → Sp} {x : Str} {ts : List Addr}
    (hn : l.most = some n) (hn2 : n ≤ sizeLine) (hdf : d.params.defaults = []) (hr : Room k callerA)
    (hY : ∀ (w : World) (h : Heap), YP w h → (K w.params).In h) (hT : ∀ (w : World) (h : Heap), YP w h → ∀ p ∈ ts, h.get? p = some (PySem.W.tabObj #[]))
    (hC : ∀ (w : World), ∀ p ∈ ts, ∃ c, PySem.W.codeHdIn (K w.params) c p = true) (hNT : ∀ w : World, PySem.W.noTabs (K w.params) = true)
    (F : ∀ (w : World) (mg : Str → Option Value) (fa : Addr) (h : Heap), (K w.params).In h → h.Ns mainGlobals mg → mg d.name = some (.ref fa) →
      ∃ fd : FuncData, (∀ (s : Shared) (u : Value), BindsTo s fd ⟨[u], []⟩ [(x, u)]) ∧
        ∀ base : Heap, (K w.params).In base → base.Ns mainGlobals mg → BMain mg base → FnOk l.prog w (K w.params) mg base CX k fa fd [x] (sp (K w.params)))
    (hsp : ∀ (K : PySem.W.Frag) (H : Hp) (a : Addr) (ns : List Int), ns.length ≤ n → (∀ x ∈ ns, Builtin.Int.intBits x ≤ 2 ^ 20) → (∀ p ∈ ts, H p = some (.tbl #[])) → SqL K H a (ns.map V.int) → sp K [.ref a] H (fun v _ => v = .bl true) fun _ _ _ => False)
    (hCX : ∀ (H : Hp) (s : Shared) (e : Value) (s' : Shared), CX [] H s (fun _ _ _ => False) e s' → False) :
    PySem.W.WalkO q loose XP YP l.row.toRowW d [] (fun f vs => PySem.call f vs) := by
  refine Att.attach_callB hn hdf fun w s₀ s₁ mg mb fa o pm cd doc a vs ns G Y ho hd hcd hmg hobj hints hlen hbits hg => ?_
  have KX := hY w _ Y
  obtain ⟨fd, hb, hF⟩ := F w mg fa _ KX G.T.g hmg
  exact law_callT KX G.T.g G.T.b G.T.builtins G.T.nolimit hg G.T.bmain (hT w _ Y) (hC w) (hNT w) hobj hints (Nat.le_trans hlen hn2) hr hF hb (fun H hO hS => hsp (K w.params) H a ns hlen hbits hO hS) fun H e s' => hCX H s₁ e s'
end L2
set_option Elab.async false
set_option linter.all false
set_option maxRecDepth 100000
namespace PySem
open Sem (wp)
open AutoSeq1 (wpAny_loadPart')
section
variable {prog : Program} {w : World} {A : Around} {E : Value → Shared → Prop} {s : Shared}
end
section
variable {prog : Program} {w : World} {A : Around} {E : Value → Shared → Prop} {s : Shared}
end
section
variable {prog : Program} {w : World} {A : Around} {E : Value → Shared → Prop} {s : Shared}
end
end PySem
namespace L2
open PySem PySem.Spec PyProof.Rows
section
variable {X : Cx}
end
section
variable {K : PySem.W.Frag} {H : Hp} {k1 k2 : Nat}
end
end L2
set_option Elab.async false
set_option linter.all false
set_option maxRecDepth 100000
namespace L2
open PySem PySem.Spec PyProof.Rows
section
variable {P : Program} {w : World} {K : PySem.W.Frag} {mg : Str → Option Value} {base : Heap}
end
section
variable {X : Cx}
end
end L2
set_option Elab.async false
set_option linter.all false
set_option maxRecDepth 100000
namespace L2
open PySem PySem.Spec PyProof.Rows
set_option maxHeartbeats 1600000
section
variable {X : Cx}
end
end L2
set_option Elab.async false
set_option linter.all false
set_option maxRecDepth 100000
namespace L2
open PySem PySem.Spec PyProof.Rows
section
variable {X : Cx}
end
end L2
set_option Elab.async false
set_option linter.all false
set_option maxRecDepth 100000
namespace L2
open PySem PySem.Spec PyProof.Rows
section
variable {X : Cx}
end
noncomputable def ButL (ts : List Addr) (H H' : Hp) : Prop := ∀ b o, b ∉ ts → H b = some o → H' b = some o
theorem ButL.of {ts : List Addr} {H H' : Hp} (s : Same H H') : ButL ts H H' := fun b o _ e => s b o e
end L2
set_option Elab.async false
set_option linter.all false
set_option maxRecDepth 100000
namespace L2
open PySem PySem.Spec PyProof.Rows
noncomputable def clOf (cells : List (Str × Addr)) : List (Str × NameKind) → List (Str × Addr) → List (Str × Addr)
  | [], acc => acc
  | (n, k) :: r, acc => if k == .free then clOf cells r ((n, (cells.lookup n).getD 0) :: acc) else clOf cells r acc
noncomputable def FreeHas (sc : Scope) (cells : List (Str × Addr)) : Prop := ∀ x, (x, NameKind.free) ∈ sc.names → ∃ c, cells.lookup x = some c
theorem closure_go {env : Env} (f : Str × NameKind → List (Str × Addr) → Sem (ForInStep (List (Str × Addr)))) (h1 : ∀ n r, f (n, .free) r = (do let c ← cellOf env n; pure (.yield ((n, c) :: r)))) (h2 : ∀ n k r, (k == NameKind.free) = false → f (n, k) r = pure (.yield r)) :
    ∀ (l : List (Str × NameKind)) (acc : List (Str × Addr)), (∀ x, (x, NameKind.free) ∈ l → ∃ c, env.cells.lookup x = some c) → forIn l acc f = pure (clOf env.cells l acc)
  | [], acc, _ => rfl
  | (n, k) :: r, acc, h => by
    rw [List.forIn_cons]
    unfold clOf
    cases hk : k == NameKind.free with
    | true =>
      have e : k = .free := by simpa using hk
      subst e
      obtain ⟨c, hc⟩ := h n List.mem_cons_self
      have hcell : cellOf env n = pure c := by unfold cellOf; rw [hc]
      rw [h1, hcell, if_pos rfl, hc]
      simp only [pure_bind, Option.getD_some]
      exact closure_go f h1 h2 r _ fun x hx => h x (List.mem_cons_of_mem _ hx)
    | false =>
      rw [h2 _ _ _ hk, pure_bind]
      simp only [Bool.false_eq_true, if_false]
      exact closure_go f h1 h2 r _ fun x hx => h x (List.mem_cons_of_mem _ hx)
theorem closureFor_eq {sc : Scope} {env : Env} (h : FreeHas sc env.cells) : closureFor sc env = pure (clOf env.cells sc.names []) := by
  unfold closureFor
  dsimp only
  rw [closure_go (env := env) _ (fun n r => rfl) (fun n k r hk => by simp only [hk, Bool.false_eq_true, if_false]) sc.names [] h]
  rfl
theorem clOf_get {cells : List (Str × Addr)} {x : Str} {c : Addr} : ∀ (l : List (Str × NameKind)) (acc : List (Str × Addr)), (∀ x, (x, NameKind.free) ∈ l → ∃ c, cells.lookup x = some c) → (∀ x c, acc.lookup x = some c → cells.lookup x = some c) → (clOf cells l acc).lookup x = some c → cells.lookup x = some c
  | [], acc, _, ha, h => ha x c h
  | (n, k) :: r, acc, hl, ha, h => by
    unfold clOf at h
    cases hk : k == NameKind.free with
    | true =>
      have e : k = .free := by simpa using hk
      subst e
      rw [if_pos hk] at h
      obtain ⟨d, hd⟩ := hl n List.mem_cons_self
      refine clOf_get r _ (fun y hy => hl y (List.mem_cons_of_mem _ hy)) (fun y c' hy => ?_) h
      rw [hd, Option.getD_some, List.lookup_cons] at hy
      cases hyn : y == n with
      | true =>
        rw [hyn] at hy
        have e : y = n := by simpa using hyn
        rw [e, hd]; exact hy
      | false =>
        rw [hyn] at hy
        exact ha y c' hy
    | false =>
      rw [hk] at h
      simp only [Bool.false_eq_true, if_false] at h
      exact clOf_get r _ (fun y hy => hl y (List.mem_cons_of_mem _ hy)) ha h
theorem clOf_has {cells : List (Str × Addr)} {x : Str} : ∀ (l : List (Str × NameKind)) (acc : List (Str × Addr)), ((∃ c, acc.lookup x = some c) ∨ (x, NameKind.free) ∈ l) → ∃ c, (clOf cells l acc).lookup x = some c
  | [], acc, h => h.elim id fun z => nomatch z
  | (n, k) :: r, acc, h => by
    unfold clOf
    cases hk : k == NameKind.free with
    | true =>
      have e : k = .free := by simpa using hk
      subst e
      rw [if_pos rfl]
      refine clOf_has r _ ?_
      by_cases hx : x = n
      · exact .inl ⟨(cells.lookup n).getD 0, by rw [hx, List.lookup_cons]; simp⟩
      · rcases h with ⟨c, h⟩ | h
        · refine .inl ⟨c, ?_⟩
          have : (x == n) = false := by simpa using hx
          rw [List.lookup_cons, this]; exact h
        · rcases List.mem_cons.mp h with z | z
          · cases z; exact absurd rfl hx
          · exact .inr z
    | false =>
      simp only [Bool.false_eq_true, if_false]
      refine clOf_has r _ ?_
      rcases h with h | h
      · exact .inl h
      · rcases List.mem_cons.mp h with z | z
        · cases z; cases hk
        · exact .inr z
structure LamW where
  prm : Arguments
  body : Expr
  sc : Scope
  qual : Str
  cl : List (Str × Addr)
  dV : Value
  c : Addr
noncomputable abbrev LamW.fn (L : LamW) (doc pm ctv : Value) : FuncData := PySem.W.kdv_fn "<lambda>" L.qual L.prm (.expr L.body) L.sc L.cl L.dV doc pm (.ref L.c) ctv
noncomputable def LamOC (f : Addr) (L : LamW) : HO := .ext fun h => ∃ doc pm ctv, h.get? f = some (PySem.W.kdv_obj "<lambda>" L.qual L.prm (.expr L.body) L.sc L.cl L.dV doc pm L.c ctv)
theorem lamOC_ok {P : Program} {w : World} {H : Hp} {h : Heap} {f : Addr} {L : LamW} {doc pm ctv : Value} (e : h.get? f = some (PySem.W.kdv_obj "<lambda>" L.qual L.prm (.expr L.body) L.sc L.cl L.dV doc pm L.c ctv)) : ObjOk P w H h f (LamOC f L) :=
  ⟨⟨doc, pm, ctv, e⟩, ⟨_, e⟩, fun h1 h2 ⟨doc, pm, ctv, e⟩ k => ⟨doc, pm, ctv, k _ e⟩⟩
noncomputable def tLamW (P : Addr) (pos : Pos) (qual : Str) (W : Addr → LamW) (H : Hp) (Q : VK) : Prop := ∃ ps : Array Value, H P = some (.tbl ps) ∧ TriplesOk ps.toList ∧
  ((codeAmong pos ps.toList = none ∧ ∀ c' f, H c' = none → H f = none → c' ≠ f → c' ≠ P → f ≠ P → Q (.ref f) (upd (upd (upd H P (.tbl (ps ++ #[rawInt pos.line, rawInt pos.col, .ref c']))) c' (CodeO c' qual)) f (LamOC f (W c'))))
  ∨ (∃ c', codeAmong pos ps.toList = some (.ref c') ∧ H c' = some (CodeO c' qual) ∧ ∀ f, H f = none → Q (.ref f) (upd H f (LamOC f (W c')))))
section
variable {X : Cx}
theorem lam_core {prm : Arguments} {body : Expr} {sc : Scope} {pos : Pos} {c P : Addr} {dV : Value} {clos : List (Str × Addr)} {pins : List (Addr × Obj)} {s : Shared} {σ : St} {H : Hp} {Q : VK} {ln : Nat} (hcode : X.env.code = .ref c) (C : PySem.W.CodeHd X.base c P) (hB : BMain X.mg X.base) (hcl : closureFor sc X.env = pure clos)
    (I : Inv X pins σ H s) (h : tLamW P pos (X.env.qual ++ "<lambda>") (fun c' => ⟨prm, body, sc, X.env.qual ++ "<lambda>", clos, dV, c'⟩) H Q) :
    wpAny (model X.prog X.w) X.A (makeTail "<lambda>" (X.env.qual ++ "<lambda>") prm (.expr body) sc X.env dV .none none pos ln) (EP X pins σ Q) X.xe s := by
  obtain ⟨ps, hP, ht, h⟩ := h
  have eP : s.heap.get? P = some (PySem.W.tabObj ps) := I.hok P _ hP
  have Cs : PySem.W.CodeHd s.heap c P := C.keeps I.bk
  have nb : ∀ b o, X.base.get? b = some o → b ≠ P := fun b o e z => by
    have := (I.bs b o e).2
    rw [z, hP] at this; cases this
  have hgb := I.mod.glob
  have hg : s.heap.Ns mainGlobals X.mg := hgb.keeps I.bk
  have hgP : mainGlobals ≠ P := by
    obtain ⟨o, es, ep, e, _⟩ := hgb
    exact nb _ _ e
  have hb : s.heap.BuiltinsAt X.mg P := by
    obtain ⟨bm, ob, b1, b2, b3, b4, b5, b6⟩ := hB
    refine ⟨bm, ob, b1, b2, fun z => ?_, nb _ _ b3, I.bk _ _ b3, b4, b5, b6⟩
    obtain ⟨o, es, ep, e, hd, _⟩ := hgb
    rw [z, e] at b3; cases b3
    rw [hd] at b6; cases b6
  rcases h with ⟨hnf, q⟩ | ⟨c', hf, hc', q⟩
  · refine PySem.W.kdv_makeTail (mg := X.mg) hcl I.ok.glob hg hcode Cs eP ht hnf hgP hb fun c' ctv doc h' tk hx hge hlt hrec htb => ?_
    have lt : ∀ b u, s.heap.get? b = some u → b < c' := fun b u e => Nat.lt_of_lt_of_le (Heap.lt_size e) hge
    have nP : c' ≠ P := fun z => by
      have := lt _ _ eP
      rw [z] at this; exact Nat.lt_irrefl _ this
    have nfP : h'.objs.size ≠ P := fun z => by
      have := lt _ _ eP
      rw [← z] at this; exact Nat.lt_irrefl _ (Nat.lt_trans this hlt)
    have hc0 : H c' = none := I.hok.fresh hge
    have hf0 : H h'.objs.size = none := I.hok.fresh (Nat.le_of_lt (Nat.lt_of_le_of_lt hge hlt))
    have up : ∀ b u, b ≠ P → s.heap.get? b = some u → ∀ ob, (h'.push ob).get? b = some u := fun b u nbp e ob => Heap.get?_push_of_some _ (hx b u nbp e)
    have eq : ∀ b, b ≠ P → b < c' → upd (upd (upd H P (.tbl (ps ++ #[rawInt pos.line, rawInt pos.col, .ref c']))) c' (CodeO c' (X.env.qual ++ "<lambda>"))) h'.objs.size (LamOC h'.objs.size ⟨prm, body, sc, X.env.qual ++ "<lambda>", clos, dV, c'⟩) b = H b := fun b n1 n2 => by
      rw [upd_ne (fun z => by rw [z] at n2; exact Nat.lt_irrefl _ (Nat.lt_trans n2 hlt)), upd_ne (fun z => by rw [z] at n2; exact Nat.lt_irrefl _ n2), upd_ne n1]
    have atP : upd (upd (upd H P (.tbl (ps ++ #[rawInt pos.line, rawInt pos.col, .ref c']))) c' (CodeO c' (X.env.qual ++ "<lambda>"))) h'.objs.size (LamOC h'.objs.size ⟨prm, body, sc, X.env.qual ++ "<lambda>", clos, dV, c'⟩) P = some (.tbl (ps ++ #[rawInt pos.line, rawInt pos.col, .ref c'])) := by
      rw [upd_ne (Ne.symm nfP), upd_ne (Ne.symm nP), upd_same]
    refine ⟨.ref h'.objs.size, _, I.un (t' := tk) (h' := h'.push _) ⟨fun b o e n _ _ => ?_, fun b o e n _ _ => ?_, fun b o e n _ => ?_, fun b o e _ => ?_, fun b xs e => ?_, fun b o u e => ?_, fun b ps' e => ?_⟩ (fun b u e => ?_), rfl, q c' h'.objs.size hc0 hf0 (Nat.ne_of_lt hlt) nP nfP⟩
    · exact up b o (fun z => by rw [z, hP] at n; cases n) e _
    · exact ⟨o.slots, up b o (fun z => by rw [z, hP] at n; cases n) e _⟩
    · rw [eq b (fun z => by rw [z, hP] at n; cases n) (lt b o e)]; exact n
    · by_cases z : b = P
      · rw [z]; exact ⟨_, Heap.get?_push_of_some _ htb⟩
      · exact ⟨o, up b o z e _⟩
    · rw [eq b (fun z => by rw [z, hP] at e; cases e) (Nat.lt_of_lt_of_le (I.hok b _ e).lt hge)]; exact e
    · rw [eq b (fun z => by rw [z, hP] at e; cases e) (Nat.lt_of_lt_of_le (I.hok b _ e).lt hge)]; exact e
    · by_cases z : b = P
      · rw [z, hP] at e; cases e
        exact ⟨_, by rw [z]; exact atP⟩
      · exact ⟨#[], by rw [eq b z (Nat.lt_of_lt_of_le (I.hok b _ e).lt hge), e]; simp⟩
    · by_cases z1 : b = h'.objs.size
      · rw [z1, upd_same] at e; cases e
        rw [z1]
        exact lamOC_ok (L := ⟨prm, body, sc, X.env.qual ++ "<lambda>", clos, dV, c'⟩) (Heap.get?_push_size _ rfl)
      · by_cases z2 : b = c'
        · rw [upd_ne z1, z2, upd_same] at e; cases e
          rw [z2]
          refine codeO_ok ?_
          obtain ⟨c3, o3, v3, t3, e3, f1, f2, f3⟩ := hrec
          exact ⟨c3, o3, v3, t3, e3, Heap.get?_push_of_some _ f1, f2, f3⟩
        · by_cases z3 : b = P
          · rw [z3, atP] at e; cases e
            rw [z3]
            exact Heap.get?_push_of_some _ htb
          · rw [upd_ne z1, upd_ne z2, upd_ne z3] at e
            refine (I.hok b u e).stay (fun b' u' hc q' => ?_) (fun b' hb' => ?_) fun b' xs hb' => ?_
            · refine up b' u' ?_ q' _
              rcases hc with z | z
              · rw [z]; exact z3
              · intro y; rw [y, hP] at z; cases z
            · rw [eq b' (fun z => by rw [z, hP] at hb'; cases hb') (Nat.lt_of_lt_of_le (I.hok b' _ hb').lt hge)]; exact hb'
            · rw [eq b' (fun z => by rw [z, hP] at hb'; cases hb') (Nat.lt_of_lt_of_le (I.hok b' _ hb').lt hge)]; exact hb'
  · obtain ⟨hrec, _, _⟩ := (show ObjOk X.prog X.w H s.heap c' (CodeO c' (X.env.qual ++ "<lambda>")) from I.hok c' _ hc')
    refine PySem.W.kdv_makeTailHit (mg := X.mg) hcl I.ok.glob hg hcode Cs eP ht hf hb fun ctv doc h' tk hk hsz => ?_
    refine ⟨.ref h'.objs.size, _, I.laid (t' := tk) (o := LamOC h'.objs.size ⟨prm, body, sc, X.env.qual ++ "<lambda>", clos, dV, c'⟩) (fun b u e => Heap.get?_push_of_some _ (hk b u e)) hsz (lamOC_ok (L := ⟨prm, body, sc, X.env.qual ++ "<lambda>", clos, dV, c'⟩) (Heap.get?_push_size _ rfl)), rfl, q _ (I.hok.fresh hsz)⟩
noncomputable def tLamC (P : Addr) (pos : Pos) (prm : Arguments) (body : Expr) (sc : Scope) (qual : Str) (cl : List (Str × Addr)) : TE := fun _ H Q => tLamW P pos qual (fun c' => ⟨prm, body, sc, qual, cl, .none, c'⟩) H Q
theorem pe_lamC {prm : Arguments} {body : Expr} {sc : Scope} {pos : Pos} {c P : Addr} (hcode : X.env.code = .ref c) (C : PySem.W.CodeHd X.base c P) (hB : BMain X.mg X.base) (hfr : FreeHas sc X.env.cells) (hdef : defaultsOf prm X.env = ([], []) := by rfl) :
    PE X (.Lambda prm body sc pos) (tLamC P pos prm body sc (X.env.qual ++ "<lambda>") (clOf X.env.cells sc.names [])) := by
  intro pins s σ H Q I h
  refine PySem.W.kla_eval hdef ?_
  rw [makeFunction_eq]
  simp only [List.zip_nil_right, List.filterMap_nil, List.isEmpty_nil, if_true, pure_bind]
  exact lam_core hcode C hB (closureFor_eq hfr) I h
end
theorem triples_app {a b : Nat} {c : Value} : ∀ (l : List Value), TriplesOk l → TriplesOk (l ++ [rawInt a, rawInt b, c])
  | [], _ => trivial
  | .int _ _ :: .int _ _ :: _ :: r, h => triples_app (a := a) (b := b) (c := c) r h
theorem among_app {pos : Pos} {a b : Nat} {c cv : Value} : ∀ (l : List Value), TriplesOk l → codeAmong pos (l ++ [rawInt a, rawInt b, c]) = some cv → codeAmong pos l = some cv ∨ cv = c
  | [], _, h => by
    right
    have h' : (if ((a : Int) == pos.line && (b : Int) == pos.col) = true then some c else none) = some cv := h
    split at h'
    · cases h'; rfl
    · cases h'
  | .int i _ :: .int j _ :: d :: r, ht, h => by
    have h' : (if ((i : Int) == pos.line && (j : Int) == pos.col) = true then some d else codeAmong pos (r ++ [rawInt a, rawInt b, c])) = some cv := h
    show (if ((i : Int) == pos.line && (j : Int) == pos.col) = true then some d else codeAmong pos r) = some cv ∨ cv = c
    split at h'
    · rename_i e; rw [if_pos e]; exact .inl h'
    · rename_i e; rw [if_neg e]; exact among_app r ht h'
noncomputable def TabG (ts : List Addr) (p : Addr) (qual : Str) (H : Hp) : Prop := ∃ ps : Array Value, H p = some (.tbl ps) ∧ TriplesOk ps.toList ∧ ∀ pos cv, codeAmong pos ps.toList = some cv → ∃ c, cv = .ref c ∧ c ∉ ts ∧ H c = some (CodeO c qual)
theorem TabG.start {ts : List Addr} {p : Addr} {qual : Str} {H : Hp} (h : H p = some (.tbl #[])) : TabG ts p qual H := ⟨#[], h, trivial, fun pos cv e => nomatch e⟩
theorem TabG.mono {ts : List Addr} {p : Addr} {qual : Str} {H H' : Hp} (t : TabG ts p qual H) (s : Same H H') : TabG ts p qual H' := by
  obtain ⟨ps, e, o, k⟩ := t
  refine ⟨ps, s _ _ e, o, fun pos cv q => ?_⟩
  obtain ⟨c, e1, e2, e3⟩ := k pos cv q
  exact ⟨c, e1, e2, s _ _ e3⟩
theorem tLamW_of {ts : List Addr} {p : Addr} {pos : Pos} {qual : Str} {W : Addr → LamW} {H : Hp} {Q : VK} (hp : p ∈ ts) (hts : ∀ t ∈ ts, H t ≠ none) (t : TabG ts p qual H)
    (k : ∀ f c H', ButL ts H H' → (∀ t ∈ ts, t ≠ p → H' t = H t) → TabG ts p qual H' → H' f = some (LamOC f (W c)) → H' c = some (CodeO c qual) → Q (.ref f) H') : tLamW p pos qual W H Q := by
  have nts : ∀ {b}, H b = none → b ∉ ts := fun {b} e z => hts b z e
  obtain ⟨ps, e1, ok, all⟩ := t
  refine ⟨ps, e1, ok, ?_⟩
  cases hc : codeAmong pos ps.toList with
  | none =>
    refine .inl ⟨rfl, fun c f hc0 hf ncf ncp nfp => ?_⟩
    have old : ∀ b o, b ≠ p → H b = some o → upd (upd (upd H p (.tbl (ps ++ #[rawInt pos.line, rawInt pos.col, .ref c]))) c (CodeO c qual)) f (LamOC f (W c)) b = some o := fun b o nb e => by
      have nbf : b ≠ f := fun z => by rw [z, hf] at e; cases e
      have nbc : b ≠ c := fun z => by rw [z, hc0] at e; cases e
      rw [upd_ne nbf, upd_ne nbc, upd_ne nb]; exact e
    refine k f c _ (fun b o nb e => old b o (fun z => nb (by rw [z]; exact hp)) e) (fun t' ht' ne => ?_) ⟨ps ++ #[rawInt pos.line, rawInt pos.col, .ref c], ?_, ?_, fun pos' cv q => ?_⟩ upd_same (by rw [upd_ne ncf, upd_same])
    · have n1 : t' ≠ f := fun z => hts t' ht' (by rw [z]; exact hf)
      have n2 : t' ≠ c := fun z => hts t' ht' (by rw [z]; exact hc0)
      rw [upd_ne n1, upd_ne n2, upd_ne ne]
    · rw [upd_ne (Ne.symm nfp), upd_ne (Ne.symm ncp), upd_same]
    · rw [Array.toList_append]; exact triples_app _ ok
    · rw [Array.toList_append] at q
      rcases among_app _ ok q with q | q
      · obtain ⟨c2, z1, z2, z3⟩ := all pos' cv q
        exact ⟨c2, z1, z2, old c2 _ (fun z => z2 (by rw [z]; exact hp)) z3⟩
      · exact ⟨c, q, nts hc0, by rw [upd_ne ncf, upd_same]⟩
  | some cv =>
    obtain ⟨c, rfl, n, e2⟩ := all pos cv hc
    refine .inr ⟨c, rfl, e2, fun f hf => k f c _ (ButL.of (same_new hf)) (fun t' ht' ne => ?_) (TabG.mono ⟨ps, e1, ok, all⟩ (same_new hf)) upd_same (same_new hf _ _ e2)⟩
    have n1 : t' ≠ f := fun z => hts t' ht' (by rw [z]; exact hf)
    rw [upd_ne n1]
end L2
set_option Elab.async false
set_option linter.all false
set_option maxRecDepth 100000
namespace L2
open PySem PySem.Spec PyProof.Rows
structure LamX (P : Program) (w : World) (K : PySem.W.Frag) (mg : Str → Option Value) (base : Heap) (k : Nat) (f : Addr) (sp : Hp → VK → XK → Prop) : Prop where
  run : ∀ (A : Around) (outer : List Env) (s : Shared) (H : Hp) (Q : VK) (E : XK), Room k A → Env0 P w K mg base A outer s H → sp H Q E → codeAny (model P w) A (.call (.ref f) ⟨[], []⟩) (CR (CX1 P w) outer P w H s Q E) s
noncomputable def cxL (P : Program) (w : World) (K : PySem.W.Frag) (mg : Str → Option Value) (base : Heap) (N : List Str) (qual : Str) (scope : Scope) (f : Addr) (cd : Value) (cl : List (Str × Addr)) (A : Around) (outer : List Env) (s : Shared) (H : Hp) (E : XK) : Cx where
  prog := P
  w := w
  K := K
  mg := mg
  base := base
  A := A.deeper (PySem.W.envX qual scope s.heap.objs.size f cd cl)
  N := N
  s₀ := s
  H₀ := H
  env := PySem.W.envX qual scope s.heap.objs.size f cd cl
  outer := outer
  stack := PySem.W.envX qual scope s.heap.objs.size f cd cl :: outer
  ex := []
  calm := true
  fn := fun _ => false
  pn := []
  xe := fun e s' => wpAny (model P w) (A.deeper (PySem.W.envX qual scope s.heap.objs.size f cd cl)) (leaving (PySem.W.envX qual scope s.heap.objs.size f cd cl) e) (fun _ s'' => CX1 P w outer H s E e s'') (fun e' s'' => CX1 P w outer H s E e' s'') s'
section
variable {P : Program} {w : World} {K : PySem.W.Frag} {mg : Str → Option Value} {base : Heap} {N : List Str} {qual : Str} {scope : Scope} {f : Addr} {cd : Value} {cl : List (Str × Addr)} {A : Around} {outer : List Env} {s₀ : Shared} {H₀ : Hp} {E : XK}
theorem passesL : PassesR (CX1 P w) (cxL P w K mg base N qual scope f cd cl A outer s₀ H₀ E) fun _ => E := by
  intro pins σ H s e s' I hc
  obtain ⟨ea, cls, a0, H', B, rfl, fl, os, bare, fw, q⟩ := hc
  have fr : frs (PySem.W.envX qual scope s₀.heap.objs.size f cd cl :: outer) = s₀.heap.objs.size :: frs outer := rfl
  have neL : ∀ b o, s₀.heap.get? b = some o → b ∉ frs outer → b ∉ frs (PySem.W.envX qual scope s₀.heap.objs.size f cd cl :: outer) := fun b o e hb z => by
    rw [fr] at z
    rcases List.mem_cons.mp z with z | z
    · have := Heap.lt_size e
      rw [z] at this
      exact absurd this (Nat.lt_irrefl _)
    · exact hb z
  show wpAny (model P w) (A.deeper (PySem.W.envX qual scope s₀.heap.objs.size f cd cl)) (leaving (PySem.W.envX qual scope s₀.heap.objs.size f cd cl) (.ref ea)) (fun _ s'' => CX1 P w outer H₀ s₀ E (.ref ea) s'') (fun e' s'' => CX1 P w outer H₀ s₀ E e' s'') s'
  refine wpAny_leaves_onW I.ok.frames rfl fl fun h'' fl'' up => ?_
  have fu := fw.up fl up
  have ub : Un (frs outer) [] H₀ H s₀.heap s.heap := I.base
  refine ⟨ea, cls, a0, H', B, rfl, fl'', os.trans I.os, bare, ⟨fw.hok, fun b o e n hb => ?_, fun b o e hb => ?_, fun b o e n => ?_, fun b o e hb => ?_, fun b xs e => fw.tups b xs (ub.tups b xs e), fun b o u e => fw.frzs b o u (ub.frzs b o u e), fun b ps e => ?_, fw.exc⟩, q⟩
  · exact fw.keep b o (ub.keep b o e n hb (by simp)) (ub.free b o e n (by simp)) (neL b o e hb)
  · obtain ⟨sl, e1⟩ := ub.slot b o e (I.ok.frf b hb) hb (by simp)
    obtain ⟨sl', e2⟩ := fu.slot b _ e1 (show b ∈ frs (PySem.W.envX qual scope s₀.heap.objs.size f cd cl :: outer) by rw [fr]; exact List.mem_cons_of_mem _ hb)
    exact ⟨sl', e2⟩
  · obtain ⟨o', e1⟩ := ub.there b o e (by simp)
    exact fw.free b o' e1 (ub.free b o e n (by simp))
  · obtain ⟨o', e1⟩ := ub.there b o e (by simp)
    exact fw.there b o' e1 (neL b o e hb)
  · obtain ⟨m1, e1⟩ := ub.tbls b ps e
    obtain ⟨m2, e2⟩ := fw.tbls b _ e1
    exact ⟨m1 ++ m2, by rw [e2, Array.append_assoc]⟩
end
structure LamSc (N : List Str) (sc : Scope) : Prop where
  kind : sc.kind = .function
  co : sc.isCoroutine = false
  gen : sc.isGenerator = false
  nocell : ∀ y ∈ sc.names, y.2 ≠ .cell
  free : ∀ x ∈ N, sc.names.lookup x = some .free
structure CellsAt (base : Heap) (N : List Str) (cl : List (Str × Addr)) (σ : St) : Prop where
  inj : ∀ x y c, cl.lookup x = some c → cl.lookup y = some c → x = y
  all : ∀ x c, cl.lookup x = some c → ∃ v, base.IsCell c v
  val : ∀ (i : Nat) (x : Str) (v : V), N[i]? = some x → σ[i]? = some (some v) → ∃ c u, cl.lookup x = some c ∧ RelV v u ∧ base.IsCell c (some u)
  len : σ.length = N.length
section
variable {P : Program} {w : World} {K : PySem.W.Frag} {mg : Str → Option Value} {base : Heap}
theorem lamX_of {L : LamW} {N : List Str} {k : Nat} {f : Addr} {σ0 : St} {H0 : Hp → Prop} {sp : Hp → VK → XK → Prop} (S : LamSc N L.sc) (hhas : ∀ x, L.sc.names.lookup x = some .free → ∃ c, L.cl.lookup x = some c) (hce : CellsAt base N L.cl σ0)
    (hH : ∀ H Q E, sp H Q E → H f = some (LamOC f L) ∧ H L.c = some (CodeO L.c L.qual) ∧ H0 H)
    (hbind : ∀ (s : Shared) (H : Hp) (doc pm ctv : Value), HOk P w H s.heap → H0 H → ∃ binds, (∀ y ∈ binds, L.sc.names.lookup y.1 = some .local) ∧ BindsTo s (L.fn doc pm ctv) ⟨[], []⟩ binds)
    (hbody : ∀ (A : Around) (outer : List Env) (s : Shared) (H : Hp) (Q : VK) (E : XK), Room k (A.deeper (PySem.W.envX L.qual L.sc s.heap.objs.size f (.ref L.c) L.cl)) → sp H Q E →
      ∃ t, PE (cxL P w K mg base N L.qual L.sc f (.ref L.c) L.cl A outer s H E) L.body t ∧ t σ0 H Q) : LamX P w K mg base (k + 1) f sp := by
  refine ⟨fun A outer s H Q E hr e0 hsp => ?_⟩
  obtain ⟨hf, hc, h0⟩ := hH _ _ _ hsp
  have lim : s.heap.NoLimit := e0.mod.nolimit.keeps fun b o e => (e0.bs b o e).1
  obtain ⟨⟨doc, pm, ctv, ef⟩, _, _⟩ := (show ObjOk P w H s.heap f (LamOC f L) from e0.hok f _ hf)
  obtain ⟨hrec, _, _⟩ := (show ObjOk P w H s.heap L.c (CodeO L.c L.qual) from e0.hok L.c _ hc)
  obtain ⟨binds, hloc, hb⟩ := hbind s H doc pm ctv e0.hok h0
  refine PySem.W.kla_callFunE hr.depth ef rfl S.co S.gen rfl hrec (hb _ _ _ _ ?_)
  refine wpAny_newFunctionEnv S.nocell hloc (fun h1 hns hsb => ⟨lim.fresh _ hsb, ?_⟩) S.kind
  show codeAny _ _ (.expr L.body (PySem.W.envX L.qual L.sc s.heap.objs.size f (.ref L.c) L.cl)) _ _
  have hk : ∀ b o, s.heap.get? b = some o → h1.get? b = some o := fun b o e => hsb.extBut b o (Nat.ne_of_lt (Heap.lt_size e)) (Heap.get?_push_of_some _ e)
  obtain ⟨t, ht, hq⟩ := hbody A outer s H Q E (hr.deeper _) hsp
  have noA : ∀ b : Addr, b ∉ (cxL P w K mg base N L.qual L.sc f (.ref L.c) L.cl A outer s H E).ex := fun b z => absurd (show b ∈ ([] : List Addr) from z) (by simp)
  have I : Inv (cxL P w K mg base N L.qual L.sc f (.ref L.c) L.cl A outer s H E) [] σ0 H { s with heap := h1, toks := s.toks + binds.length } := by
    refine ⟨⟨e0.mod, S.kind, rfl, rfl, Nat.le_refl _, hce.inj, fun y hy => ?_, fun y c z _ => absurd (show false = true from z) (by decide), fun _ => hr.hd, Around.frames_deeper e0.frames, .inr ⟨rfl, rfl⟩, fun b z => absurd z (noA b), e0.bs, e0.bsz, fun b _ _ => noA b, fun b z => absurd z (noA b), e0.funs, e0.frf⟩,
      rfl, e0.bare, Un.kept hk, ⟨_, hns, fun i y v h1 h2 h3 => ?_⟩, fun y c h => ?_, e0.hok.fresh (Nat.le_refl _), fun y c h => ?_, fun p hp => absurd (show p ∈ ([] : List (Addr × Obj)) from hp) (by simp), e0.hok.kept hk, hce.len⟩
    · have hy : L.sc.names.lookup y = some .cell ∨ L.sc.names.lookup y = some .free := hy
      rcases hy with hy | hy
      · exact absurd rfl (S.nocell _ (PySem.mem_of_lookup hy))
      · exact hhas y hy
    · obtain ⟨c, u, e1, r, z⟩ := hce.val i y v h1 h2
      exact ⟨u, r, .inr ⟨.inr (S.free y (List.mem_of_getElem? h1)), c, e1, (z.keeps fun b o e => (e0.bs b o e).1).keeps hk⟩⟩
    · obtain ⟨v, z⟩ := hce.all y c h
      exact ⟨v, (z.keeps fun b o e => (e0.bs b o e).1).keeps hk⟩
    · obtain ⟨v, o, z, _⟩ := hce.all y c h
      exact (e0.bs c o z).2
  refine PySem.W.kla_codeExpr (wpAny_mono (ht [] _ σ0 H Q I hq) (fun u s' hs => ?_) fun e s' hs => hs)
  obtain ⟨v, H', J, rv, q⟩ := hs
  exact ⟨v, H', J.os, J.bare, J.base, J.hok, rv, q⟩
theorem bind_none {L : LamW} (h : ∀ doc pm ctv : Value, bindArgs (L.fn doc pm ctv) ⟨[], []⟩ = pure []) (s : Shared) (doc pm ctv : Value) : ∃ binds, (∀ y ∈ binds, L.sc.names.lookup y.1 = some .local) ∧ BindsTo s (L.fn doc pm ctv) ⟨[], []⟩ binds :=
  ⟨[], (fun _ z => nomatch z), .of_eq (h doc pm ctv)⟩
end
noncomputable def tCallL0 (LP : Addr → (Hp → VK → XK → Prop) → Prop) (i : Nat) (R : St → XK) : TE := fun σ H Q => ∃ (f : Addr) (L : LamW) (sp : Hp → VK → XK → Prop), σ[i]? = some (some (.ref f)) ∧ H f = some (LamOC f L) ∧ LP f sp ∧ sp H Q (R σ)
section
variable {X : Cx}
theorem pe_callL0 (i k : Nat) {R : St → XK} {x : Str} {p pos : Pos} (hr : Room k X.A) (hx : PassesR (CX1 X.prog X.w) X R)
    (hN : X.N[i]? = some x := by rfl) (hv : Vis X.env.scope x := by first | exact Or.inl rfl | exact Or.inr (Or.inl rfl) | exact Or.inr (Or.inr rfl)) (hdb : (x == ("__debug__" : Str)) = false := by decide) (hcd : (x == ("__classdict__" : Str)) = false := by decide) :
    PE X (.Call (.Name x p) [] [] pos) (tCallL0 (fun f sp => LamX X.prog X.w X.K X.mg X.base k f sp) i R) := by
  intro pins s σ H Q I ⟨f, L, sp, hi, hf, G, h⟩
  refine wpAny_Call_Name_kw (ld_var I hN hv hi (fun u r => ?_) hdb hcd)
  obtain rfl : u = Value.ref f := r
  obtain ⟨⟨doc, pm, ctv, ef⟩, _, _⟩ := (show ObjOk X.prog X.w H s.heap f (LamOC f L) from I.hok f _ hf)
  refine PySem.W.callWith_F0 (first := []) ⟨_, _, _, _, ef⟩ ?_
  refine wpAny_call (codeAny_mono (G.run X.A X.stack s H Q (R σ) hr I.env0 h) fun r s' hq => ?_)
  cases r with
  | error e => exact hx pins σ H s e s' I hq
  | ok fl =>
    cases fl with
    | ret u => exact I.after hq
    | next => exact False.elim hq
    | brk => exact False.elim hq
    | cont => exact False.elim hq
theorem pe_callL0K (P : Program) (w : World) (K : PySem.W.Frag) (mg : Str → Option Value) (base : Heap) (hP : X.prog = P) (hw : X.w = w) (hK : X.K = K) (hm : X.mg = mg) (hb : X.base = base) (i k : Nat) {R : St → XK} {x : Str} {p pos : Pos} (hr : Room k X.A) (hx : PassesR (CX1 X.prog X.w) X R)
    (hN : X.N[i]? = some x := by rfl) (hv : Vis X.env.scope x := by first | exact Or.inl rfl | exact Or.inr (Or.inl rfl) | exact Or.inr (Or.inr rfl)) (hdb : (x == ("__debug__" : Str)) = false := by decide) (hcd : (x == ("__classdict__" : Str)) = false := by decide) :
    PE X (.Call (.Name x p) [] [] pos) (tCallL0 (fun f sp => LamX P w K mg base k f sp) i R) := by
  subst hP hw hK hm hb
  exact pe_callL0 i k hr hx hN hv hdb hcd
structure BaseOk (K : PySem.W.Frag) (mg : Str → Option Value) (base : Heap) : Prop where
  kin : K.In base
  ns : base.Ns mainGlobals mg
  bm : BMain mg base
noncomputable def Capt (X : Cx) (σ : St) (base' : Heap) : Prop := (∀ x y c, X.env.cells.lookup x = some c → X.env.cells.lookup y = some c → x = y) ∧ (∀ x c, X.env.cells.lookup x = some c → ∃ v, base'.IsCell c v) ∧ ∀ (i : Nat) (x : Str) (v : V) (c : Addr), X.N[i]? = some x → σ[i]? = some (some v) → X.env.scope.names.lookup x = some .cell → X.env.cells.lookup x = some c → ∃ u, RelV v u ∧ base'.IsCell c (some u)
theorem BMain.keeps {mg : Str → Option Value} {b b' : Heap} (h : BMain mg b) (k : ∀ a o, b.get? a = some o → b'.get? a = some o) : BMain mg b' := by
  obtain ⟨bm, ob, b1, b2, b3, b4, b5, b6⟩ := h
  exact ⟨bm, ob, b1, b2, k _ _ b3, b4, b5, b6⟩
theorem rebase {pins : List (Addr × Obj)} {σ : St} {H : Hp} {s : Shared} (I : Inv X pins σ H s) (hB : BMain X.mg X.base) (hfn : ∀ x, X.fn x = true) : ∃ base', BaseOk X.K X.mg base' ∧ Capt X σ base' ∧ Env0 X.prog X.w X.K X.mg base' X.A X.stack s H := by
  have hin : ∀ env ∈ X.stack, ∀ b, env.frame = some b → b ∈ frs X.stack ++ trk s.heap H := fun env he b hb => List.mem_append_left _ (List.mem_filterMap.mpr ⟨env, he, hb⟩)
  have notT : ∀ b, H b = none → b ∉ trk s.heap H := fun b n z => by
    have := (List.mem_filter.mp z).2
    rw [n] at this; cases this
  have toB : ∀ b o, s.heap.get? b = some o → H b = none → b ∉ frs X.stack → (PySem.W.hideAll s.heap (frs X.stack ++ trk s.heap H)).get? b = some o := fun b o e n hb => PySem.W.hideAll_get _ e fun z => (List.mem_append.mp z).elim hb (notT b n)
  have ofB : ∀ b o, (PySem.W.hideAll s.heap (frs X.stack ++ trk s.heap H)).get? b = some o → s.heap.get? b = some o ∧ H b = none := fun b o e => by
    have e1 := PySem.W.of_hideAll _ e
    refine ⟨e1, ?_⟩
    cases q : H b with
    | none => rfl
    | some u =>
      have m : b ∈ trk s.heap H := List.mem_filter.mpr ⟨List.mem_range.mpr (Heap.lt_size e1), by rw [q]; rfl⟩
      rw [PySem.W.hideAll_none _ (List.mem_append_right _ m)] at e; cases e
  have stk := I.stack
  have kb : ∀ b o, X.base.get? b = some o → (PySem.W.hideAll s.heap (frs X.stack ++ trk s.heap H)).get? b = some o := fun b o e => toB b o (I.bs b o e).1 (I.bs b o e).2 fun z => by
    have := (stk.mem z).1
    rw [e] at this; cases this
  have cellB : ∀ x c v, X.env.cells.lookup x = some c → s.heap.IsCell c v → (PySem.W.hideAll s.heap (frs X.stack ++ trk s.heap H)).IsCell c v := fun x c v hc ⟨o, ho, hd⟩ => by
    refine ⟨o, toB c o ho (I.freeC x c hc) fun z => ?_, hd⟩
    rcases List.mem_cons.mp (I.stkSub c z) with z | z
    · exact I.cne x c hc z
    · obtain ⟨_, o1, e1, _⟩ := I.ok.funs.mem z
      exact absurd (Nat.lt_of_lt_of_le (Heap.lt_size e1) (I.ok.cab x c (hfn x) hc)) (Nat.lt_irrefl _)
  have md := I.mod
  have md' : Mod X.K X.mg (PySem.W.hideAll s.heap (frs X.stack ++ trk s.heap H)) := ⟨md.kin.keeps kb, md.glob.keeps kb, let ⟨mb, h1, h2⟩ := md.blt; ⟨mb, h1.keeps kb, h2⟩, md.nolimit.keeps kb⟩
  refine ⟨PySem.W.hideAll s.heap (frs X.stack ++ trk s.heap H), ⟨md'.kin, md'.glob, hB.keeps kb⟩, ⟨I.ok.inj, fun x c hc => ?_, fun i x v c hN hσ hk hc => ?_⟩, ⟨I.ok.frames, md', ofB, Nat.le_of_eq (PySem.W.hideAll_size _ _), PySem.W.funFrames_hide stk hin, I.stkFree, I.hok, I.bare⟩⟩
  · obtain ⟨v, z⟩ := I.cell x c hc
    exact ⟨v, cellB x c v hc z⟩
  · obtain ⟨m, hn, hl⟩ := I.loc
    obtain ⟨u, r, l⟩ := hl i x v hN hσ (.inr (.inl hk))
    rcases l with ⟨k, _⟩ | ⟨_, c', e, z⟩
    · have k' : X.env.scope.names.lookup x = some .local := k
      rw [hk] at k'; cases k'
    · rw [hc] at e; cases e
      exact ⟨u, r, cellB x c _ hc z⟩
noncomputable def tCallR0 (X : Cx) (sp : Heap → Sp) (ds : List V) (t : TA) : TE := fun σ H Q => t σ H fun vs H1 => ∀ base', BaseOk X.K X.mg base' → Capt X σ base' → sp base' (vs ++ ds) H1 Q E0
theorem pe_callR0 {k : Nat} {x : Str} {ps : List Str} {ds : List V} {sp : Heap → Sp} {e : Expr} {es : List Expr} {t : TA} {p pos : Pos} (D : ∀ base', BaseOk X.K X.mg base' → Def X.prog X.w X.K X.mg base' k x ps ds (sp base')) (hB : BMain X.mg X.base) (hr : Room k X.A) (hg : Gl X x)
    (ha : PA X (e :: es) t) (hfn : ∀ x, X.fn x = true := by intro; rfl) (hdb : (x == ("__debug__" : Str)) = false := by decide) (he : starEach (e :: es) X.env = (false, eval e X.env) :: starEach es X.env := by rfl) (hpl : (backTo pos (starEach es X.env)).any (·.1) = false := by rfl) :
    PE X (.Call (.Name x p) (e :: es) [] pos) (tCallR0 X sp ds t) := by
  intro pins s σ H Q I h
  have G0 : BaseOk X.K X.mg X.base := ⟨I.mod.kin, I.mod.glob, hB⟩
  obtain ⟨f0, fd0, dvs0, _, hm, hk, _, _⟩ := (D X.base G0).ex
  refine wpAny_Call_Name_kw (ld_glob I hg hm ?_ hdb)
  refine PySem.W.callWith_K (h₀ := X.base) I.ok.mod.kin hk (thn (ha pos pins s σ H _ I h) fun us s1 ⟨vs, H1, I1, r, q⟩ => ⟨I1.kIn, ?_⟩) he hpl
  obtain ⟨base', G, cap, e0⟩ := rebase I1 hB hfn
  have q' := q base' G cap
  obtain ⟨f, fd, dvs, F, hm', hk', hb, hd⟩ := (D base' G).ex
  rw [hm] at hm'; cases hm'
  have r2 : Vals (vs ++ ds) (us ++ dvs) := r.append hd
  have hl : (us ++ dvs).length = ps.length := by rw [← r2.length]; exact F.len _ _ _ _ q'
  refine wpAny_call (codeAny_mono (F.run X.A X.stack s1 H1 ⟨us, []⟩ (us ++ dvs) (vs ++ ds) Q E0 hr e0 (hb s1 us I1.kIn hl) r2 q') fun res s' hq => ?_)
  cases res with
  | error er => exact pass0 pins σ H1 s1 er s' I1 hq
  | ok fl =>
    cases fl with
    | ret u => exact I1.after hq
    | next => exact False.elim hq
    | brk => exact False.elim hq
    | cont => exact False.elim hq
end
theorem cells_of {X : Cx} {σ σ' : St} {base' : Heap} {sc : Scope} {N' : List Str} (cap : Capt X σ base') (hfr : FreeHas sc X.env.cells) (hlen : σ'.length = N'.length)
    (hval : ∀ (i : Nat) (x : Str) (v : V), N'[i]? = some x → σ'[i]? = some (some v) → (x, NameKind.free) ∈ sc.names ∧ X.env.scope.names.lookup x = some .cell ∧ ∃ j : Nat, X.N[j]? = some x ∧ σ[j]? = some (some v)) : CellsAt base' N' (clOf X.env.cells sc.names []) σ' := by
  obtain ⟨inj, all, val⟩ := cap
  have get : ∀ x c, (clOf X.env.cells sc.names []).lookup x = some c → X.env.cells.lookup x = some c := fun x c h => clOf_get _ _ hfr (fun _ _ z => (by cases z)) h
  refine ⟨fun x y c h1 h2 => inj x y c (get x c h1) (get y c h2), fun x c h => all x c (get x c h), fun i x v h1 h2 => ?_, hlen⟩
  obtain ⟨m, k, j, e1, e2⟩ := hval i x v h1 h2
  obtain ⟨c, hc⟩ := clOf_has (cells := X.env.cells) sc.names [] (.inr m)
  obtain ⟨u, r, z⟩ := val j x v c e1 e2 k (get x c hc)
  exact ⟨c, u, hc, r, z⟩
theorem clOf_hasL {cells : List (Str × Addr)} {sc : Scope} : ∀ x, sc.names.lookup x = some .free → ∃ c, (clOf cells sc.names []).lookup x = some c := fun x h => clOf_has sc.names [] (.inr (PySem.mem_of_lookup h))
theorem FreeHas.of {sc scO : Scope} {qual : Str} {L f : Addr} {cd : Value} (h : ∀ y ∈ sc.names, y.2 = NameKind.free → scO.names.lookup y.1 = some .cell) : FreeHas sc (envOfC qual scO L f cd).cells := fun x hx => cell_has (n := L + 1) (h (x, .free) hx rfl)
end L2
set_option Elab.async false
set_option linter.all false
namespace L2
open PySem
theorem len0 {us : List Value} (h : us.length = 0) : us = [] := List.eq_nil_of_length_eq_zero h
theorem lenS {us : List Value} {n : Nat} (h : us.length = n + 1) : ∃ a r, us = a :: r ∧ r.length = n := by
  cases us with
  | nil => exact absurd h (Nat.succ_ne_zero n).symm
  | cons a r => exact ⟨a, r, rfl, Nat.succ.inj h⟩
theorem len1 {us : List Value} (h : us.length = 1) : ∃ a, us = [a] := by
  obtain ⟨a, r, rfl, h2⟩ := lenS h; cases len0 h2; exact ⟨a, rfl⟩
theorem len2 {us : List Value} (h : us.length = 2) : ∃ a b, us = [a, b] := by
  obtain ⟨a, r, rfl, h2⟩ := lenS h; obtain ⟨b, rfl⟩ := len1 h2; exact ⟨a, b, rfl⟩
theorem len3 {us : List Value} (h : us.length = 3) : ∃ a b c, us = [a, b, c] := by
  obtain ⟨a, r, rfl, h2⟩ := lenS h; obtain ⟨b, c, rfl⟩ := len2 h2; exact ⟨a, b, c, rfl⟩
theorem len4 {us : List Value} (h : us.length = 4) : ∃ a b c d, us = [a, b, c, d] := by
  obtain ⟨a, r, rfl, h2⟩ := lenS h; obtain ⟨b, c, d, rfl⟩ := len3 h2; exact ⟨a, b, c, d, rfl⟩
theorem len5 {us : List Value} (h : us.length = 5) : ∃ a b c d e, us = [a, b, c, d, e] := by
  obtain ⟨a, r, rfl, h2⟩ := lenS h; obtain ⟨b, c, d, e, rfl⟩ := len4 h2; exact ⟨a, b, c, d, e, rfl⟩
end L2
namespace M4
end M4
set_option Elab.async false
set_option linter.all false
set_option maxRecDepth 100000
set_option maxHeartbeats 4000000
namespace K23
open PySem L2 M4
noncomputable def top (i : Nat) : Stmt := PySem.Challenge.pw_cellfolio_k23_folds_undone.main.body.getD i (.Pass ⟨0, 0, 0, 0⟩)
noncomputable abbrev s_is_whole_from : Stmt := top 28
noncomputable abbrev s_is_whole_within : Stmt := top 29
noncomputable abbrev s_is_cell : Stmt := top 30
noncomputable abbrev s_is_side : Stmt := top 31
noncomputable abbrev s_is_list_of : Stmt := top 32
noncomputable abbrev s_are_rows_of : Stmt := top 33
noncomputable abbrev s_is_picture : Stmt := top 34
noncomputable abbrev s_need_picture : Stmt := top 35
noncomputable abbrev s_is_fold_rule : Stmt := top 42
noncomputable abbrev s_need_fold_rule : Stmt := top 43
noncomputable abbrev s_need_fold_rules : Stmt := top 44
noncomputable abbrev s_row_above : Stmt := top 45
noncomputable abbrev s_awaited : Stmt := top 46
noncomputable abbrev s_folded_cell : Stmt := top 47
noncomputable abbrev s_unfolded_cell : Stmt := top 48
noncomputable abbrev s_folded_row : Stmt := top 49
noncomputable abbrev s_unfolded_row : Stmt := top 50
noncomputable abbrev s_above_in : Stmt := top 51
noncomputable abbrev s_folded_picture : Stmt := top 52
noncomputable abbrev s_unfolded_picture : Stmt := top 53
noncomputable abbrev s_law_cell_at : Stmt := top 55
noncomputable abbrev s_law_whole : Stmt := top 56
noncomputable abbrev s_law_mixed : Stmt := top 57
noncomputable abbrev s_law_numbers : Stmt := top 58
noncomputable abbrev s_law_fresh : Stmt := top 59
noncomputable abbrev s_law_picture : Stmt := top 60
noncomputable abbrev s_law_but_one : Stmt := top 61
noncomputable abbrev s_law_folded : Stmt := top 62
noncomputable abbrev s_law_no_picture : Stmt := top 63
noncomputable abbrev s_law_said : Stmt := top 64
noncomputable abbrev s_law_row_good : Stmt := top 65
noncomputable abbrev s_law_copy : Stmt := top 66
noncomputable abbrev s_law_picture_good : Stmt := top 67
noncomputable abbrev s_law_refused : Stmt := top 68
noncomputable abbrev s_law : Stmt := top 69
theorem iteB {b : Bool} {A B : Prop} (h1 : b = true → A) (h2 : b = false → B) : if b = true then A else B := by
  cases b with
  | true => exact iteT (h1 rfl)
  | false => exact iteF (h2 rfl)
theorem iteN {b : Bool} {A B : Prop} (h1 : b = false → A) (h2 : b = true → B) : if (!b) = true then A else B := by
  cases b with
  | true => exact iteF (h2 rfl)
  | false => exact iteT (h1 rfl)
noncomputable def isWh (lo hi : Int) : V → Bool
  | .int i => decide (lo ≤ i) && decide (i ≤ hi)
  | _ => false
noncomputable def ir (rows : List (List Int)) : List (List V) := rows.map fun r => r.map V.int
structure Good (rows : List (List Int)) (w : Nat) : Prop where
  ne : 1 ≤ rows.length
  le : rows.length ≤ 24
  w1 : 1 ≤ w
  w24 : w ≤ 24
  row : ∀ r ∈ rows, r.length = w ∧ ∀ c ∈ r, 0 ≤ c ∧ c ≤ 15
noncomputable def isWf (lo : Int) : V → Bool
  | .int i => decide (lo ≤ i)
  | _ => false
noncomputable def spWf (K : PySem.W.Frag) : Sp := fun vs H Q _ => ∃ x lo, vs = [x, .int lo] ∧ Kd K H x ∧ Q (.bl (isWf lo x)) H
noncomputable def spWh (K : PySem.W.Frag) : Sp := fun vs H Q _ => ∃ x lo hi, vs = [x, .int lo, .int hi] ∧ Kd K H x ∧ Q (.bl (isWh lo hi x)) H
noncomputable def spInQ (K : PySem.W.Frag) (lo hi : Int) : Sp := fun vs H Q _ => ∃ x, vs = [x] ∧ Kd K H x ∧ Q (.bl (isWh lo hi x)) H
noncomputable abbrev spCellQ (K : PySem.W.Frag) : Sp := spInQ K 0 15
noncomputable def spSide (K : PySem.W.Frag) : Sp := fun vs H Q _ => ∃ x, vs = [x] ∧ Kd K H x ∧ Q (.bl (isWh 1 24 x)) H
noncomputable def spLocG (K : PySem.W.Frag) (lo hi : Int) : Sp := fun vs H Q _ => ∃ x, vs = [x] ∧ ((∃ a xs, x = .ref a ∧ H a = some (.lst xs) ∧ xs.length ≤ 1000000 ∧ (∀ y ∈ xs, Kd K H y) ∧ ∀ H', Same H H' → Q (.bl (xs.all (isWh lo hi))) H') ∨ (Kd K H x ∧ isL H x = false ∧ Q (.bl false) H))
noncomputable def spLocFG (K : PySem.W.Frag) (fC : Addr) (lo hi : Int) : Sp := fun vs H Q E => ∃ x, vs = [x, .ref fC] ∧ spLocG K lo hi [x] H Q E
noncomputable abbrev spLocF (K : PySem.W.Frag) (fC : Addr) : Sp := spLocFG K fC 0 15
structure Txt (K : PySem.W.Frag) (mg : Str → Option Value) (cFE cBP cBR : Addr) (tS tC tR t1 t2 t3 t4 : Tok) : Prop where
  len : mg "len" = none
  range : mg "range" = none
  isinstance : mg "isinstance" = none
  int : mg "int" = none
  bool : mg "bool" = none
  list : mg "list" = none
  all : mg "all" = none
  enumerate : mg "enumerate" = none
  min : mg "min" = none
  sum : mg "sum" = none
  tuple : mg "tuple" = none
  ValueError : mg "ValueError" = none
  MOST_SIDE : mg "MOST_SIDE" = some (.int 24 tS)
  MOST_CELL : mg "MOST_CELL" = some (.int 15 tC)
  MOST_RULE : mg "MOST_RULE" = some (.int 4 tR)
  BY_LEFT : mg "BY_LEFT" = some (.int 1 t1)
  BY_ABOVE : mg "BY_ABOVE" = some (.int 2 t2)
  BY_BOTH : mg "BY_BOTH" = some (.int 3 t3)
  BY_BITS : mg "BY_BITS" = some (.int 4 t4)
  FolioError : mg "FolioError" = some (.ref cFE)
  BadPicture : mg "BadPicture" = some (.ref cBP)
  BadRule : mg "BadRule" = some (.ref cBR)
  xBadPicture : PySem.W.excIn K cBP mroVE "ValueError.__new__" = true
  xBadRule : PySem.W.excIn K cBR mroVE "ValueError.__new__" = true
  kP : XCls K cBP
  kR : XCls K cBR
  eP : PySem.W.exmOne K (.ref cBP) (.ref cFE) = some true
  eR : PySem.W.exmOne K (.ref cBR) (.ref cFE) = some true
theorem boot_VE : bootBuiltins "ValueError" = some (.type "ValueError") := by decide +kernel
section
variable {P : Program} {w : World} {K : PySem.W.Frag} {mg : Str → Option Value} {base : Heap} {cFE cBP cBR : Addr} {tS tC tR t1 t2 t3 t4 : Tok}
theorem sc_is_whole_from : FnScope ["thing", "least"] ["thing", "least"] (defScope s_is_whole_from) := ⟨rfl, rfl, rfl, by decide +kernel, rfl, by decide +kernel, by decide +kernel⟩
theorem ok_is_whole_from {f : Addr} {fd : FuncData} (F : FunD K "is_whole_from" "is_whole_from" s_is_whole_from .none f fd) (T : Txt K mg cFE cBP cBR tS tC tR t1 t2 t3 t4) : FnOk P w K mg base CX0 1 f fd ["thing", "least"] (spWf K) := by
  refine F.ok sc_is_whole_from (fun vs H Q E h => ?_) (fun cdv A outer s H vs Q E hr h => ?_)
  · obtain ⟨x, lo, rfl, _⟩ := h; rfl
  · obtain ⟨x, lo, rfl, kd, k⟩ := h
    refine ⟨_, (pss_cons (ps_if (PW.pt (pw_or (pt_not (pt_val (isiK K rfl (pv 0) rfl T.isinstance rfl T.int PyProof.Rows.boot_int))) (pw_or1 (pt_val (isiK K rfl (pv 0) rfl T.isinstance rfl T.bool PyProof.Rows.boot_bool))))) (pss_one (ps_ret pe_bl)) pss_nil)
        (pss_one (ps_ret (pe_cmpR op_le (pv 1) (pv 0) (nomark _))))), ?_⟩
    have fl : isWf lo x = false → Q (.bl false) H := fun e => by rw [e] at k; exact k
    refine ⟨_, rfl, _, kd.isInt, _, rfl, iteN (fun hI => (fl ?_)) (fun hI => ⟨_, rfl, _, kd.isBool, _, rfl, iteB (fun hB => (fl ?_)) (fun hB => ?_)⟩)⟩
    · cases x <;> first | rfl | cases hI
    · cases x <;> first | rfl | cases hB
    · cases x with
      | int i => exact ⟨_, rfl, _, rfl, _, _, rfl, rfl, k⟩
      | bl b => cases hB
      | _ => cases hI
theorem sc_is_whole_within : FnScope ["thing", "least", "most"] ["thing", "least", "most"] (defScope s_is_whole_within) := ⟨rfl, rfl, rfl, by decide +kernel, rfl, by decide +kernel, by decide +kernel⟩
theorem ok_is_whole_within {f : Addr} {fd : FuncData} (F : FunD K "is_whole_within" "is_whole_within" s_is_whole_within .none f fd) (g_is_whole_from : Def P w K mg base 1 "is_whole_from" ["thing", "least"] [] (spWf K)) : FnOk P w K mg base CX0 2 f fd ["thing", "least", "most"] (spWh K) := by
  refine F.ok sc_is_whole_within (fun vs H Q E h => ?_) (fun cdv A outer s H vs Q E hr h => ?_)
  · obtain ⟨x, lo, hi, rfl, _⟩ := h; rfl
  · obtain ⟨x, lo, hi, rfl, kd, k⟩ := h
    refine ⟨_, (pss_one (ps_ret (pe_and (pe_callD g_is_whole_from (hr.mono (by decide)) rfl (pa_cons (pv 0) (pa_cons (pv 1) pa_nil))) (pe_one (pe_cmpR op_le (pv 0) (pv 2) (nomark _)))))), ?_⟩
    refine ⟨_, rfl, _, rfl, x, lo, rfl, kd, _, rfl, iteB (fun h1 => ?_) (fun h1 => ?_)⟩
    · cases x with
      | int i =>
        refine ⟨_, rfl, _, rfl, _, _, rfl, rfl, ?_⟩
        have h2 : decide (lo ≤ i) = true := h1
        simpa only [isWh, h2, Bool.true_and] using k
      | _ => cases h1
    · have e : isWh lo hi x = false := by
        cases x with
        | int i =>
          have h2 : decide (lo ≤ i) = false := h1
          simp only [isWh, h2, Bool.false_and]
        | _ => rfl
      rw [e] at k
      exact k
theorem sc_is_cell : FnScope ["thing"] ["thing"] (defScope s_is_cell) := ⟨rfl, rfl, rfl, by decide +kernel, rfl, by decide +kernel, by decide +kernel⟩
theorem ok_is_cell {f : Addr} {fd : FuncData} (F : FunD K "is_cell" "is_cell" s_is_cell .none f fd) (T : Txt K mg cFE cBP cBR tS tC tR t1 t2 t3 t4) (g_is_whole_within : Def P w K mg base 2 "is_whole_within" ["thing", "least", "most"] [] (spWh K)) : FnOk P w K mg base CX0 3 f fd ["thing"] (spCellQ K) := by
  refine F.ok sc_is_cell (fun vs H Q E h => ?_) (fun cdv A outer s H vs Q E hr h => ?_)
  · obtain ⟨x, rfl, _⟩ := h; rfl
  · obtain ⟨x, rfl, kd, k⟩ := h
    refine ⟨_, (pss_one (ps_ret (pe_callD g_is_whole_within (hr.mono (by decide)) rfl (pa_cons (pv 0) (pa_cons pe_int (pa_cons (pe_glob (v := .int 15) rfl T.MOST_CELL ⟨_, rfl⟩) pa_nil)))))), ?_⟩
    exact ⟨_, rfl, x, 0, 15, rfl, kd, k⟩
theorem sc_is_side : FnScope ["thing"] ["thing"] (defScope s_is_side) := ⟨rfl, rfl, rfl, by decide +kernel, rfl, by decide +kernel, by decide +kernel⟩
theorem ok_is_side {f : Addr} {fd : FuncData} (F : FunD K "is_side" "is_side" s_is_side .none f fd) (T : Txt K mg cFE cBP cBR tS tC tR t1 t2 t3 t4) (g_is_whole_within : Def P w K mg base 2 "is_whole_within" ["thing", "least", "most"] [] (spWh K)) : FnOk P w K mg base CX0 3 f fd ["thing"] (spSide K) := by
  refine F.ok sc_is_side (fun vs H Q E h => ?_) (fun cdv A outer s H vs Q E hr h => ?_)
  · obtain ⟨x, rfl, _⟩ := h; rfl
  · obtain ⟨x, rfl, kd, k⟩ := h
    refine ⟨_, (pss_one (ps_ret (pe_callD g_is_whole_within (hr.mono (by decide)) rfl (pa_cons (pv 0) (pa_cons pe_int (pa_cons (pe_glob (v := .int 24) rfl T.MOST_SIDE ⟨_, rfl⟩) pa_nil)))))), ?_⟩
    exact ⟨_, rfl, x, 1, 24, rfl, kd, k⟩
theorem all_map_id {α : Type} (f : α → Bool) (xs : List α) : (xs.map f).all id = xs.all f := by
  induction xs with
  | nil => rfl
  | cons x r ih => rw [List.map_cons, List.all_cons, List.all_cons, ih]; rfl
theorem filter_t {α : Type} (xs : List α) : xs.filter (fun _ => true) = xs := List.filter_eq_self.mpr fun _ _ => rfl
theorem sc_is_list_of : FnScope ["thing", "is_one"] ["thing", "is_one"] (defScope s_is_list_of) := ⟨rfl, rfl, rfl, by decide +kernel, rfl, by decide +kernel, by decide +kernel⟩
theorem ok_is_list_of {lo hi : Int} {fC f : Addr} {fd : FuncData} (F : FunD K "is_list_of" "is_list_of" s_is_list_of .none f fd) (T : Txt K mg cFE cBP cBR tS tC tR t1 t2 t3 t4) (g_is_one : DefA P w K mg base 3 fC ["thing"] [] (spInQ K lo hi)) : FnOk P w K mg base CX0 4 f fd ["thing", "is_one"] (spLocFG K fC lo hi) := by
  refine F.ok sc_is_list_of (fun vs H Q E h => ?_) (fun cdv A outer s H vs Q E hr h => ?_)
  · obtain ⟨x, rfl, _⟩ := h; rfl
  · obtain ⟨x, rfl, x', ex, h⟩ := h
    cases ex
    refine ⟨_, (pss_one (ps_ret (pe_and (isiK K rfl (pv 0) rfl T.isinstance rfl T.list PyProof.Rows.boot_list) (pe_one (pe_callB (allK K rfl rfl) rfl T.all PyProof.Rows.boot_all (pa_cons (pe_comp (N := ["part", "is_one"]) (src := [none, some 1]) rfl ⟨rfl, rfl, rfl, rfl, rfl, by decide +kernel⟩ (piK K rfl (pv 0)) (fun s H C fp => pg_name (i := 0) (show (["part", "is_one"] : List Str).Nodup by decide +kernel) rfl (by first | exact Or.inl rfl | exact Or.inr rfl)) (fun s H C fp => pts_nil) (fun s H C fp => (pe_callV 1 g_is_one (hr.mono (by decide)) (pa_cons (pv 0) pa_nil)))) pa_nil)))))), ?_⟩
    rcases h with ⟨a, xs, rfl, hH, hl, kds, k⟩ | ⟨kd, hL, k⟩
    · refine ⟨_, rfl, true, isList_lst hH, _, rfl, ⟨_, rfl, a, rfl, ⟨_, SqL.of hH⟩, fun D hD => ?_⟩⟩
      refine comp_fm (k := 0) (fun x => .bl (isWh lo hi x)) (fun _ => true) (src_list (SqL.of hH)) (Nat.le_trans hl (by decide)) hD (fun x _ H' Qb _ kk => kk H' (Same.refl _)) (fun x hx _ H' Q sm kk => ⟨rfl, _, rfl, x, rfl, (kds x hx).mono sm, kk H' (Same.refl _)⟩) fun H' sm hD' => ?_
      refine ⟨D, xs.map (isWh lo hi), rfl, SqL.of (by rw [hD', filter_t, List.map_map]; rfl), ?_⟩
      rw [all_map_id]
      exact k H' sm
    · refine ⟨_, rfl, _, kd.isList, _, rfl, iteB (fun z => ?_) (fun _ => k)⟩
      rw [hL] at z; cases z
theorem wh_len {n : Nat} (h1 : 1 ≤ n) (h2 : n ≤ 24) : isWh 1 24 (.int (n : Int)) = true := by
  simp only [isWh, Bool.and_eq_true, decide_eq_true_eq]; omega
theorem wh_cells {ns : List Int} (h : ∀ c ∈ ns, 0 ≤ c ∧ c ≤ 15) : (ns.map V.int).all (isWh 0 15) = true := by
  rw [List.all_map, List.all_eq_true]
  intro c hc
  have := h c hc
  simp only [Function.comp, isWh, Bool.and_eq_true, decide_eq_true_eq]; omega
theorem kd_ints {H : Hp} {ns : List Int} : ∀ y ∈ ns.map V.int, Kd K H y := fun y hy => by
  obtain ⟨n, _, rfl⟩ := List.mem_map.mp hy
  exact .int n
end
noncomputable def rowOf (H : Hp) : V → Option (List V)
  | .ref b => match H b with
    | some (.lst ys) => some ys
    | _ => none
  | _ => none
noncomputable def rowB (ys : List V) : Bool := ys.all (isWh 0 15) && isWh 1 24 (.int (ys.length : Int))
noncomputable def rowQ (H : Hp) (x : V) : Bool := match rowOf H x with
  | some ys => rowB ys
  | none => false
noncomputable def lenOf (H : Hp) (x : V) : Nat := match rowOf H x with
  | some ys => ys.length
  | none => 0
noncomputable def picB (H : Hp) (v : V) : Bool := match rowOf H v with
  | some xs => isWh 1 24 (.int (xs.length : Int)) && (xs.all (rowQ H) && xs.all fun x => decide (lenOf H x = lenOf H (xs.headD .non)))
  | none => false
structure Rw (K : PySem.W.Frag) (H : Hp) (x : V) : Prop where
  kd : Kd K H x
  len : ∀ ys, rowOf H x = some ys → ys.length ≤ 1000
  it : ∀ ys, rowOf H x = some ys → ∀ y ∈ ys, Kd K H y
structure Th (K : PySem.W.Frag) (H : Hp) (v : V) : Prop where
  kd : Kd K H v
  len : ∀ xs, rowOf H v = some xs → xs.length ≤ 1000
  it : ∀ xs, rowOf H v = some xs → ∀ x ∈ xs, Rw K H x
section
variable {K : PySem.W.Frag} {H H' : Hp} {x : V}
theorem rowOf_lst {a : Addr} {ys : List V} (e : H a = some (.lst ys)) : rowOf H (.ref a) = some ys := by simp only [rowOf, e]
theorem rowOf_ref {ys : List V} (h : rowOf H x = some ys) : ∃ a, x = .ref a ∧ H a = some (.lst ys) := by
  cases x with
  | ref a =>
    refine ⟨a, rfl, ?_⟩
    unfold rowOf at h
    dsimp only at h
    split at h
    · rename_i zs e; cases h; exact e
    · cases h
  | _ => cases h
theorem rowOf_mono (k : Kd K H x) (s : Same H H') : rowOf H' x = rowOf H x := by
  cases k with
  | lst e => rw [rowOf_lst e, rowOf_lst (s _ _ e)]
  | tup e => simp only [rowOf, e, s _ _ e]
  | dict e => simp only [rowOf, e, s _ _ e, DictO]
  | _ => rfl
theorem isL_row (k : Kd K H x) : isL H x = (rowOf H x).isSome := by
  cases k with
  | lst e => simp only [isL, rowOf, e]; rfl
  | tup e => simp only [isL, rowOf, e]; rfl
  | dict e => simp only [isL, rowOf, e, DictO]; rfl
  | _ => rfl
theorem Rw.mono (r : Rw K H x) (s : Same H H') : Rw K H' x := by
  have e := rowOf_mono r.kd s
  exact ⟨r.kd.mono s, fun ys h => r.len ys (by rw [← e]; exact h), fun ys h y hy => (r.it ys (by rw [← e]; exact h) y hy).mono s⟩
theorem Th.mono (t : Th K H x) (s : Same H H') : Th K H' x := by
  have e := rowOf_mono t.kd s
  exact ⟨t.kd.mono s, fun ys h => t.len ys (by rw [← e]; exact h), fun ys h y hy => (t.it ys (by rw [← e]; exact h) y hy).mono s⟩
theorem rowQ_mono (k : Kd K H x) (s : Same H H') : rowQ H' x = rowQ H x := by unfold rowQ; rw [rowOf_mono k s]
theorem lenOf_mono (k : Kd K H x) (s : Same H H') : lenOf H' x = lenOf H x := by unfold lenOf; rw [rowOf_mono k s]
theorem picB_mono (t : Th K H x) (s : Same H H') : picB H' x = picB H x := by
  unfold picB
  rw [rowOf_mono t.kd s]
  cases h : rowOf H x with
  | none => rfl
  | some xs =>
    dsimp only
    have e1 : xs.all (rowQ H') = xs.all (rowQ H) := by
      rw [Bool.eq_iff_iff, List.all_eq_true, List.all_eq_true]
      constructor
      · intro h2 y hy; rw [← rowQ_mono (t.it xs h y hy).kd s]; exact h2 y hy
      · intro h2 y hy; rw [rowQ_mono (t.it xs h y hy).kd s]; exact h2 y hy
    have e2 : (xs.all fun y => decide (lenOf H' y = lenOf H' (xs.headD .non))) = (xs.all fun y => decide (lenOf H y = lenOf H (xs.headD .non))) := by
      cases xs with
      | nil => rfl
      | cons z r =>
        have hz : lenOf H' z = lenOf H z := lenOf_mono (t.it _ h z List.mem_cons_self).kd s
        rw [Bool.eq_iff_iff, List.all_eq_true, List.all_eq_true]
        constructor
        · intro h2 y hy
          have q : decide (lenOf H' y = lenOf H' z) = true := h2 y hy
          have q' := of_decide_eq_true q
          rw [lenOf_mono (t.it _ h y hy).kd s, hz] at q'
          exact decide_eq_true q'
        · intro h2 y hy
          have q : decide (lenOf H y = lenOf H z) = true := h2 y hy
          have q' := of_decide_eq_true q
          refine decide_eq_true ?_
          show lenOf H' y = lenOf H' z
          rw [lenOf_mono (t.it _ h y hy).kd s, hz]
          exact q'
    rw [e1, e2]
end
noncomputable def spPic (K : PySem.W.Frag) : Sp := fun vs H Q _ => ∃ x, vs = [x] ∧ Th K H x ∧ ∀ H', Same H H' → Q (.bl (picB H x)) H'
noncomputable def spPicF (K : PySem.W.Frag) (fC : Addr) : Sp := fun vs H Q E => ∃ x, vs = [x, .ref fC] ∧ spPic K [x] H Q E
noncomputable def spNeed (K : PySem.W.Frag) (cBP : Addr) : Sp := fun vs H Q E => ∃ x, vs = [x] ∧ Th K H x ∧ (picB H x = true → ∀ H', Same H H' → Q .non H') ∧ (picB H x = false → ∀ H', Same H H' → E (.ref cBP) none H')
section
variable {P : Program} {w : World} {K : PySem.W.Frag} {mg : Str → Option Value} {base : Heap} {cFE cBP cBR : Addr} {tS tC tR t1 t2 t3 t4 : Tok}
theorem wh_side {v : V} (h : isWh 1 24 v = true) : ∃ w : Nat, v = .int (w : Int) ∧ 1 ≤ w ∧ w ≤ 24 := by
  cases v with
  | int i =>
    simp only [isWh, Bool.and_eq_true, decide_eq_true_eq] at h
    exact ⟨i.toNat, by rw [Int.toNat_of_nonneg (by omega)], by omega, by omega⟩
  | _ => cases h
theorem head_at {xs : List V} (h : 0 < xs.length) : xs[0]? = some (xs.headD .non) := by
  cases xs with
  | nil => simp at h
  | cons x r => rfl
theorem sc_are_rows_of : FnScope ["thing", "is_one"] ["thing", "is_one"] (defScope s_are_rows_of) := ⟨rfl, rfl, rfl, by decide +kernel, rfl, by decide +kernel, by decide +kernel⟩
theorem ok_are_rows_of {fC f : Addr} {fd : FuncData} (F : FunD K "are_rows_of" "are_rows_of" s_are_rows_of .none f fd) (T : Txt K mg cFE cBP cBR tS tC tR t1 t2 t3 t4) (g_is_list_of : Def P w K mg base 4 "is_list_of" ["thing", "is_one"] [] (spLocF K fC)) (g_is_side : Def P w K mg base 3 "is_side" ["thing"] [] (spSide K)) : FnOk P w K mg base CX0 5 f fd ["thing", "is_one"] (spPicF K fC) := by
  refine F.ok sc_are_rows_of (fun vs H Q E h => ?_) (fun cdv A outer s H vs Q E hr h => ?_)
  · obtain ⟨x, rfl, _⟩ := h; rfl
  · obtain ⟨x, rfl, x', ex, th, k⟩ := h
    cases ex
    refine ⟨_, (pss_cons (ps_if (PW.pt (pw_or (pt_not (pt_val (isiK K rfl (pv 0) rfl T.isinstance rfl T.list PyProof.Rows.boot_list))) (pw_or1 (pt_not (pt_val (pe_callD g_is_side (hr.mono (by decide)) rfl (pa_cons (pe_callB (lenK K rfl) rfl T.len PySem.boot_len (pa_cons (pv 0) pa_nil)) pa_nil))))))) (pss_one (ps_ret pe_bl)) pss_nil)
        (pss_cons (ps_if (pt_not (pt_val (pe_callB (allK K rfl rfl) rfl T.all PyProof.Rows.boot_all (pa_cons (pe_comp (N := ["row", "is_one"]) (src := [none, some 1]) rfl ⟨rfl, rfl, rfl, rfl, rfl, by decide +kernel⟩ (piK K rfl (pv 0)) (fun s H C fp => pg_name (i := 0) (show (["row", "is_one"] : List Str).Nodup by decide +kernel) rfl (by first | exact Or.inl rfl | exact Or.inr rfl)) (fun s H C fp => pts_nil) (fun s H C fp => (pe_and (pe_callD g_is_list_of (hr.mono (by decide)) rfl (pa_cons (pv 0) (pa_cons (pv 1) pa_nil))) (pe_one (pe_callD g_is_side (hr.mono (by decide)) rfl (pa_cons (pe_callB (lenK K rfl) rfl T.len PySem.boot_len (pa_cons (pv 0) pa_nil)) pa_nil)))))) pa_nil)))) (pss_one (ps_ret pe_bl)) pss_nil)
        (pss_one (ps_ret (pe_callB (allK K rfl rfl) rfl T.all PyProof.Rows.boot_all (pa_cons (pe_comp (N := ["row", "thing"]) (src := [none, some 0]) rfl ⟨rfl, rfl, rfl, rfl, rfl, by decide +kernel⟩ (piK K rfl (pv 0)) (fun s H C fp => pg_name (i := 0) (show (["row", "thing"] : List Str).Nodup by decide +kernel) rfl (by first | exact Or.inl rfl | exact Or.inr rfl)) (fun s H C fp => pts_nil) (fun s H C fp => (pe_cmpR op_eq (pe_callB (lenK K rfl) rfl T.len PySem.boot_len (pa_cons (pv 0) pa_nil)) (pe_callB (lenK K rfl) rfl T.len PySem.boot_len (pa_cons (pe_ix (ixK K rfl) (pv 1) pe_int (fun _ _ => rfl)) pa_nil)) (nomark _)))) pa_nil)))))), ?_⟩
    cases hx : rowOf H x with
    | none =>
      have ek : picB H x = false := by unfold picB; rw [hx]
      rw [ek] at k
      refine ⟨_, rfl, _, th.kd.isList, _, rfl, ?_⟩
      rw [isL_row th.kd, hx]
      exact k H (Same.refl H)
    | some xs =>
      obtain ⟨a, rfl, e⟩ := rowOf_ref hx
      have ek : picB H (.ref a) = (isWh 1 24 (.int (xs.length : Int)) && (xs.all (rowQ H) && xs.all fun x => decide (lenOf H x = lenOf H (xs.headD .non)))) := by unfold picB; rw [hx]
      rw [ek] at k
      have hz : xs.length ≤ sizeLine := Nat.le_trans (th.len xs hx) (by decide)
      refine ⟨_, rfl, true, isList_lst e, _, rfl, ⟨_, rfl, a, _, rfl, .inl (SqL.of e), _, rfl, .int _, _, rfl, iteN (fun h1 => ?_) (fun h1 => ?_)⟩⟩
      · rw [h1, Bool.false_and] at k
        exact k H (Same.refl H)
      rw [h1, Bool.true_and] at k
      refine ⟨_, rfl, a, rfl, ⟨_, SqL.of e⟩, fun D hD => ?_⟩
      refine comp_fm (k := 0) (fun y => .bl (rowQ H y)) (fun _ => true) (src_list (SqL.of e)) hz hD (fun x _ H' Qb _ kk => kk H' (Same.refl _)) (fun y hy _ H' Q' sm kk => ?_) fun H1 s1 hD1 => ?_
      · have r1 := th.it xs hx y hy
        have r2 := r1.mono sm
        have k2 : ∀ H2, Same H' H2 → Q' (.bl (rowQ H' y)) H2 := fun H2 s2 => by rw [rowQ_mono r1.kd sm]; exact kk H2 s2
        refine ⟨_, rfl, _, rfl, y, rfl, y, rfl, ?_⟩
        cases hr0 : rowOf H' y with
        | none =>
          refine .inr ⟨r2.kd, by rw [isL_row r2.kd, hr0]; rfl, _, rfl, ?_⟩
          have := k2 H' (Same.refl H')
          unfold rowQ at this
          rw [hr0] at this
          exact this
        | some ys =>
          obtain ⟨b, rfl, e2⟩ := rowOf_ref hr0
          have ek : rowQ H' (.ref b) = rowB ys := by unfold rowQ; rw [hr0]
          refine .inl ⟨b, ys, rfl, e2, Nat.le_trans (r2.len ys hr0) (by decide), r2.it ys hr0, fun H1 s1 => ⟨_, rfl, iteB (fun h1 => ?_) (fun h1 => ?_)⟩⟩
          · refine ⟨_, rfl, b, _, rfl, .inl (SqL.of (s1 _ _ e2)), _, rfl, .int _, ?_⟩
            have := k2 H1 s1
            rw [ek] at this
            unfold rowB at this
            rw [h1, Bool.true_and] at this
            exact this
          · have := k2 H1 s1
            rw [ek] at this
            unfold rowB at this
            rw [h1, Bool.false_and] at this
            exact this
      refine ⟨D, xs.map (rowQ H), rfl, SqL.of (by rw [hD1, filter_t, List.map_map]; rfl), _, rfl, ?_⟩
      rw [all_map_id]
      refine iteN (fun h2 => ?_) (fun h2 => ?_)
      · rw [h2, Bool.false_and] at k
        exact k H1 s1
      rw [h2, Bool.true_and] at k
      have hpos : 0 < xs.length := by
        obtain ⟨n, en, n1, _⟩ := wh_side h1
        injection en with en
        omega
      have lst : ∀ y ∈ xs, ∃ b ys, y = .ref b ∧ H b = some (.lst ys) ∧ lenOf H y = ys.length := fun y hy => by
        have q := List.all_eq_true.mp h2 y hy
        unfold rowQ at q
        cases hy2 : rowOf H y with
        | none => rw [hy2] at q; cases q
        | some ys =>
          obtain ⟨b, rfl, e2⟩ := rowOf_ref hy2
          exact ⟨b, ys, rfl, e2, by unfold lenOf; rw [hy2]⟩
      obtain ⟨b0, y0, eh, e0, l0⟩ := lst (xs.headD .non) (by cases xs with | nil => simp at hpos | cons z r => exact List.mem_cons_self)
      refine ⟨_, rfl, a, rfl, ⟨_, SqL.of (s1 _ _ e)⟩, fun D2 hD2 => ?_⟩
      refine comp_fm (k := 0) (fun y => .bl (decide (lenOf H y = lenOf H (xs.headD .non)))) (fun _ => true) (src_list (SqL.of (s1 _ _ e))) hz hD2 (fun x _ H' Qb _ kk => kk H' (Same.refl _)) (fun y hy _ H' Q' sm kk => ?_) fun H2 s2 hD2' => ?_
      · have sm2 := s1.trans sm
        obtain ⟨b, ys, rfl, e2, l2⟩ := lst y hy
        refine ⟨_, rfl, b, _, rfl, .inl (SqL.of (sm2 _ _ e2)), _, rfl, a, _, _, _, rfl, rfl, SqL.of (sm2 _ _ e), atI_nat (j := 0) (head_at hpos), b0, _, eh ▸ rfl, .inl (SqL.of (sm2 _ _ e0)), rfl, ?_⟩
        have ed : decide (V.int (ys.length : Int) = V.int (y0.length : Int)) = decide (lenOf H (.ref b) = lenOf H (xs.headD .non)) := by
          rw [l2, l0, dec_int, Bool.eq_iff_iff]
          simp
          omega
        rw [ed]
        exact kk H' (Same.refl _)
      · refine ⟨D2, xs.map fun y => decide (lenOf H y = lenOf H (xs.headD .non)), rfl, SqL.of (by rw [hD2', filter_t, List.map_map]; rfl), ?_⟩
        rw [all_map_id]
        exact k H2 (s1.trans s2)
theorem sc_is_picture : FnScope ["thing"] ["thing"] (defScope s_is_picture) := ⟨rfl, rfl, rfl, by decide +kernel, rfl, by decide +kernel, by decide +kernel⟩
theorem ok_is_picture {fC f : Addr} {fd : FuncData} (F : FunD K "is_picture" "is_picture" s_is_picture .none f fd) (hC : mg "is_cell" = some (.ref fC)) (g_are_rows_of : Def P w K mg base 5 "are_rows_of" ["thing", "is_one"] [] (spPicF K fC)) : FnOk P w K mg base CX0 6 f fd ["thing"] (spPic K) := by
  refine F.ok sc_is_picture (fun vs H Q E h => ?_) (fun cdv A outer s H vs Q E hr h => ?_)
  · obtain ⟨x, rfl, _⟩ := h; rfl
  · obtain ⟨x, rfl, th, k⟩ := h
    refine ⟨_, (pss_one (ps_ret (pe_callD g_are_rows_of (hr.mono (by decide)) rfl (pa_cons (pv 0) (pa_cons (pe_glob (v := .ref fC) rfl hC rfl) pa_nil))))), ?_⟩
    exact ⟨_, rfl, x, rfl, x, rfl, th, k⟩
theorem sc_need_picture : FnScope ["picture"] ["picture"] (defScope s_need_picture) := ⟨rfl, rfl, rfl, by decide +kernel, rfl, by decide +kernel, by decide +kernel⟩
theorem ok_need_picture {f : Addr} {fd : FuncData} (F : FunD K "need_picture" "need_picture" s_need_picture .none f fd) (T : Txt K mg cFE cBP cBR tS tC tR t1 t2 t3 t4) (g_is_picture : Def P w K mg base 6 "is_picture" ["thing"] [] (spPic K)) : FnOk P w K mg base (CX1 P w) 7 f fd ["picture"] (spNeed K cBP) := by
  refine F.okX sc_need_picture (fun vs H Q E h => ?_) (fun cdv A outer s H vs Q E hr h => ?_)
  · obtain ⟨x, rfl, _⟩ := h; rfl
  · obtain ⟨x, rfl, th, kY, kN⟩ := h
    refine ⟨_, (pss_one (ps_if (pt_not (pt_val (pe_callD g_is_picture (hr.mono (by decide)) rfl (pa_cons (pv 0) pa_nil)))) (pss_one (ps_raise rfl raises1 rfl T.BadPicture T.xBadPicture (pa_cons pe_str pa_nil))) pss_nil)), ?_⟩
    exact ⟨_, rfl, x, rfl, th, fun H' sm => ⟨_, rfl, iteN (fun h => ⟨by show 1 ≤ sizeLine; decide, kN h H' sm⟩) (fun h => kY h H' sm)⟩⟩
end
end K23
set_option Elab.async false
set_option linter.all false
set_option maxRecDepth 100000
set_option maxHeartbeats 8000000
namespace K23
open PySem L2 M4
section
variable {K : PySem.W.Frag}
theorem Good.at {rows : List (List Int)} {wd : Nat} (g : Good rows wd) {i : Nat} {r : List V} (h : (ir rows)[i]? = some r) : ∃ (ns : List Int), r = ns.map V.int ∧ ns.length = wd ∧ (∀ c ∈ ns, 0 ≤ c ∧ c ≤ 15) ∧ ns ∈ rows := by
  unfold ir at h
  rw [List.getElem?_map] at h
  cases e : rows[i]? with
  | none => rw [e] at h; cases h
  | some ns =>
    rw [e] at h
    cases h
    have hm := List.mem_of_getElem? e
    exact ⟨ns, rfl, (g.row ns hm).1, (g.row ns hm).2, hm⟩
theorem Good.mem {H : Hp} {a q : Addr} {ps : List Addr} {rows : List (List Int)} {wd : Nat} (g : Good rows wd) (p : PicV H a ps (ir rows)) (hq : q ∈ ps) : ∃ (ns : List Int), H q = some (.lst (ns.map V.int)) ∧ ns.length = wd ∧ (∀ c ∈ ns, 0 ≤ c ∧ c ≤ 15) := by
  obtain ⟨i, hi⟩ := List.mem_iff_getElem?.mp hq
  obtain ⟨r, hr, e⟩ := p.at hi
  obtain ⟨ns, rfl, h1, h2, _⟩ := g.at hr
  exact ⟨ns, e, h1, h2⟩
theorem Good.first {H : Hp} {a : Addr} {ps : List Addr} {rows : List (List Int)} {wd : Nat} (g : Good rows wd) (p : PicV H a ps (ir rows)) : ∃ (q : Addr) (ns : List Int), (ps.map V.ref)[0]? = some (.ref q) ∧ H q = some (.lst (ns.map V.int)) ∧ ns.length = wd := by
  have hl : ps.length = rows.length := by have := p.len; unfold ir at this; rw [List.length_map] at this; exact this
  have h0 : 0 < ps.length := by have := g.ne; omega
  have e : ps[0]? = some ps[0] := by simp [h0]
  obtain ⟨ns, h1, h2, _⟩ := g.mem p (List.getElem_mem h0)
  exact ⟨ps[0], ns, by rw [List.getElem?_map, e]; rfl, h1, h2⟩
theorem ir_len (rows : List (List Int)) : (ir rows).length = rows.length := by unfold ir; rw [List.length_map]
end
noncomputable def spCell (K : PySem.W.Frag) : Sp := fun vs H Q _ => ∃ (a : Addr) (ns : List Int) (k : Nat), vs = [.ref a, .int k] ∧ SqL K H a (ns.map V.int) ∧ Q (.int (ns.getD k 0)) H
section
variable {P : Program} {w : World} {K : PySem.W.Frag} {mg : Str → Option Value} {base : Heap} {cFE cBP cBR : Addr} {tS tC tR t1 t2 t3 t4 : Tok}
theorem sc_law_cell_at : FnScope ["_law_script", "_law_k"] ["_law_script", "_law_k"] (defScope s_law_cell_at) := ⟨rfl, rfl, rfl, by decide +kernel, rfl, by decide +kernel, by decide +kernel⟩
theorem ok_law_cell_at {f : Addr} {fd : FuncData} (F : FunD K "_law_cell_at" "_law_cell_at" s_law_cell_at .none f fd) (T : Txt K mg cFE cBP cBR tS tC tR t1 t2 t3 t4) : FnOk P w K mg base CX0 2 f fd ["_law_script", "_law_k"] (spCell K) := by
  refine F.ok sc_law_cell_at (fun vs H Q E h => ?_) (fun cdv A outer s H vs Q E hr h => ?_)
  · obtain ⟨a, ns, k, rfl, _⟩ := h; rfl
  · obtain ⟨a, ns, j, rfl, hS, k⟩ := h
    refine ⟨_, (pss_cons (ps_if (pt_cmpR op_lt (pv 1) (pe_callB (lenK K rfl) rfl T.len PySem.boot_len (pa_cons (pv 0) pa_nil)) (nomark _)) (pss_one (ps_ret (pe_ix (ixK K rfl) (pv 0) (pv 1) (fun _ _ => rfl)))) pss_nil)
        (pss_one (ps_ret pe_int))), ?_⟩
    refine ⟨_, rfl, _, rfl, a, _, rfl, .inl hS, _, _, rfl, rfl, _, rfl, ?_⟩
    rw [List.length_map]
    refine ite2 (fun hc => ?_) (fun hc => ?_)
    · have hlt : j < ns.length := by have := of_decide_eq_true hc; omega
      refine ⟨_, rfl, _, rfl, a, _, _, _, rfl, rfl, hS, atI_nat (j := j) (v := V.int (ns.getD j 0)) ?_, k⟩
      rw [List.getElem?_map, List.getElem?_eq_getElem hlt]
      simp [List.getD, hlt]
    · have hge : ¬ j < ns.length := fun z => hc (decide_eq_true (by omega))
      have e : ns.getD j 0 = 0 := by simp [List.getD, List.getElem?_eq_none (Nat.le_of_not_lt hge)]
      rw [e] at k
      exact k
end
theorem getElem?_ref {ps : List Addr} {i : Nat} {x : V} (h : (ps.map V.ref)[i]? = some x) : ∃ q, ps[i]? = some q ∧ x = .ref q := by
  rw [List.getElem?_map] at h
  cases e : ps[i]? with
  | none => rw [e] at h; cases h
  | some q => rw [e] at h; cases h; exact ⟨q, rfl, rfl⟩
theorem kd_flat {K : PySem.W.Frag} {H : Hp} {v : V} (h : flatV v = true) : Kd K H v := by
  cases v with
  | non => exact .non
  | bl b => exact .bl b
  | int i => exact .int i
  | str x => exact .str x
  | _ => cases h
theorem atI_mem {xs : List V} {i : Int} (h0 : 0 ≤ i) (h1 : i < xs.length) : ∃ v, atI xs i = some v ∧ v ∈ xs := by
  obtain ⟨j, rfl⟩ : ∃ j : Nat, i = (j : Int) := ⟨i.toNat, by omega⟩
  have hj : j < xs.length := by omega
  exact ⟨xs[j], atI_nat (by simp [hj]), List.getElem_mem hj⟩
theorem picB_iff {H : Hp} {a : Addr} {xs : List V} (e : rowOf H (.ref a) = some xs) : picB H (.ref a) = true ↔ (isWh 1 24 (.int (xs.length : Int)) = true ∧ (∀ x ∈ xs, rowQ H x = true) ∧ ∀ x ∈ xs, lenOf H x = lenOf H (xs.headD .non)) := by
  unfold picB
  rw [e]
  simp only [Bool.and_eq_true, List.all_eq_true, decide_eq_true_eq]
theorem rowQ_iff {H : Hp} {b : Addr} {ys : List V} (e : H b = some (.lst ys)) : rowQ H (.ref b) = true ↔ (ys.all (isWh 0 15) = true ∧ isWh 1 24 (.int (ys.length : Int)) = true) := by
  unfold rowQ
  rw [rowOf_lst e]
  simp only [rowB, Bool.and_eq_true]
theorem lenOf_lst {H : Hp} {b : Addr} {ys : List V} (e : H b = some (.lst ys)) : lenOf H (.ref b) = ys.length := by unfold lenOf; rw [rowOf_lst e]
theorem not_wh {n : Nat} (h : ¬ (0 < n ∧ n < 25)) : isWh 1 24 (.int (n : Int)) = false := by
  cases hb : isWh 1 24 (.int (n : Int)) with
  | false => rfl
  | true =>
    simp only [isWh, Bool.and_eq_true, decide_eq_true_eq] at hb
    omega
noncomputable def Th2 (K : PySem.W.Frag) (H : Hp) (v : V) : Prop := Th K H v ∧ ∀ a xs, v = .ref a → H a = some (.tup xs) → ∀ y ∈ xs, flatV y = true ∨ ∃ b, y = .ref b
section
variable {K : PySem.W.Frag} {H : Hp} {q : Addr} {r r' : List V}
theorem Rw.lst (e : H q = some (.lst r)) (hl : r.length ≤ 1000) (hk : ∀ y ∈ r, Kd K H y) : Rw K H (.ref q) :=
  ⟨.lst e, fun ys h => by rw [rowOf_lst e] at h; cases h; exact hl, fun ys h => by rw [rowOf_lst e] at h; cases h; exact hk⟩
theorem Rw.flat {x : V} (h : flatV x = true) : Rw K H x := by
  refine ⟨kd_flat h, fun ys e => ?_, fun ys e => ?_⟩
  · obtain ⟨a, rfl, _⟩ := rowOf_ref e; cases h
  · obtain ⟨a, rfl, _⟩ := rowOf_ref e; cases h
theorem Rw.tup {a : Addr} {xs : List V} (e : H a = some (.tup xs)) : Rw K H (.ref a) := by
  refine ⟨.tup e, fun ys h => ?_, fun ys h => ?_⟩
  · obtain ⟨b, z, e2⟩ := rowOf_ref h; cases z; rw [e] at e2; cases e2
  · obtain ⟨b, z, e2⟩ := rowOf_ref h; cases z; rw [e] at e2; cases e2
theorem Th.lst {p : Addr} {xs : List V} (e : H p = some (.lst xs)) (hl : xs.length ≤ 1000) (hk : ∀ x ∈ xs, Rw K H x) : Th2 K H (.ref p) :=
  ⟨⟨.lst e, fun ys h => by rw [rowOf_lst e] at h; cases h; exact hl, fun ys h => by rw [rowOf_lst e] at h; cases h; exact hk⟩, fun a ys z e2 => by cases z; rw [e] at e2; cases e2⟩
theorem Th.pic {a : Addr} {ps : List Addr} {R : List (List V)} (p : PicV H a ps R) (hl : R.length ≤ 1000) (hr : ∀ r ∈ R, r.length ≤ 1000 ∧ ∀ y ∈ r, Kd K H y) : Th2 K H (.ref a) := by
  refine Th.lst p.top (by rw [List.length_map, p.len]; exact hl) fun x hx => ?_
  obtain ⟨q, hq, rfl⟩ := List.mem_map.mp hx
  obtain ⟨r, hrm, e⟩ := p.mem hq
  exact Rw.lst e (hr r hrm).1 (hr r hrm).2
end
section
variable {K : PySem.W.Frag} {H : Hp} {a : Addr} {ps : List Addr} {rows : List (List Int)} {wd : Nat}
theorem th_good (p : PicV H a ps (ir rows)) (g : Good rows wd) : Th2 K H (.ref a) := by
  refine Th.pic p (by rw [ir_len]; exact Nat.le_trans g.le (by decide)) fun r hr => ?_
  obtain ⟨i, hi⟩ := List.mem_iff_getElem?.mp hr
  obtain ⟨ms, rfl, hw, _, _⟩ := g.at hi
  exact ⟨by rw [List.length_map, hw]; exact Nat.le_trans g.w24 (by decide), kd_ints⟩
theorem len_good (p : PicV H a ps (ir rows)) (g : Good rows wd) : ∀ x ∈ ps.map V.ref, lenOf H x = wd := fun x hx => by
  obtain ⟨q, hq, rfl⟩ := List.mem_map.mp hx
  obtain ⟨ns, e1, e2, _⟩ := g.mem p hq
  rw [lenOf_lst e1, List.length_map, e2]
theorem head_good (p : PicV H a ps (ir rows)) (g : Good rows wd) : lenOf H ((ps.map V.ref).headD .non) = wd := by
  obtain ⟨q, ns, e0, e1, e2⟩ := g.first p
  refine len_good p g _ ?_
  cases h : ps.map V.ref with
  | nil => rw [h] at e0; cases e0
  | cons z r => exact List.mem_cons_self
theorem picB_good (p : PicV H a ps (ir rows)) (g : Good rows wd) : picB H (.ref a) = true := by
  refine (picB_iff (rowOf_lst p.top)).mpr ⟨?_, fun x hx => ?_, fun x hx => by rw [len_good p g x hx, head_good p g]⟩
  · rw [List.length_map, p.len, ir_len]; exact wh_len g.ne g.le
  · obtain ⟨q, hq, rfl⟩ := List.mem_map.mp hx
    obtain ⟨ns, e1, e2, e3⟩ := g.mem p hq
    exact (rowQ_iff e1).mpr ⟨wh_cells e3, by rw [List.length_map, e2]; exact wh_len g.w1 g.w24⟩
theorem no_bad (p : PicV H a ps (ir rows)) (g : Good rows wd) (z : picB H (.ref a) = false) : False := by rw [picB_good p g] at z; cases z
end
end K23
set_option Elab.async false
set_option linter.all false
set_option maxRecDepth 100000
set_option maxHeartbeats 1600000
namespace K23
open PySem L2 M4
noncomputable def upsOf (up : Option (List Int)) (n : Nat) : List Int := up.getD (List.replicate n 0)
noncomputable def leftOf (r : List Int) (x : Nat) : Int := if 0 < x then r.getD (x - 1) 0 else 0
noncomputable def aw (r u : List Int) (x rl : Nat) : Int := if rl = 1 then leftOf r x else if rl = 3 then leftOf r x + u.getD x 0 - leftOf u x else if rl = 2 ∨ rl = 4 then u.getD x 0 else 0
noncomputable def fc (c d : Int) (rl : Nat) : Int := if rl = 4 then Builtin.bitXor c d else (c - d) % 16
noncomputable def foldR (r : List Int) (up : Option (List Int)) (rl : Nat) : List Int := (List.range r.length).map fun x => fc (r.getD x 0) (aw r (upsOf up r.length) x rl) rl
noncomputable def AbV (H : Hp) (v : V) (up : Option (List Int)) : Prop := (v = .non ∧ up = none) ∨ ∃ q u, v = .ref q ∧ up = some u ∧ H q = some (.lst (u.map V.int))
theorem AbV.mono {H H' : Hp} {v : V} {up : Option (List Int)} (a : AbV H v up) (s : Same H H') : AbV H' v up := by
  rcases a with a | ⟨q, u, e1, e2, e3⟩
  · exact .inl a
  · exact .inr ⟨q, u, e1, e2, s _ _ e3⟩
structure RowOk (r : List Int) (up : Option (List Int)) : Prop where
  l1 : 1 ≤ r.length
  l24 : r.length ≤ 24
  c : ∀ c ∈ r, 0 ≤ c ∧ c ≤ 15
  u : ∀ u, up = some u → u.length = r.length ∧ ∀ c ∈ u, 0 ≤ c ∧ c ≤ 15
theorem RowOk.ups {r : List Int} {up : Option (List Int)} (h : RowOk r up) : (upsOf up r.length).length = r.length ∧ ∀ c ∈ upsOf up r.length, 0 ≤ c ∧ c ≤ 15 := by
  unfold upsOf
  cases up with
  | none => exact ⟨List.length_replicate, fun c hc => by rw [(List.mem_replicate.mp hc).2]; decide⟩
  | some u => exact h.u u rfl
theorem getD_in {r : List Int} (h : ∀ c ∈ r, 0 ≤ c ∧ c ≤ 15) (x : Nat) : 0 ≤ r.getD x 0 ∧ r.getD x 0 ≤ 15 := by
  by_cases hx : x < r.length
  · have : r.getD x 0 = r[x] := by simp [List.getD, hx]
    rw [this]
    exact h _ (List.getElem_mem hx)
  · have : r.getD x 0 = 0 := by simp [List.getD, List.getElem?_eq_none (Nat.le_of_not_lt hx)]
    rw [this]; decide
theorem xor_in : ∀ a : Nat, a < 16 → ∀ b : Nat, b < 16 → 0 ≤ Builtin.bitXor (a : Int) (b : Int) ∧ Builtin.bitXor (a : Int) (b : Int) ≤ 15 := by decide +kernel
theorem fc_in {c d : Int} {rl : Nat} (hc : 0 ≤ c ∧ c ≤ 15) (hd : rl = 4 → 0 ≤ d ∧ d ≤ 15) : 0 ≤ fc c d rl ∧ fc c d rl ≤ 15 := by
  unfold fc
  split
  · rename_i h
    have hd := hd h
    have := xor_in c.toNat (by omega) d.toNat (by omega)
    rw [Int.toNat_of_nonneg hc.1, Int.toNat_of_nonneg hd.1] at this
    exact this
  · omega
theorem foldR_ok {r : List Int} {up : Option (List Int)} (h : RowOk r up) (rl : Nat) : (foldR r up rl).length = r.length ∧ ∀ c ∈ foldR r up rl, 0 ≤ c ∧ c ≤ 15 := by
  refine ⟨by simp [foldR], fun c hc => ?_⟩
  obtain ⟨x, _, rfl⟩ := List.mem_map.mp hc
  refine fc_in (getD_in h.c x) fun h4 => ?_
  subst h4
  exact getD_in h.ups.2 x
theorem ints_at {r : List Int} {x : Nat} (h : x < r.length) : (r.map V.int)[x]? = some (.int (r.getD x 0)) := by simp [List.getD, h]
noncomputable def spNeedR (K : PySem.W.Frag) (cBR : Addr) : Sp := fun vs H Q E => ∃ x, vs = [x] ∧ Kd K H x ∧ (isWh 0 4 x = true → Q .non H) ∧ (isWh 0 4 x = false → E (.ref cBR) none H)
noncomputable def spNeedRs (K : PySem.W.Frag) (cBR : Addr) : Sp := fun vs H Q E => ∃ (x : V) (n : Nat), vs = [x, .int (n : Int)] ∧ ((∃ (a : Addr) (xs : List V), x = .ref a ∧ H a = some (.lst xs) ∧ xs.length ≤ 1000 ∧ (∀ y ∈ xs, Kd K H y) ∧ (xs.all (isWh 0 4) = true → xs.length = n → ∀ H', Same H H' → Q .non H') ∧ (xs.all (isWh 0 4) = false ∨ xs.length ≠ n → ∀ H', Same H H' → E (.ref cBR) none H')) ∨ (Kd K H x ∧ isL H x = false ∧ E (.ref cBR) none H))
noncomputable def spAbove (K : PySem.W.Frag) : Sp := fun vs H Q _ => ∃ v up, ∃ n : Nat, vs = [v, .int n] ∧ AbV H v up ∧ n ≤ 24 ∧ ∀ q H', Same H H' → H' q = some (.lst ((upsOf up n).map V.int)) → Q (.ref q) H'
noncomputable def spAwaited (K : PySem.W.Frag) : Sp := fun vs H Q _ => ∃ a b r u, ∃ x rl : Nat, vs = [.ref a, .ref b, .int x, .int rl] ∧ H a = some (.lst (r.map V.int)) ∧ H b = some (.lst (u.map V.int)) ∧ x ≤ r.length ∧ x < u.length ∧ Q (.int (aw r u x rl)) H
noncomputable def spFoldC : Sp := fun vs H Q _ => ∃ c d : Int, ∃ rl : Nat, vs = [.int c, .int d, .int rl] ∧ Q (.int (fc c d rl)) H
noncomputable def spFoldR (K : PySem.W.Frag) : Sp := fun vs H Q _ => ∃ a v r up, ∃ rl : Nat, vs = [.ref a, v, .int rl] ∧ H a = some (.lst (r.map V.int)) ∧ AbV H v up ∧ RowOk r up ∧ rl ≤ 4 ∧ ∀ q H', Same H H' → H q = none → H' q = some (.lst ((foldR r up rl).map V.int)) → Q (.ref q) H'
theorem wh4 {rl : Nat} (h : rl ≤ 4) : isWh 0 4 (.int (rl : Int)) = true := by simp only [isWh, Bool.and_eq_true, decide_eq_true_eq]; omega
section
variable {P : Program} {w : World} {K : PySem.W.Frag} {mg : Str → Option Value} {base : Heap} {cFE cBP cBR : Addr} {tS tC tR t1 t2 t3 t4 : Tok}
theorem sc_is_fold_rule : FnScope ["thing"] ["thing"] (defScope s_is_fold_rule) := ⟨rfl, rfl, rfl, by decide +kernel, rfl, by decide +kernel, by decide +kernel⟩
theorem ok_is_fold_rule {f : Addr} {fd : FuncData} (F : FunD K "is_fold_rule" "is_fold_rule" s_is_fold_rule .none f fd) (T : Txt K mg cFE cBP cBR tS tC tR t1 t2 t3 t4) (g_is_whole_within : Def P w K mg base 2 "is_whole_within" ["thing", "least", "most"] [] (spWh K)) : FnOk P w K mg base CX0 3 f fd ["thing"] (spInQ K 0 4) := by
  refine F.ok sc_is_fold_rule (fun vs H Q E h => ?_) (fun cdv A outer s H vs Q E hr h => ?_)
  · obtain ⟨x, rfl, _⟩ := h; rfl
  · obtain ⟨x, rfl, kd, k⟩ := h
    refine ⟨_, (pss_one (ps_ret (pe_callD g_is_whole_within (hr.mono (by decide)) rfl (pa_cons (pv 0) (pa_cons pe_int (pa_cons (pe_glob (v := .int 4) rfl T.MOST_RULE ⟨_, rfl⟩) pa_nil)))))), ?_⟩
    exact ⟨_, rfl, x, 0, 4, rfl, kd, k⟩
theorem sc_need_fold_rule : FnScope ["rule"] ["rule"] (defScope s_need_fold_rule) := ⟨rfl, rfl, rfl, by decide +kernel, rfl, by decide +kernel, by decide +kernel⟩
theorem ok_need_fold_rule {f : Addr} {fd : FuncData} (F : FunD K "need_fold_rule" "need_fold_rule" s_need_fold_rule .none f fd) (T : Txt K mg cFE cBP cBR tS tC tR t1 t2 t3 t4) (g_is_fold_rule : Def P w K mg base 3 "is_fold_rule" ["thing"] [] (spInQ K 0 4)) : FnOk P w K mg base (CX1 P w) 4 f fd ["rule"] (spNeedR K cBR) := by
  refine F.okX sc_need_fold_rule (fun vs H Q E h => ?_) (fun cdv A outer s H vs Q E hr h => ?_)
  · obtain ⟨x, rfl, _⟩ := h; rfl
  · obtain ⟨x, rfl, kd, kY, kN⟩ := h
    refine ⟨_, (pss_one (ps_if (pt_not (pt_val (pe_callD g_is_fold_rule (hr.mono (by decide)) rfl (pa_cons (pv 0) pa_nil)))) (pss_one (ps_raise rfl raises1 rfl T.BadRule T.xBadRule (pa_cons pe_str pa_nil))) pss_nil)), ?_⟩
    exact ⟨_, rfl, x, rfl, kd, _, rfl, iteN (fun h => ⟨by show 1 ≤ sizeLine; decide, kN h⟩) (fun h => kY h)⟩
theorem sc_need_fold_rules : FnScope ["rules", "many"] ["rules", "many"] (defScope s_need_fold_rules) := ⟨rfl, rfl, rfl, by decide +kernel, rfl, by decide +kernel, by decide +kernel⟩
theorem ok_need_fold_rules {fR f : Addr} {fd : FuncData} (F : FunD K "need_fold_rules" "need_fold_rules" s_need_fold_rules .none f fd) (T : Txt K mg cFE cBP cBR tS tC tR t1 t2 t3 t4) (hR : mg "is_fold_rule" = some (.ref fR)) (g_is_list_of : Def P w K mg base 4 "is_list_of" ["thing", "is_one"] [] (spLocFG K fR 0 4)) : FnOk P w K mg base (CX1 P w) 5 f fd ["rules", "many"] (spNeedRs K cBR) := by
  refine F.okX sc_need_fold_rules (fun vs H Q E h => ?_) (fun cdv A outer s H vs Q E hr h => ?_)
  · obtain ⟨x, n, rfl, _⟩ := h; rfl
  · obtain ⟨x, n, rfl, h⟩ := h
    refine ⟨_, (pss_one (ps_if (PW.pt (pw_or (pt_not (pt_val (pe_callD g_is_list_of (hr.mono (by decide)) rfl (pa_cons (pv 0) (pa_cons (pe_glob (v := .ref fR) rfl hR rfl) pa_nil))))) (pw_or1 (pt_cmpR op_ne (pe_callB (lenK K rfl) rfl T.len PySem.boot_len (pa_cons (pv 0) pa_nil)) (pv 1) (nomark _))))) (pss_one (ps_raise rfl raises1 rfl T.BadRule T.xBadRule (pa_cons pe_str pa_nil))) pss_nil)), ?_⟩
    rcases h with ⟨a, xs, rfl, hH, hl, kds, kY, kN⟩ | ⟨kd, hL, kN⟩
    · refine ⟨_, rfl, .ref a, rfl, .ref a, rfl, .inl ⟨a, _, rfl, hH, by omega, kds, fun H1 s1 => ⟨_, rfl, ?_⟩⟩⟩
      refine iteN (fun h => ⟨by show 1 ≤ sizeLine; decide, kN (.inl h) H1 s1⟩) (fun h => ?_)
      refine ⟨_, rfl, a, _, rfl, .inl (SqL.of (s1 _ _ hH)), _, rfl, rfl, ?_⟩
      by_cases e : xs.length = n
      · rw [e, decide_eq_true rfl]
        exact ⟨_, rfl, kY h e H1 s1⟩
      · rw [decide_eq_false (fun z => e (by injection z with z; omega))]
        exact ⟨_, rfl, by show 1 ≤ sizeLine; decide, kN (.inr e) H1 s1⟩
    · refine ⟨_, rfl, x, rfl, x, rfl, .inr ⟨kd, hL, _, rfl, by show 1 ≤ sizeLine; decide, kN⟩⟩
theorem sc_row_above : FnScope ["above", "wide"] ["above", "wide"] (defScope s_row_above) := ⟨rfl, rfl, rfl, by decide +kernel, rfl, by decide +kernel, by decide +kernel⟩
theorem ok_row_above {f : Addr} {fd : FuncData} (F : FunD K "row_above" "row_above" s_row_above .none f fd) (T : Txt K mg cFE cBP cBR tS tC tR t1 t2 t3 t4) : FnOk P w K mg base CX0 1 f fd ["above", "wide"] (spAbove K) := by
  refine F.ok sc_row_above (fun vs H Q E h => ?_) (fun cdv A outer s H vs Q E hr h => ?_)
  · obtain ⟨v, up, n, rfl, _⟩ := h; rfl
  · obtain ⟨v, up, n, rfl, av, hn, k⟩ := h
    refine ⟨_, (pss_one (ps_ret (pe_ifExp (pt_cmp (pc_isN (pv 0))) (pe_op op_rep (pe_lst (pa_cons pe_int pa_nil)) (pv 1)) (pv 0)))), ?_⟩
    rcases av with ⟨rfl, rfl⟩ | ⟨q, u, rfl, rfl, hq⟩
    · refine ⟨_, rfl, _, rfl, ⟨(by show 1 ≤ sizeLine; decide), fun L hL => ⟨_, rfl, L, _, _, rfl, rfl, upd_same, by omega, by omega, ?_, fun D hD => k D _ ((same_new hL).trans (same_new hD)) ?_⟩⟩⟩
      · rw [Int.toNat_natCast]; exact Nat.le_trans (by show 1 * n ≤ 24; omega) (by decide)
      · rw [upd_same, Int.toNat_natCast]
        unfold upsOf
        have e1 : ∀ k, (List.replicate k [V.int 0]).flatten = (List.replicate k (0 : Int)).map V.int := fun k => by
          induction k with
          | zero => rfl
          | succ k ih => rw [List.replicate_succ, List.flatten_cons, ih, List.replicate_succ]; rfl
        rw [e1]; rfl
    · exact ⟨_, rfl, _, rfl, ⟨_, rfl, k q H (Same.refl H) hq⟩⟩
theorem sc_awaited : FnScope ["row", "over", "x", "rule", "left", "corner"] ["row", "over", "x", "rule"] (defScope s_awaited) := ⟨rfl, rfl, rfl, by decide +kernel, rfl, by decide +kernel, by decide +kernel⟩
theorem ok_awaited {f : Addr} {fd : FuncData} (F : FunD K "awaited" "awaited" s_awaited .none f fd) (T : Txt K mg cFE cBP cBR tS tC tR t1 t2 t3 t4) : FnOk P w K mg base CX0 1 f fd ["row", "over", "x", "rule"] (spAwaited K) := by
  refine F.ok sc_awaited (fun vs H Q E h => ?_) (fun cdv A outer s H vs Q E hr h => ?_)
  · obtain ⟨a, b, r, u, x, rl, rfl, _⟩ := h; rfl
  · obtain ⟨a, b, r, u, x, rl, rfl, ha, hb, hx, hu, k⟩ := h
    obtain ⟨tr, hrest, krest⟩ : ∃ tr, PSs ((cxOf CX0 P w K mg base ["row", "over", "x", "rule", "left", "corner"] "awaited" (defScope s_awaited) f cdv A outer s H E).nox) ((defBody s_awaited).drop 2) tr ∧ tr { nx := fun _ H' => Q .non H', rt := Q } [some (.ref a), some (.ref b), some (.int x), some (.int rl), some (.int (leftOf r x)), some (.int (leftOf u x))] H := by
      refine ⟨_, (pss_cons (ps_if (pt_cmpR op_eq (pv 3) (pe_glob (v := .int 1) rfl T.BY_LEFT ⟨_, rfl⟩) (nomark _)) (pss_one (ps_ret (pv 4))) pss_nil)
        (pss_cons (ps_if (pt_cmpR op_eq (pv 3) (pe_glob (v := .int 3) rfl T.BY_BOTH ⟨_, rfl⟩) (nomark _)) (pss_one (ps_ret (pe_op op_sub (pe_op op_add (pv 4) (pe_ix (ixK K rfl) (pv 1) (pv 2) (fun _ _ => rfl))) (pv 5)))) pss_nil)
        (pss_cons (ps_if (PW.pt (pw_or (pt_cmpR op_eq (pv 3) (pe_glob (v := .int 2) rfl T.BY_ABOVE ⟨_, rfl⟩) (nomark _)) (pw_or1 (pt_cmpR op_eq (pv 3) (pe_glob (v := .int 4) rfl T.BY_BITS ⟨_, rfl⟩) (nomark _))))) (pss_one (ps_ret (pe_ix (ixK K rfl) (pv 1) (pv 2) (fun _ _ => rfl)))) pss_nil)
        (pss_one (ps_ret pe_int))))), ?_⟩
      unfold aw at k
      have ub := atI_nat (ints_at hu)
      refine ⟨_, rfl, rfl, _, rfl, ite2 (fun z => ?_) (fun z => ?_)⟩
      · have e : rl = 1 := by have := of_decide_eq_true z; injection this with this; omega
        rw [if_pos e] at k
        exact ⟨_, rfl, k⟩
      · have n1 : ¬ rl = 1 := fun e => z (decide_eq_true (by rw [e]; rfl))
        rw [if_neg n1] at k
        refine ⟨_, rfl, rfl, _, rfl, ite2 (fun z => ?_) (fun z => ?_)⟩
        · have e : rl = 3 := by have := of_decide_eq_true z; injection this with this; omega
          rw [if_pos e] at k
          exact ⟨_, rfl, _, rfl, _, rfl, b, _, _, _, rfl, rfl, SqL.of hb, ub, _, _, rfl, rfl, _, rfl, _, _, rfl, rfl, k⟩
        · have n3 : ¬ rl = 3 := fun e => z (decide_eq_true (by rw [e]; rfl))
          rw [if_neg n3] at k
          refine ⟨_, rfl, rfl, _, rfl, ite2 (fun z => ?_) (fun z => ⟨_, rfl, rfl, _, rfl, ite2 (fun z2 => ?_) (fun z2 => ?_)⟩)⟩
          · have e : rl = 2 := by have := of_decide_eq_true z; injection this with this; omega
            rw [if_pos (.inl e)] at k
            exact ⟨_, rfl, _, rfl, b, _, _, _, rfl, rfl, SqL.of hb, ub, k⟩
          · have e : rl = 4 := by have := of_decide_eq_true z2; injection this with this; omega
            rw [if_pos (.inr e)] at k
            exact ⟨_, rfl, _, rfl, b, _, _, _, rfl, rfl, SqL.of hb, ub, k⟩
          · have n2 : ¬ rl = 2 := fun e => z (decide_eq_true (by rw [e]; rfl))
            have n4 : ¬ rl = 4 := fun e => z2 (decide_eq_true (by rw [e]; rfl))
            rw [if_neg (by omega)] at k
            exact k
    refine ⟨_, (pss_cons (ps_set (i := 4) sc_awaited.nd rfl (by first | exact Or.inl rfl | exact Or.inr rfl) (pe_ifExp (pt_cmpR op_gt (pv 2) pe_int (nomark _)) (pe_ix (ixK K rfl) (pv 0) (pe_op op_sub (pv 2) pe_int) (fun _ _ => rfl)) pe_int))
        (pss_cons (ps_set (i := 5) sc_awaited.nd rfl (by first | exact Or.inl rfl | exact Or.inr rfl) (pe_ifExp (pt_cmpR op_gt (pv 2) pe_int (nomark _)) (pe_ix (ixK K rfl) (pv 1) (pe_op op_sub (pv 2) pe_int) (fun _ _ => rfl)) pe_int))
        (@hrest))), ?_⟩
    have gt : decide ((x : Int) > 0) = decide (0 < x) := by rw [Bool.eq_iff_iff, decide_eq_true_eq, decide_eq_true_eq]; omega
    by_cases h0 : 0 < x
    · have ea : atI (r.map V.int) ((x : Int) - 1) = some (.int (leftOf r x)) := by
        have e : (x : Int) - 1 = ((x - 1 : Nat) : Int) := by omega
        rw [e]
        unfold leftOf
        rw [if_pos h0]
        exact atI_nat (ints_at (by omega))
      have eb : atI (u.map V.int) ((x : Int) - 1) = some (.int (leftOf u x)) := by
        have e : (x : Int) - 1 = ((x - 1 : Nat) : Int) := by omega
        rw [e]
        unfold leftOf
        rw [if_pos h0]
        exact atI_nat (ints_at (by omega))
      refine ⟨_, rfl, _, _, rfl, rfl, _, rfl, ?_⟩
      rw [gt, decide_eq_true h0]
      refine iteT ⟨_, rfl, _, rfl, _, _, rfl, rfl, a, _, _, _, rfl, rfl, SqL.of ha, ea, ?_⟩
      refine ⟨_, rfl, _, _, rfl, rfl, _, rfl, ?_⟩
      rw [gt, decide_eq_true h0]
      exact iteT ⟨_, rfl, _, rfl, _, _, rfl, rfl, b, _, _, _, rfl, rfl, SqL.of hb, eb, krest⟩
    · have er : leftOf r x = 0 := by unfold leftOf; rw [if_neg h0]
      have eu : leftOf u x = 0 := by unfold leftOf; rw [if_neg h0]
      rw [er, eu] at krest
      refine ⟨_, rfl, _, _, rfl, rfl, _, rfl, ?_⟩
      rw [gt, decide_eq_false h0]
      refine iteF ⟨_, rfl, _, _, rfl, rfl, _, rfl, ?_⟩
      rw [gt, decide_eq_false h0]
      exact iteF krest
theorem sc_folded_cell : FnScope ["cell", "due", "rule"] ["cell", "due", "rule"] (defScope s_folded_cell) := ⟨rfl, rfl, rfl, by decide +kernel, rfl, by decide +kernel, by decide +kernel⟩
theorem ok_folded_cell {f : Addr} {fd : FuncData} (F : FunD K "folded_cell" "folded_cell" s_folded_cell .none f fd) (T : Txt K mg cFE cBP cBR tS tC tR t1 t2 t3 t4) : FnOk P w K mg base CX0 1 f fd ["cell", "due", "rule"] spFoldC := by
  refine F.ok sc_folded_cell (fun vs H Q E h => ?_) (fun cdv A outer s H vs Q E hr h => ?_)
  · obtain ⟨c, d, rl, rfl, _⟩ := h; rfl
  · obtain ⟨c, d, rl, rfl, k⟩ := h
    refine ⟨_, (pss_one (ps_ret (pe_ifExp (pt_cmpR op_eq (pv 2) (pe_glob (v := .int 4) rfl T.BY_BITS ⟨_, rfl⟩) (nomark _)) (pe_op op_xor (pv 0) (pv 1)) (pe_op op_and (pe_op op_sub (pv 0) (pv 1)) pe_int)))), ?_⟩
    unfold fc at k
    refine ⟨_, rfl, rfl, _, rfl, ite2 (fun z => ?_) (fun z => ?_)⟩
    · have e : rl = 4 := by have := of_decide_eq_true z; injection this with this; omega
      rw [if_pos e] at k
      exact ⟨_, rfl, _, rfl, _, _, rfl, rfl, k⟩
    · have n4 : ¬ rl = 4 := fun e => z (decide_eq_true (by rw [e]; rfl))
      rw [if_neg n4] at k
      refine ⟨_, rfl, _, rfl, _, _, rfl, rfl, _, _, rfl, rfl, ?_⟩
      show Q (.int (Builtin.bitAnd (c - d) 15)) H
      have e := PySem.W.kbt_mask (c - d) 4
      have e15 : (2 : Int) ^ 4 - 1 = 15 := by decide
      have e16 : (2 : Int) ^ 4 = 16 := by decide
      rw [e15, e16] at e
      rw [e]
      exact k
theorem sc_folded_row : FnScope ["row", "above", "rule", "over"] ["row", "above", "rule"] (defScope s_folded_row) := ⟨rfl, rfl, rfl, by decide +kernel, rfl, by decide +kernel, by decide +kernel⟩
theorem ok_folded_row {f : Addr} {fd : FuncData} (F : FunD K "folded_row" "folded_row" s_folded_row .none f fd) (T : Txt K mg cFE cBP cBR tS tC tR t1 t2 t3 t4) (g_need_fold_rule : DefX P w K mg base 4 "need_fold_rule" ["rule"] [] (spNeedR K cBR)) (g_row_above : Def P w K mg base 1 "row_above" ["above", "wide"] [] (spAbove K)) (g_awaited : Def P w K mg base 1 "awaited" ["row", "over", "x", "rule"] [] (spAwaited K)) (g_folded_cell : Def P w K mg base 1 "folded_cell" ["cell", "due", "rule"] [] spFoldC) : FnOk P w K mg base CX0 5 f fd ["row", "above", "rule"] (spFoldR K) := by
  refine F.ok sc_folded_row (fun vs H Q E h => ?_) (fun cdv A outer s H vs Q E hr h => ?_)
  · obtain ⟨a, v, r, up, rl, rfl, _⟩ := h; rfl
  · obtain ⟨a, v, r, up, rl, rfl, ha, av, ok, h4, k⟩ := h
    have l24 := ok.l24
    refine ⟨_, (pss_cons (ps_expr (pe_callX g_need_fold_rule (hr.mono (by decide)) passF rfl (pa_cons (pv 2) pa_nil)))
        (pss_cons (ps_set (i := 3) sc_folded_row.nd rfl (by first | exact Or.inl rfl | exact Or.inr rfl) (pe_callD g_row_above (hr.mono (by decide)) rfl (pa_cons (pv 1) (pa_cons (pe_callB (lenK K rfl) rfl T.len PySem.boot_len (pa_cons (pv 0) pa_nil)) pa_nil))))
        (pss_one (ps_ret (pe_comp (N := ["x", "cell", "row", "over", "rule"]) (src := [none, none, some 0, some 3, some 2]) rfl ⟨rfl, rfl, rfl, rfl, rfl, by decide +kernel⟩ (pi_enum rfl T.enumerate (pa_cons (pv 0) pa_nil)) (fun s H C fp => (pg_tupK (n := 2) K rfl rfl (pgs_cons (pg_name (i := 0) (show (["x", "cell", "row", "over", "rule"] : List Str).Nodup by decide +kernel) rfl (by first | exact Or.inl rfl | exact Or.inr rfl)) (pgs_cons (pg_name (i := 1) (show (["x", "cell", "row", "over", "rule"] : List Str).Nodup by decide +kernel) rfl (by first | exact Or.inl rfl | exact Or.inr rfl)) pgs_nil)))) (fun s H C fp => pts_nil) (fun s H C fp => (pe_callD g_folded_cell (hr.mono (by decide)) rfl (pa_cons (pv 1) (pa_cons (pe_callD g_awaited (hr.mono (by decide)) rfl (pa_cons (pv 2) (pa_cons (pv 3) (pa_cons (pv 0) (pa_cons (pv 4) pa_nil))))) (pa_cons (pv 4) pa_nil)))))))))), ?_⟩
    refine ⟨_, rfl, .int rl, rfl, .int _, fun _ => ?_, fun z => by rw [wh4 h4] at z; cases z⟩
    refine ⟨_, rfl, _, rfl, a, _, rfl, .inl (SqL.of ha), v, up, r.length, (by rw [List.length_map]; rfl), av, l24, fun q H1 s1 hq => ?_⟩
    have ha1 := s1 _ _ ha
    obtain ⟨ul, uc⟩ := ok.ups
    refine ⟨_, rfl, a, rfl, ⟨_, SqL.of ha1⟩, fun D hD => ?_⟩
    refine comp2_fm (k1 := 0) (k2 := 1) (fun p => match p with | (.int x, .int c) => .int (fc c (aw r (upsOf up r.length) x.toNat rl) rl) | _ => .non) (fun _ => true) (src2_enum (SqL.of ha1)) (by rw [enumL_len, List.length_map]; exact Nat.le_trans l24 (by decide)) hD (fun x _ H' Qb _ kb => kb H' (Same.refl _)) (fun p hp _ H' Q' sm kk => ?_) fun H2 s2 h2 => ?_
    · obtain ⟨i, hi⟩ := List.mem_iff_getElem?.mp hp
      obtain ⟨z, ez, rfl⟩ := enumL_at hi
      rw [List.getElem?_map] at ez
      cases ec : r[i]? with
      | none => rw [ec] at ez; cases ez
      | some c =>
        rw [ec] at ez
        cases ez
        have hil : i < r.length := (List.getElem?_eq_some_iff.mp ec).1
        refine ⟨_, rfl, _, rfl, _, rfl, _, rfl, _, rfl, a, q, r, upsOf up r.length, i, rl, rfl, sm _ _ ha1, sm _ _ hq, by omega, by omega, _, rfl, c, _, rl, rfl, ?_⟩
        exact kk H' (Same.refl _)
    · refine k D H2 (s1.trans s2) (s1.free hD) ?_
      rw [h2, filter_t]
      congr 2
      unfold enumL foldR
      rw [List.map_map, List.map_map, List.length_map]
      refine List.map_congr_left fun x hx => ?_
      have hx' := List.mem_range.mp hx
      show (match (V.int (x : Int), (r.map V.int).getD x .non) with | (.int x, .int c) => V.int (fc c (aw r (upsOf up r.length) x.toNat rl) rl) | _ => .non) = _
      have e : (r.map V.int).getD x .non = V.int (r.getD x 0) := by simp [List.getD, hx']
      rw [e]
      rfl
end
end K23
set_option Elab.async false
set_option linter.all false
set_option maxRecDepth 100000
set_option maxHeartbeats 1600000
namespace K23
open PySem L2 M4
theorem ixTK {X : Cx} (K : PySem.W.Frag) (h : X.K = K) : IxR X (rIxT K) := by subst h; exact ix_tup
theorem piTK {X : Cx} {tg l : Expr} {tl : TE} (K : PySem.W.Frag) (h : X.K = K) (hl : PE X l tl) : PI X tg l (iTup K tl) := by subst h; exact pi_tup hl
noncomputable def upAt (R : List (List Int)) (y : Nat) : Option (List Int) := if 0 < y then some (R.getD (y - 1) []) else none
theorem row_mem {R : List (List Int)} {y : Nat} (h : y < R.length) : R[y]? = some (R.getD y []) ∧ R.getD y [] ∈ R := by
  have e : R.getD y [] = R[y] := by simp [List.getD, h]
  rw [e]
  exact ⟨List.getElem?_eq_getElem h, List.getElem_mem h⟩
theorem rowOk_at {R : List (List Int)} {wd y : Nat} (g : Good R wd) (h : y < R.length) : RowOk (R.getD y []) (upAt R y) := by
  have hy := g.row _ (row_mem h).2
  have w1 := g.w1
  have w24 := g.w24
  refine ⟨by omega, by omega, hy.2, fun u hu => ?_⟩
  unfold upAt at hu
  split at hu
  · cases hu
    have hy' := g.row _ (row_mem (show y - 1 < R.length by omega)).2
    exact ⟨by omega, hy'.2⟩
  · cases hu
theorem ref_at {H : Hp} {p : Addr} {ps : List Addr} {R : List (List Int)} {y : Nat} (pic : PicV H p ps (ir R)) (h : y < R.length) : ∃ q, ps[y]? = some q ∧ (ps.map V.ref)[y]? = some (.ref q) ∧ H q = some (.lst ((R.getD y []).map V.int)) := by
  have hl : ps.length = R.length := by rw [pic.len, ir_len]
  have e1 : ps[y]? = some ps[y] := List.getElem?_eq_getElem (by omega)
  obtain ⟨r, hr, e⟩ := pic.at e1
  have e2 : r = (R.getD y []).map V.int := by
    unfold ir at hr
    rw [List.getElem?_map, (row_mem h).1] at hr
    exact (Option.some.inj hr).symm
  exact ⟨_, e1, by rw [List.getElem?_map, e1]; rfl, by rw [e, e2]⟩
noncomputable def foldP (R : List (List Int)) (rs : List Int) : List (List Int) := (List.range R.length).map fun y => foldR (R.getD y []) (upAt R y) (rs.getD y 0).toNat
noncomputable def nI : V → Nat
  | .int i => i.toNat
  | _ => 0
theorem nI_0 (x : Nat) : nI (.int (0 + (x : Int))) = x := by show (0 + (x : Int)).toNat = x; omega
noncomputable def spAboveIn (K : PySem.W.Frag) : Sp := fun vs H Q _ => ∃ p ps R, ∃ y : Nat, vs = [.ref p, .int y] ∧ PicV H p ps (ir R) ∧ y ≤ R.length ∧ ∀ v, AbV H v (upAt R y) → Q v H
noncomputable def spFoldP (K : PySem.W.Frag) : Sp := fun vs H Q _ => ∃ p a ps R wd rs, vs = [.ref p, .ref a] ∧ PicV H p ps (ir R) ∧ Good R wd ∧ H a = some (.lst (rs.map V.int)) ∧ rs.length = R.length ∧ (∀ c ∈ rs, 0 ≤ c ∧ c ≤ 4) ∧ ∀ q qs H', Same H H' → H q = none → Fresh H qs → PicV H' q qs (ir (foldP R rs)) → Q (.ref q) H'
theorem PicV.push {H H3 : Hp} {S q : Addr} {qs : List Addr} {R : List (List V)} {r : List V} (pic : PicV H S qs R) (s : Same H H3) (hq : H q = none) (e : H3 q = some (.lst r)) : PicV (upd H3 S (.lst (qs.map V.ref ++ [.ref q]))) S (qs ++ [q]) (R ++ [r]) := by
  have nq : q ∉ qs := fun z => by
    obtain ⟨r', _, e'⟩ := pic.mem z
    rw [hq] at e'; cases e'
  have nS : S ≠ q := ne_of_none pic.top hq
  refine ⟨by rw [upd_same, List.map_append]; rfl, ?_, ?_, ?_⟩
  · refine Paired.app (Paired.mapI pic.row fun c r hc e1 => ?_) (.cons ?_ .nil)
    · rw [upd_ne (fun z => pic.out (by rw [← z]; exact hc))]
      exact s _ _ e1
    · rw [upd_ne (Ne.symm nS)]; exact e
  · rw [List.nodup_append]
    exact ⟨pic.nd, by simp, fun c hc d hd z => by
      cases List.mem_singleton.mp hd
      subst z
      exact nq hc⟩
  · intro z
    rcases List.mem_append.mp z with z | z
    · exact pic.out z
    · exact nS (by simpa using z)
theorem rules_all {rs : List Int} (hc : ∀ c ∈ rs, 0 ≤ c ∧ c ≤ 4) : (rs.map V.int).all (isWh 0 4) = true := by
  rw [List.all_map, List.all_eq_true]
  intro c hm
  have := hc c hm
  simp only [Function.comp, isWh, Bool.and_eq_true, decide_eq_true_eq]; omega
noncomputable def uc (c d : Int) (rl : Nat) : Int := if rl = 4 then Builtin.bitXor c d else (c + d) % 16
noncomputable def ufN (r u : List Int) (rl : Nat) : Nat → List Int
  | 0 => []
  | n + 1 => ufN r u rl n ++ [uc (r.getD n 0) (aw (ufN r u rl n) u n rl) rl]
noncomputable def ufR (r : List Int) (up : Option (List Int)) (rl : Nat) : List Int := ufN r (upsOf up r.length) rl r.length
theorem ufN_len (r u : List Int) (rl : Nat) : ∀ n, (ufN r u rl n).length = n
  | 0 => rfl
  | n + 1 => by rw [ufN, List.length_append, ufN_len r u rl n]; rfl
theorem uc_in {c d : Int} {rl : Nat} (hc : 0 ≤ c ∧ c ≤ 15) (hd : rl = 4 → 0 ≤ d ∧ d ≤ 15) : 0 ≤ uc c d rl ∧ uc c d rl ≤ 15 := by
  unfold uc
  split
  · rename_i h
    have hd := hd h
    have := xor_in c.toNat (by omega) d.toNat (by omega)
    rw [Int.toNat_of_nonneg hc.1, Int.toNat_of_nonneg hd.1] at this
    exact this
  · omega
theorem xor_back : ∀ a : Nat, a < 16 → ∀ b : Nat, b < 16 → Builtin.bitXor (Builtin.bitXor (a : Int) (b : Int)) (b : Int) = (a : Int) := by decide +kernel
theorem fc_uc {c d : Int} {rl : Nat} (hc : 0 ≤ c ∧ c ≤ 15) (hd : rl = 4 → 0 ≤ d ∧ d ≤ 15) : fc (uc c d rl) d rl = c := by
  unfold fc uc
  split
  · rename_i h
    have hd := hd h
    have := xor_back c.toNat (by omega) d.toNat (by omega)
    rw [Int.toNat_of_nonneg hc.1, Int.toNat_of_nonneg hd.1] at this
    exact this
  · omega
theorem uc_fc {c d : Int} {rl : Nat} (hc : 0 ≤ c ∧ c ≤ 15) (hd : rl = 4 → 0 ≤ d ∧ d ≤ 15) : uc (fc c d rl) d rl = c := by
  unfold fc uc
  split
  · rename_i h
    have hd := hd h
    have := xor_back c.toNat (by omega) d.toNat (by omega)
    rw [Int.toNat_of_nonneg hc.1, Int.toNat_of_nonneg hd.1] at this
    exact this
  · omega
theorem aw4 {r u : List Int} (hu : ∀ c ∈ u, 0 ≤ c ∧ c ≤ 15) (x : Nat) {rl : Nat} (h : rl = 4) : 0 ≤ aw r u x rl ∧ aw r u x rl ≤ 15 := by
  subst h
  exact getD_in hu x
theorem ufN_in {r u : List Int} {rl : Nat} (hr : ∀ c ∈ r, 0 ≤ c ∧ c ≤ 15) (hu : ∀ c ∈ u, 0 ≤ c ∧ c ≤ 15) : ∀ n, ∀ c ∈ ufN r u rl n, 0 ≤ c ∧ c ≤ 15
  | 0, c, h => nomatch h
  | n + 1, c, h => by
    rw [ufN] at h
    rcases List.mem_append.mp h with h | h
    · exact ufN_in hr hu n c h
    · rw [List.mem_singleton.mp h]
      exact uc_in (getD_in hr n) fun h4 => aw4 hu n h4
theorem ufR_ok {r : List Int} {up : Option (List Int)} (h : RowOk r up) (rl : Nat) : (ufR r up rl).length = r.length ∧ ∀ c ∈ ufR r up rl, 0 ≤ c ∧ c ≤ 15 := ⟨ufN_len .., ufN_in h.c h.ups.2 _⟩
theorem getD_app {l : List Int} {v : Int} {x : Nat} : (l ++ [v]).getD x 0 = if x < l.length then l.getD x 0 else if x = l.length then v else 0 := by
  by_cases h : x < l.length
  · rw [if_pos h]; simp [List.getD, List.getElem?_append_left h]
  · rw [if_neg h]
    by_cases e : x = l.length
    · rw [if_pos e, e]; simp [List.getD]
    · rw [if_neg e]
      have : ¬ x < (l ++ [v]).length := by rw [List.length_append]; show ¬ x < l.length + 1; omega
      simp only [List.getD, List.getElem?_eq_none (Nat.le_of_not_lt this), Option.getD_none]
theorem ufN_at {r u : List Int} {rl x : Nat} : ∀ {n}, x < n → (ufN r u rl n).getD x 0 = uc (r.getD x 0) (aw (ufN r u rl x) u x rl) rl
  | n + 1, h => by
    rw [ufN, getD_app, ufN_len]
    by_cases e : x < n
    · rw [if_pos e]; exact ufN_at e
    · have : x = n := by omega
      rw [if_neg e, if_pos this, this]
theorem left_pre {a b : List Int} {x : Nat} (h : ∀ y, y < x → a.getD y 0 = b.getD y 0) : leftOf a x = leftOf b x := by
  unfold leftOf
  split
  · exact h _ (by omega)
  · rfl
theorem aw_pre {a b u : List Int} {x rl : Nat} (h : ∀ y, y < x → a.getD y 0 = b.getD y 0) : aw a u x rl = aw b u x rl := by
  unfold aw
  rw [left_pre h]
theorem aw_ufN {r u : List Int} {rl x n : Nat} (h : x ≤ n) : aw (ufN r u rl n) u x rl = aw (ufN r u rl x) u x rl := aw_pre fun y hy => by rw [ufN_at (by omega), ufN_at hy]
theorem fold_unfold {r : List Int} {up : Option (List Int)} (h : RowOk r up) (rl : Nat) : foldR (ufR r up rl) up rl = r := by
  have hl := (ufR_ok h rl).1
  unfold foldR
  rw [hl]
  apply List.ext_getElem
  · simp
  · intro x h1 h2
    have hx : x < r.length := h2
    have er : r.getD x 0 = r[x] := by simp [List.getD, hx]
    rw [List.getElem_map, List.getElem_range, ← er]
    have e1 : (ufR r up rl).getD x 0 = uc (r.getD x 0) (aw (ufN r (upsOf up r.length) rl x) (upsOf up r.length) x rl) rl := ufN_at hx
    have e2 : aw (ufR r up rl) (upsOf up r.length) x rl = aw (ufN r (upsOf up r.length) rl x) (upsOf up r.length) x rl := aw_ufN (Nat.le_of_lt hx)
    rw [e1, e2]
    exact fc_uc (getD_in h.c x) fun h4 => aw4 h.ups.2 x h4
theorem foldR_at {r : List Int} {up : Option (List Int)} {rl x : Nat} (h : x < r.length) : (foldR r up rl).getD x 0 = fc (r.getD x 0) (aw r (upsOf up r.length) x rl) rl := by
  unfold foldR
  simp [List.getD, h]
theorem unfold_take {r : List Int} {up : Option (List Int)} (h : RowOk r up) (rl : Nat) : ∀ n, n ≤ r.length → ufN (foldR r up rl) (upsOf up r.length) rl n = r.take n
  | 0, _ => by rw [ufN, List.take_zero]
  | n + 1, hn => by
    have hlt : n < r.length := by omega
    have er : r.getD n 0 = r[n] := by simp [List.getD, hlt]
    have e2 : aw (r.take n) (upsOf up r.length) n rl = aw r (upsOf up r.length) n rl := aw_pre fun y hy => by simp [List.getD, List.getElem?_take, hy]
    rw [ufN, unfold_take h rl n (by omega), foldR_at hlt, e2, uc_fc (getD_in h.c n) (fun h4 => aw4 h.ups.2 n h4), er, List.take_succ_eq_append_getElem hlt]
theorem unfold_fold {r : List Int} {up : Option (List Int)} (h : RowOk r up) (rl : Nat) : ufR (foldR r up rl) up rl = r := by
  unfold ufR
  rw [(foldR_ok h rl).1, unfold_take h rl _ (Nat.le_refl _), List.take_length]
theorem RowOk.fold {r : List Int} {up : Option (List Int)} (h : RowOk r up) (rl : Nat) : RowOk (foldR r up rl) up := by
  have := foldR_ok h rl
  exact ⟨by rw [this.1]; exact h.l1, by rw [this.1]; exact h.l24, this.2, fun u hu => by rw [this.1]; exact h.u u hu⟩
theorem RowOk.unfold {r : List Int} {up : Option (List Int)} (h : RowOk r up) (rl : Nat) : RowOk (ufR r up rl) up := by
  have := ufR_ok h rl
  exact ⟨by rw [this.1]; exact h.l1, by rw [this.1]; exact h.l24, this.2, fun u hu => by rw [this.1]; exact h.u u hu⟩
noncomputable def ufPN (R : List (List Int)) (rs : List Int) : Nat → List (List Int)
  | 0 => []
  | n + 1 => ufPN R rs n ++ [ufR (R.getD n []) (upAt (ufPN R rs n) n) (rs.getD n 0).toNat]
noncomputable def ufP (R : List (List Int)) (rs : List Int) : List (List Int) := ufPN R rs R.length
theorem ufPN_len (R : List (List Int)) (rs : List Int) : ∀ n, (ufPN R rs n).length = n
  | 0 => rfl
  | n + 1 => by rw [ufPN, List.length_append, ufPN_len R rs n]; rfl
theorem getD_appL {l : List (List Int)} {v : List Int} {x : Nat} (h : x < l.length) : (l ++ [v]).getD x [] = l.getD x [] := by simp [List.getD, List.getElem?_append_left h]
theorem getD_appE {l : List (List Int)} {v : List Int} {x : Nat} (h : x = l.length) : (l ++ [v]).getD x [] = v := by subst h; simp [List.getD]
theorem up_in {A : List (List Int)} {wd n : Nat} {r : List Int} (hr : r.length = wd ∧ ∀ c ∈ r, 0 ≤ c ∧ c ≤ 15) (w1 : 1 ≤ wd) (w24 : wd ≤ 24) (hA : ∀ q ∈ A, q.length = wd ∧ ∀ c ∈ q, 0 ≤ c ∧ c ≤ 15) (hn : n ≤ A.length) : RowOk r (upAt A n) := by
  refine ⟨by omega, by omega, hr.2, fun u hu => ?_⟩
  unfold upAt at hu
  split at hu
  · cases hu
    have := hA _ (row_mem (show n - 1 < A.length by omega)).2
    exact ⟨by omega, this.2⟩
  · cases hu
theorem ufPN_in {R : List (List Int)} {wd : Nat} (g : Good R wd) (rs : List Int) : ∀ n, n ≤ R.length → ∀ q ∈ ufPN R rs n, q.length = wd ∧ ∀ c ∈ q, 0 ≤ c ∧ c ≤ 15
  | 0, _, q, h => nomatch h
  | n + 1, hn, q, h => by
    rw [ufPN] at h
    rcases List.mem_append.mp h with h | h
    · exact ufPN_in g rs n (by omega) q h
    · rw [List.mem_singleton.mp h]
      have hr := g.row _ (row_mem (show n < R.length by omega)).2
      have ok := up_in (n := n) hr g.w1 g.w24 (ufPN_in g rs n (by omega)) (by rw [ufPN_len]; exact Nat.le_refl _)
      have := ufR_ok ok (rs.getD n 0).toNat
      exact ⟨by omega, this.2⟩
theorem ufPN_ok {R : List (List Int)} {wd : Nat} (g : Good R wd) (rs : List Int) {y : Nat} (h : y < R.length) : RowOk (R.getD y []) (upAt (ufPN R rs y) y) := up_in (g.row _ (row_mem h).2) g.w1 g.w24 (ufPN_in g rs y (Nat.le_of_lt h)) (by rw [ufPN_len]; exact Nat.le_refl _)
theorem ufP_good {R : List (List Int)} {wd : Nat} (g : Good R wd) (rs : List Int) : Good (ufP R rs) wd := by
  have hl : (ufP R rs).length = R.length := ufPN_len ..
  exact ⟨by rw [hl]; exact g.ne, by rw [hl]; exact g.le, g.w1, g.w24, ufPN_in g rs _ (Nat.le_refl _)⟩
theorem ufPN_at {R : List (List Int)} {rs : List Int} {x : Nat} : ∀ {n}, x < n → (ufPN R rs n).getD x [] = ufR (R.getD x []) (upAt (ufPN R rs x) x) (rs.getD x 0).toNat
  | n + 1, h => by
    rw [ufPN]
    by_cases e : x < n
    · rw [getD_appL (by rw [ufPN_len]; exact e)]; exact ufPN_at e
    · have : x = n := by omega
      subst this
      rw [getD_appE (by rw [ufPN_len])]
theorem upAt_pre {A B : List (List Int)} {x : Nat} (h : ∀ y, y < x → A.getD y [] = B.getD y []) : upAt A x = upAt B x := by
  unfold upAt
  split
  · rw [h _ (by omega)]
  · rfl
theorem fold_unfoldP {R : List (List Int)} {wd : Nat} (g : Good R wd) (rs : List Int) : foldP (ufP R rs) rs = R := by
  have hl : (ufP R rs).length = R.length := ufPN_len ..
  unfold foldP
  rw [hl]
  apply List.ext_getElem
  · simp
  · intro y h1 h2
    have hy : y < R.length := h2
    have er : R.getD y [] = R[y] := by simp [List.getD, hy]
    rw [List.getElem_map, List.getElem_range, ← er]
    have e1 : (ufP R rs).getD y [] = ufR (R.getD y []) (upAt (ufPN R rs y) y) (rs.getD y 0).toNat := ufPN_at hy
    have e2 : upAt (ufP R rs) y = upAt (ufPN R rs y) y := upAt_pre fun z hz => by
      show (ufPN R rs R.length).getD z [] = _
      rw [ufPN_at (by omega), ufPN_at hz]
    rw [e1, e2]
    exact fold_unfold (ufPN_ok g rs hy) _
theorem foldP_len (R : List (List Int)) (rs : List Int) : (foldP R rs).length = R.length := by simp [foldP]
theorem foldP_at {R : List (List Int)} {rs : List Int} {y : Nat} (h : y < R.length) : (foldP R rs).getD y [] = foldR (R.getD y []) (upAt R y) (rs.getD y 0).toNat := by
  unfold foldP
  simp [List.getD, h]
theorem foldP_good {R : List (List Int)} {wd : Nat} (g : Good R wd) (rs : List Int) : Good (foldP R rs) wd := by
  refine ⟨by rw [foldP_len]; exact g.ne, by rw [foldP_len]; exact g.le, g.w1, g.w24, fun r hr => ?_⟩
  unfold foldP at hr
  obtain ⟨y, hy, rfl⟩ := List.mem_map.mp hr
  have hy := List.mem_range.mp hy
  have := foldR_ok (rowOk_at g hy) (rs.getD y 0).toNat
  have h2 := (g.row _ (row_mem hy).2).1
  exact ⟨by omega, this.2⟩
theorem unfoldP_take {R : List (List Int)} {wd : Nat} (g : Good R wd) (rs : List Int) : ∀ n, n ≤ R.length → ufPN (foldP R rs) rs n = R.take n
  | 0, _ => by rw [ufPN, List.take_zero]
  | n + 1, hn => by
    have hlt : n < R.length := by omega
    have er : R.getD n [] = R[n] := by simp [List.getD, hlt]
    have e2 : upAt (R.take n) n = upAt R n := upAt_pre fun y hy => by simp [List.getD, List.getElem?_take, hy]
    rw [ufPN, unfoldP_take g rs n (by omega), foldP_at hlt, e2, unfold_fold (rowOk_at g hlt), er, List.take_succ_eq_append_getElem hlt]
theorem unfold_foldP {R : List (List Int)} {wd : Nat} (g : Good R wd) (rs : List Int) : ufP (foldP R rs) rs = R := by
  unfold ufP
  rw [foldP_len, unfoldP_take g rs _ (Nat.le_refl _), List.take_length]
noncomputable def BadRs (K : PySem.W.Frag) (H : Hp) (x : V) (n : Nat) : Prop := (∃ (a : Addr) (xs : List V), x = .ref a ∧ H a = some (.lst xs) ∧ xs.length ≤ 1000 ∧ (∀ y ∈ xs, Kd K H y) ∧ (xs.all (isWh 0 4) = false ∨ xs.length ≠ n)) ∨ (Kd K H x ∧ isL H x = false)
theorem BadRs.mono {K : PySem.W.Frag} {H H' : Hp} {x : V} {n : Nat} (b : BadRs K H x n) (s : Same H H') : BadRs K H' x n := by
  rcases b with ⟨a, xs, rfl, e, l, k, h⟩ | ⟨k, h⟩
  · exact .inl ⟨a, xs, rfl, s _ _ e, l, fun y hy => (k y hy).mono s, h⟩
  · refine .inr ⟨k.mono s, ?_⟩
    rw [isL_row (k.mono s), rowOf_mono k s, ← isL_row k]
    exact h
noncomputable def spFoldRX (K : PySem.W.Frag) (cBR : Addr) : Sp := fun vs H _ E => ∃ x y z, vs = [x, y, z] ∧ Kd K H z ∧ isWh 0 4 z = false ∧ E (.ref cBR) none H
noncomputable def spUnfC : Sp := fun vs H Q _ => ∃ c d : Int, ∃ rl : Nat, vs = [.int c, .int d, .int rl] ∧ Q (.int (uc c d rl)) H
noncomputable def spUnfR (K : PySem.W.Frag) : Sp := fun vs H Q _ => ∃ a v r up, ∃ rl : Nat, vs = [.ref a, v, .int rl] ∧ H a = some (.lst (r.map V.int)) ∧ AbV H v up ∧ RowOk r up ∧ rl ≤ 4 ∧ ∀ q H', Same H H' → H q = none → H' q = some (.lst ((ufR r up rl).map V.int)) → Q (.ref q) H'
noncomputable def spUnfP (K : PySem.W.Frag) : Sp := fun vs H Q _ => ∃ p a ps R wd rs, vs = [.ref p, .ref a] ∧ PicV H p ps (ir R) ∧ Good R wd ∧ H a = some (.lst (rs.map V.int)) ∧ rs.length = R.length ∧ (∀ c ∈ rs, 0 ≤ c ∧ c ≤ 4) ∧ ∀ q qs H', Same H H' → H q = none → Fresh H qs → PicV H' q qs (ir (ufP R rs)) → Q (.ref q) H'
noncomputable def spPicX (K : PySem.W.Frag) (cBP cBR : Addr) : Sp := fun vs H _ E => ∃ v x, vs = [v, x] ∧ ((Th K H v ∧ picB H v = false ∧ ∀ H', Same H H' → E (.ref cBP) none H') ∨ (∃ p ps R wd, v = .ref p ∧ PicV H p ps (ir R) ∧ Good R wd ∧ BadRs K H x R.length ∧ ∀ H', Same H H' → E (.ref cBR) none H'))
section
variable {P : Program} {w : World} {K : PySem.W.Frag} {mg : Str → Option Value} {base : Heap} {cFE cBP cBR : Addr} {tS tC tR t1 t2 t3 t4 : Tok}
theorem sc_above_in : FnScope ["picture", "y"] ["picture", "y"] (defScope s_above_in) := ⟨rfl, rfl, rfl, by decide +kernel, rfl, by decide +kernel, by decide +kernel⟩
theorem ok_above_in {f : Addr} {fd : FuncData} (F : FunD K "above_in" "above_in" s_above_in .none f fd) (T : Txt K mg cFE cBP cBR tS tC tR t1 t2 t3 t4) : FnOk P w K mg base CX0 1 f fd ["picture", "y"] (spAboveIn K) := by
  refine F.ok sc_above_in (fun vs H Q E h => ?_) (fun cdv A outer s H vs Q E hr h => ?_)
  · obtain ⟨p, ps, R, y, rfl, _⟩ := h; rfl
  · obtain ⟨p, ps, R, y, rfl, pic, hy, k⟩ := h
    refine ⟨_, (pss_one (ps_ret (pe_ifExp (pt_cmpR op_gt (pv 1) pe_int (nomark _)) (pe_ix (ixK K rfl) (pv 0) (pe_op op_sub (pv 1) pe_int) (fun _ _ => rfl)) pe_non))), ?_⟩
    have gt : decide ((y : Int) > 0) = decide (0 < y) := by rw [Bool.eq_iff_iff, decide_eq_true_eq, decide_eq_true_eq]; omega
    refine ⟨_, rfl, _, _, rfl, rfl, _, rfl, ?_⟩
    by_cases h0 : 0 < y
    · rw [gt, decide_eq_true h0]
      obtain ⟨q, _, e2, e3⟩ := ref_at pic (show y - 1 < R.length by omega)
      have e : (y : Int) - 1 = ((y - 1 : Nat) : Int) := by omega
      refine iteT ⟨_, rfl, _, rfl, _, _, rfl, rfl, p, _, _, .ref q, rfl, rfl, SqL.of pic.top, (by show atI _ ((y : Int) - 1) = _; rw [e]; exact atI_nat e2), k _ (.inr ⟨q, _, rfl, ?_, e3⟩)⟩
      unfold upAt; rw [if_pos h0]
    · rw [gt, decide_eq_false h0]
      exact iteF (k _ (.inl ⟨rfl, by unfold upAt; rw [if_neg h0]⟩))
theorem sc_folded_picture : FnScope ["picture", "rules"] ["picture", "rules"] (defScope s_folded_picture) := ⟨rfl, rfl, rfl, by decide +kernel, rfl, by decide +kernel, by decide +kernel⟩
theorem ok_folded_picture {f : Addr} {fd : FuncData} (F : FunD K "folded_picture" "folded_picture" s_folded_picture .none f fd) (T : Txt K mg cFE cBP cBR tS tC tR t1 t2 t3 t4) (g_need_picture : DefX P w K mg base 7 "need_picture" ["picture"] [] (spNeed K cBP)) (g_need_fold_rules : DefX P w K mg base 5 "need_fold_rules" ["rules", "many"] [] (spNeedRs K cBR)) (g_folded_row : Def P w K mg base 5 "folded_row" ["row", "above", "rule"] [] (spFoldR K)) (g_above_in : Def P w K mg base 1 "above_in" ["picture", "y"] [] (spAboveIn K)) : FnOk P w K mg base CX0 8 f fd ["picture", "rules"] (spFoldP K) := by
  refine F.ok sc_folded_picture (fun vs H Q E h => ?_) (fun cdv A outer s H vs Q E hr h => ?_)
  · obtain ⟨p, a, ps, R, wd, rs, rfl, _⟩ := h; rfl
  · obtain ⟨p, a, ps, R, wd, rs, rfl, pic, gd, ha, hl, hc, k⟩ := h
    have h24 := gd.le
    refine ⟨_, (pss_cons (ps_expr (pe_callX g_need_picture (hr.mono (by decide)) passF rfl (pa_cons (pv 0) pa_nil)))
        (pss_cons (ps_expr (pe_callX g_need_fold_rules (hr.mono (by decide)) passF rfl (pa_cons (pv 1) (pa_cons (pe_callB (lenK K rfl) rfl T.len PySem.boot_len (pa_cons (pv 0) pa_nil)) pa_nil))))
        (pss_one (ps_ret (pe_comp (N := ["y", "row", "picture", "rules"]) (src := [none, none, some 0, some 1]) rfl ⟨rfl, rfl, rfl, rfl, rfl, by decide +kernel⟩ (pi_enum rfl T.enumerate (pa_cons (pv 0) pa_nil)) (fun s H C fp => (pg_tupK (n := 2) K rfl rfl (pgs_cons (pg_name (i := 0) (show (["y", "row", "picture", "rules"] : List Str).Nodup by decide +kernel) rfl (by first | exact Or.inl rfl | exact Or.inr rfl)) (pgs_cons (pg_name (i := 1) (show (["y", "row", "picture", "rules"] : List Str).Nodup by decide +kernel) rfl (by first | exact Or.inl rfl | exact Or.inr rfl)) pgs_nil)))) (fun s H C fp => pts_nil) (fun s H C fp => (pe_callD g_folded_row (hr.mono (by decide)) rfl (pa_cons (pv 1) (pa_cons (pe_callD g_above_in (hr.mono (by decide)) rfl (pa_cons (pv 2) (pa_cons (pv 0) pa_nil))) (pa_cons (pe_ix (ixK K rfl) (pv 3) (pv 0) (fun _ _ => rfl)) pa_nil)))))))))), ?_⟩
    refine ⟨_, rfl, .ref p, rfl, (th_good pic gd).1, fun _ H1 s1 => ?_, fun z => (no_bad pic gd z).elim⟩
    have pic1 := pic.mono s1
    have ha1 := s1 _ _ ha
    refine ⟨_, rfl, _, rfl, p, _, rfl, .inl (SqL.of pic1.top), .ref a, R.length, (by rw [List.length_map, pic1.len, ir_len]; rfl), .inl ⟨a, _, rfl, ha1, by rw [List.length_map]; omega, kd_ints, fun _ _ H2 s2 => ?_, fun z => by
      rw [rules_all hc, List.length_map, hl] at z
      rcases z with z | z
      · cases z
      · exact absurd rfl z⟩⟩
    have pic2 := pic1.mono s2
    have ha2 := s2 _ _ ha1
    refine ⟨_, rfl, p, rfl, ⟨_, SqL.of pic2.top⟩, fun D hD => ?_⟩
    refine comp2_rows (k1 := 0) (k2 := 1) (fun pr => (foldR (R.getD (nI pr.1) []) (upAt R (nI pr.1)) (rs.getD (nI pr.1) 0).toNat).map V.int) (src2_enum (SqL.of pic2.top)) (by rw [enumL_len, List.length_map, pic2.len, ir_len]; exact Nat.le_trans h24 (by decide)) hD (fun pr hpr H' Q' sm kk => ?_) fun qs H3 s3 fr3 pic3 => ?_
    · obtain ⟨y, hy⟩ := List.mem_iff_getElem?.mp hpr
      obtain ⟨x, ex, rfl⟩ := enumL_at hy
      have hyl : y < R.length := by
        have := (List.getElem?_eq_some_iff.mp ex).1
        rw [List.length_map, pic2.len, ir_len] at this; exact this
      have pic' := pic2.mono sm
      obtain ⟨q, _, e2, e3⟩ := ref_at pic' hyl
      rw [ex] at e2; cases e2
      have hrs := hc (rs.getD y 0) (by
        have hyr : y < rs.length := by omega
        have : rs.getD y 0 = rs[y] := by simp [List.getD, hyr]
        rw [this]; exact List.getElem_mem hyr)
      obtain ⟨rl, erl⟩ : ∃ rl : Nat, rs.getD y 0 = (rl : Int) := ⟨(rs.getD y 0).toNat, by omega⟩
      refine ⟨_, rfl, _, rfl, _, rfl, p, ps, R, y, rfl, pic', Nat.le_of_lt hyl, fun v av => ?_⟩
      refine ⟨_, rfl, _, rfl, a, _, _, .int (rl : Int), rfl, rfl, SqL.of (sm _ _ ha2), atI_nat (by rw [ints_at (by omega), erl]), q, v, R.getD y [], upAt R y, rl, rfl, e3, av, rowOk_at gd hyl, by omega, fun q9 H9 s9 hq9 h9 => kk q9 H9 s9 hq9 ?_⟩
      rw [h9]
      show _ = some (HO.lst ((foldR (R.getD y []) (upAt R y) (rs.getD y 0).toNat).map V.int))
      rw [erl, Int.toNat_natCast]
    · refine k D qs H3 (s1.trans (s2.trans s3)) (s1.free (s2.free hD)) (fun q hq => s1.free (s2.free (fr3 q hq))) ?_
      have e : (enumL (ps.map V.ref)).map (fun pr => (foldR (R.getD (nI pr.1) []) (upAt R (nI pr.1)) (rs.getD (nI pr.1) 0).toNat).map V.int) = ir (foldP R rs) := by
        unfold enumL ir foldP
        rw [List.map_map, List.map_map, List.length_map, pic2.len, ir_len]
        refine List.map_congr_left fun y _ => ?_
        show (foldR (R.getD (y : Int).toNat []) (upAt R (y : Int).toNat) (rs.getD (y : Int).toNat 0).toNat).map V.int = _
        rw [Int.toNat_natCast]; rfl
      rw [e] at pic3
      exact pic3
theorem sc_unfolded_cell : FnScope ["cell", "due", "rule"] ["cell", "due", "rule"] (defScope s_unfolded_cell) := ⟨rfl, rfl, rfl, by decide +kernel, rfl, by decide +kernel, by decide +kernel⟩
theorem ok_unfolded_cell {f : Addr} {fd : FuncData} (F : FunD K "unfolded_cell" "unfolded_cell" s_unfolded_cell .none f fd) (T : Txt K mg cFE cBP cBR tS tC tR t1 t2 t3 t4) : FnOk P w K mg base CX0 1 f fd ["cell", "due", "rule"] spUnfC := by
  refine F.ok sc_unfolded_cell (fun vs H Q E h => ?_) (fun cdv A outer s H vs Q E hr h => ?_)
  · obtain ⟨c, d, rl, rfl, _⟩ := h; rfl
  · obtain ⟨c, d, rl, rfl, k⟩ := h
    refine ⟨_, (pss_one (ps_ret (pe_ifExp (pt_cmpR op_eq (pv 2) (pe_glob (v := .int 4) rfl T.BY_BITS ⟨_, rfl⟩) (nomark _)) (pe_op op_xor (pv 0) (pv 1)) (pe_op op_and (pe_op op_add (pv 0) (pv 1)) pe_int)))), ?_⟩
    unfold uc at k
    refine ⟨_, rfl, rfl, _, rfl, ite2 (fun z => ?_) (fun z => ?_)⟩
    · have e : rl = 4 := by have := of_decide_eq_true z; injection this with this; omega
      rw [if_pos e] at k
      exact ⟨_, rfl, _, rfl, _, _, rfl, rfl, k⟩
    · have n4 : ¬ rl = 4 := fun e => z (decide_eq_true (by rw [e]; rfl))
      rw [if_neg n4] at k
      refine ⟨_, rfl, _, rfl, _, _, rfl, rfl, _, _, rfl, rfl, ?_⟩
      show Q (.int (Builtin.bitAnd (c + d) 15)) H
      have e := PySem.W.kbt_mask (c + d) 4
      have e15 : (2 : Int) ^ 4 - 1 = 15 := by decide
      have e16 : (2 : Int) ^ 4 = 16 := by decide
      rw [e15, e16] at e
      rw [e]
      exact k
theorem sc_unfolded_row : FnScope ["row", "above", "rule", "over", "cells", "x", "cell"] ["row", "above", "rule"] (defScope s_unfolded_row) := ⟨rfl, rfl, rfl, by decide +kernel, rfl, by decide +kernel, by decide +kernel⟩
theorem ok_unfolded_row {f : Addr} {fd : FuncData} (F : FunD K "unfolded_row" "unfolded_row" s_unfolded_row .none f fd) (T : Txt K mg cFE cBP cBR tS tC tR t1 t2 t3 t4) (g_need_fold_rule : DefX P w K mg base 4 "need_fold_rule" ["rule"] [] (spNeedR K cBR)) (g_row_above : Def P w K mg base 1 "row_above" ["above", "wide"] [] (spAbove K)) (g_awaited : Def P w K mg base 1 "awaited" ["row", "over", "x", "rule"] [] (spAwaited K)) (g_unfolded_cell : Def P w K mg base 1 "unfolded_cell" ["cell", "due", "rule"] [] spUnfC) : FnOk P w K mg base CX0 5 f fd ["row", "above", "rule"] (spUnfR K) := by
  refine F.ok sc_unfolded_row (fun vs H Q E h => ?_) (fun cdv A outer s H vs Q E hr h => ?_)
  · obtain ⟨a, v, r, up, rl, rfl, _⟩ := h; rfl
  · obtain ⟨a, v, r, up, rl, rfl, ha, av, ok, h4, k⟩ := h
    have l24 := ok.l24
    refine ⟨_, (pss_cons (ps_expr (pe_callX g_need_fold_rule (hr.mono (by decide)) passF rfl (pa_cons (pv 2) pa_nil)))
        (pss_cons (ps_set (i := 3) sc_unfolded_row.nd rfl (by first | exact Or.inl rfl | exact Or.inr rfl) (pe_callD g_row_above (hr.mono (by decide)) rfl (pa_cons (pv 1) (pa_cons (pe_callB (lenK K rfl) rfl T.len PySem.boot_len (pa_cons (pv 0) pa_nil)) pa_nil))))
        (pss_cons (ps_set (i := 4) sc_unfolded_row.nd rfl (by first | exact Or.inl rfl | exact Or.inr rfl) (pe_lst pa_nil))
        (pss_cons (ps_for PassesOwn.never rfl (pi_enum rfl T.enumerate (pa_cons (pv 0) pa_nil)) (pg_tup rfl (pgs_cons (pg_name (i := 5) sc_unfolded_row.nd rfl (by first | exact Or.inl rfl | exact Or.inr rfl)) (pgs_cons (pg_name (i := 6) sc_unfolded_row.nd rfl (by first | exact Or.inl rfl | exact Or.inr rfl)) pgs_nil))) (pss_one (ps_expr (pe_bm PySem.F.plainAttrs_list PySem.F.slot_list_append PySem.F.type_list_append mt_append (pv 4) (pa_cons (pe_callD g_unfolded_cell (hr.mono (by decide)) rfl (pa_cons (pv 6) (pa_cons (pe_callD g_awaited (hr.mono (by decide)) rfl (pa_cons (pv 4) (pa_cons (pv 3) (pa_cons (pv 5) (pa_cons (pv 2) pa_nil))))) (pa_cons (pv 2) pa_nil)))) pa_nil)))))
        (pss_one (ps_ret (pv 4))))))), ?_⟩
    refine ⟨_, rfl, .int rl, rfl, .int _, fun _ => ?_, fun z => by rw [wh4 h4] at z; cases z⟩
    refine ⟨_, rfl, _, rfl, a, _, rfl, .inl (SqL.of ha), v, up, r.length, (by rw [List.length_map]; rfl), av, l24, fun q H1 s1 hq => ?_⟩
    have ha1 := s1 _ _ ha
    obtain ⟨ul, uc⟩ := ok.ups
    refine ⟨Nat.zero_le _, fun S hS => ?_⟩
    have sS := same_new (o := HO.lst []) hS
    refine ⟨_, rfl, a, rfl, ⟨_, SqL.of (sS _ _ ha1)⟩, ?_⟩
    refine for_enum (xs := r.map V.int) (fun x σ H3 => Same H1 H3 ∧ H3 S = some (.lst ((ufN r (upsOf up r.length) rl x).map V.int)) ∧ ∃ (v5 v6 : Option V), σ = [some (.ref a), some v, some (.int rl), some (.ref q), some (.ref S), v5, v6]) ⟨sS, by rw [upd_same]; rfl, none, none, rfl⟩ (fun i σ H3 _ p => SqL.of (p.1 _ _ ha1)) ?_ ?_
    · rintro x c σ H3 T1 hx ⟨s3, e3, v5, v6, rfl⟩ hT
      rw [List.getElem?_map] at hx
      cases ec : r[x]? with
      | none => rw [ec] at hx; cases hx
      | some c0 =>
        rw [ec] at hx
        cases hx
        have hil : x < r.length := (List.getElem?_eq_some_iff.mp ec).1
        have er : r.getD x 0 = c0 := by simp [List.getD, ec]
        have sT := same_new (o := HO.tup [V.int (x : Int), V.int c0]) hT
        have s4 := s3.trans sT
        have e4 := sT _ _ e3
        refine ⟨T1, _, rfl, SqT.of upd_same, rfl, _, _, rfl, _, _, rfl, rfl, ?_⟩
        generalize upd H3 T1 (HO.tup [V.int (x : Int), V.int c0]) = H4 at s4 e4 ⊢
        refine ⟨_, rfl, .inl ⟨rfl, _, SqL.of e4⟩, ?_⟩
        refine ⟨_, rfl, _, rfl, _, rfl, _, rfl, _, rfl, S, q, ufN r (upsOf up r.length) rl x, upsOf up r.length, x, rl, rfl, e4, s4 _ _ hq, by rw [ufN_len]; exact Nat.le_refl _, by omega, _, rfl, c0, _, rl, rfl, ?_⟩
        refine ⟨S, _, _, rfl, rfl, e4, by rw [List.length_map, ufN_len]; exact Nat.lt_of_lt_of_le hil (Nat.le_trans l24 (by decide)), same_upd s4 hS, ?_, _, _, rfl⟩
        rw [upd_same, ufN, List.map_append, er]
        rfl
    · rintro σ H3 ⟨s3, e3, v5, v6, rfl⟩
      rw [List.length_map] at e3
      exact ⟨_, rfl, k S H3 (s1.trans s3) (s1.free hS) e3⟩
theorem ok_folded_rowX {f : Addr} {fd : FuncData} (F : FunD K "folded_row" "folded_row" s_folded_row .none f fd) (T : Txt K mg cFE cBP cBR tS tC tR t1 t2 t3 t4) (g_need_fold_rule : DefX P w K mg base 4 "need_fold_rule" ["rule"] [] (spNeedR K cBR)) (g_row_above : Def P w K mg base 1 "row_above" ["above", "wide"] [] (spAbove K)) (g_awaited : Def P w K mg base 1 "awaited" ["row", "over", "x", "rule"] [] (spAwaited K)) (g_folded_cell : Def P w K mg base 1 "folded_cell" ["cell", "due", "rule"] [] spFoldC) : FnOk P w K mg base (CX1 P w) 5 f fd ["row", "above", "rule"] (spFoldRX K cBR) := by
  refine F.okX sc_folded_row (fun vs H Q E h => ?_) (fun cdv A outer s H vs Q E hr h => ?_)
  · obtain ⟨x, y, z, rfl, _⟩ := h; rfl
  · obtain ⟨x, y, z, rfl, kd, hz, k⟩ := h
    refine ⟨_, (pss_cons (ps_expr (pe_callX g_need_fold_rule (hr.mono (by decide)) passes1R rfl (pa_cons (pv 2) pa_nil)))
        (pss_cons (ps_set (i := 3) sc_folded_row.nd rfl (by first | exact Or.inl rfl | exact Or.inr rfl) (pe_callD g_row_above (hr.mono (by decide)) rfl (pa_cons (pv 1) (pa_cons (pe_callB (lenK K rfl) rfl T.len PySem.boot_len (pa_cons (pv 0) pa_nil)) pa_nil))))
        (pss_one (ps_ret (pe_comp (N := ["x", "cell", "row", "over", "rule"]) (src := [none, none, some 0, some 3, some 2]) rfl ⟨rfl, rfl, rfl, rfl, rfl, by decide +kernel⟩ (pi_enum rfl T.enumerate (pa_cons (pv 0) pa_nil)) (fun s H C fp => (pg_tupK (n := 2) K rfl rfl (pgs_cons (pg_name (i := 0) (show (["x", "cell", "row", "over", "rule"] : List Str).Nodup by decide +kernel) rfl (by first | exact Or.inl rfl | exact Or.inr rfl)) (pgs_cons (pg_name (i := 1) (show (["x", "cell", "row", "over", "rule"] : List Str).Nodup by decide +kernel) rfl (by first | exact Or.inl rfl | exact Or.inr rfl)) pgs_nil)))) (fun s H C fp => pts_nil) (fun s H C fp => (pe_callD g_folded_cell (hr.mono (by decide)) rfl (pa_cons (pv 1) (pa_cons (pe_callD g_awaited (hr.mono (by decide)) rfl (pa_cons (pv 2) (pa_cons (pv 3) (pa_cons (pv 0) (pa_cons (pv 4) pa_nil))))) (pa_cons (pv 4) pa_nil)))))))))), ?_⟩
    exact ⟨_, rfl, z, rfl, kd, fun h => (by rw [hz] at h; cases h), fun _ => k⟩
theorem ok_unfolded_rowX {f : Addr} {fd : FuncData} (F : FunD K "unfolded_row" "unfolded_row" s_unfolded_row .none f fd) (T : Txt K mg cFE cBP cBR tS tC tR t1 t2 t3 t4) (g_need_fold_rule : DefX P w K mg base 4 "need_fold_rule" ["rule"] [] (spNeedR K cBR)) (g_row_above : Def P w K mg base 1 "row_above" ["above", "wide"] [] (spAbove K)) (g_awaited : Def P w K mg base 1 "awaited" ["row", "over", "x", "rule"] [] (spAwaited K)) (g_unfolded_cell : Def P w K mg base 1 "unfolded_cell" ["cell", "due", "rule"] [] spUnfC) : FnOk P w K mg base (CX1 P w) 5 f fd ["row", "above", "rule"] (spFoldRX K cBR) := by
  refine F.okX sc_unfolded_row (fun vs H Q E h => ?_) (fun cdv A outer s H vs Q E hr h => ?_)
  · obtain ⟨x, y, z, rfl, _⟩ := h; rfl
  · obtain ⟨x, y, z, rfl, kd, hz, k⟩ := h
    refine ⟨_, (pss_cons (ps_expr (pe_callX g_need_fold_rule (hr.mono (by decide)) passes1R rfl (pa_cons (pv 2) pa_nil)))
        (pss_cons (ps_set (i := 3) sc_unfolded_row.nd rfl (by first | exact Or.inl rfl | exact Or.inr rfl) (pe_callD g_row_above (hr.mono (by decide)) rfl (pa_cons (pv 1) (pa_cons (pe_callB (lenK K rfl) rfl T.len PySem.boot_len (pa_cons (pv 0) pa_nil)) pa_nil))))
        (pss_cons (ps_set (i := 4) sc_unfolded_row.nd rfl (by first | exact Or.inl rfl | exact Or.inr rfl) (pe_lst pa_nil))
        (pss_cons (PS.nox (ps_for PassesOwn.never rfl (pi_enum rfl T.enumerate (pa_cons (pv 0) pa_nil)) (pg_tup rfl (pgs_cons (pg_name (i := 5) sc_unfolded_row.nd rfl (by first | exact Or.inl rfl | exact Or.inr rfl)) (pgs_cons (pg_name (i := 6) sc_unfolded_row.nd rfl (by first | exact Or.inl rfl | exact Or.inr rfl)) pgs_nil))) (pss_one (ps_expr (pe_bm PySem.F.plainAttrs_list PySem.F.slot_list_append PySem.F.type_list_append mt_append (pv 4) (pa_cons (pe_callD g_unfolded_cell (hr.mono (by decide)) rfl (pa_cons (pv 6) (pa_cons (pe_callD g_awaited (hr.mono (by decide)) rfl (pa_cons (pv 4) (pa_cons (pv 3) (pa_cons (pv 5) (pa_cons (pv 2) pa_nil))))) (pa_cons (pv 2) pa_nil)))) pa_nil))))))
        (pss_one (ps_ret (pv 4))))))), ?_⟩
    exact ⟨_, rfl, z, rfl, kd, fun h => (by rw [hz] at h; cases h), fun _ => k⟩
theorem sc_unfolded_picture : FnScope ["rows", "rules", "picture", "y", "row"] ["rows", "rules"] (defScope s_unfolded_picture) := ⟨rfl, rfl, rfl, by decide +kernel, rfl, by decide +kernel, by decide +kernel⟩
theorem ok_unfolded_picture {f : Addr} {fd : FuncData} (F : FunD K "unfolded_picture" "unfolded_picture" s_unfolded_picture .none f fd) (T : Txt K mg cFE cBP cBR tS tC tR t1 t2 t3 t4) (g_need_picture : DefX P w K mg base 7 "need_picture" ["picture"] [] (spNeed K cBP)) (g_need_fold_rules : DefX P w K mg base 5 "need_fold_rules" ["rules", "many"] [] (spNeedRs K cBR)) (g_unfolded_row : Def P w K mg base 5 "unfolded_row" ["row", "above", "rule"] [] (spUnfR K)) (g_above_in : Def P w K mg base 1 "above_in" ["picture", "y"] [] (spAboveIn K)) : FnOk P w K mg base CX0 8 f fd ["rows", "rules"] (spUnfP K) := by
  refine F.ok sc_unfolded_picture (fun vs H Q E h => ?_) (fun cdv A outer s H vs Q E hr h => ?_)
  · obtain ⟨p, a, ps, R, wd, rs, rfl, _⟩ := h; rfl
  · obtain ⟨p, a, ps, R, wd, rs, rfl, pic, gd, ha, hl, hc, k⟩ := h
    have h24 := gd.le
    have lp : ps.length = R.length := by rw [pic.len, ir_len]
    refine ⟨_, (pss_cons (ps_expr (pe_callX g_need_picture (hr.mono (by decide)) passF rfl (pa_cons (pv 0) pa_nil)))
        (pss_cons (ps_expr (pe_callX g_need_fold_rules (hr.mono (by decide)) passF rfl (pa_cons (pv 1) (pa_cons (pe_callB (lenK K rfl) rfl T.len PySem.boot_len (pa_cons (pv 0) pa_nil)) pa_nil))))
        (pss_cons (ps_set (i := 2) sc_unfolded_picture.nd rfl (by first | exact Or.inl rfl | exact Or.inr rfl) (pe_lst pa_nil))
        (pss_cons (ps_for PassesOwn.never rfl (pi_enum rfl T.enumerate (pa_cons (pv 0) pa_nil)) (pg_tup rfl (pgs_cons (pg_name (i := 3) sc_unfolded_picture.nd rfl (by first | exact Or.inl rfl | exact Or.inr rfl)) (pgs_cons (pg_name (i := 4) sc_unfolded_picture.nd rfl (by first | exact Or.inl rfl | exact Or.inr rfl)) pgs_nil))) (pss_one (ps_expr (pe_bm PySem.F.plainAttrs_list PySem.F.slot_list_append PySem.F.type_list_append mt_append (pv 2) (pa_cons (pe_callD g_unfolded_row (hr.mono (by decide)) rfl (pa_cons (pv 4) (pa_cons (pe_callD g_above_in (hr.mono (by decide)) rfl (pa_cons (pv 2) (pa_cons (pv 3) pa_nil))) (pa_cons (pe_ix (ixK K rfl) (pv 1) (pv 3) (fun _ _ => rfl)) pa_nil)))) pa_nil)))))
        (pss_one (ps_ret (pv 2))))))), ?_⟩
    refine ⟨_, rfl, .ref p, rfl, (th_good pic gd).1, fun _ H1 s1 => ?_, fun z => (no_bad pic gd z).elim⟩
    have pic1 := pic.mono s1
    have ha1 := s1 _ _ ha
    refine ⟨_, rfl, _, rfl, p, _, rfl, .inl (SqL.of pic1.top), .ref a, R.length, (by rw [List.length_map, pic1.len, ir_len]; rfl), .inl ⟨a, _, rfl, ha1, by rw [List.length_map]; omega, kd_ints, fun _ _ H2 s2 => ?_, fun z => by
      rw [rules_all hc, List.length_map, hl] at z
      rcases z with z | z
      · cases z
      · exact absurd rfl z⟩⟩
    have pic2 := pic1.mono s2
    have ha2 := s2 _ _ ha1
    refine ⟨Nat.zero_le _, fun S hS => ?_⟩
    have sS := same_new (o := HO.lst []) hS
    refine ⟨_, rfl, p, rfl, ⟨_, SqL.of (sS _ _ pic2.top)⟩, ?_⟩
    refine for_enum (xs := ps.map V.ref) (fun y σ H3 => Same H2 H3 ∧ ∃ (qs : List Addr) (v3 v4 : Option V), Fresh H2 qs ∧ PicV H3 S qs (ir (ufPN R rs y)) ∧ σ = [some (.ref p), some (.ref a), some (.ref S), v3, v4]) ⟨sS, [], none, none, (fun q h => nomatch h), ⟨by rw [upd_same]; rfl, .nil, List.nodup_nil, by simp⟩, rfl⟩ (fun i σ H3 _ z => SqL.of (z.1 _ _ pic2.top)) ?_ ?_
    · rintro y x σ H3 T1 hx ⟨s3, qs, v3, v4, fr, picS, rfl⟩ hT
      have hyl : y < R.length := by
        have := (List.getElem?_eq_some_iff.mp hx).1
        rw [List.length_map, lp] at this; exact this
      have sT : Same H3 (upd H3 T1 (HO.tup [V.int (y : Int), x])) := same_new hT
      have picT := picS.mono sT
      have s4 := s3.trans sT
      refine ⟨T1, _, rfl, SqT.of upd_same, rfl, _, _, rfl, _, _, rfl, rfl, ?_⟩
      generalize upd H3 T1 (HO.tup [V.int (y : Int), x]) = H4 at picT s4 ⊢
      have pic4 := pic2.mono s4
      obtain ⟨q, _, e2, e3⟩ := ref_at pic4 hyl
      rw [hx] at e2; cases e2
      have hrs := hc (rs.getD y 0) (by
        have hyr : y < rs.length := by omega
        have : rs.getD y 0 = rs[y] := by simp [List.getD, hyr]
        rw [this]; exact List.getElem_mem hyr)
      obtain ⟨rl, erl⟩ : ∃ rl : Nat, rs.getD y 0 = (rl : Int) := ⟨(rs.getD y 0).toNat, by omega⟩
      have hll : (qs.map V.ref).length = y := by rw [List.length_map, picS.len, ir_len, ufPN_len]
      refine ⟨_, rfl, .inl ⟨rfl, _, SqL.of picT.top⟩, ?_⟩
      refine ⟨_, rfl, _, rfl, _, rfl, S, qs, ufPN R rs y, y, rfl, picT, by rw [ufPN_len]; exact Nat.le_refl _, fun v av => ?_⟩
      refine ⟨_, rfl, _, rfl, a, _, _, .int (rl : Int), rfl, rfl, SqL.of (s4 _ _ ha2), atI_nat (by rw [ints_at (by omega), erl]), q, v, R.getD y [], upAt (ufPN R rs y) y, rl, rfl, e3, av, ufPN_ok gd rs hyl, by omega, fun D H5 s5 hD h5 => ?_⟩
      refine ⟨S, _, _, rfl, rfl, (picT.mono s5).top, by rw [hll]; exact Nat.lt_of_lt_of_le hyl (Nat.le_trans h24 (by decide)), same_upd (s4.trans s5) hS, qs ++ [D], _, _, fun q hq => ?_, ?_, rfl⟩
      · rcases List.mem_append.mp hq with z | z
        · exact fr q z
        · cases List.mem_singleton.mp z
          exact s4.free hD
      · have pp := K23.PicV.push picT s5 hD h5
        have et : ir (ufPN R rs (y + 1)) = ir (ufPN R rs y) ++ [(ufR (R.getD y []) (upAt (ufPN R rs y) y) rl).map V.int] := by
          unfold ir
          rw [ufPN, List.map_append, erl, Int.toNat_natCast]
          rfl
        rw [et]
        exact pp
    · rintro σ H3 ⟨s3, qs, v3, v4, fr, picS, rfl⟩
      rw [List.length_map, lp] at picS
      exact ⟨_, rfl, k S qs H3 (s1.trans (s2.trans s3)) (s1.free (s2.free hS)) (fun q hq => s1.free (s2.free (fr q hq))) picS⟩
theorem ok_folded_pictureX {f : Addr} {fd : FuncData} (F : FunD K "folded_picture" "folded_picture" s_folded_picture .none f fd) (T : Txt K mg cFE cBP cBR tS tC tR t1 t2 t3 t4) (g_need_picture : DefX P w K mg base 7 "need_picture" ["picture"] [] (spNeed K cBP)) (g_need_fold_rules : DefX P w K mg base 5 "need_fold_rules" ["rules", "many"] [] (spNeedRs K cBR)) (g_folded_row : Def P w K mg base 5 "folded_row" ["row", "above", "rule"] [] (spFoldR K)) (g_above_in : Def P w K mg base 1 "above_in" ["picture", "y"] [] (spAboveIn K)) : FnOk P w K mg base (CX1 P w) 8 f fd ["picture", "rules"] (spPicX K cBP cBR) := by
  refine F.okX sc_folded_picture (fun vs H Q E h => ?_) (fun cdv A outer s H vs Q E hr h => ?_)
  · obtain ⟨v, x, rfl, _⟩ := h; rfl
  · obtain ⟨v, x, rfl, h⟩ := h
    refine ⟨_, (pss_cons (ps_expr (pe_callX g_need_picture (hr.mono (by decide)) passes1R rfl (pa_cons (pv 0) pa_nil)))
        (pss_cons (ps_expr (pe_callX g_need_fold_rules (hr.mono (by decide)) passes1R rfl (pa_cons (pv 1) (pa_cons (pe_callB (lenK K rfl) rfl T.len PySem.boot_len (pa_cons (pv 0) pa_nil)) pa_nil))))
        (pss_one (ps_ret (pe_comp (N := ["y", "row", "picture", "rules"]) (src := [none, none, some 0, some 1]) rfl ⟨rfl, rfl, rfl, rfl, rfl, by decide +kernel⟩ (pi_enum rfl T.enumerate (pa_cons (pv 0) pa_nil)) (fun s H C fp => (pg_tupK (n := 2) K rfl rfl (pgs_cons (pg_name (i := 0) (show (["y", "row", "picture", "rules"] : List Str).Nodup by decide +kernel) rfl (by first | exact Or.inl rfl | exact Or.inr rfl)) (pgs_cons (pg_name (i := 1) (show (["y", "row", "picture", "rules"] : List Str).Nodup by decide +kernel) rfl (by first | exact Or.inl rfl | exact Or.inr rfl)) pgs_nil)))) (fun s H C fp => pts_nil) (fun s H C fp => (pe_callD g_folded_row (hr.mono (by decide)) rfl (pa_cons (pv 1) (pa_cons (pe_callD g_above_in (hr.mono (by decide)) rfl (pa_cons (pv 2) (pa_cons (pv 0) pa_nil))) (pa_cons (pe_ix (ixK K rfl) (pv 3) (pv 0) (fun _ _ => rfl)) pa_nil)))))))))), ?_⟩
    rcases h with ⟨th, hb, k⟩ | ⟨p, ps, R, wd, rfl, pic, gd, bad, k⟩
    · exact ⟨_, rfl, v, rfl, th, fun z => (by rw [hb] at z; cases z), fun _ => k⟩
    refine ⟨_, rfl, .ref p, rfl, (th_good pic gd).1, fun _ H1 s1 => ?_, fun z => (no_bad pic gd z).elim⟩
    have pic1 := pic.mono s1
    refine ⟨_, rfl, _, rfl, p, _, rfl, .inl (SqL.of pic1.top), x, R.length, (by rw [List.length_map, pic1.len, ir_len]; rfl), ?_⟩
    rcases bad.mono s1 with ⟨a, xs, rfl, e, l, kd, h⟩ | ⟨kd, hL⟩
    · refine .inl ⟨a, xs, rfl, e, l, kd, fun h1 h2 => ?_, fun _ H2 s2 => k H2 (s1.trans s2)⟩
      rcases h with h | h
      · rw [h1] at h; cases h
      · exact absurd h2 h
    · exact .inr ⟨kd, hL, k H1 s1⟩
theorem ok_unfolded_pictureX {f : Addr} {fd : FuncData} (F : FunD K "unfolded_picture" "unfolded_picture" s_unfolded_picture .none f fd) (T : Txt K mg cFE cBP cBR tS tC tR t1 t2 t3 t4) (g_need_picture : DefX P w K mg base 7 "need_picture" ["picture"] [] (spNeed K cBP)) (g_need_fold_rules : DefX P w K mg base 5 "need_fold_rules" ["rules", "many"] [] (spNeedRs K cBR)) (g_unfolded_row : Def P w K mg base 5 "unfolded_row" ["row", "above", "rule"] [] (spUnfR K)) (g_above_in : Def P w K mg base 1 "above_in" ["picture", "y"] [] (spAboveIn K)) : FnOk P w K mg base (CX1 P w) 8 f fd ["rows", "rules"] (spPicX K cBP cBR) := by
  refine F.okX sc_unfolded_picture (fun vs H Q E h => ?_) (fun cdv A outer s H vs Q E hr h => ?_)
  · obtain ⟨v, x, rfl, _⟩ := h; rfl
  · obtain ⟨v, x, rfl, h⟩ := h
    refine ⟨_, (pss_cons (ps_expr (pe_callX g_need_picture (hr.mono (by decide)) passes1R rfl (pa_cons (pv 0) pa_nil)))
        (pss_cons (ps_expr (pe_callX g_need_fold_rules (hr.mono (by decide)) passes1R rfl (pa_cons (pv 1) (pa_cons (pe_callB (lenK K rfl) rfl T.len PySem.boot_len (pa_cons (pv 0) pa_nil)) pa_nil))))
        (pss_cons (ps_set (i := 2) sc_unfolded_picture.nd rfl (by first | exact Or.inl rfl | exact Or.inr rfl) (pe_lst pa_nil))
        (pss_cons (PS.nox (ps_for PassesOwn.never rfl (pi_enum rfl T.enumerate (pa_cons (pv 0) pa_nil)) (pg_tup rfl (pgs_cons (pg_name (i := 3) sc_unfolded_picture.nd rfl (by first | exact Or.inl rfl | exact Or.inr rfl)) (pgs_cons (pg_name (i := 4) sc_unfolded_picture.nd rfl (by first | exact Or.inl rfl | exact Or.inr rfl)) pgs_nil))) (pss_one (ps_expr (pe_bm PySem.F.plainAttrs_list PySem.F.slot_list_append PySem.F.type_list_append mt_append (pv 2) (pa_cons (pe_callD g_unfolded_row (hr.mono (by decide)) rfl (pa_cons (pv 4) (pa_cons (pe_callD g_above_in (hr.mono (by decide)) rfl (pa_cons (pv 2) (pa_cons (pv 3) pa_nil))) (pa_cons (pe_ix (ixK K rfl) (pv 1) (pv 3) (fun _ _ => rfl)) pa_nil)))) pa_nil))))))
        (pss_one (ps_ret (pv 2))))))), ?_⟩
    rcases h with ⟨th, hb, k⟩ | ⟨p, ps, R, wd, rfl, pic, gd, bad, k⟩
    · exact ⟨_, rfl, v, rfl, th, fun z => (by rw [hb] at z; cases z), fun _ => k⟩
    refine ⟨_, rfl, .ref p, rfl, (th_good pic gd).1, fun _ H1 s1 => ?_, fun z => (no_bad pic gd z).elim⟩
    have pic1 := pic.mono s1
    refine ⟨_, rfl, _, rfl, p, _, rfl, .inl (SqL.of pic1.top), x, R.length, (by rw [List.length_map, pic1.len, ir_len]; rfl), ?_⟩
    rcases bad.mono s1 with ⟨a, xs, rfl, e, l, kd, h⟩ | ⟨kd, hL⟩
    · refine .inl ⟨a, xs, rfl, e, l, kd, fun h1 h2 => ?_, fun _ H2 s2 => k H2 (s1.trans s2)⟩
      rcases h with h | h
      · rw [h1] at h; cases h
      · exact absurd h2 h
    · exact .inr ⟨kd, hL, k H1 s1⟩
end
end K23
set_option Elab.async false
set_option linter.all false
set_option maxRecDepth 100000
set_option maxHeartbeats 1600000
namespace K23
open PySem L2 M4
theorem src_tup {K : PySem.W.Frag} {a : Addr} {xs : List V} {H : Hp} (e : H a = some (.tup xs)) : Src (Itt K a) xs H := fun H' sm =>
  ⟨fun i x ex => ⟨⟨xs, x, SqT.of (sm _ _ e), ex⟩, fun y H2 ⟨q1, q2⟩ => ⟨by have := q2 xs (SqT.of (sm _ _ e)); rw [ex] at this; exact (Option.some.inj this).symm, q1⟩⟩, ⟨xs, SqT.of (sm _ _ e), Nat.le_refl _⟩⟩
noncomputable def butI (a b c : Int) : Int := c * ((a / c + b / c) % 2)
noncomputable def but1 (a b : Int) : Int := ([1, 2, 4, 8].map (butI a b)).sum
theorem but_xor : ∀ a : Nat, a < 16 → ∀ b : Nat, b < 16 → but1 (a : Int) (b : Int) = Builtin.bitXor (a : Int) (b : Int) := by decide +kernel
theorem cons_left {r : List Int} {x : Nat} (h : x ≤ r.length) : ([V.int 0] ++ r.map V.int)[x]? = some (.int (leftOf r x)) := by
  unfold leftOf
  cases x with
  | zero => rfl
  | succ x =>
    rw [if_pos (by omega)]
    show (r.map V.int)[x]? = _
    rw [ints_at (by omega)]
    rfl
theorem same_upd' {H1 H5 H6 : Hp} {S : Addr} {o : HO} (s5 : Same H1 H5) (s6 : Same H5 H6) (hS : H1 S = none) : Same H1 (upd H6 S o) := same_upd (s5.trans s6) hS
noncomputable def spWhole : Sp := fun vs H Q _ => ∃ i : Int, vs = [.int i] ∧ Q (.bl true) H
noncomputable def spMix : Sp := fun vs H Q _ => ∃ c k : Int, vs = [.int c, .int k] ∧ ∀ m : Nat, m < 2147483647 → Q (.int (m : Int)) H
noncomputable def spNums (K : PySem.W.Frag) : Sp := fun vs H Q _ => ∃ (a b : Addr) (ns : List Int), vs = [.ref a, .ref b] ∧ H a = some (.lst (ns.map V.int)) ∧ H b = some (.lst (ns.map V.int)) ∧ ns.length ≤ 1000 ∧ ∀ H', Same H H' → Q (.bl true) H'
noncomputable def spFresh : Sp := fun vs H Q _ => ∃ (n kd : Nat) (l u c : Int), vs = [.int n, .int kd, .int l, .int u, .int c] ∧ kd < 4 ∧ (0 ≤ l ∧ l ≤ 15) ∧ (0 ≤ u ∧ u ≤ 15) ∧ ∀ (z : Int) H', 0 ≤ z → z ≤ 15 → Same H H' → Q (.int z) H'
noncomputable def spBut : Sp := fun vs H Q _ => ∃ a b : Int, vs = [.int a, .int b] ∧ ∀ H', Same H H' → Q (.int (but1 a b)) H'
noncomputable def spLFold (K : PySem.W.Frag) : Sp := fun vs H Q _ => ∃ a v r up, ∃ rl : Nat, vs = [.ref a, v, .int rl] ∧ H a = some (.lst (r.map V.int)) ∧ AbV H v up ∧ RowOk r up ∧ rl ≤ 4 ∧ ∀ q H', Same H H' → H q = none → H' q = some (.lst ((foldR r up rl).map V.int)) → Q (.ref q) H'
section
variable {P : Program} {w : World} {K : PySem.W.Frag} {mg : Str → Option Value} {base : Heap} {cFE cBP cBR : Addr} {tS tC tR t1 t2 t3 t4 : Tok}
theorem sc_law_whole : FnScope ["_law_found"] ["_law_found"] (defScope s_law_whole) := ⟨rfl, rfl, rfl, by decide +kernel, rfl, by decide +kernel, by decide +kernel⟩
theorem ok_law_whole {f : Addr} {fd : FuncData} (F : FunD K "_law_whole" "_law_whole" s_law_whole .none f fd) (T : Txt K mg cFE cBP cBR tS tC tR t1 t2 t3 t4) : FnOk P w K mg base CX0 1 f fd ["_law_found"] spWhole := by
  refine F.ok sc_law_whole (fun vs H Q E h => ?_) (fun cdv A outer s H vs Q E hr h => ?_)
  · obtain ⟨i, rfl, _⟩ := h; rfl
  · obtain ⟨i, rfl, k⟩ := h
    refine ⟨_, (pss_one (ps_ret (pe_and (isiK K rfl (pv 0) rfl T.isinstance rfl T.int PyProof.Rows.boot_int) (pe_one (pe_not (isiK K rfl (pv 0) rfl T.isinstance rfl T.bool PyProof.Rows.boot_bool)))))), ?_⟩
    exact ⟨_, rfl, _, (Kd.int (K := K) (H := H) i).isInt, _, rfl, iteT ⟨_, rfl, _, (Kd.int (K := K) (H := H) i).isBool, _, rfl, k⟩⟩
theorem sc_law_mixed : FnScope ["_law_cell", "_law_k", "_law_number"] ["_law_cell", "_law_k"] (defScope s_law_mixed) := ⟨rfl, rfl, rfl, by decide +kernel, rfl, by decide +kernel, by decide +kernel⟩
theorem ok_law_mixed {f : Addr} {fd : FuncData} (F : FunD K "_law_mixed" "_law_mixed" s_law_mixed .none f fd) (T : Txt K mg cFE cBP cBR tS tC tR t1 t2 t3 t4) : FnOk P w K mg base CX0 1 f fd ["_law_cell", "_law_k"] spMix := by
  refine F.ok sc_law_mixed (fun vs H Q E h => ?_) (fun cdv A outer s H vs Q E hr h => ?_)
  · obtain ⟨c, j, rfl, _⟩ := h; rfl
  · obtain ⟨c, j, rfl, k⟩ := h
    refine ⟨_, (pss_cons (ps_set (i := 2) sc_law_mixed.nd rfl (by first | exact Or.inl rfl | exact Or.inr rfl) (pe_op op_mod (pe_op op_add (pe_op op_add (pe_op op_mul (pv 0) pe_int) (pe_op op_mul pe_int (pv 1))) pe_int) pe_int))
        (pss_one (ps_ret (pe_op op_mod (pe_op op_mul (pe_op op_mod (pe_op op_mul (pv 2) (pv 2)) pe_int) (pv 2)) pe_int)))), ?_⟩
    refine ⟨_, rfl, _, _, rfl, rfl, .inr ⟨by decide, by decide⟩, _, rfl, _, _, rfl, rfl, .inl ⟨by decide, by decide⟩, _, _, rfl, rfl, _, _, rfl, rfl, _, _, rfl, rfl, (by show (0 : Int) < 2147483647; decide), ?_⟩
    show gName 2 (.int ((c * 48271 + 7919 * j + 12345) % 2147483647)) _ H _
    have p1 : 0 ≤ (c * 48271 + 7919 * j + 12345) % 2147483647 := Int.emod_nonneg _ (by decide)
    have p2 : (c * 48271 + 7919 * j + 12345) % 2147483647 < 2147483647 := Int.emod_lt_of_pos _ (by decide)
    generalize (c * 48271 + 7919 * j + 12345) % 2147483647 = n at p1 p2
    have q1 : 0 ≤ n * n % 2147483647 := Int.emod_nonneg _ (by decide)
    have q2 : n * n % 2147483647 < 2147483647 := Int.emod_lt_of_pos _ (by decide)
    refine ⟨_, rfl, _, rfl, _, _, rfl, rfl, .inl ⟨by show _; omega, by show _; omega⟩, _, _, rfl, rfl, (by show (0 : Int) < 2147483647; decide), _, rfl, _, _, rfl, rfl, .inl ⟨Int.lt_of_lt_of_le (by decide) q1, Int.lt_trans q2 (by decide)⟩, _, _, rfl, rfl, (by show (0 : Int) < 2147483647; decide), ?_⟩
    show Q (.int (n * n % 2147483647 * n % 2147483647)) H
    have r1 : 0 ≤ n * n % 2147483647 * n % 2147483647 := Int.emod_nonneg _ (by decide)
    have r2 : n * n % 2147483647 * n % 2147483647 < 2147483647 := Int.emod_lt_of_pos _ (by decide)
    generalize n * n % 2147483647 * n % 2147483647 = z at r1 r2
    have := k z.toNat (by omega)
    rwa [Int.toNat_of_nonneg r1] at this
theorem sc_law_numbers : FnScope ["_law_found", "_law_due"] ["_law_found", "_law_due"] (defScope s_law_numbers) := ⟨rfl, rfl, rfl, by decide +kernel, rfl, by decide +kernel, by decide +kernel⟩
theorem ok_law_numbers {f : Addr} {fd : FuncData} (F : FunD K "_law_numbers" "_law_numbers" s_law_numbers .none f fd) (T : Txt K mg cFE cBP cBR tS tC tR t1 t2 t3 t4) (g__law_whole : Def P w K mg base 1 "_law_whole" ["_law_found"] [] spWhole) : FnOk P w K mg base CX0 2 f fd ["_law_found", "_law_due"] (spNums K) := by
  refine F.ok sc_law_numbers (fun vs H Q E h => ?_) (fun cdv A outer s H vs Q E hr h => ?_)
  · obtain ⟨a, b, ns, rfl, _⟩ := h; rfl
  · obtain ⟨a, b, ns, rfl, ha, hb, hl, k⟩ := h
    have hu : _ + 64 < cLine := hr.units
    refine ⟨_, (pss_cons (ps_if (PW.pt (pw_or (pt_not (pt_val (isiK K rfl (pv 0) rfl T.isinstance rfl T.list PyProof.Rows.boot_list))) (pw_or1 (pt_cmpR (neDK K rfl hu) (pv 0) (pv 1) (nomark _))))) (pss_one (ps_ret pe_bl)) pss_nil)
        (pss_one (ps_ret (pe_cmpR (eqDK K rfl hu) (pe_comp (N := ["_law_one"]) (src := [none]) rfl ⟨rfl, rfl, rfl, rfl, rfl, by decide +kernel⟩ (piK K rfl (pv 0)) (fun s H C fp => pg_name (i := 0) (show (["_law_one"] : List Str).Nodup by decide +kernel) rfl (by first | exact Or.inl rfl | exact Or.inr rfl)) (fun s H C fp => (pts_one (pt_not (pt_val (pe_callD g__law_whole (hr.mono (by decide)) rfl (pa_cons (pv 0) pa_nil)))))) (fun s H C fp => (pv 0))) (pe_lst pa_nil) (nomark _))))), ?_⟩
    have eqq := EqL.ints (K := K) (SqL.of ha) (SqL.of hb)
    rw [decide_eq_true rfl] at eqq
    refine ⟨_, rfl, true, isList_lst ha, _, rfl, ⟨_, rfl, _, rfl, 0, a, b, true, by decide, rfl, rfl, eqq, _, rfl, ?_⟩⟩
    refine ⟨_, rfl, a, rfl, ⟨_, SqL.of ha⟩, fun D hD => ?_⟩
    refine comp_fm (k := 0) (fun x => x) (fun _ => false) (src_list (SqL.of ha)) (by rw [List.length_map]; exact Nat.le_trans hl (by decide)) hD (fun x hx H' Qb sm kb => ?_) (fun x hx z => nomatch z) fun H2 s2 h2 => ?_
    · obtain ⟨i, _, rfl⟩ := List.mem_map.mp hx
      exact ⟨_, rfl, i, rfl, _, rfl, kb H' (Same.refl _)⟩
    · have e0 : (((ns.map V.int).filter fun _ => false).map fun x => x) = ([] : List Int).map V.int := by
        rw [List.filter_eq_nil_iff.mpr (fun _ _ => Bool.false_ne_true)]; rfl
      rw [e0] at h2
      refine ⟨Nat.zero_le _, fun L hL => ?_⟩
      have h3 := same_new (o := HO.lst []) hL _ _ h2
      have eq7 := EqL.ints (K := K) (p := D) (q := L) (ns := []) (ms := []) (SqL.of h3) (SqL.of (upd_same (H := H2) (a := L) (o := HO.lst [])))
      rw [decide_eq_true rfl] at eq7
      exact ⟨0, D, L, true, by decide, rfl, rfl, eq7, k _ (s2.trans (same_new hL))⟩
theorem sc_law_fresh : FnScope ["_law_number", "_law_kind", "_law_left", "_law_up", "_law_corner", "_law_any_cell"] ["_law_number", "_law_kind", "_law_left", "_law_up", "_law_corner"] (defScope s_law_fresh) := ⟨rfl, rfl, rfl, by decide +kernel, rfl, by decide +kernel, by decide +kernel⟩
theorem ok_law_fresh {f : Addr} {fd : FuncData} (F : FunD K "_law_fresh" "_law_fresh" s_law_fresh .none f fd) (T : Txt K mg cFE cBP cBR tS tC tR t1 t2 t3 t4) : FnOk P w K mg base CX0 1 f fd ["_law_number", "_law_kind", "_law_left", "_law_up", "_law_corner"] spFresh := by
  refine F.ok sc_law_fresh (fun vs H Q E h => ?_) (fun cdv A outer s H vs Q E hr h => ?_)
  · obtain ⟨n, kd, l, u, c, rfl, _⟩ := h; rfl
  · obtain ⟨n, kd, l, u, c, rfl, hk, hl, hu', k⟩ := h
    refine ⟨_, (pss_cons (ps_set (i := 5) sc_law_fresh.nd rfl (by first | exact Or.inl rfl | exact Or.inr rfl) (pe_op op_mod (pe_op op_fdiv (pv 0) pe_int) pe_int))
        (pss_cons (ps_if (PW.pt (pw_or (pt_cmpR op_eq (pv 1) pe_int (nomark _)) (pw_or1 (pt_cmpR op_eq (pe_op op_mod (pv 0) pe_int) pe_int (nomark _))))) (pss_one (ps_ret (pv 5))) pss_nil)
        (pss_one (ps_ret (pe_ix (ixK K rfl) (pe_lst (pa_cons (pv 5) (pa_cons (pv 2) (pa_cons (pv 3) (pa_cons (pe_op op_mod (pe_op op_sub (pe_op op_add (pv 2) (pv 3)) (pv 4)) pe_int) pa_nil))))) (pv 1) (fun _ _ => rfl)))))), ?_⟩
    refine ⟨_, rfl, _, _, rfl, rfl, ⟨by decide, by decide⟩, _, _, rfl, rfl, (by show (0 : Int) < 16; decide), ?_⟩
    show gName 5 (.int ((n : Int) / 8 % 16)) _ H _
    have a1 : 0 ≤ (n : Int) / 8 % 16 := by omega
    have a2 : (n : Int) / 8 % 16 ≤ 15 := by omega
    generalize (n : Int) / 8 % 16 = an at a1 a2
    have any := k an H a1 a2 (Same.refl H)
    refine ⟨_, rfl, rfl, _, rfl, ite2 (fun z => ⟨_, rfl, any⟩) (fun z => ⟨_, rfl, _, _, rfl, rfl, (by show (0 : Int) < 6; decide), rfl, _, rfl, ite2 (fun z => ⟨_, rfl, any⟩) (fun z => ?_)⟩)⟩
    refine ⟨_, rfl, _, rfl, _, rfl, _, rfl, _, rfl, _, _, rfl, rfl, _, rfl, _, _, rfl, rfl, _, _, rfl, rfl, (by show (0 : Int) < 16; decide), (by show 4 ≤ sizeLine; decide), fun L hL => ?_⟩
    obtain ⟨zz, ez, z0, z15⟩ : ∃ zz : Int, atI [V.int an, V.int l, V.int u, V.int ((l + u - c) % 16)] (kd : Int) = some (.int zz) ∧ 0 ≤ zz ∧ zz ≤ 15 := by
      match kd, hk with
      | 0, _ => exact ⟨_, atI_nat rfl, a1, a2⟩
      | 1, _ => exact ⟨_, atI_nat rfl, hl.1, hl.2⟩
      | 2, _ => exact ⟨_, atI_nat rfl, hu'.1, hu'.2⟩
      | 3, _ => exact ⟨_, atI_nat rfl, by omega, by omega⟩
    exact ⟨_, rfl, L, _, _, .int zz, rfl, rfl, SqL.of upd_same, ez, k zz _ z0 z15 (same_new hL)⟩
theorem sc_law_but_one : FnScope ["_law_one", "_law_other"] ["_law_one", "_law_other"] (defScope s_law_but_one) := ⟨rfl, rfl, rfl, by decide +kernel, rfl, by decide +kernel, by decide +kernel⟩
theorem ok_law_but_one {f : Addr} {fd : FuncData} (F : FunD K "_law_but_one" "_law_but_one" s_law_but_one .none f fd) (T : Txt K mg cFE cBP cBR tS tC tR t1 t2 t3 t4) : FnOk P w K mg base CX0 1 f fd ["_law_one", "_law_other"] spBut := by
  refine F.ok sc_law_but_one (fun vs H Q E h => ?_) (fun cdv A outer s H vs Q E hr h => ?_)
  · obtain ⟨a, b, rfl, _⟩ := h; rfl
  · obtain ⟨a, b, rfl, k⟩ := h
    refine ⟨_, (pss_one (ps_ret (pe_callB (call_sum rfl) rfl T.sum PyProof.Rows.boot_sum (pa_cons (pe_comp (N := ["_law_bit", "_law_one", "_law_other"]) (src := [none, some 0, some 1]) rfl ⟨rfl, rfl, rfl, rfl, rfl, by decide +kernel⟩ (piTK K rfl (pe_tup (pa_cons pe_int (pa_cons pe_int (pa_cons pe_int (pa_cons pe_int pa_nil)))))) (fun s H C fp => pg_name (i := 0) (show (["_law_bit", "_law_one", "_law_other"] : List Str).Nodup by decide +kernel) rfl (by first | exact Or.inl rfl | exact Or.inr rfl)) (fun s H C fp => pts_nil) (fun s H C fp => (pe_op op_mul (pv 0) (pe_op op_mod (pe_op op_add (pe_op op_fdiv (pv 1) (pv 0)) (pe_op op_fdiv (pv 2) (pv 0))) pe_int)))) pa_nil)))), ?_⟩
    refine ⟨(by show 4 ≤ sizeLine; decide), fun t ht => ?_⟩
    refine ⟨t, rfl, ⟨_, SqT.of upd_same⟩, fun D hD => ?_⟩
    refine comp_fm (k := 0) (fun v => match v with | .int c => .int (butI a b c) | _ => .non) (fun _ => true) (src_tup (K := K) (H := upd H t (.tup [.int 1, .int 2, .int 4, .int 8])) upd_same) (by decide) hD (fun x _ H' Qb _ kb => kb H' (Same.refl _)) (fun x hx _ H' Q' sm kk => ?_) fun H2 s2 h2 => ?_
    · have tt := kk H' (Same.refl _)
      simp only [List.mem_cons, List.not_mem_nil, or_false] at hx
      rcases hx with rfl | rfl | rfl | rfl
      all_goals exact ⟨_, rfl, _, rfl, _, rfl, _, _, rfl, rfl, ⟨by decide, by decide⟩, _, rfl, _, rfl, _, _, rfl, rfl, ⟨by decide, by decide⟩, _, _, rfl, rfl, _, _, rfl, rfl, (by show (0 : Int) < 2; decide), _, _, rfl, rfl, .inl ⟨by decide, by decide⟩, tt⟩
    · refine ⟨D, [1, 2, 4, 8].map (butI a b), rfl, SqL.of (by rw [h2]; rfl), k H2 ((same_new ht).trans s2)⟩
theorem sc_law_folded : FnScope ["_law_row", "_law_above", "_law_rule", "_law_ups", "_law_found", "_law_x", "_law_left", "_law_corner"] ["_law_row", "_law_above", "_law_rule"] (defScope s_law_folded) := ⟨rfl, rfl, rfl, by decide +kernel, rfl, by decide +kernel, by decide +kernel⟩
theorem ok_law_folded {f : Addr} {fd : FuncData} (F : FunD K "_law_folded" "_law_folded" s_law_folded .none f fd) (T : Txt K mg cFE cBP cBR tS tC tR t1 t2 t3 t4) (g__law_but_one : Def P w K mg base 1 "_law_but_one" ["_law_one", "_law_other"] [] spBut) : FnOk P w K mg base CX0 2 f fd ["_law_row", "_law_above", "_law_rule"] (spLFold K) := by
  refine F.ok sc_law_folded (fun vs H Q E h => ?_) (fun cdv A outer s H vs Q E hr h => ?_)
  · obtain ⟨a, v, r, up, rl, rfl, _⟩ := h; rfl
  · obtain ⟨a, v, r, up, rl, rfl, ha, av, ok, h4, k⟩ := h
    have l24 := ok.l24
    obtain ⟨ul, uc⟩ := ok.ups
    obtain ⟨tr, hrest, krest⟩ : ∃ tr, PSs ((cxOf CX0 P w K mg base ["_law_row", "_law_above", "_law_rule", "_law_ups", "_law_found", "_law_x", "_law_left", "_law_corner"] "_law_folded" (defScope s_law_folded) f cdv A outer s H E).nox) ((defBody s_law_folded).drop 1) tr ∧ ∀ b H1, Same H H1 → H1 b = some (.lst ((upsOf up r.length).map V.int)) → tr { nx := fun _ H' => Q .non H', rt := Q } [some (.ref a), some v, some (.int rl), some (.ref b), none, none, none, none] H1 := by
      refine ⟨_, (pss_cons (ps_set (i := 4) sc_law_folded.nd rfl (by first | exact Or.inl rfl | exact Or.inr rfl) (pe_lst pa_nil))
        (pss_cons (ps_for PassesOwn.never rfl (pi_range1 rfl T.range (pa_cons (pe_callB (lenK K rfl) rfl T.len PySem.boot_len (pa_cons (pv 0) pa_nil)) pa_nil)) (pg_name (i := 5) sc_law_folded.nd rfl (by first | exact Or.inl rfl | exact Or.inr rfl)) (pss_cons (ps_set (i := 6) sc_law_folded.nd rfl (by first | exact Or.inl rfl | exact Or.inr rfl) (pe_ix (ixK K rfl) (pe_op op_cat (pe_lst (pa_cons pe_int pa_nil)) (pv 0)) (pv 5) (fun _ _ => rfl)))
        (pss_cons (ps_set (i := 7) sc_law_folded.nd rfl (by first | exact Or.inl rfl | exact Or.inr rfl) (pe_ix (ixK K rfl) (pe_op op_cat (pe_lst (pa_cons pe_int pa_nil)) (pv 3)) (pv 5) (fun _ _ => rfl)))
        (pss_one (ps_if (pt_cmpR op_eq (pv 2) pe_int (nomark _)) (pss_one (ps_expr (pe_bm PySem.F.plainAttrs_list PySem.F.slot_list_append PySem.F.type_list_append mt_append (pv 4) (pa_cons (pe_callD g__law_but_one (hr.mono (by decide)) rfl (pa_cons (pe_ix (ixK K rfl) (pv 0) (pv 5) (fun _ _ => rfl)) (pa_cons (pe_ix (ixK K rfl) (pv 3) (pv 5) (fun _ _ => rfl)) pa_nil))) pa_nil)))) (pss_one (ps_expr (pe_bm PySem.F.plainAttrs_list PySem.F.slot_list_append PySem.F.type_list_append mt_append (pv 4) (pa_cons (pe_op op_mod (pe_op op_sub (pe_ix (ixK K rfl) (pv 0) (pv 5) (fun _ _ => rfl)) (pe_ix (ixK K rfl) (pe_lst (pa_cons pe_int (pa_cons (pv 6) (pa_cons (pe_ix (ixK K rfl) (pv 3) (pv 5) (fun _ _ => rfl)) (pa_cons (pe_op op_sub (pe_op op_add (pv 6) (pe_ix (ixK K rfl) (pv 3) (pv 5) (fun _ _ => rfl))) (pv 7)) pa_nil))))) (pv 2) (fun _ _ => rfl))) pe_int) pa_nil)))))))))
        (pss_one (ps_ret (pv 4))))), ?_⟩
      intro b H1 s1 hb
      refine ⟨Nat.zero_le _, fun S hS => ?_⟩
      have s2 : Same H1 (upd H1 S (.lst [])) := same_new hS
      have hS0 : H S = none := s1.free hS
      refine ⟨_, rfl, a, _, rfl, .inl (SqL.of (s2 _ _ (s1 _ _ ha))), _, rfl, by rw [List.length_map]; omega, by rw [List.length_map]; omega, ?_⟩
      rw [List.length_map, Int.toNat_natCast]
      refine for_range (fun i σ H2 => Same H1 H2 ∧ H2 S = some (.lst (((foldR r up rl).take i).map V.int)) ∧ ∃ v5 v6 v7, σ = [some (.ref a), some v, some (.int rl), some (.ref b), some (.ref S), v5, v6, v7]) ⟨s2, upd_same, _, _, _, rfl⟩ ?_ ?_
      · rintro x σ H2 hx ⟨s3, hS3, v5, v6, v7, rfl⟩
        have ha3 := s3 _ _ (s1 _ _ ha)
        have hb3 := s3 _ _ hb
        have ex : (0 : Int) + (x : Int) = (x : Int) := by omega
        refine ⟨(by show 1 ≤ sizeLine; decide), fun L1 hL1 => ⟨_, rfl, L1, a, _, _, rfl, rfl, upd_same, same_new hL1 _ _ ha3, (by rw [List.length_map]; exact Nat.le_trans (show 1 + r.length ≤ 25 by omega) (by decide)), fun L2 hL2 => ⟨_, rfl, L2, _, _, _, rfl, rfl, SqL.of upd_same, (by rw [ex]; exact atI_nat (cons_left (by omega))), ?_⟩⟩⟩
        have s4 := (same_new (o := HO.lst [V.int 0]) hL1).trans (same_new (o := HO.lst ([V.int 0] ++ r.map V.int)) hL2)
        have ha4 := s4 _ _ ha3
        have hb4 := s4 _ _ hb3
        have hS4 := s4 _ _ hS3
        have s4' := s3.trans s4
        show gName 6 _ _ (upd (upd H2 L1 (HO.lst [V.int 0])) L2 (HO.lst ([V.int 0] ++ r.map V.int))) _
        generalize upd (upd H2 L1 (HO.lst [V.int 0])) L2 (HO.lst ([V.int 0] ++ r.map V.int)) = H4 at ha4 hb4 hS4 s4' ⊢
        refine ⟨(by show 1 ≤ sizeLine; decide), fun L3 hL3 => ⟨_, rfl, L3, b, _, _, rfl, rfl, upd_same, same_new hL3 _ _ hb4, (by rw [List.length_map, ul]; exact Nat.le_trans (show 1 + r.length ≤ 25 by omega) (by decide)), fun L4 hL4 => ⟨_, rfl, L4, _, _, _, rfl, rfl, SqL.of upd_same, (by rw [ex]; exact atI_nat (cons_left (by omega))), ?_⟩⟩⟩
        have s5 := (same_new (o := HO.lst [V.int 0]) hL3).trans (same_new (o := HO.lst ([V.int 0] ++ (upsOf up r.length).map V.int)) hL4)
        have ha5 := s5 _ _ ha4
        have hb5 := s5 _ _ hb4
        have hS5 := s5 _ _ hS4
        have s5' := s4'.trans s5
        show gName 7 _ _ (upd (upd H4 L3 (HO.lst [V.int 0])) L4 (HO.lst ([V.int 0] ++ (upsOf up r.length).map V.int))) _
        generalize upd (upd H4 L3 (HO.lst [V.int 0])) L4 (HO.lst ([V.int 0] ++ (upsOf up r.length).map V.int)) = H5 at ha5 hb5 hS5 s5' ⊢
        have ra : atI (r.map V.int) (0 + (x : Int)) = some (.int (r.getD x 0)) := by rw [ex]; exact atI_nat (ints_at hx)
        have ua : atI ((upsOf up r.length).map V.int) (0 + (x : Int)) = some (.int ((upsOf up r.length).getD x 0)) := by rw [ex]; exact atI_nat (ints_at (by omega))
        have fl : (foldR r up rl).length = r.length := (foldR_ok ok rl).1
        have nxt : (foldR r up rl).take (x + 1) = (foldR r up rl).take x ++ [fc (r.getD x 0) (aw r (upsOf up r.length) x rl) rl] := by
          have : (foldR r up rl)[x]? = some (fc (r.getD x 0) (aw r (upsOf up r.length) x rl) rl) := by unfold foldR; rw [List.getElem?_map, List.getElem?_range hx]; rfl
          rw [List.take_add_one, this]; rfl
        have lz : (((foldR r up rl).take x).map V.int).length < sizeLine := by
          rw [List.length_map, List.length_take]
          exact Nat.lt_of_le_of_lt (show min x (foldR r up rl).length ≤ 24 by omega) (by decide)
        refine ⟨_, rfl, rfl, _, rfl, ite2 (fun z => ?_) (fun z => ?_)⟩
        · have e4 : rl = 4 := by have := of_decide_eq_true z; injection this with this; omega
          refine ⟨_, rfl, .inl ⟨rfl, _, SqL.of hS5⟩, _, rfl, _, rfl, a, _, _, _, rfl, rfl, SqL.of ha5, ra, _, rfl, _, rfl, b, _, _, _, rfl, rfl, SqL.of hb5, ua, _, _, rfl, fun H6 s6 => ?_⟩
          refine ⟨S, _, _, rfl, rfl, s6 _ _ hS5, lz, same_upd' s5' s6 hS, ?_, _, _, _, rfl⟩
          rw [upd_same, nxt, List.map_append]
          have hb1 := getD_in ok.c x
          have hb2 := getD_in uc x
          have bx := but_xor (r.getD x 0).toNat (by omega) ((upsOf up r.length).getD x 0).toNat (by omega)
          rw [Int.toNat_of_nonneg hb1.1, Int.toNat_of_nonneg hb2.1] at bx
          rw [bx]
          unfold fc aw
          rw [if_pos e4, if_neg (by omega), if_neg (by omega), if_pos (.inr e4)]
          rfl
        · have n4 : ¬ rl = 4 := fun e => z (decide_eq_true (by rw [e]; rfl))
          refine ⟨_, rfl, .inl ⟨rfl, _, SqL.of hS5⟩, _, rfl, _, rfl, a, _, _, _, rfl, rfl, SqL.of ha5, ra, _, rfl, _, rfl, _, rfl, b, _, _, _, rfl, rfl, SqL.of hb5, ua, _, rfl, _, rfl, _, rfl, b, _, _, _, rfl, rfl, SqL.of hb5, ua, _, _, rfl, rfl, _, rfl, _, _, rfl, rfl, (by show 4 ≤ sizeLine; decide), fun L6 hL6 => ?_⟩
          have em : atI [V.int 0, V.int (leftOf r x), V.int ((upsOf up r.length).getD x 0), V.int (leftOf r x + (upsOf up r.length).getD x 0 - leftOf (upsOf up r.length) x)] (rl : Int) = some (.int (aw r (upsOf up r.length) x rl)) := by
            unfold aw
            have : rl = 0 ∨ rl = 1 ∨ rl = 2 ∨ rl = 3 := by omega
            rcases this with rfl | rfl | rfl | rfl
            · exact atI_nat rfl
            · exact atI_nat rfl
            · exact atI_nat rfl
            · exact atI_nat rfl
          refine ⟨_, rfl, L6, _, _, _, rfl, rfl, SqL.of upd_same, em, _, _, rfl, rfl, _, _, rfl, rfl, (by show (0 : Int) < 16; decide), S, _, _, rfl, rfl, same_new hL6 _ _ hS5, lz, same_upd' s5' (same_new hL6) hS, ?_, _, _, _, rfl⟩
          rw [upd_same, nxt, List.map_append]
          unfold fc
          rw [if_neg n4]
          rfl
      · rintro σ H2 ⟨s3, hS3, v5, v6, v7, rfl⟩
        have fl : (foldR r up rl).length = r.length := (foldR_ok ok rl).1
        rw [← fl, List.take_length] at hS3
        exact ⟨_, rfl, k S H2 (s1.trans s3) hS0 hS3⟩
    refine ⟨_, (pss_cons (ps_set (i := 3) sc_law_folded.nd rfl (by first | exact Or.inl rfl | exact Or.inr rfl) (pe_ifExp (pt_cmp (pc_isN (pv 1))) (pe_op op_rep (pe_lst (pa_cons pe_int pa_nil)) (pe_callB (lenK K rfl) rfl T.len PySem.boot_len (pa_cons (pv 0) pa_nil))) (pv 1)))
        (@hrest)), ?_⟩
    rcases av with ⟨rfl, rfl⟩ | ⟨q, u, rfl, rfl, hq⟩
    · refine ⟨_, rfl, _, rfl, ⟨(by show 1 ≤ sizeLine; decide), fun L hL => ⟨_, rfl, a, _, rfl, .inl (SqL.of (same_new hL _ _ ha)), L, _, _, rfl, rfl, upd_same, by omega, by rw [List.length_map]; omega, ?_, fun D hD => krest D _ ((same_new hL).trans (same_new hD)) ?_⟩⟩⟩
      · rw [List.length_map, Int.toNat_natCast]; exact Nat.le_trans (by show 1 * r.length ≤ 24; omega) (by decide)
      · rw [upd_same, List.length_map, Int.toNat_natCast]
        unfold upsOf
        have e1 : ∀ k, (List.replicate k [V.int 0]).flatten = (List.replicate k (0 : Int)).map V.int := fun k => by
          induction k with
          | zero => rfl
          | succ k ih => rw [List.replicate_succ, List.flatten_cons, ih, List.replicate_succ]; rfl
        rw [e1]; rfl
    · exact ⟨_, rfl, _, rfl, ⟨_, rfl, krest q H (Same.refl H) hq⟩⟩
end
end K23
set_option Elab.async false
set_option linter.all false
set_option maxRecDepth 100000
set_option maxHeartbeats 1600000
namespace K23
open PySem L2 M4
theorem tif_merge {ta tb : TE} {σ : St} {H : Hp} {Q : VK} {b : Bool} (P : V → Hp → Prop) (h1 : b = true → ∀ Q' : VK, (∀ v H', P v H' → Q' v H') → ta σ H Q') (h2 : b = false → ∀ Q' : VK, (∀ v H', P v H' → Q' v H') → tb σ H Q') (hk : ∀ v H', P v H' → Q v H') :
    if b = true then ta σ H Q else tb σ H Q := by
  cases b with
  | true => exact iteT (h1 rfl Q hk)
  | false => exact iteF (h2 rfl Q hk)
noncomputable def spLPic (K : PySem.W.Frag) : Sp := fun vs H Q _ => ∃ c : Nat, vs = [.int c] ∧ ∀ p ps R wd H', Same H H' → H p = none → Fresh H ps → PicV H' p ps (ir R) → Good R wd → Q (.ref p) H'
section
variable {P : Program} {w : World} {K : PySem.W.Frag} {mg : Str → Option Value} {base : Heap} {cFE cBP cBR : Addr} {tS tC tR t1 t2 t3 t4 : Tok}
theorem sc_law_picture : FnScope ["_law_cell", "_law_wide", "_law_high", "_law_rows", "_law_y", "_law_row", "_law_above", "_law_x", "_law_number"] ["_law_cell"] (defScope s_law_picture) := ⟨rfl, rfl, rfl, by decide +kernel, rfl, by decide +kernel, by decide +kernel⟩
theorem ok_law_picture {f : Addr} {fd : FuncData} (F : FunD K "_law_picture" "_law_picture" s_law_picture .none f fd) (T : Txt K mg cFE cBP cBR tS tC tR t1 t2 t3 t4) (g__law_mixed : Def P w K mg base 1 "_law_mixed" ["_law_cell", "_law_k"] [] spMix) (g__law_fresh : Def P w K mg base 1 "_law_fresh" ["_law_number", "_law_kind", "_law_left", "_law_up", "_law_corner"] [] spFresh) : FnOk P w K mg base CX0 2 f fd ["_law_cell"] (spLPic K) := by
  refine F.ok sc_law_picture (fun vs H Q E h => ?_) (fun cdv A outer s H vs Q E hr h => ?_)
  · obtain ⟨c, rfl, _⟩ := h; rfl
  · obtain ⟨c, rfl, k⟩ := h
    have hu : _ + 64 < cLine := hr.units
    obtain ⟨t4', r4, k4⟩ : ∃ tr, PSs ((cxOf CX0 P w K mg base ["_law_cell", "_law_wide", "_law_high", "_law_rows", "_law_y", "_law_row", "_law_above", "_law_x", "_law_number"] "_law_picture" (defScope s_law_picture) f cdv A outer s H E).nox) ((defBody s_law_picture).drop 4) tr ∧ ∀ (wn hn : Nat), 1 ≤ wn → wn ≤ 24 → 1 ≤ hn → hn ≤ 24 → tr { nx := fun _ H' => Q .non H', rt := Q } [some (.int (c : Int)), some (.int (wn : Int)), some (.int (hn : Int)), none, none, none, none, none, none] H := by
      refine ⟨_, (pss_cons (ps_set (i := 3) sc_law_picture.nd rfl (by first | exact Or.inl rfl | exact Or.inr rfl) (pe_lst pa_nil))
        (pss_cons (ps_for PassesOwn.never rfl (pi_range1 rfl T.range (pa_cons (pv 2) pa_nil)) (pg_name (i := 4) sc_law_picture.nd rfl (by first | exact Or.inl rfl | exact Or.inr rfl)) (pss_cons (ps_set (i := 5) sc_law_picture.nd rfl (by first | exact Or.inl rfl | exact Or.inr rfl) (pe_lst pa_nil))
        (pss_cons (ps_set (i := 6) sc_law_picture.nd rfl (by first | exact Or.inl rfl | exact Or.inr rfl) (pe_ifExp (pt_cmpR (eqDK K rfl hu) (pv 3) (pe_lst pa_nil) (nomark _)) (pe_op op_rep (pe_lst (pa_cons pe_int pa_nil)) (pv 1)) (pe_ix (ixK K rfl) (pv 3) (pe_un un_neg pe_int) (fun _ _ => rfl))))
        (pss_cons (ps_for PassesOwn.never rfl (pi_range1 rfl T.range (pa_cons (pv 1) pa_nil)) (pg_name (i := 7) sc_law_picture.nd rfl (by first | exact Or.inl rfl | exact Or.inr rfl)) (pss_cons (ps_set (i := 8) sc_law_picture.nd rfl (by first | exact Or.inl rfl | exact Or.inr rfl) (pe_callD g__law_mixed (hr.mono (by decide)) rfl (pa_cons (pv 0) (pa_cons (pe_op op_add (pe_op op_mul pe_int (pv 4)) (pv 7)) pa_nil))))
        (pss_one (ps_expr (pe_bm PySem.F.plainAttrs_list PySem.F.slot_list_append PySem.F.type_list_append mt_append (pv 5) (pa_cons (pe_callD g__law_fresh (hr.mono (by decide)) rfl (pa_cons (pv 8) (pa_cons (pe_op op_mod (pe_op op_fdiv (pv 0) pe_int) pe_int) (pa_cons (pe_ix (ixK K rfl) (pe_op op_cat (pe_lst (pa_cons pe_int pa_nil)) (pv 5)) (pv 7) (fun _ _ => rfl)) (pa_cons (pe_ix (ixK K rfl) (pv 6) (pv 7) (fun _ _ => rfl)) (pa_cons (pe_ix (ixK K rfl) (pe_op op_cat (pe_lst (pa_cons pe_int pa_nil)) (pv 6)) (pv 7) (fun _ _ => rfl)) pa_nil)))))) pa_nil))))))
        (pss_one (ps_expr (pe_bm PySem.F.plainAttrs_list PySem.F.slot_list_append PySem.F.type_list_append mt_append (pv 3) (pa_cons (pv 5) pa_nil))))))))
        (pss_one (ps_ret (pv 3))))), ?_⟩
      intro wn hn w1 w24 h1 h24
      refine ⟨Nat.zero_le _, fun S hS => ?_⟩
      refine ⟨_, rfl, _, rfl, by omega, by omega, ?_⟩
      rw [Int.toNat_natCast]
      refine for_range (fun y σ H2 => Same H H2 ∧ ∃ (ps : List Addr) (R : List (List Int)) (v4 v5 v6 v7 v8 : Option V), PicV H2 S ps (ir R) ∧ Fresh H ps ∧ R.length = y ∧ (∀ r ∈ R, r.length = wn ∧ ∀ z ∈ r, 0 ≤ z ∧ z ≤ 15) ∧ σ = [some (.int (c : Int)), some (.int (wn : Int)), some (.int (hn : Int)), some (.ref S), v4, v5, v6, v7, v8]) ⟨same_new hS, [], [], _, _, _, _, _, ⟨upd_same, .nil, List.nodup_nil, by simp⟩, (fun q h => nomatch h), rfl, (fun r h => nomatch h), rfl⟩ ?_ ?_
      · rintro y σ H2 hy ⟨s2, ps, R, v4, v5, v6, v7, v8, pic, fr, hR, hr', rfl⟩
        refine ⟨Nat.zero_le _, fun D hD => ?_⟩
        have s3 : Same H2 (upd H2 D (.lst [])) := same_new hD
        have hD0 : H D = none := s2.free hD
        have pic3 := pic.mono s3
        have hD3 : upd H2 D (.lst []) D = some (.lst []) := upd_same
        have nDS : D ≠ S := fun z => by rw [z, pic.top] at hD; cases hD
        have nDp : D ∉ ps := fun z => by
          obtain ⟨r, _, e⟩ := pic.mem z
          rw [hD] at e; cases e
        generalize upd H2 D (.lst []) = H3 at s3 pic3 hD3 ⊢
        have lp : ps.length = R.length := by rw [pic3.len, ir_len]
        refine ⟨_, rfl, Nat.zero_le _, fun L0 hL0 => ?_⟩
        have s4 := same_new (o := HO.lst []) hL0
        have pic4 := pic3.mono s4
        have hD4 := s4 _ _ hD3
        have eL0 : upd H3 L0 (HO.lst []) L0 = some (.lst []) := upd_same
        generalize upd H3 L0 (HO.lst []) = H4 at s4 pic4 hD4 eL0 ⊢
        have eqb : EqL K H4 (EqD K H4 0) S L0 (decide (ps = [])) := by
          by_cases hp : ps = []
          · subst hp
            have := EqL.ints (K := K) (p := S) (q := L0) (ns := []) (ms := []) (SqL.of pic4.top) (SqL.of eL0)
            rw [decide_eq_true rfl] at this
            rw [decide_eq_true rfl]
            exact this
          · exact ⟨ps.map V.ref, [], .inl ⟨SqL.of pic4.top, SqL.of eL0, by simpa using hp, decide_eq_false hp⟩⟩
        refine ⟨0, S, L0, _, by decide, rfl, rfl, eqb, _, rfl, tif_merge (fun v H5 => ∃ (B : Addr) (u : List Int), v = .ref B ∧ Same H4 H5 ∧ H5 B = some (.lst (u.map V.int)) ∧ u.length = wn ∧ (∀ z ∈ u, 0 ≤ z ∧ z ≤ 15) ∧ B ≠ D) (fun z Q' kk => ?_) (fun z Q' kk => ?_) ?_⟩
        · refine ⟨(by show 1 ≤ sizeLine; decide), fun L1 hL1 => ⟨_, rfl, L1, _, _, rfl, rfl, upd_same, by omega, by omega, (by rw [Int.toNat_natCast]; exact Nat.le_trans (by show 1 * wn ≤ 24; omega) (by decide)), fun B hB => kk _ _ ⟨B, List.replicate wn 0, rfl, (same_new hL1).trans (same_new hB), ?_, List.length_replicate, fun q hq => by rw [(List.mem_replicate.mp hq).2]; decide, ?_⟩⟩⟩
          · rw [upd_same, Int.toNat_natCast]
            have e1 : ∀ k, (List.replicate k [V.int 0]).flatten = (List.replicate k (0 : Int)).map V.int := fun k => by
              induction k with
              | zero => rfl
              | succ k ih => rw [List.replicate_succ, List.flatten_cons, ih, List.replicate_succ]; rfl
            rw [e1]
          · intro e
            rw [e, same_new hL1 _ _ hD4] at hB; cases hB
        · have hne : ps ≠ [] := of_decide_eq_false z
          have hpos : 0 < R.length := by rw [← lp]; exact List.length_pos_iff.mpr hne
          obtain ⟨q, e1, e2, e3⟩ := ref_at pic4 (show R.length - 1 < R.length by omega)
          have em1 : atI (ps.map V.ref) (-1) = some (.ref q) := by
            unfold atI ixN
            rw [List.length_map, if_neg (by decide), if_pos (by omega)]
            have : ((-1 : Int) + (ps.length : Int)).toNat = R.length - 1 := by omega
            rw [this]
            exact e2
          obtain ⟨hr1, hr2⟩ := hr' _ (row_mem (show R.length - 1 < R.length by omega)).2
          refine ⟨_, rfl, _, rfl, S, _, _, .ref q, rfl, rfl, SqL.of pic4.top, em1, kk _ _ ⟨q, _, rfl, Same.refl _, e3, hr1, hr2, ?_⟩⟩
          intro e
          exact nDp (by rw [← e]; exact List.mem_of_getElem? e1)
        rintro v H5 ⟨B, u, rfl, s5, hB, ul, uc, nBD⟩
        have pic5 := pic4.mono s5
        have hD5 := s5 _ _ hD4
        have s5' : Same H H5 := s2.trans (s3.trans (s4.trans s5))
        refine ⟨_, rfl, _, rfl, by omega, by omega, ?_⟩
        rw [Int.toNat_natCast]
        refine for_range (fun x σ H6 => Same H H6 ∧ PicV H6 S ps (ir R) ∧ H6 B = some (.lst (u.map V.int)) ∧ ∃ (r : List Int) (v7 v8 : Option V), H6 D = some (.lst (r.map V.int)) ∧ r.length = x ∧ (∀ z ∈ r, 0 ≤ z ∧ z ≤ 15) ∧ σ = [some (.int (c : Int)), some (.int (wn : Int)), some (.int (hn : Int)), some (.ref S), some (.int (0 + (y : Int))), some (.ref D), some (.ref B), v7, v8]) ⟨s5', pic5, hB, [], _, _, hD5, rfl, (fun z h => nomatch h), rfl⟩ ?_ ?_
        · rintro x σ H6 hx ⟨s6, pic6, hB6, r, v7, v8, hD6, rl, rc, rfl⟩
          have ex : (0 : Int) + (x : Int) = (x : Int) := by omega
          refine ⟨_, rfl, _, rfl, _, _, rfl, rfl, .inl ⟨by decide, by decide⟩, _, rfl, _, _, rfl, rfl, _, _, rfl, fun m hm => ?_⟩
          obtain ⟨kd, hk, ek⟩ : ∃ kd : Nat, kd < 4 ∧ (c : Int) / 6720 % 4 = (kd : Int) := ⟨c / 6720 % 4, by omega, by omega⟩
          have lz : (r.map V.int).length < sizeLine := by rw [List.length_map, rl]; exact Nat.lt_of_lt_of_le hx (Nat.le_trans w24 (by decide))
          refine ⟨_, rfl, .inl ⟨rfl, _, SqL.of hD6⟩, _, rfl, _, rfl, _, _, rfl, rfl, ⟨by decide, by decide⟩, _, _, rfl, rfl, (by show (0 : Int) < 4; decide), (by show 1 ≤ sizeLine; decide), fun L1 hL1 => ⟨_, rfl, L1, D, _, _, rfl, rfl, upd_same, same_new hL1 _ _ hD6, (by rw [List.length_map, rl]; exact Nat.le_trans (show 1 + x ≤ 25 by omega) (by decide)), fun L2 hL2 => ⟨_, rfl, L2, _, _, _, rfl, rfl, SqL.of upd_same, (by rw [ex]; exact atI_nat (cons_left (by omega))), ?_⟩⟩⟩
          have sa := (same_new (o := HO.lst [V.int 0]) hL1).trans (same_new (o := HO.lst ([V.int 0] ++ r.map V.int)) hL2)
          have hBa := sa _ _ hB6
          have hDa := sa _ _ hD6
          have pica := pic6.mono sa
          have s6a := s6.trans sa
          generalize upd (upd H6 L1 (HO.lst [V.int 0])) L2 (HO.lst ([V.int 0] ++ r.map V.int)) = Ha at hBa hDa pica s6a ⊢
          refine ⟨_, rfl, _, rfl, B, _, _, _, rfl, rfl, SqL.of hBa, (by rw [ex]; exact atI_nat (ints_at (by omega))), (by show 1 ≤ sizeLine; decide), fun L3 hL3 => ⟨_, rfl, L3, B, _, _, rfl, rfl, upd_same, same_new hL3 _ _ hBa, (by rw [List.length_map, ul]; exact Nat.le_trans (show 1 + wn ≤ 25 by omega) (by decide)), fun L4 hL4 => ⟨_, rfl, L4, _, _, _, rfl, rfl, SqL.of upd_same, (by rw [ex]; exact atI_nat (cons_left (by omega))), ?_⟩⟩⟩
          have sb := (same_new (o := HO.lst [V.int 0]) hL3).trans (same_new (o := HO.lst ([V.int 0] ++ u.map V.int)) hL4)
          have hBb := sb _ _ hBa
          have hDb := sb _ _ hDa
          have picb := pica.mono sb
          have s6b := s6a.trans sb
          generalize upd (upd Ha L3 (HO.lst [V.int 0])) L4 (HO.lst ([V.int 0] ++ u.map V.int)) = Hb at hBb hDb picb s6b ⊢
          have left_in : ∀ {l : List Int}, (∀ z ∈ l, 0 ≤ z ∧ z ≤ 15) → 0 ≤ leftOf l x ∧ leftOf l x ≤ 15 := fun {l} h => by
            unfold leftOf
            split
            · exact getD_in h _
            · decide
          refine ⟨m, kd, leftOf r x, u.getD x 0, leftOf u x, (by show [V.int (m : Int), V.int ((c : Int) / 6720 % 4), V.int (leftOf r x), V.int (u.getD x 0), V.int (leftOf u x)] = _; rw [ek]), hk, left_in rc, getD_in uc x, fun zz H7 z0 z15 s7 => ?_⟩
          have kp : ∀ b o, Hb b = some o → b ≠ D → upd H7 D (.lst (r.map V.int ++ [.int zz])) b = some o := fun b o e hb => by rw [upd_ne hb]; exact s7 _ _ e
          refine ⟨D, _, _, rfl, rfl, s7 _ _ hDb, lz, same_upd (s6b.trans s7) hD0, ⟨kp _ _ picb.top (Ne.symm nDS), Paired.mapI picb.row fun b o hb e => kp _ _ e (fun z => nDp (by rw [← z]; exact hb)), picb.nd, picb.out⟩, kp _ _ hBb nBD, r ++ [zz], _, _, ?_, ?_, ?_, rfl⟩
          · rw [upd_same, List.map_append]; rfl
          · rw [List.length_append, rl]; rfl
          · intro q hq
            rcases List.mem_append.mp hq with hq | hq
            · exact rc q hq
            · rw [List.mem_singleton.mp hq]; exact ⟨z0, z15⟩
        · rintro σ H6 ⟨s6, pic6, hB6, r, v7, v8, hD6, rl, rc, rfl⟩
          have kp : ∀ b o, H6 b = some o → b ≠ S → upd H6 S (.lst (ps.map V.ref ++ [.ref D])) b = some o := fun b o e hb => by rw [upd_ne hb]; exact e
          refine ⟨_, rfl, .inl ⟨rfl, _, SqL.of pic6.top⟩, _, rfl, S, _, _, rfl, rfl, pic6.top, ?_, same_upd s6 hS, ps ++ [D], R ++ [r], _, _, _, _, _, ⟨?_, ?_, ?_, ?_⟩, ?_, ?_, ?_, rfl⟩
          · rw [List.length_map, lp, hR]; exact Nat.lt_of_lt_of_le hy (Nat.le_trans h24 (by decide))
          · rw [upd_same, List.map_append]; rfl
          · unfold ir
            rw [List.map_append]
            exact Paired.app (Paired.mapI pic6.row fun b o hb e => kp _ _ e (fun z => pic6.out (by rw [← z]; exact hb))) (.cons (kp _ _ hD6 nDS) .nil)
          · rw [List.nodup_append]
            exact ⟨pic6.nd, by simp, fun a ha b hb z => by
              rw [List.mem_singleton.mp hb] at z
              exact nDp (by rw [← z]; exact ha)⟩
          · intro z
            rcases List.mem_append.mp z with z | z
            · exact pic6.out z
            · exact nDS (List.mem_singleton.mp z).symm
          · intro q hq
            rcases List.mem_append.mp hq with hq | hq
            · exact fr q hq
            · rw [List.mem_singleton.mp hq]; exact hD0
          · rw [List.length_append, hR]; rfl
          · intro q hq
            rcases List.mem_append.mp hq with hq | hq
            · exact hr' q hq
            · rw [List.mem_singleton.mp hq]; exact ⟨rl, rc⟩
      · rintro σ H2 ⟨s2, ps, R, v4, v5, v6, v7, v8, pic, fr, hR, hr', rfl⟩
        exact ⟨_, rfl, k S ps R wn H2 s2 hS fr pic ⟨by omega, by omega, w1, w24, hr'⟩⟩
    obtain ⟨t3, r3, k3⟩ : ∃ tr, PSs ((cxOf CX0 P w K mg base ["_law_cell", "_law_wide", "_law_high", "_law_rows", "_law_y", "_law_row", "_law_above", "_law_x", "_law_number"] "_law_picture" (defScope s_law_picture) f cdv A outer s H E).nox) ((defBody s_law_picture).drop 3) tr ∧ ∀ (wn hn : Nat), 1 ≤ wn → wn ≤ 24 → 1 ≤ hn → hn ≤ 24 → tr { nx := fun _ H' => Q .non H', rt := Q } [some (.int (c : Int)), some (.int (wn : Int)), some (.int (hn : Int)), none, none, none, none, none, none] H := by
      refine ⟨_, (pss_cons (ps_if (pt_cmpR op_eq (pe_op op_mod (pe_op op_fdiv (pv 0) pe_int) pe_int) pe_int (nomark _)) (pss_one (ps_set (i := 2) sc_law_picture.nd rfl (by first | exact Or.inl rfl | exact Or.inr rfl) (pe_op op_add pe_int (pe_op op_mod (pe_op op_fdiv (pv 0) pe_int) pe_int)))) pss_nil)
        (@r4)), ?_⟩
      intro wn hn w1 w24 h1 h24
      obtain ⟨lg, el, l1, l24⟩ : ∃ lg : Nat, 1 + (c : Int) / 280 % 24 = (lg : Int) ∧ 1 ≤ lg ∧ lg ≤ 24 := ⟨1 + c / 280 % 24, by omega, by omega, by omega⟩
      refine ⟨_, rfl, _, _, rfl, rfl, ⟨by decide, by decide⟩, _, _, rfl, rfl, (by show (0 : Int) < 8; decide), rfl, _, rfl, ite2 (fun _ => ?_) (fun _ => k4 wn hn w1 w24 h1 h24)⟩
      refine ⟨_, rfl, _, _, rfl, rfl, ⟨by decide, by decide⟩, _, _, rfl, rfl, (by show (0 : Int) < 24; decide), _, _, rfl, rfl, ?_⟩
      show t4' _ [some (.int (c : Int)), some (.int (wn : Int)), some (.int (1 + (c : Int) / 280 % 24)), none, none, none, none, none, none] H
      rw [el]
      exact k4 wn lg w1 w24 l1 l24
    refine ⟨_, (pss_cons (ps_set (i := 1) sc_law_picture.nd rfl (by first | exact Or.inl rfl | exact Or.inr rfl) (pe_op op_add pe_int (pe_op op_mod (pv 0) pe_int)))
        (pss_cons (ps_set (i := 2) sc_law_picture.nd rfl (by first | exact Or.inl rfl | exact Or.inr rfl) (pe_op op_add pe_int (pe_op op_mod (pe_op op_fdiv (pv 0) pe_int) pe_int)))
        (pss_cons (ps_if (pt_cmpR op_eq (pe_op op_mod (pe_op op_fdiv (pv 0) pe_int) pe_int) pe_int (nomark _)) (pss_one (ps_set (i := 1) sc_law_picture.nd rfl (by first | exact Or.inl rfl | exact Or.inr rfl) (pe_op op_add pe_int (pe_op op_mod (pe_op op_fdiv (pv 0) pe_int) pe_int)))) pss_nil)
        (@r3)))), ?_⟩
    refine ⟨_, rfl, _, _, rfl, rfl, (by show (0 : Int) < 7; decide), _, _, rfl, rfl, ?_⟩
    refine ⟨_, rfl, _, _, rfl, rfl, ⟨by decide, by decide⟩, _, _, rfl, rfl, (by show (0 : Int) < 5; decide), _, _, rfl, rfl, ?_⟩
    obtain ⟨wn, ew, w1, w24⟩ : ∃ wn : Nat, 1 + (c : Int) % 7 = (wn : Int) ∧ 1 ≤ wn ∧ wn ≤ 7 := ⟨1 + c % 7, by omega, by omega, by omega⟩
    obtain ⟨hn, eh, h1, h24⟩ : ∃ hn : Nat, 1 + (c : Int) / 7 % 5 = (hn : Int) ∧ 1 ≤ hn ∧ hn ≤ 5 := ⟨1 + c / 7 % 5, by omega, by omega, by omega⟩
    obtain ⟨lg, el, l1, l24⟩ : ∃ lg : Nat, 1 + (c : Int) / 280 % 24 = (lg : Int) ∧ 1 ≤ lg ∧ lg ≤ 24 := ⟨1 + c / 280 % 24, by omega, by omega, by omega⟩
    refine ⟨_, rfl, _, _, rfl, rfl, ⟨by decide, by decide⟩, _, _, rfl, rfl, (by show (0 : Int) < 8; decide), rfl, _, rfl, ite2 (fun _ => ?_) (fun _ => ?_)⟩
    · refine ⟨_, rfl, _, _, rfl, rfl, ⟨by decide, by decide⟩, _, _, rfl, rfl, (by show (0 : Int) < 24; decide), _, _, rfl, rfl, ?_⟩
      show t3 _ [some (.int (c : Int)), some (.int (1 + (c : Int) / 280 % 24)), some (.int (1 + (c : Int) / 7 % 5)), none, none, none, none, none, none] H
      rw [el, eh]
      exact k3 lg hn l1 l24 h1 (by omega)
    · show t3 _ [some (.int (c : Int)), some (.int (1 + (c : Int) % 7)), some (.int (1 + (c : Int) / 7 % 5)), none, none, none, none, none, none] H
      rw [ew, eh]
      exact k3 wn hn w1 (by omega) h1 (by omega)
end
end K23
set_option Elab.async false
set_option linter.all false
set_option maxRecDepth 100000
set_option maxHeartbeats 1600000
namespace K23
open PySem L2 M4
theorem tupleK {X : Cx} (K : PySem.W.Frag) (hK : X.K = K) : CallR X (.type "tuple") (fun xs H Q => ∃ p ys, xs = [V.ref p] ∧ ((SqL K H p ys ∧ ∀ (l : Addr), H l = none → Q (V.ref l) (upd H l (HO.tup ys))) ∨ SqT K H p ys ∧ Q (V.ref p) H)) := by
  subst hK
  exact call_tuple_of
theorem lit_neg {n : Int} {k : Nat} {p p2 : Pos} : LitE (.UnaryOp .USub (.Constant (.int n) k p) p2) (tUn (rU fun i => V.int (-i)) (L2.tC (.int n))) := ⟨fun _ => pe_un un_neg pe_int, fun _ _ => rfl⟩
noncomputable def gRow (H : Hp) : V → List V
  | .ref b => match H b with
    | some (.lst ys) => ys
    | _ => []
  | _ => []
theorem len_rep' (n : Nat) (xs : List V) : (List.replicate n xs).flatten.length = n * xs.length := by
  induction n with
  | zero => simp
  | succ n ih => rw [List.replicate_succ, List.flatten_cons, List.length_append, ih, Nat.succ_mul, Nat.add_comm]
theorem len25 (xs : List V) : (List.replicate (25 : Int).toNat xs).flatten.length = 25 * xs.length := len_rep' 25 xs
structure BadP (K : PySem.W.Frag) (H : Hp) (v : V) : Prop where
  th : Th K H v
  no : picB H v = false
theorem BadP.mono {K : PySem.W.Frag} {H H' : Hp} {v : V} (b : BadP K H v) (s : Same H H') : BadP K H' v := ⟨b.th.mono s, by rw [picB_mono b.th s]; exact b.no⟩
noncomputable def BadPs (K : PySem.W.Frag) (H : Hp) (vs : List V) : Prop := ∀ v ∈ vs, BadP K H v
section
variable {K : PySem.W.Frag} {H H' : Hp}
theorem BadPs.mono {vs : List V} (b : BadPs K H vs) (s : Same H H') : BadPs K H' vs := fun v hv => (b v hv).mono s
theorem BadPs.snoc {vs : List V} {v : V} (b : BadPs K H vs) (h : BadP K H v) : BadPs K H (vs ++ [v]) := fun x hx => by
  rcases List.mem_append.mp hx with hx | hx
  · exact b x hx
  · rw [List.mem_singleton.mp hx]; exact h
theorem bad_leaf {v : V} (k : Kd K H v) (h : rowOf H v = none) : BadP K H v := ⟨⟨k, fun ys e => (by rw [h] at e; cases e), fun ys e => (by rw [h] at e; cases e)⟩, by unfold picB; rw [h]⟩
theorem bad_len {p : Addr} {xs : List V} (e : H p = some (.lst xs)) (hl : xs.length ≤ 1000) (hk : ∀ x ∈ xs, Rw K H x) (hw : isWh 1 24 (.int (xs.length : Int)) = false) : BadP K H (.ref p) :=
  ⟨(Th.lst e hl hk).1, by unfold picB; rw [rowOf_lst e]; dsimp only; rw [hw, Bool.false_and]⟩
theorem bad_row {p : Addr} {xs : List V} (e : H p = some (.lst xs)) (hl : xs.length ≤ 1000) (hk : ∀ x ∈ xs, Rw K H x) (hx : ∃ x ∈ xs, rowQ H x = false) : BadP K H (.ref p) := by
  refine ⟨(Th.lst e hl hk).1, ?_⟩
  obtain ⟨x, hm, hq⟩ := hx
  have : xs.all (rowQ H) = false := by
    rw [Bool.eq_false_iff]
    intro z
    rw [List.all_eq_true] at z
    rw [z x hm] at hq; cases hq
  unfold picB; rw [rowOf_lst e]; dsimp only; rw [this, Bool.false_and, Bool.and_false]
theorem bad_one {p q : Addr} {r : List V} (e : H p = some (.lst [.ref q])) (eq : H q = some (.lst r)) (hl : r.length ≤ 1000) (hk : ∀ y ∈ r, Kd K H y) (hq : rowB r = false) : BadP K H (.ref p) :=
  bad_row e (by show 1 ≤ 1000; decide) (fun x hx => by rw [List.mem_singleton.mp hx]; exact Rw.lst eq hl hk) ⟨.ref q, List.mem_singleton.mpr rfl, by unfold rowQ; rw [rowOf_lst eq]; exact hq⟩
end
noncomputable def spNoP (K : PySem.W.Frag) : Sp := fun vs H Q _ => ∃ (n : Nat) (p : Addr) (ps : List Addr) (R : List (List Int)) (wd : Nat), vs = [.int n, .ref p] ∧ PicV H p ps (ir R) ∧ Good R wd ∧ ∀ v H', Same H H' → BadP K H' v → Q v H'
section
variable {P : Program} {w : World} {K : PySem.W.Frag} {mg : Str → Option Value} {base : Heap} {cFE cBP cBR : Addr} {tS tC tR t1 t2 t3 t4 : Tok}
theorem sc_law_no_picture : FnScope ["_law_cell", "_law_picture_here", "_law_wide", "_law_some"] ["_law_cell", "_law_picture_here"] (defScope s_law_no_picture) := ⟨rfl, rfl, rfl, by decide +kernel, rfl, by decide +kernel, by decide +kernel⟩
theorem ok_law_no_picture {f : Addr} {fd : FuncData} (F : FunD K "_law_no_picture" "_law_no_picture" s_law_no_picture .none f fd) (T : Txt K mg cFE cBP cBR tS tC tR t1 t2 t3 t4) : FnOk P w K mg base CX0 1 f fd ["_law_cell", "_law_picture_here"] (spNoP K) := by
  refine F.ok sc_law_no_picture (fun vs H Q E h => ?_) (fun cdv A outer s H vs Q E hr h => ?_)
  · obtain ⟨n, p, ps, R, wd, rfl, _⟩ := h; rfl
  · obtain ⟨n, p, ps, R, wd, rfl, m, g, k⟩ := h
    have w1 := g.w1
    have w24 := g.w24
    have h1 := g.ne
    have h24 := g.le
    have lp : ps.length = R.length := by rw [m.len, ir_len]
    obtain ⟨q0, r0, e0, h0, l0⟩ := g.first m
    have h3 : PSs ((cxOf CX0 P w K mg base ["_law_cell", "_law_picture_here", "_law_wide", "_law_some"] "_law_no_picture" (defScope s_law_no_picture) f cdv A outer s H E).nox) ((defBody s_law_no_picture).drop 2) _ := (pss_cons (ps_set (i := 3) sc_law_no_picture.nd rfl (by first | exact Or.inl rfl | exact Or.inr rfl) (pe_op op_cat (pe_slice (slK K rfl) (pv 3) po_none (po_some pe_int)) (pe_lst (pa_cons (pe_comp (N := ["_law_row"]) (src := [none]) rfl ⟨rfl, rfl, rfl, rfl, rfl, by decide +kernel⟩ (piK K rfl (pv 1)) (fun s H C fp => pg_name (i := 0) (show (["_law_row"] : List Str).Nodup by decide +kernel) rfl (by first | exact Or.inl rfl | exact Or.inr rfl)) (fun s H C fp => pts_nil) (fun s H C fp => (pe_callTy (tupleK K rfl) rfl T.tuple PyProof.Rows.boot_tuple (pa_cons (pv 0) pa_nil)))) (pa_cons (pe_op op_rep (pv 1) pe_int) (pa_cons (pe_comp (N := ["_law_row"]) (src := [none]) rfl ⟨rfl, rfl, rfl, rfl, rfl, by decide +kernel⟩ (piK K rfl (pv 1)) (fun s H C fp => pg_name (i := 0) (show (["_law_row"] : List Str).Nodup by decide +kernel) rfl (by first | exact Or.inl rfl | exact Or.inr rfl)) (fun s H C fp => pts_nil) (fun s H C fp => (pe_op op_rep (pv 0) pe_int))) (pa_cons (pe_lst (pa_cons (pe_op op_rep (pe_lst (pa_cons pe_int pa_nil)) (pv 2)) (pa_cons pe_int pa_nil))) pa_nil)))))))
        (pss_one (ps_ret (pe_ix (ixK K rfl) (pv 3) (pe_op op_mod (pv 0) pe_int) (fun _ _ => rfl)))))
    obtain ⟨px, q1, q3, z1, z2, z3, e1, e2, e3, e4, e5, e6, e7, e8, e9, e10, e11, hsh, l1, l2, l3, l4, l5, l6, l7, l8, l9, l10, l11⟩ : ∃ (px q1 q3 z1 z2 z3 : Pos) (e1 e2 e3 e4 e5 e6 e7 e8 e9 e10 e11 : PySem.Expr), (defBody s_law_no_picture)[1]? = some (.Assign [.Name "_law_some" px] (.List [e1, e2, e3, e4, e5, e6, e7, e8, .Call (.Name "tuple" z1) [.Name "_law_picture_here" z2] [] z3, e9, e10, e11] q1) q3) ∧ LitE e1 (tLst tNil) ∧ LitE e2 (tLst (tCons (tLst tNil) tNil)) ∧ LitE e3 (tLst (tCons (tLst (tCons (L2.tC (.int 1)) (tCons (L2.tC (.int 2)) tNil))) (tCons (tLst (tCons (L2.tC (.int 3)) tNil)) tNil))) ∧ LitE e4 (tLst (tCons (tLst (tCons (L2.tC (.int 16)) tNil)) tNil)) ∧ LitE e5 (tLst (tCons (tLst (tCons (L2.tC (.bl true)) tNil)) tNil)) ∧ LitE e6 (L2.tC .non) ∧ LitE e7 (L2.tC (.int 5)) ∧ LitE e8 (L2.tC (.str "0")) ∧ LitE e9 (tLst (tCons (tLst (tCons (tUn (rU fun i => V.int (-i)) (L2.tC (.int 1))) tNil)) tNil)) ∧ LitE e10 (tLst (tCons (tLst (tCons (L2.tC (.str "0")) tNil)) tNil)) ∧ LitE e11 (tLst (tCons (tLst (tCons (L2.tC (.int 99)) tNil)) tNil)) := ⟨_, _, _, _, _, _, _, _, _, _, _, _, _, _, _, _, _, rfl, lit_lst la_nil, lit_lst (la_cons (lit_lst la_nil) la_nil), lit_lst (la_cons (lit_lst (la_cons lit_int (la_cons lit_int la_nil))) (la_cons (lit_lst (la_cons lit_int la_nil)) la_nil)), lit_lst (la_cons (lit_lst (la_cons lit_int la_nil)) la_nil), lit_lst (la_cons (lit_lst (la_cons lit_bl la_nil)) la_nil), lit_non, lit_int, lit_str, lit_lst (la_cons (lit_lst (la_cons lit_neg la_nil)) la_nil), lit_lst (la_cons (lit_lst (la_cons lit_str la_nil)) la_nil), lit_lst (la_cons (lit_lst (la_cons lit_int la_nil)) la_nil)⟩
    have hx : PE ((cxOf CX0 P w K mg base ["_law_cell", "_law_picture_here", "_law_wide", "_law_some"] "_law_no_picture" (defScope s_law_no_picture) f cdv A outer s H E).nox) (.Call (.Name "tuple" z1) [.Name "_law_picture_here" z2] [] z3) _ := (pe_callTy call_tuple_of rfl T.tuple PyProof.Rows.boot_tuple (pa_cons (pv 1) pa_nil))
    have h2 := ps_set (X := (cxOf CX0 P w K mg base ["_law_cell", "_law_picture_here", "_law_wide", "_law_some"] "_law_no_picture" (defScope s_law_no_picture) f cdv A outer s H E).nox) (i := 3) (x := "_law_some") (pos' := px) (pos := q3) sc_law_no_picture.nd rfl (by first | exact Or.inl rfl | exact Or.inr rfl) (pe_lst (pos := q1) (pa_cons (l1.pe _) (pa_cons (l2.pe _) (pa_cons (l3.pe _) (pa_cons (l4.pe _) (pa_cons (l5.pe _) (pa_cons (l6.pe _) (pa_cons (l7.pe _) (pa_cons (l8.pe _) (pa_cons hx (pa_cons (l9.pe _) (pa_cons (l10.pe _) (pa_cons (l11.pe _) pa_nil (l11.sl _ _)) (l10.sl _ _)) (l9.sl _ _)) rfl) (l8.sl _ _)) (l7.sl _ _)) (l6.sl _ _)) (l5.sl _ _)) (l4.sl _ _)) (l3.sl _ _)) (l2.sl _ _)) (l1.sl _ _)))
    obtain ⟨bd, hb⟩ : ∃ bd, bd = defBody s_law_no_picture := ⟨_, rfl⟩
    rw [← hb] at hsh h3
    have hh := pss_at 2 hsh rfl h2 h3
    subst hb
    refine ⟨_, (pss_cons (ps_set (i := 2) sc_law_no_picture.nd rfl (by first | exact Or.inl rfl | exact Or.inr rfl) (pe_callB (lenK K rfl) rfl T.len PySem.boot_len (pa_cons (pe_ix (ixK K rfl) (pv 1) pe_int (fun _ _ => rfl)) pa_nil)))
        (@hh)), ?_⟩
    refine ⟨_, rfl, p, _, _, _, rfl, rfl, SqL.of m.top, atI_nat (j := 0) e0, q0, _, rfl, .inl (SqL.of h0), ?_⟩
    have s : Same H H := Same.refl H
    have bl : BadPs K H [] := fun v hv => nomatch hv
    have hw : ((r0.map V.int).length : Int) = (wd : Int) := by rw [List.length_map, l0]
    show gName 2 (.int ((r0.map V.int).length : Int)) _ H _
    rw [hw]
    clear h0 e0 hw
    refine ⟨Nat.zero_le _, fun p0 hp0 => ?_⟩
    have sn := same_new (o := HO.lst []) hp0
    have m := m.mono sn
    have s := s.trans sn
    have bl := bl.mono sn
    have en : upd H p0 (HO.lst []) p0 = some (HO.lst []) := upd_same
    have bl := bl.snoc (bad_len en (by decide) (fun x hx => nomatch hx) rfl)
    generalize hHH : upd H p0 (HO.lst []) = H1 at s m bl  en ⊢
    clear sn 
    refine ⟨Nat.zero_le _, fun x1 hx1 => ?_⟩
    have sn := same_new (o := HO.lst []) hx1
    have m := m.mono sn
    have s := s.trans sn
    have bl := bl.mono sn
    have en : upd H1 x1 (HO.lst []) x1 = some (HO.lst []) := upd_same
    generalize upd H1 x1 (HO.lst []) = H2 at s m bl  en ⊢
    clear sn hx1
    have ea := en
    refine ⟨(by show 1 ≤ sizeLine; decide), fun p1 hp1 => ?_⟩
    have sn := same_new (o := HO.lst [V.ref x1]) hp1
    have m := m.mono sn
    have s := s.trans sn
    have bl := bl.mono sn
    have ea := sn _ _ ea
    have en : upd H2 p1 (HO.lst [V.ref x1]) p1 = some (HO.lst [V.ref x1]) := upd_same
    have bl := bl.snoc (bad_one en ea (by decide) (fun y hy => nomatch hy) rfl)
    generalize upd H2 p1 (HO.lst [V.ref x1]) = H3 at s m bl ea en ⊢
    clear sn hp1
    clear ea
    refine ⟨(by show 2 ≤ sizeLine; decide), fun x2 hx2 => ?_⟩
    have sn := same_new (o := HO.lst [V.int 1, V.int 2]) hx2
    have m := m.mono sn
    have s := s.trans sn
    have bl := bl.mono sn
    have en : upd H3 x2 (HO.lst [V.int 1, V.int 2]) x2 = some (HO.lst [V.int 1, V.int 2]) := upd_same
    generalize upd H3 x2 (HO.lst [V.int 1, V.int 2]) = H4 at s m bl  en ⊢
    clear sn hx2
    have ea := en
    refine ⟨(by show 1 ≤ sizeLine; decide), fun x3 hx3 => ?_⟩
    have sn := same_new (o := HO.lst [V.int 3]) hx3
    have m := m.mono sn
    have s := s.trans sn
    have bl := bl.mono sn
    have ea := sn _ _ ea
    have en : upd H4 x3 (HO.lst [V.int 3]) x3 = some (HO.lst [V.int 3]) := upd_same
    generalize upd H4 x3 (HO.lst [V.int 3]) = H5 at s m bl ea en ⊢
    clear sn hx3
    have eb := en
    refine ⟨(by show 2 ≤ sizeLine; decide), fun p2 hp2 => ?_⟩
    have sn := same_new (o := HO.lst [V.ref x2, V.ref x3]) hp2
    have m := m.mono sn
    have s := s.trans sn
    have bl := bl.mono sn
    have ea := sn _ _ ea
    have eb := sn _ _ eb
    have en : upd H5 p2 (HO.lst [V.ref x2, V.ref x3]) p2 = some (HO.lst [V.ref x2, V.ref x3]) := upd_same
    have bl := bl.snoc (⟨(Th.lst en (by decide : 2 ≤ 1000) (fun x hx => by
      simp only [List.mem_cons, List.not_mem_nil, or_false] at hx
      rcases hx with rfl | rfl
      · exact Rw.lst ea (by decide : 2 ≤ 1000) (fun y hy => by simp only [List.mem_cons, List.not_mem_nil, or_false] at hy; rcases hy with rfl | rfl <;> exact .int _)
      · exact Rw.lst eb (by decide : 1 ≤ 1000) (fun y hy => by rw [List.mem_singleton.mp hy]; exact .int _))).1, by
      unfold picB
      rw [rowOf_lst en]
      have u1 : lenOf _ (V.ref x2) = 2 := lenOf_lst ea
      have u2 : lenOf _ (V.ref x3) = 1 := lenOf_lst eb
      simp [u1, u2]⟩)
    generalize upd H5 p2 (HO.lst [V.ref x2, V.ref x3]) = H6 at s m bl ea eb en ⊢
    clear sn hp2
    clear ea eb
    refine ⟨(by show 1 ≤ sizeLine; decide), fun x13 hx13 => ?_⟩
    have sn := same_new (o := HO.lst [V.int 16]) hx13
    have m := m.mono sn
    have s := s.trans sn
    have bl := bl.mono sn
    have en : upd H6 x13 (HO.lst [V.int 16]) x13 = some (HO.lst [V.int 16]) := upd_same
    generalize upd H6 x13 (HO.lst [V.int 16]) = H7 at s m bl  en ⊢
    clear sn hx13
    have ea := en
    refine ⟨(by show 1 ≤ sizeLine; decide), fun p13 hp13 => ?_⟩
    have sn := same_new (o := HO.lst [V.ref x13]) hp13
    have m := m.mono sn
    have s := s.trans sn
    have bl := bl.mono sn
    have ea := sn _ _ ea
    have en : upd H7 p13 (HO.lst [V.ref x13]) p13 = some (HO.lst [V.ref x13]) := upd_same
    have bl := bl.snoc (bad_one en ea (by decide : 1 ≤ 1000) (fun y hy => by rw [List.mem_singleton.mp hy]; exact .int _) rfl)
    generalize upd H7 p13 (HO.lst [V.ref x13]) = H8 at s m bl ea en ⊢
    clear sn hp13
    clear ea
    refine ⟨(by show 1 ≤ sizeLine; decide), fun x14 hx14 => ?_⟩
    have sn := same_new (o := HO.lst [V.bl true]) hx14
    have m := m.mono sn
    have s := s.trans sn
    have bl := bl.mono sn
    have en : upd H8 x14 (HO.lst [V.bl true]) x14 = some (HO.lst [V.bl true]) := upd_same
    generalize upd H8 x14 (HO.lst [V.bl true]) = H9 at s m bl  en ⊢
    clear sn hx14
    have ea := en
    refine ⟨(by show 1 ≤ sizeLine; decide), fun p14 hp14 => ?_⟩
    have sn := same_new (o := HO.lst [V.ref x14]) hp14
    have m := m.mono sn
    have s := s.trans sn
    have bl := bl.mono sn
    have ea := sn _ _ ea
    have en : upd H9 p14 (HO.lst [V.ref x14]) p14 = some (HO.lst [V.ref x14]) := upd_same
    have bl := bl.snoc (bad_one en ea (by decide : 1 ≤ 1000) (fun y hy => by rw [List.mem_singleton.mp hy]; exact .bl _) rfl)
    generalize upd H9 p14 (HO.lst [V.ref x14]) = H10 at s m bl ea en ⊢
    clear sn hp14
    clear ea
    refine ⟨_, rfl, p, _, rfl, .inl ⟨SqL.of m.top, fun p8 hp8 => ?_⟩⟩
    have sn := same_new (o := HO.tup (ps.map V.ref)) hp8
    have m := m.mono sn
    have s := s.trans sn
    have bl := bl.mono sn
    have en : upd H10 p8 (HO.tup (ps.map V.ref)) p8 = some (HO.tup (ps.map V.ref)) := upd_same
    have bl := bl.snoc (bad_leaf (.tup en) (by simp only [rowOf, en]))
    generalize upd H10 p8 (HO.tup (ps.map V.ref)) = H11 at s m bl  en ⊢
    clear sn hp8
    refine ⟨_, rfl, (by show 1 ≤ sizeLine; decide), fun x19 hx19 => ?_⟩
    have sn := same_new (o := HO.lst [V.int (-1)]) hx19
    have m := m.mono sn
    have s := s.trans sn
    have bl := bl.mono sn
    have en : upd H11 x19 (HO.lst [V.int (-1)]) x19 = some (HO.lst [V.int (-1)]) := upd_same
    generalize upd H11 x19 (HO.lst [V.int (-1)]) = H12 at s m bl  en ⊢
    clear sn hx19
    have ea := en
    refine ⟨(by show 1 ≤ sizeLine; decide), fun p19 hp19 => ?_⟩
    have sn := same_new (o := HO.lst [V.ref x19]) hp19
    have m := m.mono sn
    have s := s.trans sn
    have bl := bl.mono sn
    have ea := sn _ _ ea
    have en : upd H12 p19 (HO.lst [V.ref x19]) p19 = some (HO.lst [V.ref x19]) := upd_same
    have bl := bl.snoc (bad_one en ea (by decide : 1 ≤ 1000) (fun y hy => by rw [List.mem_singleton.mp hy]; exact .int _) rfl)
    generalize upd H12 p19 (HO.lst [V.ref x19]) = H13 at s m bl ea en ⊢
    clear sn hp19
    clear ea
    refine ⟨(by show 1 ≤ sizeLine; decide), fun x20 hx20 => ?_⟩
    have sn := same_new (o := HO.lst [V.str "0"]) hx20
    have m := m.mono sn
    have s := s.trans sn
    have bl := bl.mono sn
    have en : upd H13 x20 (HO.lst [V.str "0"]) x20 = some (HO.lst [V.str "0"]) := upd_same
    generalize upd H13 x20 (HO.lst [V.str "0"]) = H14 at s m bl  en ⊢
    clear sn hx20
    have ea := en
    refine ⟨(by show 1 ≤ sizeLine; decide), fun p20 hp20 => ?_⟩
    have sn := same_new (o := HO.lst [V.ref x20]) hp20
    have m := m.mono sn
    have s := s.trans sn
    have bl := bl.mono sn
    have ea := sn _ _ ea
    have en : upd H14 p20 (HO.lst [V.ref x20]) p20 = some (HO.lst [V.ref x20]) := upd_same
    have bl := bl.snoc (bad_one en ea (by decide : 1 ≤ 1000) (fun y hy => by rw [List.mem_singleton.mp hy]; exact .str _) rfl)
    generalize upd H14 p20 (HO.lst [V.ref x20]) = H15 at s m bl ea en ⊢
    clear sn hp20
    clear ea
    refine ⟨(by show 1 ≤ sizeLine; decide), fun x21 hx21 => ?_⟩
    have sn := same_new (o := HO.lst [V.int 99]) hx21
    have m := m.mono sn
    have s := s.trans sn
    have bl := bl.mono sn
    have en : upd H15 x21 (HO.lst [V.int 99]) x21 = some (HO.lst [V.int 99]) := upd_same
    generalize upd H15 x21 (HO.lst [V.int 99]) = H16 at s m bl  en ⊢
    clear sn hx21
    refine ⟨(by show 1 ≤ sizeLine; decide), fun p21 hp21 => ?_⟩
    have sn := same_new (o := HO.lst [V.ref x21]) hp21
    have m := m.mono sn
    have s := s.trans sn
    have bl := bl.mono sn
    have en : upd H16 p21 (HO.lst [V.ref x21]) p21 = some (HO.lst [V.ref x21]) := upd_same
    generalize upd H16 p21 (HO.lst [V.ref x21]) = H17 at s m bl  en ⊢
    clear sn hp21
    refine ⟨(by show 12 ≤ sizeLine; decide), fun L0 hL0 => ?_⟩
    have sn := same_new (o := HO.lst ([V.ref p0, V.ref p1, V.ref p2, V.ref p13, V.ref p14, V.non, V.int 5, V.str "0", V.ref p8, V.ref p19, V.ref p20, V.ref p21])) hL0
    have m := m.mono sn
    have s := s.trans sn
    have bl := bl.mono sn
    have en : upd H17 L0 (HO.lst ([V.ref p0, V.ref p1, V.ref p2, V.ref p13, V.ref p14, V.non, V.int 5, V.str "0", V.ref p8, V.ref p19, V.ref p20, V.ref p21])) L0 = some (HO.lst ([V.ref p0, V.ref p1, V.ref p2, V.ref p13, V.ref p14, V.non, V.int 5, V.str "0", V.ref p8, V.ref p19, V.ref p20, V.ref p21])) := upd_same
    generalize upd H17 L0 (HO.lst ([V.ref p0, V.ref p1, V.ref p2, V.ref p13, V.ref p14, V.non, V.int 5, V.str "0", V.ref p8, V.ref p19, V.ref p20, V.ref p21])) = H18 at s m bl  en ⊢
    clear sn hL0
    refine ⟨_, rfl, _, rfl, L0, _, rfl, SqL.of en, fun L1 hL1 => ?_⟩
    have ec : cutV ([V.ref p0, V.ref p1, V.ref p2, V.ref p13, V.ref p14, V.non, V.int 5, V.str "0", V.ref p8, V.ref p19, V.ref p20, V.ref p21]) none (some 11) = [V.ref p0, V.ref p1, V.ref p2, V.ref p13, V.ref p14, V.non, V.int 5, V.str "0", V.ref p8, V.ref p19, V.ref p20] := rfl
    rw [ec]
    have sn := same_new (o := HO.lst [V.ref p0, V.ref p1, V.ref p2, V.ref p13, V.ref p14, V.non, V.int 5, V.str "0", V.ref p8, V.ref p19, V.ref p20]) hL1
    have m := m.mono sn
    have s := s.trans sn
    have bl := bl.mono sn
    have en : upd H18 L1 (HO.lst [V.ref p0, V.ref p1, V.ref p2, V.ref p13, V.ref p14, V.non, V.int 5, V.str "0", V.ref p8, V.ref p19, V.ref p20]) L1 = some (HO.lst [V.ref p0, V.ref p1, V.ref p2, V.ref p13, V.ref p14, V.non, V.int 5, V.str "0", V.ref p8, V.ref p19, V.ref p20]) := upd_same
    generalize upd H18 L1 (HO.lst [V.ref p0, V.ref p1, V.ref p2, V.ref p13, V.ref p14, V.non, V.int 5, V.str "0", V.ref p8, V.ref p19, V.ref p20]) = H19 at s m bl  en ⊢
    clear sn hL1
    have eL := en
    refine ⟨_, rfl, p, rfl, ⟨_, SqL.of m.top⟩, fun D1 hD1 => ?_⟩
    refine comp_refs (k := 0) (fun _ q H' => q ≠ D1 ∧ ∃ xs, H' q = some (.tup xs)) (fun x q Ha Hb hk hq => ⟨hq.1, by obtain ⟨xs, e⟩ := hq.2; exact ⟨xs, hk _ _ e hq.1⟩⟩) (src_list (SqL.of m.top)) (by rw [List.length_map, lp]; exact Nat.le_trans h24 (by decide)) hD1 (fun x hx H' Q' sm hDD kk => ?_) fun qs H20 sn hD1' hl1 pr1 => ?_
    · obtain ⟨q, hq, rfl⟩ := List.mem_map.mp hx
      obtain ⟨r, e1, e2, _⟩ := g.mem (m.mono sm) hq
      refine ⟨_, rfl, q, _, rfl, .inl ⟨SqL.of e1, fun t ht => kk t _ (same_new ht) ⟨?_, _, upd_same⟩⟩⟩
      obtain ⟨ys, hDD⟩ := hDD
      intro z
      rw [z, hDD] at ht; cases ht
    have s := s.trans sn
    have m := m.mono sn
    have bl := bl.mono sn
    have eL := sn _ _ eL
    have bl := bl.snoc (bad_row (p := D1) hD1' (by rw [List.length_map, hl1, List.length_map, lp]; omega) (fun x hx => by
      obtain ⟨q, hq, rfl⟩ := List.mem_map.mp hx
      obtain ⟨i, hi⟩ := List.mem_iff_getElem?.mp hq
      have hil := (List.getElem?_eq_some_iff.mp hi).1
      obtain ⟨_, xs, e⟩ := pr1 i _ q (List.getElem?_eq_getElem (by rw [← hl1]; exact hil)) hi
      exact Rw.tup e) (by
      have hpos : 0 < qs.length := by rw [hl1, List.length_map, lp]; omega
      obtain ⟨_, xs, e⟩ := pr1 0 _ qs[0] (List.getElem?_eq_getElem (by rw [← hl1]; exact hpos)) (List.getElem?_eq_getElem hpos)
      exact ⟨.ref qs[0], List.mem_map.mpr ⟨_, List.getElem_mem hpos, rfl⟩, by unfold rowQ; simp only [rowOf, e]⟩))
    clear sn
    refine ⟨_, rfl, p, _, _, rfl, rfl, m.top, by decide, by decide, ?_, fun p12 hp12 => ?_⟩
    · rw [List.length_map, lp]; exact Nat.le_trans (Nat.mul_le_mul_right _ h24) (by decide)
    have sn := same_new (o := HO.lst (List.replicate (25 : Int).toNat (ps.map V.ref)).flatten) hp12
    have m := m.mono sn
    have s := s.trans sn
    have bl := bl.mono sn
    have eL := sn _ _ eL
    have en : upd H20 p12 (HO.lst (List.replicate (25 : Int).toNat (ps.map V.ref)).flatten) p12 = some (HO.lst (List.replicate (25 : Int).toNat (ps.map V.ref)).flatten) := upd_same
    have bl := bl.snoc (bad_len en (by rw [len25, List.length_map, lp]; omega) (fun x hx => by
      obtain ⟨l, hl, hx⟩ := List.mem_flatten.mp hx
      rw [(List.mem_replicate.mp hl).2] at hx
      obtain ⟨q, hq, rfl⟩ := List.mem_map.mp hx
      obtain ⟨r, e1, e2, _⟩ := g.mem m hq
      exact Rw.lst e1 (by rw [List.length_map, e2]; omega) kd_ints) (not_wh (by rw [len25, List.length_map, lp]; omega)))
    generalize upd H20 p12 (HO.lst (List.replicate (25 : Int).toNat (ps.map V.ref)).flatten) = H21 at s m bl eL en ⊢
    clear sn hp12
    refine ⟨_, rfl, p, rfl, ⟨_, SqL.of m.top⟩, fun D2 hD2 => ?_⟩
    refine comp_rows (k := 0) (fun v => (List.replicate (25 : Int).toNat (gRow H21 v)).flatten) (src_list (SqL.of m.top)) (by rw [List.length_map, lp]; exact Nat.le_trans h24 (by decide)) hD2 (fun x hx H' Q' sm kk => ?_) fun qs2 H22 sn fr2 pic2 => ?_
    · obtain ⟨q, hq, rfl⟩ := List.mem_map.mp hx
      obtain ⟨r, e1, e2, _⟩ := g.mem m hq
      refine ⟨_, rfl, q, _, _, rfl, rfl, sm _ _ e1, by decide, by decide, ?_, fun t ht => kk t _ (same_new ht) ht ?_⟩
      · rw [List.length_map, e2]; exact Nat.le_trans (Nat.mul_le_mul_right _ w24) (by decide)
      · rw [upd_same]
        have : gRow H21 (.ref q) = r.map V.int := by simp only [gRow, e1]
        rw [this]
    have rows2 : ∀ z ∈ (ps.map V.ref).map (fun v => (List.replicate (25 : Int).toNat (gRow H21 v)).flatten), ∃ r : List Int, r.length = wd ∧ z = (List.replicate (25 : Int).toNat (r.map V.int)).flatten := fun z hz => by
      obtain ⟨v, hv, rfl⟩ := List.mem_map.mp hz
      obtain ⟨q, hq, rfl⟩ := List.mem_map.mp hv
      obtain ⟨r, e1, e2, _⟩ := g.mem m hq
      exact ⟨r, e2, by simp only [gRow, e1]⟩
    have lq2 : qs2.length = R.length := by rw [pic2.len, List.length_map, List.length_map, lp]
    have s := s.trans sn
    have bl := bl.mono sn
    have eL := sn _ _ eL
    have m := m.mono sn
    have row_of : ∀ q ∈ qs2, ∃ r : List Int, r.length = wd ∧ H22 q = some (.lst (List.replicate (25 : Int).toNat (r.map V.int)).flatten) := fun q hq => by
      obtain ⟨z, hz, e⟩ := pic2.mem hq
      obtain ⟨r, lr, rfl⟩ := rows2 z hz
      exact ⟨r, lr, e⟩
    have bl := bl.snoc (bad_row (p := D2) pic2.top (by rw [List.length_map, lq2]; omega) (fun x hx => by
      obtain ⟨q, hq, rfl⟩ := List.mem_map.mp hx
      obtain ⟨r, lr, e⟩ := row_of q hq
      refine Rw.lst e (by rw [len25, List.length_map, lr]; omega) fun y hy => ?_
      obtain ⟨l, hl, hy⟩ := List.mem_flatten.mp hy
      rw [(List.mem_replicate.mp hl).2] at hy
      exact kd_ints y hy) (by
      have hpos : 0 < qs2.length := by rw [lq2]; omega
      obtain ⟨r, lr, e⟩ := row_of qs2[0] (List.getElem_mem hpos)
      refine ⟨.ref qs2[0], List.mem_map.mpr ⟨_, List.getElem_mem hpos, rfl⟩, ?_⟩
      unfold rowQ
      rw [rowOf_lst e]
      show rowB _ = false
      unfold rowB
      rw [not_wh (n := (List.replicate (25 : Int).toNat (r.map V.int)).flatten.length) (by rw [len25, List.length_map, lr]; omega), Bool.and_false]))
    clear sn rows2 row_of fr2
    refine ⟨(by show 1 ≤ sizeLine; decide), fun x30 hx30 => ?_⟩
    have sn := same_new (o := HO.lst [V.int 0]) hx30
    have m := m.mono sn
    have s := s.trans sn
    have bl := bl.mono sn
    have eL := sn _ _ eL
    have en : upd H22 x30 (HO.lst [V.int 0]) x30 = some (HO.lst [V.int 0]) := upd_same
    generalize upd H22 x30 (HO.lst [V.int 0]) = H23 at s m bl eL en ⊢
    clear sn hx30
    refine ⟨_, rfl, x30, _, _, rfl, rfl, en, by omega, by omega, ?_, fun x31 hx31 => ?_⟩
    · rw [Int.toNat_natCast]; exact Nat.le_trans (by show 1 * wd ≤ 24; omega) (by decide)
    have sn := same_new (o := HO.lst (List.replicate (wd : Int).toNat [V.int 0]).flatten) hx31
    have m := m.mono sn
    have s := s.trans sn
    have bl := bl.mono sn
    have eL := sn _ _ eL
    have en : upd H23 x31 (HO.lst (List.replicate (wd : Int).toNat [V.int 0]).flatten) x31 = some (HO.lst (List.replicate (wd : Int).toNat [V.int 0]).flatten) := upd_same
    generalize upd H23 x31 (HO.lst (List.replicate (wd : Int).toNat [V.int 0]).flatten) = H24 at s m bl eL en ⊢
    clear sn hx31
    have ea := en
    refine ⟨(by show 2 ≤ sizeLine; decide), fun p31 hp31 => ?_⟩
    have sn := same_new (o := HO.lst [V.ref x31, V.int 0]) hp31
    have m := m.mono sn
    have s := s.trans sn
    have bl := bl.mono sn
    have eL := sn _ _ eL
    have ea := sn _ _ ea
    have en : upd H24 p31 (HO.lst [V.ref x31, V.int 0]) p31 = some (HO.lst [V.ref x31, V.int 0]) := upd_same
    have bl := bl.snoc (bad_row en (by decide : 2 ≤ 1000) (fun x hx => by
      simp only [List.mem_cons, List.not_mem_nil, or_false] at hx
      rcases hx with rfl | rfl
      · refine Rw.lst ea (by rw [len_rep', Int.toNat_natCast]; show wd * 1 ≤ 1000; omega) fun y hy => ?_
        obtain ⟨l, hl, hy⟩ := List.mem_flatten.mp hy
        rw [(List.mem_replicate.mp hl).2] at hy
        rw [List.mem_singleton.mp hy]; exact .int _
      · exact Rw.flat rfl) ⟨.int 0, by simp, rfl⟩)
    generalize upd H24 p31 (HO.lst [V.ref x31, V.int 0]) = H25 at s m bl eL ea en ⊢
    clear sn hp31
    clear ea
    refine ⟨(by show 4 ≤ sizeLine; decide), fun L5 hL5 => ?_⟩
    have sn := same_new (o := HO.lst [V.ref D1, V.ref p12, V.ref D2, V.ref p31]) hL5
    have m := m.mono sn
    have s := s.trans sn
    have bl := bl.mono sn
    have eL := sn _ _ eL
    have en : upd H25 L5 (HO.lst [V.ref D1, V.ref p12, V.ref D2, V.ref p31]) L5 = some (HO.lst [V.ref D1, V.ref p12, V.ref D2, V.ref p31]) := upd_same
    generalize upd H25 L5 (HO.lst [V.ref D1, V.ref p12, V.ref D2, V.ref p31]) = H26 at s m bl eL en ⊢
    clear sn hL5
    refine ⟨L1, L5, _, _, rfl, rfl, eL, en, (by show 15 ≤ sizeLine; decide), fun L6 hL6 => ?_⟩
    clear eL en
    have sn := same_new (o := HO.lst ([V.ref p0, V.ref p1, V.ref p2, V.ref p13, V.ref p14, V.non, V.int 5, V.str "0", V.ref p8, V.ref p19, V.ref p20] ++ [V.ref D1, V.ref p12, V.ref D2, V.ref p31])) hL6
    have m := m.mono sn
    have s := s.trans sn
    have bl := bl.mono sn
    have en : upd H26 L6 (HO.lst ([V.ref p0, V.ref p1, V.ref p2, V.ref p13, V.ref p14, V.non, V.int 5, V.str "0", V.ref p8, V.ref p19, V.ref p20] ++ [V.ref D1, V.ref p12, V.ref D2, V.ref p31])) L6 = some (HO.lst ([V.ref p0, V.ref p1, V.ref p2, V.ref p13, V.ref p14, V.non, V.int 5, V.str "0", V.ref p8, V.ref p19, V.ref p20] ++ [V.ref D1, V.ref p12, V.ref D2, V.ref p31])) := upd_same
    generalize upd H26 L6 (HO.lst ([V.ref p0, V.ref p1, V.ref p2, V.ref p13, V.ref p14, V.non, V.int 5, V.str "0", V.ref p8, V.ref p19, V.ref p20] ++ [V.ref D1, V.ref p12, V.ref D2, V.ref p31])) = H27 at s m bl  en ⊢
    clear sn hL6
    have bl := ((bl.snoc (bad_leaf .non rfl)).snoc (bad_leaf (.int 5) rfl)).snoc (bad_leaf (.str "0") rfl)
    obtain ⟨v, ev, hv⟩ := atI_mem (xs := [V.ref p0, V.ref p1, V.ref p2, V.ref p13, V.ref p14, V.non, V.int 5, V.str "0", V.ref p8, V.ref p19, V.ref p20] ++ [V.ref D1, V.ref p12, V.ref D2, V.ref p31]) (i := (n : Int) % 15) (Int.emod_nonneg _ (by decide)) (by show (n : Int) % 15 < 15; omega)
    refine ⟨_, rfl, _, rfl, _, _, rfl, rfl, (by show (0 : Int) < 15; decide), L6, _, _, v, rfl, rfl, SqL.of en, ev, k v _ s (bl v ?_)⟩
    simp only [List.cons_append, List.nil_append, List.mem_cons, List.not_mem_nil, or_false] at hv ⊢
    rcases hv with rfl | rfl | rfl | rfl | rfl | rfl | rfl | rfl | rfl | rfl | rfl | rfl | rfl | rfl | rfl <;> simp
end
end K23
set_option Elab.async false
set_option linter.all false
set_option maxRecDepth 100000
set_option maxHeartbeats 1600000
namespace K23
open PySem L2 M4
noncomputable def Cl (K : PySem.W.Frag) (mg : Str → Option Value) (cBP cBR : Addr) (n : Str) : Prop := ∃ c : Addr, mg n = some (.ref c) ∧ PySem.W.kitOne K (.ref cBP) (.ref c) = some false ∧ PySem.W.kitOne K (.ref cBR) (.ref c) = some false
structure TxtC (K : PySem.W.Frag) (mg : Str → Option Value) (cBP cBR : Addr) : Prop where
  iPP : PySem.W.kitOne K (.ref cBP) (.ref cBP) = some true
  iPR : PySem.W.kitOne K (.ref cBP) (.ref cBR) = some false
  iPV : PySem.W.kitOne K (.ref cBP) (.type "ValueError") = some true
  iRP : PySem.W.kitOne K (.ref cBR) (.ref cBP) = some false
  iRR : PySem.W.kitOne K (.ref cBR) (.ref cBR) = some true
  iRV : PySem.W.kitOne K (.ref cBR) (.type "ValueError") = some true
  BadCell : Cl K mg cBP cBR "BadCell"
  BadCheck : Cl K mg cBP cBR "BadCheck"
  BadColour : Cl K mg cBP cBR "BadColour"
  BadDeed : Cl K mg cBP cBR "BadDeed"
  BadEdge : Cl K mg cBP cBR "BadEdge"
  BadHead : Cl K mg cBP cBR "BadHead"
  BadMask : Cl K mg cBP cBR "BadMask"
  BadName : Cl K mg cBP cBR "BadName"
  BadPack : Cl K mg cBP cBR "BadPack"
  BadPalette : Cl K mg cBP cBR "BadPalette"
  BadPart : Cl K mg cBP cBR "BadPart"
  BadRuns : Cl K mg cBP cBR "BadRuns"
  BadSize : Cl K mg cBP cBR "BadSize"
  BadText : Cl K mg cBP cBR "BadText"
  NoColour : Cl K mg cBP cBR "NoColour"
  NoPart : Cl K mg cBP cBR "NoPart"
  NoPicture : Cl K mg cBP cBR "NoPicture"
  NothingDone : Cl K mg cBP cBR "NothingDone"
  OutOfPlace : Cl K mg cBP cBR "OutOfPlace"
  TooMany : Cl K mg cBP cBR "TooMany"
  Twice : Cl K mg cBP cBR "Twice"
noncomputable def spSaid (P : Program) (w : World) (K : PySem.W.Frag) (mg : Str → Option Value) (cBP cBR : Addr) (base : Heap) : Sp := fun vs H Q _ => ∃ f L sp0, vs = [.ref f] ∧ H f = some (LamOC f L) ∧ LamX P w K mg base 10 f sp0 ∧
  ∀ (N : VK) (E' : XK), (∀ H1, (∀ H', Same H1 H' → Q (.str "picture") H') → E' (.ref cBP) none H1) → (∀ H1, (∀ H', Same H1 H' → Q (.str "rule") H') → E' (.ref cBR) none H1) → sp0 H N E'
section
variable {P : Program} {w : World} {K : PySem.W.Frag} {mg : Str → Option Value} {base : Heap} {cFE cBP cBR : Addr} {tS tC tR t1 t2 t3 t4 : Tok}
theorem sc_law_said : FnScope ["_law_call", "e", "_law_others"] ["_law_call"] (defScope s_law_said) := ⟨rfl, rfl, rfl, by decide +kernel, rfl, by decide +kernel, by decide +kernel⟩
theorem ok_law_said {f : Addr} {fd : FuncData} (F : FunD K "_law_said" "_law_said" s_law_said .none f fd) (T : Txt K mg cFE cBP cBR tS tC tR t1 t2 t3 t4) (TC : TxtC K mg cBP cBR) : FnOk P w K mg base CX0 11 f fd ["_law_call"] (spSaid P w K mg cBP cBR base) := by
  refine F.ok sc_law_said (fun vs H Q E h => ?_) (fun cdv A outer s H vs Q E hr h => ?_)
  · obtain ⟨fl, L, sp0, rfl, _⟩ := h; rfl
  · obtain ⟨fl, L, sp0, rfl, hf, LX, h⟩ := h
    obtain ⟨cBadCell, mBadCell, nBadCell, oBadCell⟩ := TC.BadCell
    obtain ⟨cBadCheck, mBadCheck, nBadCheck, oBadCheck⟩ := TC.BadCheck
    obtain ⟨cBadColour, mBadColour, nBadColour, oBadColour⟩ := TC.BadColour
    obtain ⟨cBadDeed, mBadDeed, nBadDeed, oBadDeed⟩ := TC.BadDeed
    obtain ⟨cBadEdge, mBadEdge, nBadEdge, oBadEdge⟩ := TC.BadEdge
    obtain ⟨cBadHead, mBadHead, nBadHead, oBadHead⟩ := TC.BadHead
    obtain ⟨cBadMask, mBadMask, nBadMask, oBadMask⟩ := TC.BadMask
    obtain ⟨cBadName, mBadName, nBadName, oBadName⟩ := TC.BadName
    obtain ⟨cBadPack, mBadPack, nBadPack, oBadPack⟩ := TC.BadPack
    obtain ⟨cBadPalette, mBadPalette, nBadPalette, oBadPalette⟩ := TC.BadPalette
    obtain ⟨cBadPart, mBadPart, nBadPart, oBadPart⟩ := TC.BadPart
    obtain ⟨cBadRuns, mBadRuns, nBadRuns, oBadRuns⟩ := TC.BadRuns
    obtain ⟨cBadSize, mBadSize, nBadSize, oBadSize⟩ := TC.BadSize
    obtain ⟨cBadText, mBadText, nBadText, oBadText⟩ := TC.BadText
    obtain ⟨cNoColour, mNoColour, nNoColour, oNoColour⟩ := TC.NoColour
    obtain ⟨cNoPart, mNoPart, nNoPart, oNoPart⟩ := TC.NoPart
    obtain ⟨cNoPicture, mNoPicture, nNoPicture, oNoPicture⟩ := TC.NoPicture
    obtain ⟨cNothingDone, mNothingDone, nNothingDone, oNothingDone⟩ := TC.NothingDone
    obtain ⟨cOutOfPlace, mOutOfPlace, nOutOfPlace, oOutOfPlace⟩ := TC.OutOfPlace
    obtain ⟨cTooMany, mTooMany, nTooMany, oTooMany⟩ := TC.TooMany
    obtain ⟨cTwice, mTwice, nTwice, oTwice⟩ := TC.Twice
    refine ⟨_, (pss_cons (ps_try2 (i := 1) sc_law_said.nd rfl rfl rfl T.FolioError rfl rfl (fun pn XE R hx => (pss_one (ps_expr (pe_callL0K P w K mg base rfl rfl rfl rfl rfl 0 10 (hr.mono (by decide)) hx)))) (fun ea => (pss_cons (ps_set (i := 2) sc_law_said.nd rfl (by first | exact Or.inl rfl | exact Or.inr rfl) (pe_callB (call_isXE K rfl) rfl T.isinstance PyProof.Rows.boot_isinstance (pa_cons (pv 1) (pa_cons (pe_tup (pa_cons (pe_glob (v := .ref cBadCell) rfl mBadCell rfl) (pa_cons (pe_glob (v := .ref cBadCheck) rfl mBadCheck rfl) (pa_cons (pe_glob (v := .ref cBadColour) rfl mBadColour rfl) (pa_cons (pe_glob (v := .ref cBadDeed) rfl mBadDeed rfl) (pa_cons (pe_glob (v := .ref cBadEdge) rfl mBadEdge rfl) (pa_cons (pe_glob (v := .ref cBadHead) rfl mBadHead rfl) (pa_cons (pe_glob (v := .ref cBadMask) rfl mBadMask rfl) (pa_cons (pe_glob (v := .ref cBadName) rfl mBadName rfl) (pa_cons (pe_glob (v := .ref cBadPack) rfl mBadPack rfl) pa_nil)))))))))) pa_nil))))
        (pss_cons (ps_set (i := 2) sc_law_said.nd rfl (by first | exact Or.inl rfl | exact Or.inr rfl) (pe_or (pv 2) (pe_one (pe_callB (call_isXE K rfl) rfl T.isinstance PyProof.Rows.boot_isinstance (pa_cons (pv 1) (pa_cons (pe_tup (pa_cons (pe_glob (v := .ref cBadPalette) rfl mBadPalette rfl) (pa_cons (pe_glob (v := .ref cBadPart) rfl mBadPart rfl) (pa_cons (pe_glob (v := .ref cBadRuns) rfl mBadRuns rfl) (pa_cons (pe_glob (v := .ref cBadSize) rfl mBadSize rfl) (pa_cons (pe_glob (v := .ref cBadText) rfl mBadText rfl) (pa_cons (pe_glob (v := .ref cNoColour) rfl mNoColour rfl) (pa_cons (pe_glob (v := .ref cNoPart) rfl mNoPart rfl) pa_nil)))))))) pa_nil))))))
        (pss_cons (ps_set (i := 2) sc_law_said.nd rfl (by first | exact Or.inl rfl | exact Or.inr rfl) (pe_or (pv 2) (pe_one (pe_callB (call_isXE K rfl) rfl T.isinstance PyProof.Rows.boot_isinstance (pa_cons (pv 1) (pa_cons (pe_tup (pa_cons (pe_glob (v := .ref cNoPicture) rfl mNoPicture rfl) (pa_cons (pe_glob (v := .ref cNothingDone) rfl mNothingDone rfl) (pa_cons (pe_glob (v := .ref cOutOfPlace) rfl mOutOfPlace rfl) (pa_cons (pe_glob (v := .ref cTooMany) rfl mTooMany rfl) (pa_cons (pe_glob (v := .ref cTwice) rfl mTwice rfl) pa_nil)))))) pa_nil))))))
        (pss_cons (ps_if (PW.pt (pw_or (pt_val (pv 2)) (pw_or (pt_not (pt_val (isiK K rfl (pv 1) rfl T.isinstance rfl T.ValueError boot_VE))) (pw_or1 (pt_cmpR op_eq (isiCK K rfl (pv 1) rfl T.isinstance rfl T.BadPicture) (isiCK K rfl (pv 1) rfl T.isinstance rfl T.BadRule) (nomark _)))))) (pss_one (ps_ret pe_str)) pss_nil)
        (pss_one (ps_ret (pe_ix (ixK K rfl) (pe_lst (pa_cons pe_str (pa_cons pe_str pa_nil))) (pe_callTy call_int1 rfl T.int PyProof.Rows.boot_int (pa_cons (isiCK K rfl (pv 1) rfl T.isinstance rfl T.BadPicture) pa_nil)) (fun _ _ => rfl))))))))))
        (pss_one (ps_ret pe_str))), ?_⟩
    refine ⟨fl, L, _, rfl, hf, LX, h _ _ (fun H1 r => ⟨cBP, rfl, T.eP, fun ea hea => ?_⟩) (fun H1 r => ⟨cBR, rfl, T.eR, fun ea hea => ?_⟩)⟩
    · have ex : upd H1 ea (ExcO ea cBP) ea = some (ExcO ea cBP) := upd_same
      have s4 : Same H1 (upd H1 ea (ExcO ea cBP)) := same_new hea
      generalize upd H1 ea (ExcO ea cBP) = H4 at ex s4 ⊢
      refine ⟨_, rfl, (by show 9 ≤ sizeLine; decide), fun a1 h1 => ?_⟩
      have sa := same_new (o := HO.tup [V.ref cBadCell, V.ref cBadCheck, V.ref cBadColour, V.ref cBadDeed, V.ref cBadEdge, V.ref cBadHead, V.ref cBadMask, V.ref cBadName, V.ref cBadPack]) h1
      refine ⟨ea, cBP, a1, [cBadCell, cBadCheck, cBadColour, cBadDeed, cBadEdge, cBadHead, cBadMask, cBadName, cBadPack], false, rfl, sa _ _ ex, T.kP, SqT.of upd_same, kitAny_none (fun c hc => ?_), ?_⟩
      · simp only [List.mem_cons, List.not_mem_nil, or_false] at hc
        rcases hc with rfl | rfl | rfl | rfl | rfl | rfl | rfl | rfl | rfl <;> assumption
      have ex := sa _ _ ex
      have s4 := s4.trans sa
      generalize upd H4 a1 (HO.tup [V.ref cBadCell, V.ref cBadCheck, V.ref cBadColour, V.ref cBadDeed, V.ref cBadEdge, V.ref cBadHead, V.ref cBadMask, V.ref cBadName, V.ref cBadPack]) = H5 at ex s4 ⊢
      clear sa h1
      refine ⟨_, rfl, _, rfl, ⟨_, rfl, (by show 7 ≤ sizeLine; decide), fun a2 h2 => ?_⟩⟩
      have sa := same_new (o := HO.tup [V.ref cBadPalette, V.ref cBadPart, V.ref cBadRuns, V.ref cBadSize, V.ref cBadText, V.ref cNoColour, V.ref cNoPart]) h2
      refine ⟨ea, cBP, a2, [cBadPalette, cBadPart, cBadRuns, cBadSize, cBadText, cNoColour, cNoPart], false, rfl, sa _ _ ex, T.kP, SqT.of upd_same, kitAny_none (fun c hc => ?_), ?_⟩
      · simp only [List.mem_cons, List.not_mem_nil, or_false] at hc
        rcases hc with rfl | rfl | rfl | rfl | rfl | rfl | rfl <;> assumption
      have ex := sa _ _ ex
      have s4 := s4.trans sa
      generalize upd H5 a2 (HO.tup [V.ref cBadPalette, V.ref cBadPart, V.ref cBadRuns, V.ref cBadSize, V.ref cBadText, V.ref cNoColour, V.ref cNoPart]) = H6 at ex s4 ⊢
      clear sa h2
      refine ⟨_, rfl, _, rfl, ⟨_, rfl, (by show 5 ≤ sizeLine; decide), fun a3 h3 => ?_⟩⟩
      have sa := same_new (o := HO.tup [V.ref cNoPicture, V.ref cNothingDone, V.ref cOutOfPlace, V.ref cTooMany, V.ref cTwice]) h3
      refine ⟨ea, cBP, a3, [cNoPicture, cNothingDone, cOutOfPlace, cTooMany, cTwice], false, rfl, sa _ _ ex, T.kP, SqT.of upd_same, kitAny_none (fun c hc => ?_), ?_⟩
      · simp only [List.mem_cons, List.not_mem_nil, or_false] at hc
        rcases hc with rfl | rfl | rfl | rfl | rfl <;> assumption
      have ex := sa _ _ ex
      have s4 := s4.trans sa
      generalize upd H6 a3 (HO.tup [V.ref cNoPicture, V.ref cNothingDone, V.ref cOutOfPlace, V.ref cTooMany, V.ref cTwice]) = H7 at ex s4 ⊢
      clear sa h3
      refine ⟨_, rfl, _, rfl, ⟨_, rfl, true, ⟨_, .exc ex T.kP, TC.iPV⟩, _, rfl, ⟨_, rfl, true, ⟨_, .exc ex T.kP, TC.iPP⟩, _, rfl, false, ⟨_, .exc ex T.kP, TC.iPR⟩, rfl, ?_⟩⟩⟩
      refine ⟨_, rfl, ⟨(by show 2 ≤ sizeLine; decide), fun LL hLL => ?_⟩⟩
      have sl := same_new (o := HO.lst [V.str "rule", V.str "picture"]) hLL
      exact ⟨_, rfl, true, ⟨_, .exc (sl _ _ ex) T.kP, TC.iPP⟩, .inr ⟨true, rfl, LL, _, _, .str "picture", rfl, rfl, SqL.of upd_same, atI_nat (j := 1) rfl, r _ (s4.trans sl)⟩⟩
    · have ex : upd H1 ea (ExcO ea cBR) ea = some (ExcO ea cBR) := upd_same
      have s4 : Same H1 (upd H1 ea (ExcO ea cBR)) := same_new hea
      generalize upd H1 ea (ExcO ea cBR) = H4 at ex s4 ⊢
      refine ⟨_, rfl, (by show 9 ≤ sizeLine; decide), fun a1 h1 => ?_⟩
      have sa := same_new (o := HO.tup [V.ref cBadCell, V.ref cBadCheck, V.ref cBadColour, V.ref cBadDeed, V.ref cBadEdge, V.ref cBadHead, V.ref cBadMask, V.ref cBadName, V.ref cBadPack]) h1
      refine ⟨ea, cBR, a1, [cBadCell, cBadCheck, cBadColour, cBadDeed, cBadEdge, cBadHead, cBadMask, cBadName, cBadPack], false, rfl, sa _ _ ex, T.kR, SqT.of upd_same, kitAny_none (fun c hc => ?_), ?_⟩
      · simp only [List.mem_cons, List.not_mem_nil, or_false] at hc
        rcases hc with rfl | rfl | rfl | rfl | rfl | rfl | rfl | rfl | rfl <;> assumption
      have ex := sa _ _ ex
      have s4 := s4.trans sa
      generalize upd H4 a1 (HO.tup [V.ref cBadCell, V.ref cBadCheck, V.ref cBadColour, V.ref cBadDeed, V.ref cBadEdge, V.ref cBadHead, V.ref cBadMask, V.ref cBadName, V.ref cBadPack]) = H5 at ex s4 ⊢
      clear sa h1
      refine ⟨_, rfl, _, rfl, ⟨_, rfl, (by show 7 ≤ sizeLine; decide), fun a2 h2 => ?_⟩⟩
      have sa := same_new (o := HO.tup [V.ref cBadPalette, V.ref cBadPart, V.ref cBadRuns, V.ref cBadSize, V.ref cBadText, V.ref cNoColour, V.ref cNoPart]) h2
      refine ⟨ea, cBR, a2, [cBadPalette, cBadPart, cBadRuns, cBadSize, cBadText, cNoColour, cNoPart], false, rfl, sa _ _ ex, T.kR, SqT.of upd_same, kitAny_none (fun c hc => ?_), ?_⟩
      · simp only [List.mem_cons, List.not_mem_nil, or_false] at hc
        rcases hc with rfl | rfl | rfl | rfl | rfl | rfl | rfl <;> assumption
      have ex := sa _ _ ex
      have s4 := s4.trans sa
      generalize upd H5 a2 (HO.tup [V.ref cBadPalette, V.ref cBadPart, V.ref cBadRuns, V.ref cBadSize, V.ref cBadText, V.ref cNoColour, V.ref cNoPart]) = H6 at ex s4 ⊢
      clear sa h2
      refine ⟨_, rfl, _, rfl, ⟨_, rfl, (by show 5 ≤ sizeLine; decide), fun a3 h3 => ?_⟩⟩
      have sa := same_new (o := HO.tup [V.ref cNoPicture, V.ref cNothingDone, V.ref cOutOfPlace, V.ref cTooMany, V.ref cTwice]) h3
      refine ⟨ea, cBR, a3, [cNoPicture, cNothingDone, cOutOfPlace, cTooMany, cTwice], false, rfl, sa _ _ ex, T.kR, SqT.of upd_same, kitAny_none (fun c hc => ?_), ?_⟩
      · simp only [List.mem_cons, List.not_mem_nil, or_false] at hc
        rcases hc with rfl | rfl | rfl | rfl | rfl <;> assumption
      have ex := sa _ _ ex
      have s4 := s4.trans sa
      generalize upd H6 a3 (HO.tup [V.ref cNoPicture, V.ref cNothingDone, V.ref cOutOfPlace, V.ref cTooMany, V.ref cTwice]) = H7 at ex s4 ⊢
      clear sa h3
      refine ⟨_, rfl, _, rfl, ⟨_, rfl, true, ⟨_, .exc ex T.kR, TC.iRV⟩, _, rfl, ⟨_, rfl, false, ⟨_, .exc ex T.kR, TC.iRP⟩, _, rfl, true, ⟨_, .exc ex T.kR, TC.iRR⟩, rfl, ?_⟩⟩⟩
      refine ⟨_, rfl, ⟨(by show 2 ≤ sizeLine; decide), fun LL hLL => ?_⟩⟩
      have sl := same_new (o := HO.lst [V.str "rule", V.str "picture"]) hLL
      exact ⟨_, rfl, false, ⟨_, .exc (sl _ _ ex) T.kR, TC.iRP⟩, .inr ⟨false, rfl, LL, _, _, .str "rule", rfl, rfl, SqL.of upd_same, atI_nat (j := 0) rfl, r _ (s4.trans sl)⟩⟩
end
end K23
set_option Elab.async false
set_option linter.all false
set_option maxRecDepth 100000
set_option maxHeartbeats 1600000
namespace K23
open PySem L2 M4
noncomputable def NT (H H' : Hp) : Prop := ∀ b o, (∀ ps, o ≠ .tbl ps) → H b = some o → H' b = some o
theorem NT.of {H H' : Hp} (s : Same H H') : NT H H' := fun b o _ e => s b o e
theorem NT.trans {H H1 H2 : Hp} (a : NT H H1) (b : NT H1 H2) : NT H H2 := fun c o n e => b c o n (a c o n e)
section
variable {K : PySem.W.Frag} {H H' : Hp}
theorem NT.lst {a : Addr} {xs : List V} (s : NT H H') (e : H a = some (.lst xs)) : H' a = some (.lst xs) := s _ _ (fun _ z => by cases z) e
theorem NT.tup {a : Addr} {xs : List V} (s : NT H H') (e : H a = some (.tup xs)) : H' a = some (.tup xs) := s _ _ (fun _ z => by cases z) e
theorem NT.pic {a : Addr} {ps : List Addr} {R : List (List V)} (s : NT H H') (p : PicV H a ps R) : PicV H' a ps R := ⟨s.lst p.top, Paired.mapI p.row fun _ _ _ e => s.lst e, p.nd, p.out⟩
theorem NT.but {p : Addr} {ps : Array Value} (h : H p = some (.tbl ps)) (b : ButL [p] H H') : NT H H' := fun c o n e => b c o (fun z => by
  have : c = p := by simpa using z
  rw [this, h] at e; cases e
  exact n ps rfl) e
end
section
variable {K : PySem.W.Frag} {H H' : Hp} {x : V}
theorem NT.kd (s : NT H H') (k : Kd K H x) : Kd K H' x := by
  cases k with
  | non => exact .non
  | bl b => exact .bl b
  | int i => exact .int i
  | str y => exact .str y
  | lst e => exact .lst (s.lst e)
  | tup e => exact .tup (s.tup e)
  | dict e => exact .dict (s _ _ (fun _ z => by unfold DictO at z; cases z) e)
theorem NT.rowOf (s : NT H H') (k : Kd K H x) : rowOf H' x = rowOf H x := by
  cases k with
  | lst e => rw [rowOf_lst e, rowOf_lst (s.lst e)]
  | tup e => simp only [K23.rowOf, e, s.tup e]
  | dict e =>
    have e2 := s _ _ (fun _ z => by unfold DictO at z; cases z) e
    simp only [K23.rowOf, e, e2, DictO]
  | _ => rfl
theorem NT.rw (s : NT H H') (r : Rw K H x) : Rw K H' x := by
  have e := s.rowOf r.kd
  exact ⟨s.kd r.kd, fun ys h => r.len ys (by rw [← e]; exact h), fun ys h y hy => s.kd (r.it ys (by rw [← e]; exact h) y hy)⟩
theorem NT.th (s : NT H H') (t : Th K H x) : Th K H' x := by
  have e := s.rowOf t.kd
  exact ⟨s.kd t.kd, fun ys h => t.len ys (by rw [← e]; exact h), fun ys h y hy => s.rw (t.it ys (by rw [← e]; exact h) y hy)⟩
theorem NT.picB (s : NT H H') (t : Th K H x) : picB H' x = picB H x := by
  have e := s.rowOf t.kd
  unfold K23.picB
  rw [e]
  cases h : K23.rowOf H x with
  | none => rfl
  | some xs =>
    have q : ∀ y ∈ xs, K23.rowOf H' y = K23.rowOf H y := fun y hy => s.rowOf (t.it xs h y hy).kd
    have q1 : ∀ y ∈ xs, rowQ H' y = rowQ H y := fun y hy => by unfold rowQ; rw [q y hy]
    have q2 : ∀ y ∈ xs, lenOf H' y = lenOf H y := fun y hy => by unfold lenOf; rw [q y hy]
    dsimp only
    cases xs with
    | nil => rfl
    | cons z r =>
      have h1 : (z :: r).all (rowQ H') = (z :: r).all (rowQ H) := by
        rw [Bool.eq_iff_iff, List.all_eq_true, List.all_eq_true]
        exact ⟨fun hh y hy => by rw [← q1 y hy]; exact hh y hy, fun hh y hy => by rw [q1 y hy]; exact hh y hy⟩
      have h2 : ((z :: r).all fun x => decide (lenOf H' x = lenOf H' ((z :: r).headD .non))) = (z :: r).all fun x => decide (lenOf H x = lenOf H ((z :: r).headD .non)) := by
        rw [Bool.eq_iff_iff, List.all_eq_true, List.all_eq_true]
        have hz : lenOf H' ((z :: r).headD .non) = lenOf H ((z :: r).headD .non) := q2 z List.mem_cons_self
        exact ⟨fun hh y hy => by have := hh y hy; rw [hz, q2 y hy] at this; exact this, fun hh y hy => by rw [hz, q2 y hy]; exact hh y hy⟩
      rw [h1, h2]
end
noncomputable def stAt (st : Stmt) (i : Nat) : Stmt := (defBody st).getD i (.Pass ⟨0, 0, 0, 0⟩)
noncomputable def lamPrm : Expr → Option Arguments
  | .Lambda p _ _ _ => some p
  | _ => none
noncomputable def lamBody : Expr → Expr
  | .Lambda _ b _ _ => b
  | e => e
noncomputable def lamSc (d : Scope) : Expr → Scope
  | .Lambda _ _ s _ => s
  | _ => d
noncomputable def argOf : Expr → Expr
  | .Call _ (l :: _) _ _ => l
  | e => e
noncomputable def lamI : Stmt → Expr
  | .If (.Compare l _ _ _) _ _ _ => argOf l
  | .Return (some (.Compare l _ _ _)) _ => argOf l
  | _ => .Name "" ⟨0, 0, 0, 0⟩
noncomputable abbrev lq : Str := ("_law_refused" ++ ".<locals>.") ++ "<lambda>"
noncomputable def l1 : Expr := lamI (stAt s_law_refused 4)
noncomputable def sc1 : Scope := lamSc (defScope s_law_refused) l1
theorem ls1 : LamSc ["_law_row", "_law_bad"] sc1 := ⟨rfl, rfl, rfl, by decide +kernel, by decide +kernel⟩
theorem fh1 : ∀ y ∈ sc1.names, y.2 = NameKind.free → (defScope s_law_refused).names.lookup y.1 = some .cell := by decide +kernel
noncomputable def l2 : Expr := lamI (stAt s_law_refused 5)
noncomputable def sc2 : Scope := lamSc (defScope s_law_refused) l2
theorem ls2 : LamSc ["_law_row", "_law_bad"] sc2 := ⟨rfl, rfl, rfl, by decide +kernel, by decide +kernel⟩
theorem fh2 : ∀ y ∈ sc2.names, y.2 = NameKind.free → (defScope s_law_refused).names.lookup y.1 = some .cell := by decide +kernel
noncomputable def l3 : Expr := lamI (stAt s_law_refused 6)
noncomputable def sc3 : Scope := lamSc (defScope s_law_refused) l3
theorem ls3 : LamSc ["_law_picture_here", "_law_some"] sc3 := ⟨rfl, rfl, rfl, by decide +kernel, by decide +kernel⟩
theorem fh3 : ∀ y ∈ sc3.names, y.2 = NameKind.free → (defScope s_law_refused).names.lookup y.1 = some .cell := by decide +kernel
noncomputable def l4 : Expr := lamI (stAt s_law_refused 7)
noncomputable def sc4 : Scope := lamSc (defScope s_law_refused) l4
theorem ls4 : LamSc ["_law_picture_here", "_law_some"] sc4 := ⟨rfl, rfl, rfl, by decide +kernel, by decide +kernel⟩
theorem fh4 : ∀ y ∈ sc4.names, y.2 = NameKind.free → (defScope s_law_refused).names.lookup y.1 = some .cell := by decide +kernel
noncomputable def l5 : Expr := lamI (stAt s_law_refused 10)
noncomputable def sc5 : Scope := lamSc (defScope s_law_refused) l5
theorem ls5 : LamSc ["_law_none", "_law_wrong"] sc5 := ⟨rfl, rfl, rfl, by decide +kernel, by decide +kernel⟩
theorem fh5 : ∀ y ∈ sc5.names, y.2 = NameKind.free → (defScope s_law_refused).names.lookup y.1 = some .cell := by decide +kernel
noncomputable def l6 : Expr := lamI (stAt s_law_refused 11)
noncomputable def sc6 : Scope := lamSc (defScope s_law_refused) l6
theorem ls6 : LamSc ["_law_none", "_law_wrong"] sc6 := ⟨rfl, rfl, rfl, by decide +kernel, by decide +kernel⟩
theorem fh6 : ∀ y ∈ sc6.names, y.2 = NameKind.free → (defScope s_law_refused).names.lookup y.1 = some .cell := by decide +kernel
section
variable {P : Program} {w : World} {K : PySem.W.Frag} {mg : Str → Option Value} {base : Heap} {cFE cBP cBR : Addr} {tS tC tR t1 t2 t3 t4 : Tok}
theorem lamX1 {prm : Arguments} (hp : lamPrm l1 = some prm) {f c : Addr} {cl : List (Str × Addr)} {v1 v2 : V} (g : DefX P w K mg base 5 "folded_row" ["row", "above", "rule"] [] (spFoldRX K cBR)) (hhas : ∀ x, sc1.names.lookup x = some .free → ∃ c, cl.lookup x = some c) (hce : CellsAt base ["_law_row", "_law_bad"] cl [some v1, some v2]) :
    LamX P w K mg base 10 f (fun H Q E => H f = some (LamOC f ⟨prm, lamBody l1, sc1, lq, cl, .none, c⟩) ∧ H c = some (CodeO c lq) ∧ spFoldRX K cBR [v1, .non, v2] H Q E) := by
  cases hp
  refine lamX_of (k := 9) (H0 := fun _ => True) ls1 hhas hce (fun H Q E h => ⟨h.1, h.2.1, trivial⟩) (fun s H doc pm ctv _ _ => bind_none (fun _ _ _ => rfl) s doc pm ctv) fun A outer s H Q E hr h => ?_
  obtain ⟨_, _, h⟩ := h
  refine ⟨_, (pe_callX g (hr.mono (by decide)) passesL rfl (pa_cons (pv 0) (pa_cons pe_non (pa_cons (pv 1) pa_nil)))), ?_⟩
  exact ⟨_, rfl, _, rfl, h⟩
theorem lamX2 {prm : Arguments} (hp : lamPrm l2 = some prm) {f c : Addr} {cl : List (Str × Addr)} {v1 v2 : V} (g : DefX P w K mg base 5 "unfolded_row" ["row", "above", "rule"] [] (spFoldRX K cBR)) (hhas : ∀ x, sc2.names.lookup x = some .free → ∃ c, cl.lookup x = some c) (hce : CellsAt base ["_law_row", "_law_bad"] cl [some v1, some v2]) :
    LamX P w K mg base 10 f (fun H Q E => H f = some (LamOC f ⟨prm, lamBody l2, sc2, lq, cl, .none, c⟩) ∧ H c = some (CodeO c lq) ∧ spFoldRX K cBR [v1, v1, v2] H Q E) := by
  cases hp
  refine lamX_of (k := 9) (H0 := fun _ => True) ls2 hhas hce (fun H Q E h => ⟨h.1, h.2.1, trivial⟩) (fun s H doc pm ctv _ _ => bind_none (fun _ _ _ => rfl) s doc pm ctv) fun A outer s H Q E hr h => ?_
  obtain ⟨_, _, h⟩ := h
  refine ⟨_, (pe_callX g (hr.mono (by decide)) passesL rfl (pa_cons (pv 0) (pa_cons (pv 0) (pa_cons (pv 1) pa_nil)))), ?_⟩
  exact ⟨_, rfl, _, rfl, _, rfl, h⟩
theorem lamX3 {prm : Arguments} (hp : lamPrm l3 = some prm) {f c : Addr} {cl : List (Str × Addr)} {v1 v2 : V} (g : DefX P w K mg base 8 "folded_picture" ["picture", "rules"] [] (spPicX K cBP cBR)) (hhas : ∀ x, sc3.names.lookup x = some .free → ∃ c, cl.lookup x = some c) (hce : CellsAt base ["_law_picture_here", "_law_some"] cl [some v1, some v2]) :
    LamX P w K mg base 10 f (fun H Q E => H f = some (LamOC f ⟨prm, lamBody l3, sc3, lq, cl, .none, c⟩) ∧ H c = some (CodeO c lq) ∧ spPicX K cBP cBR [v1, v2] H Q E) := by
  cases hp
  refine lamX_of (k := 9) (H0 := fun _ => True) ls3 hhas hce (fun H Q E h => ⟨h.1, h.2.1, trivial⟩) (fun s H doc pm ctv _ _ => bind_none (fun _ _ _ => rfl) s doc pm ctv) fun A outer s H Q E hr h => ?_
  obtain ⟨_, _, h⟩ := h
  refine ⟨_, (pe_callX g (hr.mono (by decide)) passesL rfl (pa_cons (pv 0) (pa_cons (pv 1) pa_nil))), ?_⟩
  exact ⟨_, rfl, _, rfl, h⟩
theorem lamX4 {prm : Arguments} (hp : lamPrm l4 = some prm) {f c : Addr} {cl : List (Str × Addr)} {v1 v2 : V} (g : DefX P w K mg base 8 "unfolded_picture" ["rows", "rules"] [] (spPicX K cBP cBR)) (hhas : ∀ x, sc4.names.lookup x = some .free → ∃ c, cl.lookup x = some c) (hce : CellsAt base ["_law_picture_here", "_law_some"] cl [some v1, some v2]) :
    LamX P w K mg base 10 f (fun H Q E => H f = some (LamOC f ⟨prm, lamBody l4, sc4, lq, cl, .none, c⟩) ∧ H c = some (CodeO c lq) ∧ spPicX K cBP cBR [v1, v2] H Q E) := by
  cases hp
  refine lamX_of (k := 9) (H0 := fun _ => True) ls4 hhas hce (fun H Q E h => ⟨h.1, h.2.1, trivial⟩) (fun s H doc pm ctv _ _ => bind_none (fun _ _ _ => rfl) s doc pm ctv) fun A outer s H Q E hr h => ?_
  obtain ⟨_, _, h⟩ := h
  refine ⟨_, (pe_callX g (hr.mono (by decide)) passesL rfl (pa_cons (pv 0) (pa_cons (pv 1) pa_nil))), ?_⟩
  exact ⟨_, rfl, _, rfl, h⟩
theorem lamX5 {prm : Arguments} (hp : lamPrm l5 = some prm) {f c : Addr} {cl : List (Str × Addr)} {v1 v2 : V} (g : DefX P w K mg base 8 "folded_picture" ["picture", "rules"] [] (spPicX K cBP cBR)) (hhas : ∀ x, sc5.names.lookup x = some .free → ∃ c, cl.lookup x = some c) (hce : CellsAt base ["_law_none", "_law_wrong"] cl [some v1, some v2]) :
    LamX P w K mg base 10 f (fun H Q E => H f = some (LamOC f ⟨prm, lamBody l5, sc5, lq, cl, .none, c⟩) ∧ H c = some (CodeO c lq) ∧ spPicX K cBP cBR [v1, v2] H Q E) := by
  cases hp
  refine lamX_of (k := 9) (H0 := fun _ => True) ls5 hhas hce (fun H Q E h => ⟨h.1, h.2.1, trivial⟩) (fun s H doc pm ctv _ _ => bind_none (fun _ _ _ => rfl) s doc pm ctv) fun A outer s H Q E hr h => ?_
  obtain ⟨_, _, h⟩ := h
  refine ⟨_, (pe_callX g (hr.mono (by decide)) passesL rfl (pa_cons (pv 0) (pa_cons (pv 1) pa_nil))), ?_⟩
  exact ⟨_, rfl, _, rfl, h⟩
theorem lamX6 {prm : Arguments} (hp : lamPrm l6 = some prm) {f c : Addr} {cl : List (Str × Addr)} {v1 v2 : V} (g : DefX P w K mg base 8 "unfolded_picture" ["rows", "rules"] [] (spPicX K cBP cBR)) (hhas : ∀ x, sc6.names.lookup x = some .free → ∃ c, cl.lookup x = some c) (hce : CellsAt base ["_law_none", "_law_wrong"] cl [some v1, some v2]) :
    LamX P w K mg base 10 f (fun H Q E => H f = some (LamOC f ⟨prm, lamBody l6, sc6, lq, cl, .none, c⟩) ∧ H c = some (CodeO c lq) ∧ spPicX K cBP cBR [v1, v2] H Q E) := by
  cases hp
  refine lamX_of (k := 9) (H0 := fun _ => True) ls6 hhas hce (fun H Q E h => ⟨h.1, h.2.1, trivial⟩) (fun s H doc pm ctv _ _ => bind_none (fun _ _ _ => rfl) s doc pm ctv) fun A outer s H Q E hr h => ?_
  obtain ⟨_, _, h⟩ := h
  refine ⟨_, (pe_callX g (hr.mono (by decide)) passesL rfl (pa_cons (pv 0) (pa_cons (pv 1) pa_nil))), ?_⟩
  exact ⟨_, rfl, _, rfl, h⟩
end
end K23
set_option Elab.async false
set_option linter.all false
set_option maxRecDepth 100000
set_option maxHeartbeats 1600000
namespace K23
open PySem L2 M4
theorem cutV_mem {xs : List V} {lo hi : Option Int} {y : V} (h : y ∈ cutV xs lo hi) : y ∈ xs := List.mem_of_mem_drop (List.mem_of_mem_take h)
theorem cutM1 (xs : List V) : cutV xs none (some (-1)) = xs.take (xs.length - 1) := by
  unfold cutV
  have e1 : HT.sIx xs.length 0 none = 0 := rfl
  have e2 : HT.sIx xs.length xs.length (some (-1)) = xs.length - 1 := by
    show (if (-1 : Int) < 0 then ((-1 : Int) + (xs.length : Int)).toNat else min (-1 : Int).toNat xs.length) = _
    rw [if_pos (by decide)]; omega
  rw [e1, e2, List.drop_zero, Nat.sub_zero]
theorem atI_memN {xs : List V} {j : Nat} (h : j < xs.length) : ∃ v ∈ xs, atI xs (j : Int) = some v := ⟨xs[j], List.getElem_mem h, atI_nat (List.getElem?_eq_getElem h)⟩
noncomputable def spRefs (K : PySem.W.Frag) (tb : Addr) : Sp := fun vs H Q _ => ∃ (p a : Addr) (ps : List Addr) (R : List (List Int)) (wd : Nat) (rs : List Int) (n : Nat), vs = [.ref p, .ref a, .int (n : Int)] ∧ PicV H p ps (ir R) ∧ Good R wd ∧ H a = some (.lst (rs.map V.int)) ∧ rs.length = R.length ∧ TabG [tb] tb lq H ∧ ∀ H', NT H H' → TabG [tb] tb lq H' → Q (.bl true) H'
theorem tab_hts {tb : Addr} {H : Hp} (t : TabG [tb] tb lq H) : ∀ x ∈ [tb], H x ≠ none := fun x hx => by
  obtain ⟨ps, e, _⟩ := t
  rw [List.mem_singleton.mp hx, e]; simp
theorem tab_nt {tb : Addr} {H H' : Hp} (t : TabG [tb] tb lq H) (b : ButL [tb] H H') : NT H H' := by
  obtain ⟨ps, e, _⟩ := t
  exact NT.but e b
theorem NT.isL {K : PySem.W.Frag} {H H' : Hp} {x : V} (s : NT H H') (k : Kd K H x) : isL H' x = isL H x := by rw [isL_row (s.kd k), s.rowOf k, ← isL_row k]
theorem NT.badRs {K : PySem.W.Frag} {H H' : Hp} {x : V} {n : Nat} (s : NT H H') (b : BadRs K H x n) : BadRs K H' x n := by
  rcases b with ⟨a, xs, rfl, e, l, k, h⟩ | ⟨k, h⟩
  · exact .inl ⟨a, xs, rfl, s.lst e, l, fun y hy => s.kd (k y hy), h⟩
  · exact .inr ⟨s.kd k, by rw [s.isL k]; exact h⟩
theorem NT.badP {K : PySem.W.Frag} {H H' : Hp} {x : V} (s : NT H H') (b : BadP K H x) : BadP K H' x := ⟨s.th b.th, by rw [s.picB b.th]; exact b.no⟩
section
variable {P : Program} {w : World} {K : PySem.W.Frag} {mg : Str → Option Value} {base : Heap} {cFE cBP cBR : Addr} {tS tC tR t1 t2 t3 t4 : Tok}
theorem sc_law_refused : FnScope ["_law_picture_here", "_law_rules", "_law_cell", "_law_bad", "_law_row", "_law_at", "_law_some", "_law_none", "_law_wrong"] ["_law_picture_here", "_law_rules", "_law_cell"] (defScope s_law_refused) := ⟨rfl, rfl, rfl, by decide +kernel, rfl, by decide +kernel, by decide +kernel⟩
theorem ok_law_refused {f c tb : Addr} {fd : FuncData} (F : FunD K "_law_refused" "_law_refused" s_law_refused .none f fd) (hc : fd.code = .ref c) (hC : PySem.W.CodeHd base c tb) (hB : BMain mg base) (T : Txt K mg cFE cBP cBR tS tC tR t1 t2 t3 t4)
    (gB : ∀ base', BaseOk K mg base' → Def P w K mg base' 11 "_law_said" ["_law_call"] [] (spSaid P w K mg cBP cBR base'))
    (gFR : ∀ base', BaseOk K mg base' → DefX P w K mg base' 5 "folded_row" ["row", "above", "rule"] [] (spFoldRX K cBR)) (gUR : ∀ base', BaseOk K mg base' → DefX P w K mg base' 5 "unfolded_row" ["row", "above", "rule"] [] (spFoldRX K cBR))
    (gFP : ∀ base', BaseOk K mg base' → DefX P w K mg base' 8 "folded_picture" ["picture", "rules"] [] (spPicX K cBP cBR)) (gUP : ∀ base', BaseOk K mg base' → DefX P w K mg base' 8 "unfolded_picture" ["rows", "rules"] [] (spPicX K cBP cBR))
    (g__law_no_picture : Def P w K mg base 1 "_law_no_picture" ["_law_cell", "_law_picture_here"] [] (spNoP K)) : FnOk P w K mg base CX0 12 f fd ["_law_picture_here", "_law_rules", "_law_cell"] (spRefs K tb) := by
  refine F.okT hc sc_law_refused (fun vs H Q E h => ?_) (fun cdv hcdv A outer s H vs Q E hr h => ?_)
  · obtain ⟨p, a, ps, R, wd, rs, n, rfl, _⟩ := h; rfl
  · obtain ⟨p, a, ps, R, wd, rs, n, rfl, pic, gd, ha, hl, tab, k⟩ := h
    have hu : _ + 64 < cLine := hr.units
    have h1 := gd.ne
    have h24 := gd.le
    obtain ⟨t8, r8, k8⟩ : ∃ tr, PSs ((cxOf CX0 P w K mg base ["_law_picture_here", "_law_rules", "_law_cell", "_law_bad", "_law_row", "_law_at", "_law_some", "_law_none", "_law_wrong"] "_law_refused" (defScope s_law_refused) f cdv A outer s H E).nox) ((defBody s_law_refused).drop 8) tr ∧
        ∀ (v3 v4 v5 : Option V) (v6 : V) (H1 : Hp), PicV H1 p ps (ir R) → TabG [tb] tb lq H1 → NT H H1 →
          tr { nx := fun _ H' => Q .non H', rt := Q } [some (.ref p), some (.ref a), some (.int (n : Int)), v3, v4, v5, some v6, none, none] H1 := by
      refine ⟨_, (pss_cons (ps_set (i := 7) sc_law_refused.nd rfl (by first | exact Or.inl rfl | exact Or.inr rfl) (pe_callD g__law_no_picture (hr.mono (by decide)) rfl (pa_cons (pe_op op_fdiv (pv 2) pe_int) (pa_cons (pv 0) pa_nil))))
        (pss_cons (ps_set (i := 8) sc_law_refused.nd rfl (by first | exact Or.inl rfl | exact Or.inr rfl) (pe_ix (ixK K rfl) (pe_lst (pa_cons (pv 6) (pa_cons (pv 1) pa_nil))) (pe_op op_mod (pe_op op_fdiv (pv 2) pe_int) pe_int) (fun _ _ => rfl)))
        (pss_cons (ps_if (pt_cmpR op_ne (pe_callR0 gB hB (hr.mono (by decide)) rfl (pa_cons (pe_lamC hcdv hC hB (FreeHas.of fh5)) pa_nil)) pe_str (nomark _)) (pss_one (ps_ret pe_bl)) pss_nil)
        (pss_one (ps_ret (pe_cmpR op_eq (pe_callR0 gB hB (hr.mono (by decide)) rfl (pa_cons (pe_lamC hcdv hC hB (FreeHas.of fh6)) pa_nil)) pe_str (nomark _))))))), ?_⟩
      intro v3 v4 v5 v6 H1 pic1 tab1 n1
      refine ⟨_, rfl, _, _, rfl, rfl, ⟨by decide, by decide⟩, _, rfl, n / 1000, p, ps, R, wd, rfl, pic1, gd, fun v7 H2 s2 bad2 => ?_⟩
      have tab2 := tab1.mono s2
      have n2 := n1.trans (NT.of s2)
      refine ⟨_, rfl, _, rfl, (by show 2 ≤ sizeLine; decide), fun L hL => ?_⟩
      have sL := same_new (o := HO.lst [v6, V.ref a]) hL
      obtain ⟨v8, hv, ev⟩ := atI_memN (xs := [v6, V.ref a]) (j := n / 15000 % 2) (by show n / 15000 % 2 < 2; omega)
      have ej : ((n / 15000 % 2 : Nat) : Int) = (n : Int) / 15000 % 2 := by omega
      rw [ej] at ev
      refine ⟨_, rfl, _, _, rfl, rfl, ⟨by decide, by decide⟩, _, _, rfl, rfl, (by show (0 : Int) < 2; decide), L, _, _, v8, rfl, rfl, SqL.of upd_same, ev, ?_⟩
      have tab3 := tab2.mono sL
      have n3 := n2.trans (NT.of sL)
      have bad3 := bad2.mono sL
      generalize upd H2 L (HO.lst [v6, V.ref a]) = H3 at tab3 n3 bad3 ⊢
      try dsimp only [tNext, tSeq, tIfS, tTest, tRet, tOp, tAsg, tCallR0, tCons, tLamC, gName, List.set_cons_zero, List.set_cons_succ]
      refine tLamW_of (ts := [tb]) (by simp) (tab_hts tab3) tab3 fun f4 c4 H4 bt4 _ tab4 hf4 hc4 base' ok cap => ?_
      have m4 := tab_nt tab3 bt4
      have n4 := n3.trans m4
      have bad4 := m4.badP bad3
      refine ⟨f4, _, _, rfl, hf4, lamX5 rfl (gFP base' ok) clOf_hasL (cells_of cap (FreeHas.of fh5) rfl fun i x y e1 e2 => ?_), fun N E' kP kR => ⟨hf4, hc4, v7, v8, rfl, .inl ⟨bad4.th, bad4.no, fun H5 s5 => kP H5 fun H6 s6 => ?_⟩⟩⟩
      · match i, e1, e2 with
        | 0, e1, e2 => cases e1; cases e2; exact ⟨by decide +kernel, rfl, 7, rfl, rfl⟩
        | 1, e1, e2 => cases e1; cases e2; exact ⟨by decide +kernel, rfl, 8, rfl, rfl⟩
        | i + 2, e1, e2 => cases e1
      have s46 := s5.trans s6
      have tab6 := tab4.mono s46
      have n6 := n4.trans (NT.of s46)
      have bad6 := bad4.mono s46
      refine ⟨rfl, _, rfl, ?_⟩
      rw [decide_eq_true rfl]
      refine iteF ?_
      try dsimp only [tNext, tSeq, tIfS, tTest, tRet, tOp, tAsg, tCallR0, tCons, tLamC, gName, List.set_cons_zero, List.set_cons_succ]
      refine tLamW_of (ts := [tb]) (by simp) (tab_hts tab6) tab6 fun f7 c7 H7 bt7 _ tab7 hf7 hc7 base' ok cap => ?_
      have m7 := tab_nt tab6 bt7
      have n7 := n6.trans m7
      have bad7 := m7.badP bad6
      refine ⟨f7, _, _, rfl, hf7, lamX6 rfl (gUP base' ok) clOf_hasL (cells_of cap (FreeHas.of fh6) rfl fun i x y e1 e2 => ?_), fun N E' kP kR => ⟨hf7, hc7, v7, v8, rfl, .inl ⟨bad7.th, bad7.no, fun H8 s8 => kP H8 fun H9 s9 => ?_⟩⟩⟩
      · match i, e1, e2 with
        | 0, e1, e2 => cases e1; cases e2; exact ⟨by decide +kernel, rfl, 7, rfl, rfl⟩
        | 1, e1, e2 => cases e1; cases e2; exact ⟨by decide +kernel, rfl, 8, rfl, rfl⟩
        | i + 2, e1, e2 => cases e1
      have s79 := s8.trans s9
      refine ⟨rfl, ?_⟩
      rw [decide_eq_true rfl]
      exact k H9 (n7.trans (NT.of s79)) (tab7.mono s79)
    obtain ⟨t4, r4, k4⟩ : ∃ tr, PSs ((cxOf CX0 P w K mg base ["_law_picture_here", "_law_rules", "_law_cell", "_law_bad", "_law_row", "_law_at", "_law_some", "_law_none", "_law_wrong"] "_law_refused" (defScope s_law_refused) f cdv A outer s H E).nox) ((defBody s_law_refused).drop 4) tr ∧
        ∀ (bad v6 : V) (q0 : Addr) (v5 : Option V) (H1 : Hp), PicV H1 p ps (ir R) → TabG [tb] tb lq H1 → NT H H1 → Kd K H1 bad → isWh 0 4 bad = false → BadRs K H1 v6 R.length →
          tr { nx := fun _ H' => Q .non H', rt := Q } [some (.ref p), some (.ref a), some (.int (n : Int)), some bad, some (.ref q0), v5, some v6, none, none] H1 := by
      refine ⟨_, (pss_cons (ps_if (pt_cmpR op_ne (pe_callR0 gB hB (hr.mono (by decide)) rfl (pa_cons (pe_lamC hcdv hC hB (FreeHas.of fh1)) pa_nil)) pe_str (nomark _)) (pss_one (ps_ret pe_bl)) pss_nil)
        (pss_cons (ps_if (pt_cmpR op_ne (pe_callR0 gB hB (hr.mono (by decide)) rfl (pa_cons (pe_lamC hcdv hC hB (FreeHas.of fh2)) pa_nil)) pe_str (nomark _)) (pss_one (ps_ret pe_bl)) pss_nil)
        (pss_cons (ps_if (pt_cmpR op_ne (pe_callR0 gB hB (hr.mono (by decide)) rfl (pa_cons (pe_lamC hcdv hC hB (FreeHas.of fh3)) pa_nil)) pe_str (nomark _)) (pss_one (ps_ret pe_bl)) pss_nil)
        (pss_cons (ps_if (pt_cmpR op_ne (pe_callR0 gB hB (hr.mono (by decide)) rfl (pa_cons (pe_lamC hcdv hC hB (FreeHas.of fh4)) pa_nil)) pe_str (nomark _)) (pss_one (ps_ret pe_bl)) pss_nil)
        (@r8))))), ?_⟩
      intro bad v6 q0 v5 H1 pic1 tab1 n1 kb hb br1
      try dsimp only [tNext, tSeq, tIfS, tTest, tRet, tOp, tAsg, tCallR0, tCons, tLamC, gName, List.set_cons_zero, List.set_cons_succ]
      refine tLamW_of (ts := [tb]) (by simp) (tab_hts tab1) tab1 fun f2 c2 H2 bt2 _ tab2 hf2 hc2 base' ok cap => ?_
      have m2 := tab_nt tab1 bt2
      have n2 := n1.trans m2
      have pic2 := m2.pic pic1
      have kb := m2.kd kb
      have br2 := m2.badRs br1
      refine ⟨f2, _, _, rfl, hf2, lamX1 rfl (gFR base' ok) clOf_hasL (cells_of cap (FreeHas.of fh1) rfl fun i x y e1 e2 => ?_), fun N E' kP kR => ⟨hf2, hc2, .ref q0, .non, bad, rfl, kb, hb, kR H2 fun H3 s3 => ?_⟩⟩
      · match i, e1, e2 with
        | 0, e1, e2 => cases e1; cases e2; exact ⟨by decide +kernel, rfl, 4, rfl, rfl⟩
        | 1, e1, e2 => cases e1; cases e2; exact ⟨by decide +kernel, rfl, 3, rfl, rfl⟩
        | i + 2, e1, e2 => cases e1
      have tab3 := tab2.mono s3
      have n3 := n2.trans (NT.of s3)
      have pic3 := pic2.mono s3
      have kb := kb.mono s3
      have br3 := br2.mono s3
      refine ⟨rfl, _, rfl, ?_⟩
      rw [decide_eq_true rfl]
      refine iteF ?_
      try dsimp only [tNext, tSeq, tIfS, tTest, tRet, tOp, tAsg, tCallR0, tCons, tLamC, gName, List.set_cons_zero, List.set_cons_succ]
      refine tLamW_of (ts := [tb]) (by simp) (tab_hts tab3) tab3 fun f4 c4 H4 bt4 _ tab4 hf4 hc4 base' ok cap => ?_
      have m4 := tab_nt tab3 bt4
      have n4 := n3.trans m4
      have pic4 := m4.pic pic3
      have kb := m4.kd kb
      have br4 := m4.badRs br3
      refine ⟨f4, _, _, rfl, hf4, lamX2 rfl (gUR base' ok) clOf_hasL (cells_of cap (FreeHas.of fh2) rfl fun i x y e1 e2 => ?_), fun N E' kP kR => ⟨hf4, hc4, .ref q0, .ref q0, bad, rfl, kb, hb, kR H4 fun H5 s5 => ?_⟩⟩
      · match i, e1, e2 with
        | 0, e1, e2 => cases e1; cases e2; exact ⟨by decide +kernel, rfl, 4, rfl, rfl⟩
        | 1, e1, e2 => cases e1; cases e2; exact ⟨by decide +kernel, rfl, 3, rfl, rfl⟩
        | i + 2, e1, e2 => cases e1
      have tab5 := tab4.mono s5
      have n5 := n4.trans (NT.of s5)
      have pic5 := pic4.mono s5
      have kb := kb.mono s5
      have br5 := br4.mono s5
      refine ⟨rfl, _, rfl, ?_⟩
      rw [decide_eq_true rfl]
      refine iteF ?_
      try dsimp only [tNext, tSeq, tIfS, tTest, tRet, tOp, tAsg, tCallR0, tCons, tLamC, gName, List.set_cons_zero, List.set_cons_succ]
      refine tLamW_of (ts := [tb]) (by simp) (tab_hts tab5) tab5 fun f6 c6 H6 bt6 _ tab6 hf6 hc6 base' ok cap => ?_
      have m6 := tab_nt tab5 bt6
      have n6 := n5.trans m6
      have pic6 := m6.pic pic5
      have kb := m6.kd kb
      have br6 := m6.badRs br5
      refine ⟨f6, _, _, rfl, hf6, lamX3 rfl (gFP base' ok) clOf_hasL (cells_of cap (FreeHas.of fh3) rfl fun i x y e1 e2 => ?_), fun N E' kP kR => ⟨hf6, hc6, .ref p, v6, rfl, .inr ⟨p, ps, R, wd, rfl, pic6, gd, br6, fun H6x s6x => kR H6x fun H7 s7y => ?_⟩⟩⟩
      · match i, e1, e2 with
        | 0, e1, e2 => cases e1; cases e2; exact ⟨by decide +kernel, rfl, 0, rfl, rfl⟩
        | 1, e1, e2 => cases e1; cases e2; exact ⟨by decide +kernel, rfl, 6, rfl, rfl⟩
        | i + 2, e1, e2 => cases e1
      have s7 := s6x.trans s7y
      have tab7 := tab6.mono s7
      have n7 := n6.trans (NT.of s7)
      have pic7 := pic6.mono s7
      have kb := kb.mono s7
      have br7 := br6.mono s7
      refine ⟨rfl, _, rfl, ?_⟩
      rw [decide_eq_true rfl]
      refine iteF ?_
      try dsimp only [tNext, tSeq, tIfS, tTest, tRet, tOp, tAsg, tCallR0, tCons, tLamC, gName, List.set_cons_zero, List.set_cons_succ]
      refine tLamW_of (ts := [tb]) (by simp) (tab_hts tab7) tab7 fun f8 c8 H8 bt8 _ tab8 hf8 hc8 base' ok cap => ?_
      have m8 := tab_nt tab7 bt8
      have n8 := n7.trans m8
      have pic8 := m8.pic pic7
      have kb := m8.kd kb
      have br8 := m8.badRs br7
      refine ⟨f8, _, _, rfl, hf8, lamX4 rfl (gUP base' ok) clOf_hasL (cells_of cap (FreeHas.of fh4) rfl fun i x y e1 e2 => ?_), fun N E' kP kR => ⟨hf8, hc8, .ref p, v6, rfl, .inr ⟨p, ps, R, wd, rfl, pic8, gd, br8, fun H8x s8x => kR H8x fun H9 s9y => ?_⟩⟩⟩
      · match i, e1, e2 with
        | 0, e1, e2 => cases e1; cases e2; exact ⟨by decide +kernel, rfl, 0, rfl, rfl⟩
        | 1, e1, e2 => cases e1; cases e2; exact ⟨by decide +kernel, rfl, 6, rfl, rfl⟩
        | i + 2, e1, e2 => cases e1
      have s9 := s8x.trans s9y
      have tab9 := tab8.mono s9
      have n9 := n8.trans (NT.of s9)
      have pic9 := pic8.mono s9
      have kb := kb.mono s9
      have br9 := br8.mono s9
      refine ⟨rfl, _, rfl, ?_⟩
      rw [decide_eq_true rfl]
      refine iteF ?_
      exact k8 _ _ _ v6 H9 pic9 tab9 n9
    refine ⟨_, (pss_cons (ps_set (i := 3) sc_law_refused.nd rfl (by first | exact Or.inl rfl | exact Or.inr rfl) (pe_ix (ixK K rfl) (pe_lst (pa_cons (pe_un un_neg pe_int) (pa_cons pe_int (pa_cons pe_bl (pa_cons pe_non (pa_cons pe_str (pa_cons (pe_lst (pa_cons pe_int pa_nil)) (pa_cons (pe_op op_pow pe_int pe_int) (pa_cons pe_bl pa_nil))))))))) (pe_op op_mod (pv 2) pe_int) (fun _ _ => rfl)))
        (pss_cons (ps_set (i := 4) sc_law_refused.nd rfl (by first | exact Or.inl rfl | exact Or.inr rfl) (pe_ix (ixK K rfl) (pv 0) pe_int (fun _ _ => rfl)))
        (pss_cons (ps_set (i := 5) sc_law_refused.nd rfl (by first | exact Or.inl rfl | exact Or.inr rfl) (pe_op op_mod (pe_op op_fdiv (pv 2) pe_int) (pe_callB (lenK K rfl) rfl T.len PySem.boot_len (pa_cons (pv 1) pa_nil))))
        (pss_cons (ps_set (i := 6) sc_law_refused.nd rfl (by first | exact Or.inl rfl | exact Or.inr rfl) (pe_ix (ixK K rfl) (pe_lst (pa_cons (pe_op op_cat (pe_op op_cat (pe_slice (slK K rfl) (pv 1) po_none (po_some (pv 5))) (pe_lst (pa_cons (pv 3) pa_nil))) (pe_slice (slK K rfl) (pv 1) (po_some (pe_op op_add (pv 5) pe_int)) po_none)) (pa_cons (pe_slice (slK K rfl) (pv 1) po_none (po_some (pe_un un_neg pe_int))) (pa_cons (pe_op op_cat (pv 1) (pe_lst (pa_cons pe_int pa_nil))) (pa_cons (pe_callTy (tupleK K rfl) rfl T.tuple PyProof.Rows.boot_tuple (pa_cons (pv 1) pa_nil)) (pa_cons pe_non pa_nil)))))) (pe_op op_mod (pe_op op_fdiv (pv 2) pe_int) pe_int) (fun _ _ => rfl)))
        (@r4))))), ?_⟩
    refine ⟨_, rfl, (by show 1 ≤ sizeLine; decide), fun t ht => ⟨_, _, rfl, rfl, ⟨by decide, by decide, by decide⟩, (by show 8 ≤ sizeLine; decide), fun L hL => ?_⟩⟩
    have odds : ∀ {t : Addr} {Hx : Hp}, Hx t = some (.lst [.int 1]) → ∃ odd, atI [V.int (-1), V.int 5, V.bl true, V.non, V.str "1", V.ref t, V.int (10 ^ (20 : Int).toNat), V.bl false] ((n : Int) % 8) = some odd ∧ Kd K Hx odd ∧ isWh 0 4 odd = false := fun {t Hx} e => by
      obtain ⟨j, hj, ej⟩ : ∃ j : Nat, j < 8 ∧ (n : Int) % 8 = (j : Int) := ⟨((n : Int) % 8).toNat, by omega, by omega⟩
      rw [ej]
      match j, hj with
      | 0, _ => exact ⟨_, atI_nat rfl, .int _, rfl⟩
      | 1, _ => exact ⟨_, atI_nat rfl, .int _, rfl⟩
      | 2, _ => exact ⟨_, atI_nat rfl, .bl _, rfl⟩
      | 3, _ => exact ⟨_, atI_nat rfl, .non, rfl⟩
      | 4, _ => exact ⟨_, atI_nat rfl, .str _, rfl⟩
      | 5, _ => exact ⟨_, atI_nat rfl, .lst e, rfl⟩
      | 6, _ => exact ⟨_, atI_nat rfl, .int _, by decide +kernel⟩
      | 7, _ => exact ⟨_, atI_nat rfl, .bl _, rfl⟩
    obtain ⟨bad, eb, kb, hb⟩ := odds (t := t) (Hx := upd (upd H t (.lst [.int 1])) L (.lst [V.int (-1), V.int 5, V.bl true, V.non, V.str "1", V.ref t, V.int (10 ^ (20 : Int).toNat), V.bl false])) (same_new hL _ _ upd_same)
    refine ⟨_, rfl, _, _, rfl, rfl, (by show (0 : Int) < 8; decide), L, _, _, bad, rfl, rfl, SqL.of upd_same, eb, ?_⟩
    have s1 : Same H (upd (upd H t (.lst [.int 1])) L (.lst [V.int (-1), V.int 5, V.bl true, V.non, V.str "1", V.ref t, V.int (10 ^ (20 : Int).toNat), V.bl false])) := (same_new ht).trans (same_new hL)
    generalize upd (upd H t (.lst [.int 1])) L (.lst [V.int (-1), V.int 5, V.bl true, V.non, V.str "1", V.ref t, V.int (10 ^ (20 : Int).toNat), V.bl false]) = H1 at kb s1 ⊢
    clear ht hL eb odds
    have pic1 := pic.mono s1
    have ha1 := s1 _ _ ha
    have tab1 := tab.mono s1
    obtain ⟨q0, e01, e02, e03⟩ := ref_at pic1 (show 0 < R.length by omega)
    refine ⟨_, rfl, p, _, _, .ref q0, rfl, rfl, SqL.of pic1.top, atI_nat (j := 0) e02, ?_⟩
    have hl0 : (0 : Int) < ((rs.map V.int).length : Int) := by rw [List.length_map]; omega
    refine ⟨_, rfl, _, _, rfl, rfl, ⟨by decide, by decide⟩, _, rfl, a, _, rfl, .inl (SqL.of ha1), _, _, rfl, rfl, hl0, ?_⟩
    obtain ⟨y, hy, ey⟩ : ∃ y : Nat, y < rs.length ∧ (n : Int) / 8 % ((rs.map V.int).length : Int) = (y : Int) := by
      have h1 := Int.emod_nonneg ((n : Int) / 8) (by omega : ((rs.map V.int).length : Int) ≠ 0)
      have h2 := Int.emod_lt_of_pos ((n : Int) / 8) hl0
      refine ⟨((n : Int) / 8 % ((rs.map V.int).length : Int)).toNat, ?_, by omega⟩
      rw [List.length_map] at h2 ⊢
      omega
    show gName 5 (.int ((n : Int) / 8 % ((rs.map V.int).length : Int))) _ H1 _
    rw [ey]
    have lr : (rs.map V.int).length = R.length := by rw [List.length_map, hl]
    have kr : ∀ {Hx : Hp}, ∀ z ∈ rs.map V.int, Kd K Hx z := fun {Hx} => kd_ints
    refine ⟨_, rfl, _, rfl, _, rfl, a, _, rfl, SqL.of ha1, fun l1 hl1 => ?_⟩
    have c1 : (cutV (rs.map V.int) none (some (y : Int))).length ≤ 24 := Nat.le_trans (cutV_length _ _ _) (by rw [lr]; exact h24)
    have c2 : (cutV (rs.map V.int) (some ((y : Int) + 1)) none).length ≤ 24 := Nat.le_trans (cutV_length _ _ _) (by rw [lr]; exact h24)
    have z := same_new (o := HO.lst (cutV (rs.map V.int) none (some (y : Int)))) hl1
    have ha2 := z _ _ ha1
    have kb := kb.mono z
    have s2 := s1.trans z
    have e1 : upd H1 l1 (HO.lst (cutV (rs.map V.int) none (some (y : Int)))) l1 = _ := upd_same
    generalize upd H1 l1 (HO.lst (cutV (rs.map V.int) none (some (y : Int)))) = H2 at ha2 kb s2 e1 ⊢
    clear z
    refine ⟨_, rfl, (by show 1 ≤ sizeLine; decide), fun l2 hl2 => ?_⟩
    have z := same_new (o := HO.lst [bad]) hl2
    refine ⟨l1, l2, _, _, rfl, rfl, z _ _ e1, upd_same, Nat.le_trans (Nat.add_le_add_right c1 1) (by decide), fun l3 hl3 => ?_⟩
    have z := z.trans (same_new (o := HO.lst (cutV (rs.map V.int) none (some (y : Int)) ++ [bad])) hl3)
    have ha3 := z _ _ ha2
    have kb := kb.mono z
    have s3 := s2.trans z
    have e3 : upd (upd H2 l2 (HO.lst [bad])) l3 (HO.lst (cutV (rs.map V.int) none (some (y : Int)) ++ [bad])) l3 = _ := upd_same
    generalize upd (upd H2 l2 (HO.lst [bad])) l3 (HO.lst (cutV (rs.map V.int) none (some (y : Int)) ++ [bad])) = H3 at ha3 kb s3 e3 ⊢
    clear z e1 hl1 hl2 hl3
    refine ⟨_, rfl, _, rfl, _, _, rfl, rfl, _, rfl, a, _, rfl, SqL.of ha3, fun l4 hl4 => ?_⟩
    have z := same_new (o := HO.lst (cutV (rs.map V.int) (some ((y : Int) + 1)) none)) hl4
    have hlen : (cutV (rs.map V.int) none (some (y : Int)) ++ [bad]).length ≤ 25 := by rw [List.length_append]; exact Nat.add_le_add_right c1 1
    refine ⟨l3, l4, _, _, rfl, rfl, z _ _ e3, upd_same, Nat.le_trans (Nat.add_le_add hlen c2) (by decide), fun l5 hl5 => ?_⟩
    have z := z.trans (same_new (o := HO.lst (cutV (rs.map V.int) none (some (y : Int)) ++ [bad] ++ cutV (rs.map V.int) (some ((y : Int) + 1)) none)) hl5)
    have ha5 := z _ _ ha3
    have kb := kb.mono z
    have s5 := s3.trans z
    have e5 : upd (upd H3 l4 (HO.lst (cutV (rs.map V.int) (some ((y : Int) + 1)) none))) l5 (HO.lst (cutV (rs.map V.int) none (some (y : Int)) ++ [bad] ++ cutV (rs.map V.int) (some ((y : Int) + 1)) none)) l5 = _ := upd_same
    generalize upd (upd H3 l4 (HO.lst (cutV (rs.map V.int) (some ((y : Int) + 1)) none))) l5 (HO.lst (cutV (rs.map V.int) none (some (y : Int)) ++ [bad] ++ cutV (rs.map V.int) (some ((y : Int) + 1)) none)) = H5 at ha5 kb s5 e5 ⊢
    clear z e3 hl4 hl5
    have b5 : BadRs K H5 (.ref l5) R.length := .inl ⟨l5, _, rfl, e5, by rw [List.length_append]; omega, fun x hx => by
      simp only [List.mem_append, List.mem_singleton] at hx
      rcases hx with (hx | rfl) | hx
      · exact kr _ (cutV_mem hx)
      · exact kb
      · exact kr _ (cutV_mem hx), .inl (by
      rw [List.all_append, List.all_append]
      have : [bad].all (isWh 0 4) = false := by rw [List.all_cons, hb, Bool.false_and]
      rw [this, Bool.and_false, Bool.false_and])⟩
    refine ⟨_, rfl, _, rfl, _, rfl, a, _, rfl, SqL.of ha5, fun l6 hl6 => ?_⟩
    have z := same_new (o := HO.lst (cutV (rs.map V.int) none (some (-1)))) hl6
    have ha6 := z _ _ ha5
    have b5 := b5.mono z
    have kb := kb.mono z
    have s6 := s5.trans z
    have e6 : upd H5 l6 (HO.lst (cutV (rs.map V.int) none (some (-1)))) l6 = _ := upd_same
    generalize upd H5 l6 (HO.lst (cutV (rs.map V.int) none (some (-1)))) = H6 at ha6 b5 kb s6 e6 ⊢
    clear z hl6 e5
    have b6 : BadRs K H6 (.ref l6) R.length := .inl ⟨l6, _, rfl, e6, Nat.le_trans (cutV_length _ _ _) (by rw [lr]; omega), fun x hx => kr _ (cutV_mem hx), .inr (by rw [cutM1, List.length_take, lr]; omega)⟩
    refine ⟨_, rfl, (by show 1 ≤ sizeLine; decide), fun l7 hl7 => ?_⟩
    have z := same_new (o := HO.lst [V.int 0]) hl7
    refine ⟨a, l7, _, _, rfl, rfl, z _ _ ha6, upd_same, by rw [lr]; exact Nat.le_trans (Nat.add_le_add_right h24 1) (by decide), fun l8 hl8 => ?_⟩
    have z := z.trans (same_new (o := HO.lst (rs.map V.int ++ [V.int 0])) hl8)
    have ha8 := z _ _ ha6
    have b5 := b5.mono z
    have kb := kb.mono z
    have b6 := b6.mono z
    have s8 := s6.trans z
    have e8 : upd (upd H6 l7 (HO.lst [V.int 0])) l8 (HO.lst (rs.map V.int ++ [V.int 0])) l8 = _ := upd_same
    generalize upd (upd H6 l7 (HO.lst [V.int 0])) l8 (HO.lst (rs.map V.int ++ [V.int 0])) = H8 at ha8 b5 b6 kb s8 e8 ⊢
    clear z hl7 hl8 e6
    have b8 : BadRs K H8 (.ref l8) R.length := .inl ⟨l8, _, rfl, e8, by rw [List.length_append, lr]; show R.length + 1 ≤ 1000; omega, fun x hx => by
      rcases List.mem_append.mp hx with hx | hx
      · exact kr _ hx
      · rw [List.mem_singleton.mp hx]; exact .int _, .inr (by rw [List.length_append, lr]; show R.length + 1 ≠ R.length; omega)⟩
    refine ⟨_, rfl, a, _, rfl, .inl ⟨SqL.of ha8, fun l9 hl9 => ?_⟩⟩
    have z := same_new (o := HO.tup (rs.map V.int)) hl9
    have e9 : upd H8 l9 (HO.tup (rs.map V.int)) l9 = some (.tup (rs.map V.int)) := upd_same
    have b5 := b5.mono z
    have kb := kb.mono z
    have b6 := b6.mono z
    have b8 := b8.mono z
    have s9 := s8.trans z
    generalize upd H8 l9 (HO.tup (rs.map V.int)) = H9 at b5 b6 b8 kb s9 e9 ⊢
    clear z hl9
    have b9 : BadRs K H9 (.ref l9) R.length := .inr ⟨.tup e9, by simp only [isL, e9]⟩
    refine ⟨(by show 5 ≤ sizeLine; decide), fun M hM => ?_⟩
    have z := same_new (o := HO.lst [V.ref l5, V.ref l6, V.ref l8, V.ref l9, V.non]) hM
    obtain ⟨vs, hv, ev⟩ := atI_memN (xs := [V.ref l5, V.ref l6, V.ref l8, V.ref l9, V.non]) (j := n / 200 % 5) (by show n / 200 % 5 < 5; omega)
    have ej : ((n / 200 % 5 : Nat) : Int) = (n : Int) / 200 % 5 := by omega
    rw [ej] at ev
    refine ⟨_, rfl, _, _, rfl, rfl, ⟨by decide, by decide⟩, _, _, rfl, rfl, (by show (0 : Int) < 5; decide), M, _, _, vs, rfl, rfl, SqL.of upd_same, ev, ?_⟩
    have bs : BadRs K H9 vs R.length := by
      simp only [List.mem_cons, List.not_mem_nil, or_false] at hv
      rcases hv with rfl | rfl | rfl | rfl | rfl
      · exact b5
      · exact b6
      · exact b8
      · exact b9
      · exact .inr ⟨.non, rfl⟩
    have sM := s9.trans z
    have kbM : Kd K (upd H9 M (HO.lst [V.ref l5, V.ref l6, V.ref l8, V.ref l9, V.non])) bad := kb.mono z
    exact k4 bad vs q0 _ _ (pic.mono sM) (tab.mono sM) (NT.of sM) kbM hb (bs.mono z)
end
end K23
set_option Elab.async false
set_option linter.all false
set_option maxRecDepth 100000
set_option maxHeartbeats 1600000
namespace K23
open PySem L2 M4
theorem gRow_at {H : Hp} {q : Addr} {r : List V} (e : H q = some (.lst r)) : gRow H (.ref q) = r := by simp only [gRow, e]
theorem gRow_map {H : Hp} : ∀ {l : List Addr} {S : List (List V)}, Paired (fun p r => H p = some (.lst r)) l S → (l.map V.ref).map (gRow H) = S
  | _, _, .nil => rfl
  | _, _, .cons r t => by rw [List.map_cons, List.map_cons, gRow_map t, gRow_at r]
theorem atI_nat0 {α : Type} {xs : List α} {j : Nat} {v : α} (h : xs[j]? = some v) : atI xs (0 + (j : Int)) = some v := by rw [Int.zero_add]; exact atI_nat h
theorem EqL.pic {K : PySem.W.Frag} {H : Hp} {a b : Addr} {ps qs : List Addr} {rows : List (List Int)} (pa : PicV H a ps (ir rows)) (pb : PicV H b qs (ir rows)) : EqL K H (EqD K H 1) a b true := by
  refine ⟨ps.map V.ref, qs.map V.ref, .inr ⟨.inl ⟨SqL.of pa.top, SqL.of pb.top⟩, by rw [List.length_map, List.length_map, pa.len, pb.len], fun _ => true, fun i x y h1 h2 => ?_, (range_all fun _ _ => rfl).symm⟩⟩
  obtain ⟨p, hp, rfl⟩ := getElem?_ref h1
  obtain ⟨q, hq, rfl⟩ := getElem?_ref h2
  by_cases e : p = q
  · subst e; exact .inl (.inl ⟨p, rfl, rfl, rfl⟩)
  · obtain ⟨r, hr, e1⟩ := pa.at hp
    obtain ⟨r', hr', e2⟩ := pb.at hq
    rw [hr] at hr'; cases hr'
    refine .inr ⟨p, q, rfl, rfl, e, EqL.same (.inl ⟨SqL.of e1, SqL.of e2⟩) fun z hz => ?_⟩
    unfold ir at hr
    rw [List.getElem?_map] at hr
    cases hg : rows[i]? with
    | none => rw [hg] at hr; cases hr
    | some ns =>
      rw [hg] at hr; cases hr
      obtain ⟨n, _, rfl⟩ := List.mem_map.mp hz
      exact .inl rfl
theorem EqL.all {K : PySem.W.Frag} {H : Hp} {n : Nat} {p q : Addr} {xs ys : List V} (hp : H p = some (.lst xs)) (hq : H q = some (.lst ys)) (hl : xs.length = ys.length) (h : ∀ (i : Nat) x y, xs[i]? = some x → ys[i]? = some y → EqD K H n x y true) : EqL K H (EqD K H n) p q true :=
  ⟨xs, ys, .inr ⟨.inl ⟨SqL.of hp, SqL.of hq⟩, hl, fun _ => true, h, (range_all fun _ _ => rfl).symm⟩⟩
theorem eqL_ints {K : PySem.W.Frag} {H : Hp} {x y : Addr} {zs : List Int} (hx : H x = some (.lst (zs.map V.int))) (hy : H y = some (.lst (zs.map V.int))) : EqL K H (EqD K H 0) x y true := EqL.same (.inl ⟨SqL.of hx, SqL.of hy⟩) fun z hz => by
  obtain ⟨n, _, rfl⟩ := List.mem_map.mp hz
  exact .inl rfl
theorem eqD_ints {K : PySem.W.Frag} {H : Hp} {x y : Addr} {zs : List Int} (hx : H x = some (.lst (zs.map V.int))) (hy : H y = some (.lst (zs.map V.int))) : EqD K H 1 (.ref x) (.ref y) true := by
  by_cases e : x = y
  · subst e; exact .inl (.inl ⟨x, rfl, rfl, rfl⟩)
  · refine .inr ⟨x, y, rfl, rfl, e, EqL.same (.inl ⟨SqL.of hx, SqL.of hy⟩) fun z hz => ?_⟩
    obtain ⟨n, _, rfl⟩ := List.mem_map.mp hz
    exact .inl rfl
theorem eqD_ab {K : PySem.W.Frag} {H : Hp} {v u : V} {up : Option (List Int)} (a : AbV H v up) (b : AbV H u up) : EqD K H 1 v u true := by
  rcases a with ⟨rfl, rfl⟩ | ⟨q, z, rfl, rfl, e⟩
  · rcases b with ⟨rfl, _⟩ | ⟨_, _, _, h, _⟩
    · exact .inl (.inr ⟨rfl, rfl, rfl⟩)
    · cases h
  · rcases b with ⟨_, h⟩ | ⟨q2, z2, rfl, h, e2⟩
    · cases h
    · cases h; exact eqD_ints e e2
theorem EqL.two {K : PySem.W.Frag} {H : Hp} {n : Nat} {p q : Addr} {x1 x2 y1 y2 : V} (hp : H p = some (.lst [x1, x2])) (hq : H q = some (.lst [y1, y2])) (h1 : EqD K H n x1 y1 true) (h2 : EqD K H n x2 y2 true) : EqL K H (EqD K H n) p q true :=
  EqL.all hp hq rfl fun i x y e1 e2 => by
    match i, e1, e2 with
    | 0, e1, e2 => cases e1; cases e2; exact h1
    | 1, e1, e2 => cases e1; cases e2; exact h2
    | i + 2, e1, e2 => cases e1
theorem EqL.three {K : PySem.W.Frag} {H : Hp} {n : Nat} {p q : Addr} {x1 x2 x3 y1 y2 y3 : V} (hp : H p = some (.lst [x1, x2, x3])) (hq : H q = some (.lst [y1, y2, y3])) (h1 : EqD K H n x1 y1 true) (h2 : EqD K H n x2 y2 true) (h3 : EqD K H n x3 y3 true) : EqL K H (EqD K H n) p q true :=
  EqL.all hp hq rfl fun i x y e1 e2 => by
    match i, e1, e2 with
    | 0, e1, e2 => cases e1; cases e2; exact h1
    | 1, e1, e2 => cases e1; cases e2; exact h2
    | 2, e1, e2 => cases e1; cases e2; exact h3
    | i + 3, e1, e2 => cases e1
noncomputable def But (d : Addr) (H H' : Hp) : Prop := ∀ b o, b ≠ d → H b = some o → H' b = some o
theorem But.trans {d : Addr} {H H1 H2 : Hp} (a : But d H H1) (b : But d H1 H2) : But d H H2 := fun x o n e => b x o n (a x o n e)
theorem But.of {d : Addr} {H H1 : Hp} (s : Same H H1) : But d H H1 := fun x o _ e => s x o e
noncomputable def PairC (H : Hp) (kp : Addr → Prop) (f g : Addr) : Prop := kp f ∧ kp g ∧ ((∃ zs : List Int, H f = some (.lst (zs.map V.int)) ∧ H g = some (.lst (zs.map V.int))) ∨ ∃ ps qs R, PicV H f ps (ir R) ∧ PicV H g qs (ir R) ∧ (∀ x ∈ ps, kp x) ∧ ∀ x ∈ qs, kp x)
noncomputable def Pair (H : Hp) (kp : Addr → Prop) (t : Addr) : Prop := kp t ∧ ∃ f g, H t = some (.tup [.ref f, .ref g]) ∧ PairC H kp f g
theorem PicV.kept {H H' : Hp} {kp : Addr → Prop} {f : Addr} {ps : List Addr} {R : List (List V)} (k : ∀ b o, kp b → H b = some o → H' b = some o) (p : PicV H f ps R) (h1 : kp f) (h2 : ∀ x ∈ ps, kp x) : PicV H' f ps R := ⟨k _ _ h1 p.top, Paired.mapI p.row fun q _ hq e => k _ _ (h2 q hq) e, p.nd, p.out⟩
theorem PairC.keep {H H' : Hp} {kp : Addr → Prop} {f g : Addr} (p : PairC H kp f g) (k : ∀ b o, kp b → H b = some o → H' b = some o) : PairC H' kp f g := by
  obtain ⟨h1, h2, ⟨zs, e1, e2⟩ | ⟨ps, qs, R, p1, p2, h3, h4⟩⟩ := p
  · exact ⟨h1, h2, .inl ⟨zs, k _ _ h1 e1, k _ _ h2 e2⟩⟩
  · exact ⟨h1, h2, .inr ⟨ps, qs, R, PicV.kept k p1 h1 h3, PicV.kept k p2 h2 h4, h3, h4⟩⟩
theorem Pair.keep {H H' : Hp} {kp : Addr → Prop} {t : Addr} (p : Pair H kp t) (k : ∀ b o, kp b → H b = some o → H' b = some o) : Pair H' kp t := by
  obtain ⟨h, f, g, e, c⟩ := p
  exact ⟨h, f, g, k _ _ h e, c.keep k⟩
theorem PairC.weak {H : Hp} {kp kp' : Addr → Prop} {f g : Addr} (p : PairC H kp f g) (k : ∀ b, kp b → kp' b) : PairC H kp' f g := by
  obtain ⟨h1, h2, ⟨zs, e1, e2⟩ | ⟨ps, qs, R, p1, p2, h3, h4⟩⟩ := p
  · exact ⟨k _ h1, k _ h2, .inl ⟨zs, e1, e2⟩⟩
  · exact ⟨k _ h1, k _ h2, .inr ⟨ps, qs, R, p1, p2, fun x hx => k _ (h3 x hx), fun x hx => k _ (h4 x hx)⟩⟩
theorem Pair.weak {H : Hp} {kp kp' : Addr → Prop} {t : Addr} (p : Pair H kp t) (k : ∀ b, kp b → kp' b) : Pair H kp' t := by
  obtain ⟨h, f, g, e, c⟩ := p
  exact ⟨k _ h, f, g, e, c.weak k⟩
noncomputable def kpD (d : Addr) : Addr → Prop := fun x => x ≠ d
noncomputable def kpE (d : Addr) (xs : List Addr) (i : Nat) : Addr → Prop := fun x => x ≠ d ∧ ∀ j, i ≤ j → xs[j]? ≠ some x
theorem kpE.weak {d : Addr} {xs : List Addr} {i : Nat} {x : Addr} (h : kpE d xs i x) : kpE d xs (i + 1) x := ⟨h.1, fun j hj => h.2 j (by omega)⟩
theorem nodup_at {xs : List Addr} (h : xs.Nodup) {i j : Nat} {x : Addr} (h1 : xs[i]? = some x) (h2 : xs[j]? = some x) : i = j := by
  obtain ⟨l1, e1⟩ := List.getElem?_eq_some_iff.mp h1
  obtain ⟨l2, e2⟩ := List.getElem?_eq_some_iff.mp h2
  rcases Nat.lt_trichotomy i j with z | z | z
  · exact absurd (e1.trans e2.symm) (List.pairwise_iff_getElem.mp h i j l1 l2 z)
  · exact z
  · exact absurd (e2.trans e1.symm) (List.pairwise_iff_getElem.mp h j i l2 l1 z)
structure RowSt (H H1 H2 : Hp) (r : List Int) (up : Option (List Int)) (rl : Nat) (h0 L D F B O : Addr) (hv : V) : Prop where
  s1 : Same H H1
  s2 : Same H1 H2
  f0 : H h0 = none
  e0 : H1 h0 = some (.lst (r.map V.int))
  fv : ∀ q, hv = .ref q → H q = none ∧ q ≠ h0
  av : AbV H1 hv up
  eL : H1 L = some (.lst [.ref h0, hv])
  fr : ∀ x ∈ [D, F, B, O], H1 x = none
  eD : H2 D = some (.lst ((foldR r up rl).map V.int))
  eF : H2 F = some (.lst ((foldR r up rl).map V.int))
  eB : H2 B = some (.lst (r.map V.int))
  eO : H2 O = some (.lst ((ufR r up rl).map V.int))
  nd : [F, B, O].Nodup
  nD : D ∉ [F, B, O]
theorem RowSt.mono {H H1 H2 H3 : Hp} {r : List Int} {up : Option (List Int)} {rl : Nat} {h0 L D F B O : Addr} {hv : V} (x : RowSt H H1 H2 r up rl h0 L D F B O hv) (s : Same H2 H3) : RowSt H H1 H3 r up rl h0 L D F B O hv :=
  ⟨x.s1, x.s2.trans s, x.f0, x.e0, x.fv, x.av, x.eL, x.fr, s _ _ x.eD, s _ _ x.eF, s _ _ x.eB, s _ _ x.eO, x.nd, x.nD⟩
theorem ne_new {H : Hp} {a b : Addr} {o : HO} (e : H a = some o) (h : H b = none) : a ≠ b := fun z => by rw [z, h] at e; cases e
noncomputable def spCopy (K : PySem.W.Frag) : Sp := fun vs H Q _ => ∃ (p : Addr) (ps : List Addr) (R : List (List Int)), vs = [.ref p] ∧ PicV H p ps (ir R) ∧ R.length ≤ 24 ∧ ∀ q qs H', Same H H' → H q = none → Fresh H qs → PicV H' q qs (ir R) → Q (.ref q) H'
noncomputable def spRowG (K : PySem.W.Frag) : Sp := fun vs H Q _ => ∃ (a d : Addr) (v : V) (r : List Int) (up : Option (List Int)) (rl : Nat) (ts : List Addr), vs = [.ref a, v, .int (rl : Int), .ref d] ∧ H a = some (.lst (r.map V.int)) ∧ AbV H v up ∧ RowOk r up ∧ rl ≤ 4 ∧ H d = some (.lst (ts.map V.ref)) ∧ ts.length ≤ 500 ∧ a ≠ d ∧ (∀ q, v = .ref q → q ≠ d) ∧ ∀ zs H', zs.length = 3 → But d H H' → H' d = some (.lst ((ts ++ zs).map V.ref)) → (∀ t ∈ zs, Pair H' (kpD d) t) → Q (.bl true) H'
section
variable {P : Program} {w : World} {K : PySem.W.Frag} {mg : Str → Option Value} {base : Heap} {cFE cBP cBR : Addr} {tS tC tR t1 t2 t3 t4 : Tok}
theorem sc_law_copy : FnScope ["_law_rows"] ["_law_rows"] (defScope s_law_copy) := ⟨rfl, rfl, rfl, by decide +kernel, rfl, by decide +kernel, by decide +kernel⟩
theorem ok_law_copy {f : Addr} {fd : FuncData} (F : FunD K "_law_copy" "_law_copy" s_law_copy .none f fd) (T : Txt K mg cFE cBP cBR tS tC tR t1 t2 t3 t4) : FnOk P w K mg base CX0 1 f fd ["_law_rows"] (spCopy K) := by
  refine F.ok sc_law_copy (fun vs H Q E h => ?_) (fun cdv A outer s H vs Q E hr h => ?_)
  · obtain ⟨p, ps, R, rfl, _⟩ := h; rfl
  · obtain ⟨p, ps, R, rfl, pic, h24, k⟩ := h
    have lp : ps.length = R.length := by rw [pic.len, ir_len]
    refine ⟨_, (pss_one (ps_ret (pe_comp (N := ["_law_row"]) (src := [none]) rfl ⟨rfl, rfl, rfl, rfl, rfl, by decide +kernel⟩ (piK K rfl (pv 0)) (fun s H C fp => pg_name (i := 0) (show (["_law_row"] : List Str).Nodup by decide +kernel) rfl (by first | exact Or.inl rfl | exact Or.inr rfl)) (fun s H C fp => pts_nil) (fun s H C fp => (pe_callTy (listK K rfl) rfl T.list PyProof.Rows.boot_list (pa_cons (pv 0) pa_nil)))))), ?_⟩
    refine ⟨_, rfl, p, rfl, ⟨_, SqL.of pic.top⟩, fun D2 hD2 => ?_⟩
    refine comp_rows (k := 0) (gRow H) (src_list (SqL.of pic.top)) (by rw [List.length_map, lp]; exact Nat.le_trans h24 (by decide)) hD2 (fun x hx H' Q' sm kk => ?_) fun qs Hc sc frc picH => ?_
    · obtain ⟨q, hq, rfl⟩ := List.mem_map.mp hx
      obtain ⟨r, _, e1⟩ := pic.mem hq
      refine ⟨_, rfl, q, _, rfl, .inl (SqL.of (sm _ _ e1)), fun l hl => kk l _ (same_new hl) hl ?_⟩
      rw [upd_same, gRow_at e1]
    rw [gRow_map pic.row] at picH
    exact k D2 qs Hc sc hD2 frc picH
theorem sc_law_row_good : FnScope ["_law_row", "_law_above", "_law_rule", "_law_held", "_law_handed", "_law_due", "_law_found", "_law_back", "_law_other", "_law_kept", "_law_one"] ["_law_row", "_law_above", "_law_rule", "_law_held"] (defScope s_law_row_good) := ⟨rfl, rfl, rfl, by decide +kernel, rfl, by decide +kernel, by decide +kernel⟩
theorem ok_law_row_good {f : Addr} {fd : FuncData} (F : FunD K "_law_row_good" "_law_row_good" s_law_row_good .none f fd) (T : Txt K mg cFE cBP cBR tS tC tR t1 t2 t3 t4) (g__law_folded : Def P w K mg base 2 "_law_folded" ["_law_row", "_law_above", "_law_rule"] [] (spLFold K)) (g_folded_row : Def P w K mg base 5 "folded_row" ["row", "above", "rule"] [] (spFoldR K)) (g_unfolded_row : Def P w K mg base 5 "unfolded_row" ["row", "above", "rule"] [] (spUnfR K)) (g__law_numbers : Def P w K mg base 2 "_law_numbers" ["_law_found", "_law_due"] [] (spNums K)) : FnOk P w K mg base CX0 6 f fd ["_law_row", "_law_above", "_law_rule", "_law_held"] (spRowG K) := by
  refine F.ok sc_law_row_good (fun vs H Q E h => ?_) (fun cdv A outer s H vs Q E hr h => ?_)
  · obtain ⟨a, d, v, r, up, rl, ts, rfl, _⟩ := h; rfl
  · obtain ⟨a, d, v, r, up, rl, ts, rfl, ha, av, ok, h4, hd, hts, nad, nvd, k⟩ := h
    have hu : _ + 64 < cLine := hr.units
    have l24 := ok.l24
    have l1 := ok.l1
    have avD : ∀ {H' : Hp}, But d H H' → AbV H' v up := fun {H'} b => by
      rcases av with e | ⟨q, u, rfl, rfl, e⟩
      · exact .inl e
      · exact .inr ⟨q, u, rfl, rfl, b _ _ (nvd q rfl) e⟩
    obtain ⟨t12, r12, k12⟩ : ∃ tr, PSs ((cxOf CX0 P w K mg base ["_law_row", "_law_above", "_law_rule", "_law_held", "_law_handed", "_law_due", "_law_found", "_law_back", "_law_other", "_law_kept", "_law_one"] "_law_row_good" (defScope s_law_row_good) f cdv A outer s H E).nox) ((defBody s_law_row_good).drop 12) tr ∧
        ∀ (D F B O : Addr) (v4 v9 : Option V) (H2 : Hp), But d H H2 → H2 d = some (.lst (ts.map V.ref)) → H2 D = some (.lst ((foldR r up rl).map V.int)) → H2 F = some (.lst ((foldR r up rl).map V.int)) → H2 B = some (.lst (r.map V.int)) → H2 O = some (.lst ((ufR r up rl).map V.int)) →
          [F, B, O].Nodup → (∀ x ∈ [F, B, O], H x = none ∧ x ≠ d ∧ x ≠ D) → D ≠ d →
          tr { nx := fun _ H' => Q .non H', rt := Q } [some (.ref a), some v, some (.int (rl : Int)), some (.ref d), v4, some (.ref D), some (.ref F), some (.ref B), some (.ref O), v9, none] H2 := by
      refine ⟨_, (pss_cons (ps_for PassesOwn.never rfl (piTK K rfl (pe_tup (pa_cons (pv 6) (pa_cons (pv 7) (pa_cons (pv 8) pa_nil))))) (pg_name (i := 10) sc_law_row_good.nd rfl (by first | exact Or.inl rfl | exact Or.inr rfl)) (pss_cons (ps_expr (pe_bm PySem.F.plainAttrs_list PySem.F.slot_list_append PySem.F.type_list_append mt_append (pv 10) (pa_cons pe_int pa_nil)))
        (pss_one (ps_expr (pe_bm PySem.F.plainAttrs_list PySem.F.slot_list_append PySem.F.type_list_append mt_append (pv 3) (pa_cons (pe_tup (pa_cons (pv 10) (pa_cons (pe_callTy (listK K rfl) rfl T.list PyProof.Rows.boot_list (pa_cons (pv 10) pa_nil)) pa_nil))) pa_nil))))))
        (pss_one (ps_ret (pe_cmpR (eqDK K rfl hu) (pe_callD g_folded_row (hr.mono (by decide)) rfl (pa_cons (pe_callTy (listK K rfl) rfl T.list PyProof.Rows.boot_list (pa_cons (pv 0) pa_nil)) (pa_cons (pv 1) (pa_cons (pv 2) pa_nil)))) (pv 5) (nomark _))))), ?_⟩
      intro D F B O v4 v9 H2 b2 hd2 eD eF eB eO nd fr nDd
      refine ⟨_, rfl, _, rfl, _, rfl, (by show 3 ≤ sizeLine; decide), fun TT hTT => ?_⟩
      have z := same_new (o := HO.tup [V.ref F, V.ref B, V.ref O]) hTT
      have eT : upd H2 TT (HO.tup [V.ref F, V.ref B, V.ref O]) TT = some (.tup [V.ref F, V.ref B, V.ref O]) := upd_same
      have nT : ∀ x ∈ [F, B, O], x ≠ TT := fun x hx e => by
        simp only [List.mem_cons, List.not_mem_nil, or_false] at hx
        rcases hx with rfl | rfl | rfl
        · rw [e, hTT] at eF; cases eF
        · rw [e, hTT] at eB; cases eB
        · rw [e, hTT] at eO; cases eO
      have nTd : TT ≠ d := fun e => by rw [e, hd2] at hTT; cases hTT
      have cs : ∀ (j : Nat) (x : Addr), [F, B, O][j]? = some x → ∃ c : List Int, c.length ≤ 24 ∧ upd H2 TT (HO.tup [V.ref F, V.ref B, V.ref O]) x = some (.lst (c.map V.int)) := fun (j : Nat) (x : Addr) (hx : [F, B, O][j]? = some x) => by
        match j, hx with
        | 0, hx => cases hx; exact ⟨_, by rw [(foldR_ok ok rl).1]; exact l24, z _ _ eF⟩
        | 1, hx => cases hx; exact ⟨_, l24, z _ _ eB⟩
        | 2, hx => cases hx; exact ⟨_, by rw [(ufR_ok ok rl).1]; exact l24, z _ _ eO⟩
      have b3 := b2.trans (But.of z)
      have hd3 := z _ _ hd2
      have eD3 := z _ _ eD
      generalize upd H2 TT (HO.tup [V.ref F, V.ref B, V.ref O]) = H3 at eT cs b3 hd3 eD3 ⊢
      clear z eF eB eO hTT hd2 eD b2
      refine ⟨TT, rfl, ⟨_, SqT.of eT⟩, ?_⟩
      refine for_tup (xs := [V.ref F, V.ref B, V.ref O]) (fun i σ H4 => But d H H4 ∧ H4 TT = some (.tup [V.ref F, V.ref B, V.ref O]) ∧ H4 D = some (.lst ((foldR r up rl).map V.int)) ∧ (∀ (j : Nat) (x : Addr), i ≤ j → [F, B, O][j]? = some x → ∃ c : List Int, c.length ≤ 24 ∧ H4 x = some (.lst (c.map V.int))) ∧ ∃ (zs : List Addr) (v10 : Option V), zs.length = i ∧ H4 d = some (.lst ((ts ++ zs).map V.ref)) ∧ (∀ t ∈ zs, Pair H4 (kpE d [F, B, O] i) t) ∧ σ = [some (.ref a), some v, some (.int (rl : Int)), some (.ref d), v4, some (.ref D), some (.ref F), some (.ref B), some (.ref O), v9, v10])
        ⟨b3, eT, eD3, fun j x _ hx => cs j x hx, [], none, rfl, by rw [List.append_nil]; exact hd3, (fun t ht => nomatch ht), rfl⟩ (fun i σ H4 _ q => SqT.of q.2.1) ?_ ?_
      · rintro i x0 σ H4 hx ⟨b4, eT4, eD4, cs4, zs, v10, hz, hd4, pr4, rfl⟩
        obtain ⟨x, hxi, rfl⟩ := getElem?_ref (ps := [F, B, O]) hx
        have hi : i < 3 := (List.getElem?_eq_some_iff.mp hxi).1
        obtain ⟨c, lc, ex⟩ := cs4 i x (Nat.le_refl _) hxi
        have hxm := List.mem_of_getElem? hxi
        obtain ⟨x1, x2, x3⟩ := fr x hxm
        refine ⟨_, rfl, .inl ⟨rfl, _, SqL.of ex⟩, x, _, .int 99, rfl, rfl, ex, ?_, ?_⟩
        · rw [List.length_map]; exact Nat.lt_of_le_of_lt lc (by decide)
        have e99 : c.map V.int ++ [V.int 99] = (c ++ [99]).map V.int := by rw [List.map_append]; rfl
        rw [e99]
        have k5 : ∀ b o, b ≠ x → H4 b = some o → upd H4 x (.lst ((c ++ [99]).map V.int)) b = some o := fun b o n e => by rw [upd_ne n]; exact e
        have e5 : upd H4 x (.lst ((c ++ [99]).map V.int)) x = some (.lst ((c ++ [99]).map V.int)) := upd_same
        generalize upd H4 x (.lst ((c ++ [99]).map V.int)) = H5 at k5 e5 ⊢
        have hd5 := k5 _ _ (Ne.symm x2) hd4
        refine ⟨_, rfl, .inl ⟨rfl, _, SqL.of hd5⟩, _, rfl, _, rfl, x, _, rfl, .inl (SqL.of e5), fun GG hG => ⟨(by show 2 ≤ sizeLine; decide), fun t ht => ?_⟩⟩
        have s6 := same_new (o := HO.lst ((c ++ [99]).map V.int)) hG
        have eG := upd_same (H := H5) (a := GG) (o := HO.lst ((c ++ [99]).map V.int))
        have s7 := s6.trans (same_new (o := HO.tup [V.ref x, V.ref GG]) ht)
        have et := upd_same (H := upd H5 GG (HO.lst ((c ++ [99]).map V.int))) (a := t) (o := HO.tup [V.ref x, V.ref GG])
        have eG := same_new (o := HO.tup [V.ref x, V.ref GG]) ht _ _ eG
        have hG' : ∀ {b o}, H5 b = some o → b ≠ GG := fun {b o} e z => by rw [z, hG] at e; cases e
        have ht' : ∀ {b o}, H5 b = some o → b ≠ t := fun {b o} e z => by rw [z] at e; rw [s6 _ _ e] at ht; cases ht
        generalize upd (upd H5 GG (HO.lst ((c ++ [99]).map V.int))) t (HO.tup [V.ref x, V.ref GG]) = H6 at s7 et eG ⊢
        have cur : ∀ b o, b ≠ x → b ≠ d → H4 b = some o → upd H6 d (HO.lst ((ts ++ zs).map V.ref ++ [.ref t])) b = some o := fun b o n1 n2 e => by rw [upd_ne n2]; exact s7 _ _ (k5 _ _ n1 e)
        refine ⟨d, _, .ref t, rfl, rfl, s7 _ _ hd5, ?_, ?_⟩
        · rw [List.length_map, List.length_append, hz]; exact Nat.lt_of_le_of_lt (Nat.add_le_add hts (Nat.le_of_lt hi)) (by decide)
        have ntd : t ≠ d := fun z => ht' hd5 z.symm
        have nGd : GG ≠ d := fun z => hG' hd5 z.symm
        have rest5 : ∀ j y, i + 1 ≤ j → [F, B, O][j]? = some y → y ≠ x ∧ y ≠ d ∧ ∃ o, H5 y = some o := fun j y hj hy => by
          have ne : y ≠ x := fun e => by
            rw [e] at hy
            have := nodup_at nd hy hxi
            omega
          obtain ⟨c', _, ec⟩ := cs4 j y (by omega) hy
          exact ⟨ne, (fr y (List.mem_of_getElem? hy)).2.1, _, k5 _ _ ne ec⟩
        refine ⟨fun b o n e => ?_, cur _ _ (fun e => nT x hxm e.symm) nTd eT4, cur _ _ (Ne.symm x3) nDd eD4, fun j y hj hy => ?_, zs ++ [t], _, by rw [List.length_append, hz]; rfl, ?_, fun u hu' => ?_, rfl⟩
        · refine cur b o (fun z => ?_) n (b4 _ _ n e)
          rw [z, x1] at e; cases e
        · obtain ⟨c', lc', ec⟩ := cs4 j y (by omega) hy
          obtain ⟨n1, n2, _⟩ := rest5 j y hj hy
          exact ⟨c', lc', cur _ _ n1 n2 ec⟩
        · simp only [upd_same, List.map_append, List.append_assoc, List.map_cons, List.map_nil]
        · rcases List.mem_append.mp hu' with h | h
          · exact ((pr4 u h).keep fun b o hb e => cur b o (fun z => hb.2 i (Nat.le_refl _) (by rw [z]; exact hxi)) hb.1 e).weak fun b hb => kpE.weak hb
          · rw [List.mem_singleton.mp h]
            refine ⟨⟨ntd, fun j hj hy => ?_⟩, x, GG, by rw [upd_ne ntd]; exact et, ⟨x2, fun j hj hy => ?_⟩, ⟨nGd, fun j hj hy => ?_⟩, .inl ⟨c ++ [99], by rw [upd_ne x2]; exact s7 _ _ e5, by rw [upd_ne nGd]; exact eG⟩⟩
            · obtain ⟨_, _, o, eo⟩ := rest5 j t hj hy
              exact ht' eo rfl
            · exact (rest5 j x hj hy).1 rfl
            · obtain ⟨_, _, o, eo⟩ := rest5 j GG hj hy
              exact hG' eo rfl
      · rintro σ H4 ⟨b4, eT4, eD4, cs4, zs, v10, hz, hd4, pr4, rfl⟩
        refine ⟨_, rfl, a, _, rfl, .inl (SqL.of (b4 _ _ nad ha)), fun l hl => ?_⟩
        have z := same_new (o := HO.lst (r.map V.int)) hl
        refine ⟨_, rfl, _, rfl, l, v, r, up, rl, rfl, upd_same, (avD b4).mono z, ok, h4, fun q H6 s6 hq hq6 => ?_⟩
        have z6 := z.trans s6
        refine ⟨_, rfl, 0, q, D, true, by decide, rfl, rfl, eqL_ints hq6 (z6 _ _ eD4), ?_⟩
        exact k zs H6 hz (b4.trans (But.of z6)) (z6 _ _ hd4) fun t ht => ((pr4 t ht).keep fun b o _ e => z6 _ _ e).weak fun b hb => hb.1
    obtain ⟨t11, r11, k11⟩ : ∃ tr, PSs ((cxOf CX0 P w K mg base ["_law_row", "_law_above", "_law_rule", "_law_held", "_law_handed", "_law_due", "_law_found", "_law_back", "_law_other", "_law_kept", "_law_one"] "_law_row_good" (defScope s_law_row_good) f cdv A outer s H E).nox) ((defBody s_law_row_good).drop 11) tr ∧
        ∀ (D F B O Kp x1 x2 x3 : Addr) (v4 : Option V) (H2 : Hp), Same H H2 → H2 D = some (.lst ((foldR r up rl).map V.int)) → H2 F = some (.lst ((foldR r up rl).map V.int)) → H2 B = some (.lst (r.map V.int)) → H2 O = some (.lst ((ufR r up rl).map V.int)) →
          [F, B, O].Nodup → D ∉ [F, B, O] → (∀ x ∈ [D, F, B, O], H x = none) → H2 Kp = some (.lst [.ref x1, .ref x2, .ref x3]) → H2 x1 = some (.lst ((foldR r up rl).map V.int)) → H2 x2 = some (.lst (r.map V.int)) → H2 x3 = some (.lst ((ufR r up rl).map V.int)) →
          tr { nx := fun _ H' => Q .non H', rt := Q } [some (.ref a), some v, some (.int (rl : Int)), some (.ref d), v4, some (.ref D), some (.ref F), some (.ref B), some (.ref O), some (.ref Kp), none] H2 := by
      refine ⟨_, (pss_cons (ps_if (pt_cmpR (neDK K rfl hu) (pe_lst (pa_cons (pv 6) (pa_cons (pv 7) (pa_cons (pv 8) pa_nil)))) (pv 9) (nomark _)) (pss_one (ps_ret pe_bl)) pss_nil)
        (@r12)), ?_⟩
      intro D F B O Kp x1 x2 x3 v4 H2 s2 eD eF eB eO nd nD fr eK e1 e2 e3
      refine ⟨_, rfl, _, rfl, _, rfl, (by show 3 ≤ sizeLine; decide), fun M hM => ?_⟩
      have z := same_new (o := HO.lst [V.ref F, V.ref B, V.ref O]) hM
      refine ⟨_, rfl, 1, M, Kp, true, by decide, rfl, rfl, EqL.three upd_same (z _ _ eK) (eqD_ints (z _ _ eF) (z _ _ e1)) (eqD_ints (z _ _ eB) (z _ _ e2)) (eqD_ints (z _ _ eO) (z _ _ e3)), _, rfl, iteF ?_⟩
      have dn : ∀ x ∈ [D, F, B, O], x ≠ d := fun x hx => Ne.symm (ne_new hd (fr x hx))
      exact k12 D F B O _ _ _ (But.of (s2.trans z)) (z _ _ (s2 _ _ hd)) (z _ _ eD) (z _ _ eF) (z _ _ eB) (z _ _ eO) nd (fun x hx => ⟨fr x (List.mem_cons_of_mem _ hx), dn x (List.mem_cons_of_mem _ hx), fun z => nD (by rw [← z]; exact hx)⟩) (dn D List.mem_cons_self)
    obtain ⟨t9, r9, k9⟩ : ∃ tr, PSs ((cxOf CX0 P w K mg base ["_law_row", "_law_above", "_law_rule", "_law_held", "_law_handed", "_law_due", "_law_found", "_law_back", "_law_other", "_law_kept", "_law_one"] "_law_row_good" (defScope s_law_row_good) f cdv A outer s H E).nox) ((defBody s_law_row_good).drop 9) tr ∧
        ∀ (h0 L D F B O Kp x1 x2 x3 : Addr) (hv : V) (H1 H2 : Hp), RowSt H H1 H2 r up rl h0 L D F B O hv → (∀ x ∈ [Kp, x1, x2, x3], H1 x = none) → H2 Kp = some (.lst [.ref x1, .ref x2, .ref x3]) → H2 x1 = some (.lst ((foldR r up rl).map V.int)) → H2 x2 = some (.lst (r.map V.int)) → H2 x3 = some (.lst ((ufR r up rl).map V.int)) →
          tr { nx := fun _ H' => Q .non H', rt := Q } [some (.ref a), some v, some (.int (rl : Int)), some (.ref d), some (.ref L), some (.ref D), some (.ref F), some (.ref B), some (.ref O), some (.ref Kp), none] H2 := by
      refine ⟨_, (pss_cons (ps_expr (pe_bm PySem.F.plainAttrs_list PySem.F.slot_list_append PySem.F.type_list_append mt_append (pe_ix (ixK K rfl) (pv 4) pe_int (fun _ _ => rfl)) (pa_cons pe_int pa_nil)))
        (pss_cons (ps_if (pt_cmp (pc_notN (pe_ix (ixK K rfl) (pv 4) pe_int (fun _ _ => rfl)))) (pss_one (ps_expr (pe_bm PySem.F.plainAttrs_list PySem.F.slot_list_append PySem.F.type_list_append mt_append (pe_ix (ixK K rfl) (pv 4) pe_int (fun _ _ => rfl)) (pa_cons pe_int pa_nil)))) pss_nil)
        (@r11))), ?_⟩
      intro h0 L D F B O Kp x1 x2 x3 hv H1 H2 X fk eK e1 e2 e3
      have eL := X.s2 _ _ X.eL
      have e0 := X.s2 _ _ X.e0
      refine ⟨_, rfl, L, _, _, .ref h0, rfl, rfl, SqL.of eL, atI_nat (j := 0) rfl, .inl ⟨rfl, _, SqL.of e0⟩, h0, _, .int 7, rfl, rfl, e0, ?_, ?_⟩
      · rw [List.length_map]; exact Nat.lt_of_le_of_lt l24 (by decide)
      have nn : ∀ {x : Addr}, H1 x = none → x ≠ h0 := fun {x} h => Ne.symm (ne_new X.e0 h)
      have kp : ∀ b o, b ≠ h0 → H2 b = some o → upd H2 h0 (.lst (r.map V.int ++ [.int 7])) b = some o := fun b o n e => by rw [upd_ne n]; exact e
      generalize upd H2 h0 (.lst (r.map V.int ++ [.int 7])) = H3 at kp ⊢
      have nL : L ≠ h0 := fun z => by
        have := X.eL
        rw [z, X.e0] at this
        have := congrArg (fun o => match o with | some (HO.lst (V.ref _ :: _)) => true | _ => false) this
        cases hr0 : r with
        | nil => rw [hr0] at l1; exact absurd l1 (by decide)
        | cons c t => rw [hr0] at this; cases this
      refine ⟨_, rfl, L, _, _, hv, rfl, rfl, SqL.of (kp _ _ nL eL), atI_nat (j := 1) rfl, ?_⟩
      have hs3 : Same H H3 := fun b o e => kp b o (ne_new e X.f0) (X.s2 _ _ (X.s1 _ _ e))
      have frH : ∀ x ∈ [D, F, B, O], H x = none := fun x hx => X.s1.free (X.fr x hx)
      have n3 : ∀ x ∈ [D, F, B, O], x ≠ h0 := fun x hx => nn (X.fr x hx)
      have m3 : ∀ x ∈ [Kp, x1, x2, x3], x ≠ h0 := fun x hx => nn (fk x hx)
      have fin : ∀ H4, (∀ b o, (∀ q, hv = .ref q → b ≠ q) → H3 b = some o → H4 b = some o) → t11 { nx := fun _ H' => Q .non H', rt := Q } [some (.ref a), some v, some (.int (rl : Int)), some (.ref d), some (.ref L), some (.ref D), some (.ref F), some (.ref B), some (.ref O), some (.ref Kp), none] H4 := fun H4 kk => by
        have nq : ∀ {x : Addr}, H1 x = none → ∀ q, hv = .ref q → x ≠ q := fun {x} h q e => by
          rcases X.av with ⟨z, _⟩ | ⟨q', u, z, _, e'⟩
          · rw [e] at z; cases z
          · rw [e] at z; cases z
            exact Ne.symm (ne_new e' h)
        exact k11 D F B O Kp x1 x2 x3 _ H4 (fun b o e => kk b o (fun q hq => ne_new e (X.fv q hq).1) (hs3 b o e)) (kk _ _ (nq (X.fr D (by simp))) (kp _ _ (n3 D (by simp)) X.eD)) (kk _ _ (nq (X.fr F (by simp))) (kp _ _ (n3 F (by simp)) X.eF)) (kk _ _ (nq (X.fr B (by simp))) (kp _ _ (n3 B (by simp)) X.eB)) (kk _ _ (nq (X.fr O (by simp))) (kp _ _ (n3 O (by simp)) X.eO)) X.nd X.nD frH (kk _ _ (nq (fk Kp (by simp))) (kp _ _ (m3 Kp (by simp)) eK)) (kk _ _ (nq (fk x1 (by simp))) (kp _ _ (m3 x1 (by simp)) e1)) (kk _ _ (nq (fk x2 (by simp))) (kp _ _ (m3 x2 (by simp)) e2)) (kk _ _ (nq (fk x3 (by simp))) (kp _ _ (m3 x3 (by simp)) e3))
      rcases X.av with ⟨rfl, _⟩ | ⟨q, u, rfl, eu, e'⟩
      · exact ⟨_, rfl, fin H3 fun b o _ e => e⟩
      · have eq3 := kp _ _ (X.fv q rfl).2 (X.s2 _ _ e')
        refine ⟨_, rfl, _, rfl, L, _, _, .ref q, rfl, rfl, SqL.of (kp _ _ nL eL), atI_nat (j := 1) rfl, .inl ⟨rfl, _, SqL.of eq3⟩, q, _, .int 7, rfl, rfl, eq3, ?_, ?_⟩
        · rw [List.length_map, (ok.u u eu).1]; exact Nat.lt_of_le_of_lt l24 (by decide)
        exact fin _ fun b o n e => by rw [upd_ne (n q rfl)]; exact e
    obtain ⟨t6, r6, k6⟩ : ∃ tr, PSs ((cxOf CX0 P w K mg base ["_law_row", "_law_above", "_law_rule", "_law_held", "_law_handed", "_law_due", "_law_found", "_law_back", "_law_other", "_law_kept", "_law_one"] "_law_row_good" (defScope s_law_row_good) f cdv A outer s H E).nox) ((defBody s_law_row_good).drop 6) tr ∧
        ∀ (h0 L D F B O : Addr) (hv : V) (H1 H2 : Hp), RowSt H H1 H2 r up rl h0 L D F B O hv →
          tr { nx := fun _ H' => Q .non H', rt := Q } [some (.ref a), some v, some (.int (rl : Int)), some (.ref d), some (.ref L), some (.ref D), some (.ref F), some (.ref B), some (.ref O), none, none] H2 := by
      refine ⟨_, (pss_cons (ps_if (PW.pt (pw_or (pt_not (pt_val (pe_callD g__law_numbers (hr.mono (by decide)) rfl (pa_cons (pv 7) (pa_cons (pv 0) pa_nil))))) (pw_or (pt_not (pt_val (pe_callD g__law_numbers (hr.mono (by decide)) rfl (pa_cons (pv 8) (pa_cons (pe_callTy (listK K rfl) rfl T.list PyProof.Rows.boot_list (pa_cons (pv 8) pa_nil)) pa_nil))))) (pw_or1 (pt_cmpR op_ne (pe_callB (lenK K rfl) rfl T.len PySem.boot_len (pa_cons (pv 8) pa_nil)) (pe_callB (lenK K rfl) rfl T.len PySem.boot_len (pa_cons (pv 0) pa_nil)) (nomark _)))))) (pss_one (ps_ret pe_bl)) pss_nil)
        (pss_cons (ps_if (PW.pt (pw_or (pt_cmpR (neDK K rfl hu) (pe_comp (N := ["_law_one"]) (src := [none]) rfl ⟨rfl, rfl, rfl, rfl, rfl, by decide +kernel⟩ (piK K rfl (pv 8)) (fun s H C fp => pg_name (i := 0) (show (["_law_one"] : List Str).Nodup by decide +kernel) rfl (by first | exact Or.inl rfl | exact Or.inr rfl)) (fun s H C fp => (pts_one (pt_not (pt_chain op_le op_lt pe_int (pv 0) pe_int)))) (fun s H C fp => (pv 0))) (pe_lst pa_nil) (nomark _)) (pw_or1 (pt_cmpR (neDK K rfl hu) (pe_callD g__law_folded (hr.mono (by decide)) rfl (pa_cons (pv 8) (pa_cons (pv 1) (pa_cons (pv 2) pa_nil)))) (pv 0) (nomark _))))) (pss_one (ps_ret pe_bl)) pss_nil)
        (pss_cons (ps_set (i := 9) sc_law_row_good.nd rfl (by first | exact Or.inl rfl | exact Or.inr rfl) (pe_lst (pa_cons (pe_callTy (listK K rfl) rfl T.list PyProof.Rows.boot_list (pa_cons (pv 5) pa_nil)) (pa_cons (pe_callTy (listK K rfl) rfl T.list PyProof.Rows.boot_list (pa_cons (pv 0) pa_nil)) (pa_cons (pe_callTy (listK K rfl) rfl T.list PyProof.Rows.boot_list (pa_cons (pv 8) pa_nil)) pa_nil)))))
        (@r9)))), ?_⟩
      intro h0 L D F B O hv H1 H2 X
      have lf := (foldR_ok ok rl).1
      have lu := (ufR_ok ok rl).1
      have old : ∀ {H3 : Hp}, Same H2 H3 → Same H H3 := fun {H3} s => X.s1.trans (X.s2.trans s)
      refine ⟨_, rfl, _, rfl, B, a, r, rfl, X.eB, old (Same.refl _) _ _ ha, by omega, fun H3 s3 => ⟨_, rfl, ?_⟩⟩
      refine ⟨_, rfl, _, rfl, O, _, rfl, .inl (SqL.of (s3 _ _ X.eO)), fun l hl => ?_⟩
      have z := s3.trans (same_new (o := HO.lst ((ufR r up rl).map V.int)) hl)
      refine ⟨O, l, ufR r up rl, rfl, z _ _ X.eO, upd_same, by omega, fun H4 s4 => ⟨_, rfl, ?_⟩⟩
      have z4 := z.trans s4
      refine ⟨_, rfl, O, _, rfl, .inl (SqL.of (z4 _ _ X.eO)), _, rfl, a, _, rfl, .inl (SqL.of (old z4 _ _ ha)), rfl, ?_⟩
      rw [List.length_map, List.length_map, lu, decide_eq_true rfl]
      refine ⟨_, rfl, iteF ?_⟩
      have X4 := X.mono z4
      refine ⟨_, rfl, O, rfl, ⟨_, SqL.of X4.eO⟩, fun D0 hD0 => ?_⟩
      refine comp_fm (k := 0) (fun x => x) (fun _ => false) (src_list (SqL.of X4.eO)) (by rw [List.length_map, lu]; exact Nat.le_trans l24 (by decide)) hD0 (fun x hx H' Qb sm kb => ?_) (fun x hx z => by cases z) fun H5 s5 h5 => ?_
      · obtain ⟨c, hc, rfl⟩ := List.mem_map.mp hx
        have cr := (ufR_ok ok rl).2 c hc
        have c0 : decide ((0 : Int) ≤ c) = true := decide_eq_true cr.1
        have c1 : decide (c < 16) = true := decide_eq_true (by omega)
        refine ⟨_, rfl, _, _, rfl, rfl, _, rfl, ?_⟩
        rw [c0]
        refine iteT ⟨_, _, rfl, rfl, _, rfl, ?_⟩
        rw [c1]
        exact kb H' (Same.refl _)
      have e0 : ∀ l : List V, (l.filter fun _ => false).map (fun x => x) = [] := fun l => by
        rw [List.filter_eq_nil_iff.mpr (fun _ _ z => by cases z)]; rfl
      rw [e0] at h5
      refine ⟨Nat.zero_le _, fun E0 hE0 => ⟨0, D0, E0, _, by decide, rfl, rfl, EqL.nil (SqL.of (same_new hE0 _ _ h5)) (SqL.of upd_same), _, rfl, ?_⟩⟩
      have z5 := s5.trans (same_new (o := HO.lst []) hE0)
      have X5 := X4.mono z5
      generalize upd H5 E0 (HO.lst []) = H6 at X5 ⊢
      refine ⟨_, rfl, _, rfl, _, rfl, O, v, ufR r up rl, up, rl, rfl, X5.eO, (av.mono X5.s1).mono X5.s2, ok.unfold rl, h4, fun q H7 s7 hq eq => ?_⟩
      rw [fold_unfold ok] at eq
      have X7 := X5.mono s7
      have ha7 := X7.s2 _ _ (X7.s1 _ _ ha)
      refine ⟨_, rfl, 0, q, a, true, by decide, rfl, rfl, eqL_ints eq ha7, _, rfl, iteF ?_⟩
      refine ⟨_, rfl, D, _, rfl, .inl (SqL.of X7.eD), fun x1 h1 => ?_⟩
      have y1 := same_new (o := HO.lst ((foldR r up rl).map V.int)) h1
      refine ⟨_, rfl, a, _, rfl, .inl (SqL.of (y1 _ _ ha7)), fun x2 h2 => ?_⟩
      have y2 := same_new (o := HO.lst (r.map V.int)) h2
      refine ⟨_, rfl, O, _, rfl, .inl (SqL.of (y2 _ _ (y1 _ _ X7.eO))), fun x3 h3 => ?_⟩
      have y3 := same_new (o := HO.lst ((ufR r up rl).map V.int)) h3
      refine ⟨(by show 3 ≤ sizeLine; decide), fun Kp hK => ?_⟩
      have y4 := same_new (o := HO.lst [V.ref x1, V.ref x2, V.ref x3]) hK
      refine k9 h0 L D F B O Kp x1 x2 x3 hv H1 _ (X7.mono (y1.trans (y2.trans (y3.trans y4)))) (fun x hx => ?_) upd_same (y4 _ _ (y3 _ _ (y2 _ _ upd_same))) (y4 _ _ (y3 _ _ upd_same)) (y4 _ _ upd_same)
      simp only [List.mem_cons, List.not_mem_nil, or_false] at hx
      have f := X7.s2
      rcases hx with rfl | rfl | rfl | rfl
      · exact f.free (y1.free (y2.free (y3.free hK)))
      · exact f.free h1
      · exact f.free (y1.free h2)
      · exact f.free (y1.free (y2.free h3))
    obtain ⟨u1, r1, k1⟩ : ∃ tr, PSs ((cxOf CX0 P w K mg base ["_law_row", "_law_above", "_law_rule", "_law_held", "_law_handed", "_law_due", "_law_found", "_law_back", "_law_other", "_law_kept", "_law_one"] "_law_row_good" (defScope s_law_row_good) f cdv A outer s H E).nox) ((defBody s_law_row_good).drop 1) tr ∧
        ∀ (h0 L : Addr) (hv : V) (H1 : Hp), Same H H1 → H h0 = none → H1 h0 = some (.lst (r.map V.int)) → (∀ q, hv = .ref q → H q = none ∧ q ≠ h0) → AbV H1 hv up → H1 L = some (.lst [.ref h0, hv]) →
          tr { nx := fun _ H' => Q .non H', rt := Q } [some (.ref a), some v, some (.int (rl : Int)), some (.ref d), some (.ref L), none, none, none, none, none, none] H1 := by
      refine ⟨_, (pss_cons (ps_set (i := 5) sc_law_row_good.nd rfl (by first | exact Or.inl rfl | exact Or.inr rfl) (pe_callD g__law_folded (hr.mono (by decide)) rfl (pa_cons (pv 0) (pa_cons (pv 1) (pa_cons (pv 2) pa_nil)))))
        (pss_cons (ps_set (i := 6) sc_law_row_good.nd rfl (by first | exact Or.inl rfl | exact Or.inr rfl) (pe_callD g_folded_row (hr.mono (by decide)) rfl (pa_cons (pe_ix (ixK K rfl) (pv 4) pe_int (fun _ _ => rfl)) (pa_cons (pe_ix (ixK K rfl) (pv 4) pe_int (fun _ _ => rfl)) (pa_cons (pv 2) pa_nil)))))
        (pss_cons (ps_if (PW.pt (pw_or (pt_not (pt_val (pe_callD g__law_numbers (hr.mono (by decide)) rfl (pa_cons (pv 6) (pa_cons (pv 5) pa_nil))))) (pw_or1 (pt_cmpR (neDK K rfl hu) (pv 4) (pe_lst (pa_cons (pv 0) (pa_cons (pv 1) pa_nil))) (nomark _))))) (pss_one (ps_ret pe_bl)) pss_nil)
        (pss_cons (ps_set (i := 7) sc_law_row_good.nd rfl (by first | exact Or.inl rfl | exact Or.inr rfl) (pe_callD g_unfolded_row (hr.mono (by decide)) rfl (pa_cons (pe_callTy (listK K rfl) rfl T.list PyProof.Rows.boot_list (pa_cons (pv 5) pa_nil)) (pa_cons (pe_ix (ixK K rfl) (pv 4) pe_int (fun _ _ => rfl)) (pa_cons (pv 2) pa_nil)))))
        (pss_cons (ps_set (i := 8) sc_law_row_good.nd rfl (by first | exact Or.inl rfl | exact Or.inr rfl) (pe_callD g_unfolded_row (hr.mono (by decide)) rfl (pa_cons (pe_ix (ixK K rfl) (pv 4) pe_int (fun _ _ => rfl)) (pa_cons (pe_ix (ixK K rfl) (pv 4) pe_int (fun _ _ => rfl)) (pa_cons (pv 2) pa_nil)))))
        (@r6)))))), ?_⟩
      intro h0 L hv H1 s1 f0 e0 fv ahv eL
      have lf := (foldR_ok ok rl).1
      refine ⟨_, rfl, _, rfl, _, rfl, a, v, r, up, rl, rfl, s1 _ _ ha, av.mono s1, ok, h4, fun D H2 s2 hD eD => ?_⟩
      refine ⟨_, rfl, L, _, _, .ref h0, rfl, rfl, SqL.of (s2 _ _ eL), atI_nat (j := 0) rfl, _, rfl, L, _, _, hv, rfl, rfl, SqL.of (s2 _ _ eL), atI_nat (j := 1) rfl, _, rfl, h0, hv, r, up, rl, rfl, s2 _ _ e0, ahv.mono s2, ok, h4, fun F H3 s3 hF eF => ?_⟩
      have nFD : D ≠ F := ne_new eD hF
      refine ⟨_, rfl, _, rfl, F, D, foldR r up rl, rfl, eF, s3 _ _ eD, by omega, fun H4 s4 => ⟨_, rfl, ?_⟩⟩
      have z4 := s2.trans (s3.trans s4)
      refine ⟨_, rfl, _, rfl, _, rfl, (by show 2 ≤ sizeLine; decide), fun M hM => ?_⟩
      have zM := z4.trans (same_new (o := HO.lst [V.ref a, v]) hM)
      refine ⟨1, L, M, true, by decide, rfl, rfl, EqL.two (zM _ _ eL) upd_same (eqD_ints (zM _ _ e0) (zM _ _ (s1 _ _ ha))) (eqD_ab (ahv.mono zM) ((av.mono s1).mono zM)), _, rfl, iteF ?_⟩
      have eF5 := same_new (o := HO.lst [V.ref a, v]) hM _ _ (s4 _ _ eF)
      have eD5 := same_new (o := HO.lst [V.ref a, v]) hM _ _ (s4 _ _ (s3 _ _ eD))
      have s5 := s4.trans (same_new (o := HO.lst [V.ref a, v]) hM)
      generalize upd H4 M (HO.lst [V.ref a, v]) = H5 at zM eF5 eD5 s5 ⊢
      refine ⟨_, rfl, D, _, rfl, .inl (SqL.of eD5), fun l hl => ?_⟩
      have y := same_new (o := HO.lst ((foldR r up rl).map V.int)) hl
      refine ⟨_, rfl, L, _, _, hv, rfl, rfl, SqL.of (y _ _ (zM _ _ eL)), atI_nat (j := 1) rfl, _, rfl, l, hv, foldR r up rl, up, rl, rfl, upd_same, (ahv.mono zM).mono y, ok.fold rl, h4, fun B H6 s6 hB eB => ?_⟩
      rw [unfold_fold ok] at eB
      have y6 := y.trans s6
      have z6 := zM.trans y6
      refine ⟨_, rfl, L, _, _, .ref h0, rfl, rfl, SqL.of (z6 _ _ eL), atI_nat (j := 0) rfl, _, rfl, L, _, _, hv, rfl, rfl, SqL.of (z6 _ _ eL), atI_nat (j := 1) rfl, _, rfl, h0, hv, r, up, rl, rfl, z6 _ _ e0, ahv.mono z6, ok, h4, fun O H7 s7 hO eO => ?_⟩
      have z7 := z6.trans s7
      have eF6 := y6 _ _ eF5
      have eD6 := y6 _ _ eD5
      have nFB : F ≠ B := ne_new (y _ _ eF5) hB
      have nDB : D ≠ B := ne_new (y _ _ eD5) hB
      have nFO : F ≠ O := ne_new eF6 hO
      have nDO : D ≠ O := ne_new eD6 hO
      have nBO : B ≠ O := ne_new eB hO
      refine k6 h0 L D F B O hv H1 H7 ⟨s1, z7, f0, e0, fv, ahv, eL, fun x hx => ?_, s7 _ _ eD6, s7 _ _ eF6, s7 _ _ eB, eO, by simp [nFB, nFO, nBO], by simp [nFD, nDB, nDO]⟩
      simp only [List.mem_cons, List.not_mem_nil, or_false] at hx
      rcases hx with rfl | rfl | rfl | rfl
      · exact hD
      · exact s2.free hF
      · exact zM.free (y.free hB)
      · exact z6.free hO
    refine ⟨_, (pss_cons (ps_set (i := 4) sc_law_row_good.nd rfl (by first | exact Or.inl rfl | exact Or.inr rfl) (pe_lst (pa_cons (pe_callTy (listK K rfl) rfl T.list PyProof.Rows.boot_list (pa_cons (pv 0) pa_nil)) (pa_cons (pe_ifExp (pt_cmp (pc_isN (pv 1))) pe_non (pe_callTy (listK K rfl) rfl T.list PyProof.Rows.boot_list (pa_cons (pv 1) pa_nil))) pa_nil))))
        (@r1)), ?_⟩
    refine ⟨_, rfl, a, _, rfl, .inl (SqL.of ha), fun h0 hh0 => ?_⟩
    have y := same_new (o := HO.lst (r.map V.int)) hh0
    have av0 := av.mono y
    rcases av0 with ⟨rfl, e⟩ | ⟨q, u, rfl, e, eq⟩
    · refine ⟨_, rfl, _, rfl, ⟨(by show 2 ≤ sizeLine; decide), fun L hL => ?_⟩⟩
      have y2 := same_new (o := HO.lst [V.ref h0, V.non]) hL
      exact k1 h0 L .non _ (y.trans y2) hh0 (y2 _ _ upd_same) (fun q z => by cases z) (.inl ⟨rfl, e⟩) upd_same
    · refine ⟨_, rfl, _, rfl, ⟨_, rfl, q, _, rfl, .inl (SqL.of eq), fun h1 hh1 => ⟨(by show 2 ≤ sizeLine; decide), fun L hL => ?_⟩⟩⟩
      have y1 := same_new (o := HO.lst (u.map V.int)) hh1
      have y2 := same_new (o := HO.lst [V.ref h0, V.ref h1]) hL
      exact k1 h0 L (.ref h1) _ (y.trans (y1.trans y2)) hh0 (y2 _ _ (y1 _ _ upd_same)) (fun q' z => by cases z; exact ⟨y.free hh1, Ne.symm (ne_new upd_same hh1)⟩) (.inr ⟨h1, u, rfl, e, y2 _ _ upd_same⟩) upd_same
end
end K23
set_option Elab.async false
set_option linter.all false
set_option maxRecDepth 100000
set_option maxHeartbeats 1600000
namespace K23
open PySem L2 M4
theorem ab_at {H : Hp} {p : Addr} {ps : List Addr} {R : List (List Int)} {y : Nat} (pic : PicV H p ps (ir R)) (h : y < R.length) : ∃ v, ([V.non] ++ cutV (ps.map V.ref) none (some (-1)))[y]? = some v ∧ AbV H v (upAt R y) := by
  have lp : ps.length = R.length := by rw [pic.len, ir_len]
  cases y with
  | zero => exact ⟨.non, rfl, .inl ⟨rfl, rfl⟩⟩
  | succ y =>
    obtain ⟨q, e1, e2, e3⟩ := ref_at pic (show y < R.length by omega)
    refine ⟨.ref q, ?_, .inr ⟨q, R.getD y [], rfl, ?_, e3⟩⟩
    · rw [cutM1]
      show ((ps.map V.ref).take ((ps.map V.ref).length - 1))[y]? = _
      rw [List.getElem?_take, List.length_map, if_pos (by omega), e2]
    · unfold upAt
      rw [if_pos (Nat.succ_pos y)]; rfl
noncomputable def Adr (e : Addr × List Addr) (y : Addr) : Prop := y = e.1 ∨ y ∈ e.2
theorem adr_some {H : Hp} {x y : Addr} {qs : List Addr} {R : List (List V)} (p : PicV H x qs R) (h : Adr (x, qs) y) : ∃ o, H y = some o := by
  rcases h with rfl | h
  · exact ⟨_, p.top⟩
  · obtain ⟨r, _, e⟩ := p.mem h
    exact ⟨_, e⟩
theorem adr_new {H : Hp} {x y : Addr} {qs : List Addr} {R : List (List V)} (p : PicV H x qs R) (h : H y = none) : ¬ Adr (x, qs) y := fun z => by
  obtain ⟨o, e⟩ := adr_some p z
  rw [h] at e; cases e
theorem adr_fresh {H : Hp} {x : Addr} {qs : List Addr} (h1 : H x = none) (h2 : Fresh H qs) {y : Addr} (h : Adr (x, qs) y) : H y = none := by
  rcases h with rfl | h
  · exact h1
  · exact h2 y h
theorem eqD_pic {K : PySem.W.Frag} {H : Hp} {x y : Addr} {ps qs : List Addr} {R : List (List Int)} (p : PicV H x ps (ir R)) (q : PicV H y qs (ir R)) : EqD K H 2 (.ref x) (.ref y) true := by
  by_cases e : x = y
  · subst e; exact .inl (.inl (.inl ⟨x, rfl, rfl, rfl⟩))
  · exact .inr ⟨x, y, rfl, rfl, e, EqL.pic p q⟩
theorem PicV.keepA {H H' : Hp} {x : Addr} {qs : List Addr} {R : List (List V)} (p : PicV H x qs R) (k : ∀ b o, Adr (x, qs) b → H b = some o → H' b = some o) : PicV H' x qs R := ⟨k _ _ (.inl rfl) p.top, Paired.mapI p.row fun q _ hq e => k _ _ (.inr hq) e, p.nd, p.out⟩
theorem PicV.app0 {H : Hp} {x q0 : Addr} {q1 : List Addr} {r0 : List Int} {c1 : List (List Int)} {v : Int} (p : PicV H x (q0 :: q1) (ir (r0 :: c1))) : PicV (upd H q0 (.lst (r0.map V.int ++ [.int v]))) x (q0 :: q1) (ir ((r0 ++ [v]) :: c1)) := by
  have n0 : x ≠ q0 := fun z => p.out (by rw [z]; exact List.mem_cons_self)
  have nd := List.nodup_cons.mp p.nd
  refine ⟨by rw [upd_ne n0]; exact p.top, ?_, p.nd, p.out⟩
  have row := p.row
  unfold ir at row ⊢
  rw [List.map_cons] at row ⊢
  cases row with
  | cons e t =>
    refine .cons (by rw [upd_same, List.map_append]; rfl) (Paired.mapI t fun q r hq e => ?_)
    rw [upd_ne (fun z => nd.1 (by rw [← z]; exact hq))]
    exact e
structure PSt (H H2 : Hp) (R : List (List Int)) (rs : List Int) (D F B O : Addr) (ds fs bs os : List Addr) : Prop where
  s : Same H H2
  pD : PicV H2 D ds (ir (foldP R rs))
  pF : PicV H2 F fs (ir (foldP R rs))
  pB : PicV H2 B bs (ir R)
  pO : PicV H2 O os (ir (ufP R rs))
  fD : ∀ y, Adr (D, ds) y → H y = none
  fF : ∀ y, Adr (F, fs) y → H y = none
  fB : ∀ y, Adr (B, bs) y → H y = none
  fO : ∀ y, Adr (O, os) y → H y = none
  dDF : ∀ y, Adr (F, fs) y → ¬ Adr (D, ds) y
  dDB : ∀ y, Adr (B, bs) y → ¬ Adr (D, ds) y
  dDO : ∀ y, Adr (O, os) y → ¬ Adr (D, ds) y
  dFB : ∀ y, Adr (B, bs) y → ¬ Adr (F, fs) y
  dFO : ∀ y, Adr (O, os) y → ¬ Adr (F, fs) y
  dBO : ∀ y, Adr (O, os) y → ¬ Adr (B, bs) y
theorem PSt.mono {H H2 H3 : Hp} {R : List (List Int)} {rs : List Int} {D F B O : Addr} {ds fs bs os : List Addr} (x : PSt H H2 R rs D F B O ds fs bs os) (s : Same H2 H3) : PSt H H3 R rs D F B O ds fs bs os :=
  ⟨x.s.trans s, x.pD.mono s, x.pF.mono s, x.pB.mono s, x.pO.mono s, x.fD, x.fF, x.fB, x.fO, x.dDF, x.dDB, x.dDO, x.dFB, x.dFO, x.dBO⟩
structure HSt (H H2 : Hp) (R : List (List Int)) (rs : List Int) (D F B O L h hr : Addr) (ds fs bs os hs : List Addr) : Prop where
  eL : H2 L = some (.lst [.ref h, .ref hr])
  ph : PicV H2 h hs (ir R)
  er : H2 hr = some (.lst (rs.map V.int))
  fh : ∀ y ∈ hs, H y = none
  fr : H hr = none
  nLh : L ∉ hs
  nLr : L ≠ hr
  nhr : h ≠ hr
  nrh : hr ∉ hs
  aD : ∀ y, Adr (D, ds) y → y ∉ hs ∧ y ≠ hr
  aF : ∀ y, Adr (F, fs) y → y ∉ hs ∧ y ≠ hr
  aB : ∀ y, Adr (B, bs) y → y ∉ hs ∧ y ≠ hr
  aO : ∀ y, Adr (O, os) y → y ∉ hs ∧ y ≠ hr
theorem HSt.mono {H H2 H3 : Hp} {R : List (List Int)} {rs : List Int} {D F B O L h hr : Addr} {ds fs bs os hs : List Addr} (x : HSt H H2 R rs D F B O L h hr ds fs bs os hs) (s : Same H2 H3) : HSt H H3 R rs D F B O L h hr ds fs bs os hs :=
  ⟨s _ _ x.eL, x.ph.mono s, s _ _ x.er, x.fh, x.fr, x.nLh, x.nLr, x.nhr, x.nrh, x.aD, x.aF, x.aB, x.aO⟩
noncomputable def kpP (d : Addr) (els : List (Addr × List Addr)) (i : Nat) : Addr → Prop := fun x => x ≠ d ∧ ∀ j e, i ≤ j → els[j]? = some e → ¬ Adr e x
theorem kpP.weak {d : Addr} {els : List (Addr × List Addr)} {i : Nat} {x : Addr} (h : kpP d els i x) : kpP d els (i + 1) x := ⟨h.1, fun j e hj => h.2 j e (by omega)⟩
noncomputable def spPicG (K : PySem.W.Frag) : Sp := fun vs H Q _ => ∃ (p a d : Addr) (ps : List Addr) (R : List (List Int)) (wd : Nat) (rs : List Int) (ts : List Addr), vs = [.ref p, .ref a, .ref d] ∧ PicV H p ps (ir R) ∧ Good R wd ∧ H a = some (.lst (rs.map V.int)) ∧ rs.length = R.length ∧ (∀ c ∈ rs, 0 ≤ c ∧ c ≤ 4) ∧ H d = some (.lst (ts.map V.ref)) ∧ ts.length ≤ 500 ∧ p ≠ d ∧ d ∉ ps ∧ a ≠ d ∧ ∀ zs H', zs.length = 3 → But d H H' → H' d = some (.lst ((ts ++ zs).map V.ref)) → (∀ t ∈ zs, Pair H' (kpD d) t) → Q (.bl true) H'
section
variable {P : Program} {w : World} {K : PySem.W.Frag} {mg : Str → Option Value} {base : Heap} {cFE cBP cBR : Addr} {tS tC tR t1 t2 t3 t4 : Tok}
theorem sc_law_picture_good : FnScope ["_law_picture_here", "_law_rules", "_law_held", "_law_aboves", "_law_due", "_law_handed", "_law_found", "_law_back", "_law_other", "_law_ups", "_law_kept", "_law_one"] ["_law_picture_here", "_law_rules", "_law_held"] (defScope s_law_picture_good) := ⟨rfl, rfl, rfl, by decide +kernel, rfl, by decide +kernel, by decide +kernel⟩
theorem ok_law_picture_good {f : Addr} {fd : FuncData} (FD : FunD K "_law_picture_good" "_law_picture_good" s_law_picture_good .none f fd) (T : Txt K mg cFE cBP cBR tS tC tR t1 t2 t3 t4) (g__law_folded : Def P w K mg base 2 "_law_folded" ["_law_row", "_law_above", "_law_rule"] [] (spLFold K)) (g__law_copy : Def P w K mg base 1 "_law_copy" ["_law_rows"] [] (spCopy K)) (g_folded_picture : Def P w K mg base 8 "folded_picture" ["picture", "rules"] [] (spFoldP K)) (g_unfolded_picture : Def P w K mg base 8 "unfolded_picture" ["rows", "rules"] [] (spUnfP K)) (g__law_numbers : Def P w K mg base 2 "_law_numbers" ["_law_found", "_law_due"] [] (spNums K)) : FnOk P w K mg base CX0 9 f fd ["_law_picture_here", "_law_rules", "_law_held"] (spPicG K) := by
  refine FD.ok sc_law_picture_good (fun vs H Q E h => ?_) (fun cdv A outer s H vs Q E hr h => ?_)
  · obtain ⟨p, a, d, ps, R, wd, rs, ts, rfl, _⟩ := h; rfl
  · obtain ⟨p, a, d, ps, R, wd, rs, ts, rfl, pic, gd, ha, hl, hc, hd, hts, npd, nps, nad, k⟩ := h
    have hu : _ + 64 < cLine := hr.units
    have h24 := gd.le
    have h1 := gd.ne
    have w24 := gd.w24
    have lp : ps.length = R.length := by rw [pic.len, ir_len]
    have gF := foldP_good gd rs
    have gU := ufP_good gd rs
    have picB : ∀ {H' : Hp}, But d H H' → PicV H' p ps (ir R) := fun {H'} b => PicV.keepA pic fun x o hx e => b x o (by
      rcases hx with rfl | hx
      · exact npd
      · exact fun z => nps (by rw [← z]; exact hx)) e
    obtain ⟨t13, r13, k13⟩ : ∃ tr, PSs ((cxOf CX0 P w K mg base ["_law_picture_here", "_law_rules", "_law_held", "_law_aboves", "_law_due", "_law_handed", "_law_found", "_law_back", "_law_other", "_law_ups", "_law_kept", "_law_one"] "_law_picture_good" (defScope s_law_picture_good) f cdv A outer s H E).nox) ((defBody s_law_picture_good).drop 13) tr ∧
        ∀ (D F B O : Addr) (ds fs bs os : List Addr) (v3 v5 v9 v10 : Option V) (H2 : Hp), PSt H H2 R rs D F B O ds fs bs os →
          tr { nx := fun _ H' => Q .non H', rt := Q } [some (.ref p), some (.ref a), some (.ref d), v3, some (.ref D), v5, some (.ref F), some (.ref B), some (.ref O), v9, v10, none] H2 := by
      refine ⟨_, (pss_cons (ps_for PassesOwn.never rfl (piTK K rfl (pe_tup (pa_cons (pv 6) (pa_cons (pv 7) (pa_cons (pv 8) pa_nil))))) (pg_name (i := 11) sc_law_picture_good.nd rfl (by first | exact Or.inl rfl | exact Or.inr rfl)) (pss_cons (ps_if (pt_cmpR (neDK K rfl hu) (pe_comp (N := ["_law_row"]) (src := [none]) rfl ⟨rfl, rfl, rfl, rfl, rfl, by decide +kernel⟩ (piK K rfl (pv 11)) (fun s H C fp => pg_name (i := 0) (show (["_law_row"] : List Str).Nodup by decide +kernel) rfl (by first | exact Or.inl rfl | exact Or.inr rfl)) (fun s H C fp => (pts_one (pt_not (pt_val (pe_callD g__law_numbers (hr.mono (by decide)) rfl (pa_cons (pv 0) (pa_cons (pv 0) pa_nil))))))) (fun s H C fp => (pv 0))) (pe_lst pa_nil) (nomark _)) (pss_one (ps_ret pe_bl)) pss_nil)
        (pss_cons (ps_expr (pe_bm PySem.F.plainAttrs_list PySem.F.slot_list_append PySem.F.type_list_append mt_append (pe_ix (ixK K rfl) (pv 11) pe_int (fun _ _ => rfl)) (pa_cons pe_int pa_nil)))
        (pss_one (ps_expr (pe_bm PySem.F.plainAttrs_list PySem.F.slot_list_append PySem.F.type_list_append mt_append (pv 2) (pa_cons (pe_tup (pa_cons (pv 11) (pa_cons (pe_callD g__law_copy (hr.mono (by decide)) rfl (pa_cons (pv 11) pa_nil)) pa_nil))) pa_nil)))))))
        (pss_one (ps_ret (pe_cmpR (eqDK K rfl hu) (pe_callD g_folded_picture (hr.mono (by decide)) rfl (pa_cons (pe_callD g__law_copy (hr.mono (by decide)) rfl (pa_cons (pv 0) pa_nil)) (pa_cons (pe_callTy (listK K rfl) rfl T.list PyProof.Rows.boot_list (pa_cons (pv 1) pa_nil)) pa_nil))) (pv 4) (nomark _))))), ?_⟩
      intro D F B O ds fs bs os v3 v5 v9 v10 H2 X
      refine ⟨_, rfl, _, rfl, _, rfl, (by show 3 ≤ sizeLine; decide), fun TT hTT => ?_⟩
      have z := same_new (o := HO.tup [V.ref F, V.ref B, V.ref O]) hTT
      have eT : upd H2 TT (HO.tup [V.ref F, V.ref B, V.ref O]) TT = some (.tup [V.ref F, V.ref B, V.ref O]) := upd_same
      obtain ⟨els, hels⟩ : ∃ els : List (Addr × List Addr), els = [(F, fs), (B, bs), (O, os)] := ⟨_, rfl⟩
      have fr : ∀ (j : Nat) e, els[j]? = some e → ∀ y, Adr e y → H y = none ∧ y ≠ d ∧ y ≠ TT ∧ ¬ Adr (D, ds) y := fun j e he y hy => by
        have base3 : H y = none ∧ (∃ o, H2 y = some o) ∧ ¬ Adr (D, ds) y := by
          subst hels
          match j, he with
          | 0, he => cases he; exact ⟨X.fF y hy, adr_some X.pF hy, X.dDF y hy⟩
          | 1, he => cases he; exact ⟨X.fB y hy, adr_some X.pB hy, X.dDB y hy⟩
          | 2, he => cases he; exact ⟨X.fO y hy, adr_some X.pO hy, X.dDO y hy⟩
        obtain ⟨q1, ⟨o, q2⟩, q3⟩ := base3
        exact ⟨q1, Ne.symm (ne_new hd q1), ne_new q2 hTT, q3⟩
      have dj : ∀ (j j' : Nat) e e', els[j]? = some e → els[j']? = some e' → j < j' → ∀ y, Adr e' y → ¬ Adr e y := fun j j' e e' he he' hj y hy => by
        subst hels
        match j, j', he, he', hj with
        | 0, 1, he, he', _ => cases he; cases he'; exact X.dFB y hy
        | 0, 2, he, he', _ => cases he; cases he'; exact X.dFO y hy
        | 1, 2, he, he', _ => cases he; cases he'; exact X.dBO y hy
        | j + 2, j', he, he', hj =>
          have h2 : j' < 3 := (List.getElem?_eq_some_iff.mp he').1
          exact absurd h2 (by omega)
      have cs : ∀ (j : Nat) e, els[j]? = some e → ∃ c : List (List Int), 1 ≤ c.length ∧ c.length ≤ 24 ∧ (∀ r ∈ c, r.length ≤ 24) ∧ PicV (upd H2 TT (HO.tup [V.ref F, V.ref B, V.ref O])) e.1 e.2 (ir c) := fun j e he => by
        subst hels
        match j, he with
        | 0, he => cases he; exact ⟨_, gF.ne, gF.le, fun r hr => by rw [(gF.row r hr).1]; exact w24, X.pF.mono z⟩
        | 1, he => cases he; exact ⟨_, gd.ne, gd.le, fun r hr => by rw [(gd.row r hr).1]; exact w24, X.pB.mono z⟩
        | 2, he => cases he; exact ⟨_, gU.ne, gU.le, fun r hr => by rw [(gU.row r hr).1]; exact w24, X.pO.mono z⟩
      have nTd : TT ≠ d := fun e => by rw [e, X.s _ _ hd] at hTT; cases hTT
      have b3 : But d H (upd H2 TT (HO.tup [V.ref F, V.ref B, V.ref O])) := But.of (X.s.trans z)
      have hd3 := z _ _ (X.s _ _ hd)
      have eD3 := X.pD.mono z
      have nDd : ∀ y, Adr (D, ds) y → y ≠ d := fun y hy => Ne.symm (ne_new hd (X.fD y hy))
      generalize upd H2 TT (HO.tup [V.ref F, V.ref B, V.ref O]) = H3 at eT cs b3 hd3 eD3 ⊢
      have exs : [V.ref F, V.ref B, V.ref O] = els.map fun e => V.ref e.1 := by rw [hels]; rfl
      have l3 : els.length = 3 := by rw [hels]; rfl
      clear z hTT X
      refine ⟨TT, rfl, ⟨_, SqT.of eT⟩, ?_⟩
      refine for_tup (xs := [V.ref F, V.ref B, V.ref O]) (fun i σ H4 => But d H H4 ∧ H4 TT = some (.tup [V.ref F, V.ref B, V.ref O]) ∧ PicV H4 D ds (ir (foldP R rs)) ∧ (∀ (j : Nat) e, i ≤ j → els[j]? = some e → ∃ c : List (List Int), 1 ≤ c.length ∧ c.length ≤ 24 ∧ (∀ r ∈ c, r.length ≤ 24) ∧ PicV H4 e.1 e.2 (ir c)) ∧ ∃ (zs : List Addr) (v11 : Option V), zs.length = i ∧ H4 d = some (.lst ((ts ++ zs).map V.ref)) ∧ (∀ t ∈ zs, Pair H4 (kpP d els i) t) ∧ σ = [some (.ref p), some (.ref a), some (.ref d), v3, some (.ref D), v5, some (.ref F), some (.ref B), some (.ref O), v9, v10, v11])
        ⟨b3, eT, eD3, fun j e _ he => cs j e he, [], none, rfl, by rw [List.append_nil]; exact hd3, (fun t ht => nomatch ht), rfl⟩ (fun i σ H4 _ q => SqT.of q.2.1) ?_ ?_
      · rintro i x0 σ H4 hx ⟨b4, eT4, eD4, cs4, zs, v11, hz, hd4, pr4, rfl⟩
        rw [exs, List.getElem?_map] at hx
        obtain ⟨⟨x, qs⟩, hxi, rfl⟩ : ∃ e, els[i]? = some e ∧ x0 = .ref e.1 := by
          cases e : els[i]? with
          | none => rw [e] at hx; cases hx
          | some e' => rw [e] at hx; cases hx; exact ⟨e', rfl, rfl⟩
        have hi : i < 3 := by rw [← l3]; exact (List.getElem?_eq_some_iff.mp hxi).1
        obtain ⟨c, c1, c24, cr, px⟩ := cs4 i _ (Nat.le_refl _) hxi
        have frx := fr i _ hxi
        have lq : qs.length = c.length := by rw [px.len, ir_len]
        refine ⟨_, rfl, x, rfl, ⟨_, SqL.of px.top⟩, fun D0 hD0 => ?_⟩
        refine comp_fm (k := 0) (fun x => x) (fun _ => false) (src_list (SqL.of px.top)) (by rw [List.length_map, lq]; exact Nat.le_trans c24 (by decide)) hD0 (fun y hy H' Qb sm kb => ?_) (fun x hx z => by cases z) fun H5 s5 h5 => ?_
        · obtain ⟨q, hq, rfl⟩ := List.mem_map.mp hy
          obtain ⟨r', hr', e'⟩ := px.mem hq
          unfold ir at hr'
          obtain ⟨ns, hns, rfl⟩ := List.mem_map.mp hr'
          exact ⟨_, rfl, _, rfl, q, q, ns, rfl, sm _ _ e', sm _ _ e', Nat.le_trans (cr ns hns) (by decide), fun H6 s6 => ⟨_, rfl, kb H6 s6⟩⟩
        have e0 : ∀ l : List V, (l.filter fun _ => false).map (fun x => x) = [] := fun l => by
          rw [List.filter_eq_nil_iff.mpr (fun _ _ z => by cases z)]; rfl
        rw [e0] at h5
        refine ⟨Nat.zero_le _, fun E0 hE0 => ⟨0, D0, E0, _, by decide, rfl, rfl, EqL.nil (SqL.of (same_new hE0 _ _ h5)) (SqL.of upd_same), _, rfl, iteF ?_⟩⟩
        have z5 := s5.trans (same_new (o := HO.lst []) hE0)
        generalize upd H5 E0 (HO.lst []) = H6 at z5 ⊢
        have px6 := px.mono z5
        obtain ⟨q0, q1, r0, cc, rfl, rfl⟩ : ∃ q0 q1 r0 cc, qs = q0 :: q1 ∧ c = r0 :: cc := by
          cases qs with
          | nil => rw [← lq] at c1; exact absurd c1 (by decide)
          | cons q0 q1 =>
            cases c with
            | nil => exact absurd c1 (by decide)
            | cons r0 cc => exact ⟨q0, q1, r0, cc, rfl, rfl⟩
        have e03 : H6 q0 = some (.lst (r0.map V.int)) := by
          have row := px6.row
          unfold ir at row
          rw [List.map_cons] at row
          cases row with
          | cons e t => exact e
        refine ⟨_, rfl, x, _, _, .ref q0, rfl, rfl, SqL.of px6.top, atI_nat (j := 0) rfl, .inl ⟨rfl, _, SqL.of e03⟩, q0, _, .int 99, rfl, rfl, e03, ?_, ?_⟩
        · rw [List.length_map]; exact Nat.lt_of_le_of_lt (cr r0 List.mem_cons_self) (by decide)
        obtain ⟨f1, f2, f3, f4⟩ := frx q0 (.inr List.mem_cons_self)
        have p7 := PicV.app0 (v := 99) px6
        have k7 : ∀ b o, b ≠ q0 → H4 b = some o → upd H6 q0 (.lst (r0.map V.int ++ [.int 99])) b = some o := fun b o n e => by rw [upd_ne n]; exact z5 _ _ e
        generalize upd H6 q0 (.lst (r0.map V.int ++ [.int 99])) = H7 at p7 k7 ⊢
        have hd7 := k7 _ _ (Ne.symm f2) hd4
        refine ⟨_, rfl, .inl ⟨rfl, _, SqL.of hd7⟩, _, rfl, _, rfl, x, q0 :: q1, (r0 ++ [99]) :: cc, rfl, p7, c24, fun GG gs H8 s8 hG frG pG => ⟨(by show 2 ≤ sizeLine; decide), fun t ht => ?_⟩⟩
        have s9 := s8.trans (same_new (o := HO.tup [V.ref x, V.ref GG]) ht)
        have et := upd_same (H := H8) (a := t) (o := HO.tup [V.ref x, V.ref GG])
        have pG9 := pG.mono (same_new (o := HO.tup [V.ref x, V.ref GG]) ht)
        have ng : ∀ {b o}, H7 b = some o → ∀ y, Adr (GG, gs) y → y ≠ b := fun {b o} e y hy z => by
          have := adr_fresh hG frG hy
          rw [z, e] at this; cases this
        have nt : ∀ {b o}, H7 b = some o → b ≠ t := fun {b o} e z => by rw [z] at e; rw [s8 _ _ e] at ht; cases ht
        generalize upd H8 t (HO.tup [V.ref x, V.ref GG]) = H9 at s9 et pG9 ⊢
        refine ⟨d, _, .ref t, rfl, rfl, s9 _ _ hd7, ?_, ?_⟩
        · rw [List.length_map, List.length_append, hz]; exact Nat.lt_of_le_of_lt (Nat.add_le_add hts (Nat.le_of_lt hi)) (by decide)
        have cur : ∀ b o, b ≠ q0 → b ≠ d → H4 b = some o → upd H9 d (HO.lst ((ts ++ zs).map V.ref ++ [.ref t])) b = some o := fun b o n1 n2 e => by rw [upd_ne n2]; exact s9 _ _ (k7 _ _ n1 e)
        have ntd : t ≠ d := fun z => nt hd7 z.symm
        have later : ∀ (j : Nat) e, i + 1 ≤ j → els[j]? = some e → ∀ y, Adr e y → y ≠ q0 ∧ y ≠ d ∧ ¬ Adr (x, q0 :: q1) y ∧ ∃ o, H7 y = some o := fun j e hj he y hy => by
          have n1 := dj i j _ e hxi he (by omega) y hy
          obtain ⟨c', _, _, _, pe⟩ := cs4 j e (by omega) he
          obtain ⟨o, eo⟩ := adr_some pe hy
          have n2 : y ≠ q0 := fun z => n1 (.inr (by rw [z]; exact List.mem_cons_self))
          exact ⟨n2, (fr j e he y hy).2.1, n1, o, k7 _ _ n2 eo⟩
        refine ⟨fun b o n e => ?_, cur _ _ (fun z => f3 z.symm) nTd eT4, PicV.keepA eD4 fun b o hb e => cur b o (fun z => f4 (by rw [← z]; exact hb)) (nDd b hb) e, fun j e hj he => ?_, zs ++ [t], _, by rw [List.length_append, hz]; rfl, ?_, fun u hu' => ?_, rfl⟩
        · refine cur b o (fun z => ?_) n (b4 _ _ n e)
          rw [z, f1] at e; cases e
        · obtain ⟨c', l1', l2', l3', pe⟩ := cs4 j e (by omega) he
          exact ⟨c', l1', l2', l3', PicV.keepA pe fun b o hb eb => cur b o (later j e hj he b hb).1 (later j e hj he b hb).2.1 eb⟩
        · simp only [upd_same, List.map_append, List.append_assoc, List.map_cons, List.map_nil]
        · rcases List.mem_append.mp hu' with h | h
          · exact ((pr4 u h).keep fun b o hb e => cur b o (fun z => hb.2 i _ (Nat.le_refl _) hxi (.inr (by rw [z]; exact List.mem_cons_self))) hb.1 e).weak fun b hb => kpP.weak hb
          · rw [List.mem_singleton.mp h]
            have kx : ∀ y, Adr (x, q0 :: q1) y → kpP d els (i + 1) y := fun y hy => ⟨(frx y hy).2.1, fun j e hj he z => (later j e hj he y z).2.2.1 hy⟩
            have kg : ∀ y, Adr (GG, gs) y → kpP d els (i + 1) y := fun y hy => ⟨ng hd7 y hy, fun j e hj he z => by
              obtain ⟨_, _, _, o, eo⟩ := later j e hj he y z
              exact ng eo y hy rfl⟩
            refine ⟨⟨ntd, fun j e hj he z => ?_⟩, x, GG, by rw [upd_ne ntd]; exact et, kx _ (.inl rfl), kg _ (.inl rfl), .inr ⟨q0 :: q1, gs, (r0 ++ [99]) :: cc, PicV.keepA (p7.mono s9) fun b o hb e => (by rw [upd_ne (kx b hb).1]; exact e), PicV.keepA pG9 fun b o hb e => (by rw [upd_ne (kg b hb).1]; exact e), fun y hy => kx y (.inr hy), fun y hy => kg y (.inr hy)⟩⟩
            obtain ⟨_, _, _, o, eo⟩ := later j e hj he t z
            exact nt eo rfl
      · rintro σ H4 ⟨b4, eT4, eD4, cs4, zs, v11, hz, hd4, pr4, rfl⟩
        refine ⟨_, rfl, p, ps, R, rfl, picB b4, h24, fun g gs H5 s5 hg frg pg => ?_⟩
        refine ⟨_, rfl, a, _, rfl, .inl (SqL.of (s5 _ _ (b4 _ _ nad ha))), fun l hl' => ?_⟩
        have z := same_new (o := HO.lst (rs.map V.int)) hl'
        refine ⟨g, l, gs, R, wd, rs, rfl, pg.mono z, gd, upd_same, hl, hc, fun q qs H6 s6 hq frq pq => ?_⟩
        have z6 := s5.trans (z.trans s6)
        refine ⟨_, rfl, 1, q, D, true, by decide, rfl, rfl, EqL.pic pq (eD4.mono z6), ?_⟩
        exact k zs H6 hz (b4.trans (But.of z6)) (z6 _ _ hd4) fun t ht => ((pr4 t ht).keep fun b o _ e => z6 _ _ e).weak fun b hb => hb.1
    obtain ⟨t12, r12, k12⟩ : ∃ tr, PSs ((cxOf CX0 P w K mg base ["_law_picture_here", "_law_rules", "_law_held", "_law_aboves", "_law_due", "_law_handed", "_law_found", "_law_back", "_law_other", "_law_ups", "_law_kept", "_law_one"] "_law_picture_good" (defScope s_law_picture_good) f cdv A outer s H E).nox) ((defBody s_law_picture_good).drop 12) tr ∧
        ∀ (D F B O Kp CC : Addr) (ds fs bs os cs : List Addr) (v3 v5 v9 : Option V) (H2 : Hp), PSt H H2 R rs D F B O ds fs bs os → H2 Kp = some (.lst [.ref D, .ref p, .ref CC]) → PicV H2 CC cs (ir (ufP R rs)) →
          tr { nx := fun _ H' => Q .non H', rt := Q } [some (.ref p), some (.ref a), some (.ref d), v3, some (.ref D), v5, some (.ref F), some (.ref B), some (.ref O), v9, some (.ref Kp), none] H2 := by
      refine ⟨_, (pss_cons (ps_if (pt_cmpR (neDK K rfl hu) (pe_lst (pa_cons (pv 6) (pa_cons (pv 7) (pa_cons (pv 8) pa_nil)))) (pv 10) (nomark _)) (pss_one (ps_ret pe_bl)) pss_nil)
        (@r13)), ?_⟩
      intro D F B O Kp CC ds fs bs os cs v3 v5 v9 H2 X eK pC
      refine ⟨_, rfl, _, rfl, _, rfl, (by show 3 ≤ sizeLine; decide), fun M hM => ?_⟩
      have z := same_new (o := HO.lst [V.ref F, V.ref B, V.ref O]) hM
      have X2 := X.mono z
      refine ⟨_, rfl, 2, M, Kp, true, by decide, rfl, rfl, EqL.three upd_same (z _ _ eK) (eqD_pic X2.pF X2.pD) (eqD_pic X2.pB (pic.mono X2.s)) (eqD_pic X2.pO (pC.mono z)), _, rfl, iteF ?_⟩
      exact k13 D F B O ds fs bs os _ _ _ _ _ X2
    obtain ⟨t9, r9, k9⟩ : ∃ tr, PSs ((cxOf CX0 P w K mg base ["_law_picture_here", "_law_rules", "_law_held", "_law_aboves", "_law_due", "_law_handed", "_law_found", "_law_back", "_law_other", "_law_ups", "_law_kept", "_law_one"] "_law_picture_good" (defScope s_law_picture_good) f cdv A outer s H E).nox) ((defBody s_law_picture_good).drop 9) tr ∧
        ∀ (D F B O L h hr : Addr) (ds fs bs os hs : List Addr) (v3 v9 : Option V) (H2 : Hp), PSt H H2 R rs D F B O ds fs bs os → HSt H H2 R rs D F B O L h hr ds fs bs os hs →
          tr { nx := fun _ H' => Q .non H', rt := Q } [some (.ref p), some (.ref a), some (.ref d), v3, some (.ref D), some (.ref L), some (.ref F), some (.ref B), some (.ref O), v9, none, none] H2 := by
      refine ⟨_, (pss_cons (ps_set (i := 10) sc_law_picture_good.nd rfl (by first | exact Or.inl rfl | exact Or.inr rfl) (pe_lst (pa_cons (pv 4) (pa_cons (pv 0) (pa_cons (pe_callD g__law_copy (hr.mono (by decide)) rfl (pa_cons (pv 8) pa_nil)) pa_nil)))))
        (pss_cons (ps_expr (pe_bm PySem.F.plainAttrs_list PySem.F.slot_list_append PySem.F.type_list_append mt_append (pe_ix (ixK K rfl) (pe_ix (ixK K rfl) (pv 5) pe_int (fun _ _ => rfl)) pe_int (fun _ _ => rfl)) (pa_cons pe_int pa_nil)))
        (pss_cons (ps_expr (pe_bm PySem.F.plainAttrs_list PySem.F.slot_list_append PySem.F.type_list_append mt_append (pe_ix (ixK K rfl) (pv 5) pe_int (fun _ _ => rfl)) (pa_cons pe_int pa_nil)))
        (@r12)))), ?_⟩
      intro D F B O L h hr ds fs bs os hs v3 v9 H2 X Y
      refine ⟨_, rfl, _, rfl, _, rfl, O, os, ufP R rs, rfl, X.pO, gU.le, fun CC cs H3 s3 hC frC pC => ⟨(by show 3 ≤ sizeLine; decide), fun Kp hK => ?_⟩⟩
      have z := same_new (o := HO.lst [V.ref D, V.ref p, V.ref CC]) hK
      have X4 := X.mono (s3.trans z)
      have Y4 := Y.mono (s3.trans z)
      have pC4 := pC.mono z
      have eK := upd_same (H := H3) (a := Kp) (o := HO.lst [V.ref D, V.ref p, V.ref CC])
      have aC : ∀ y, Adr (CC, cs) y → y ∉ hs ∧ y ≠ hr := fun y hy => by
        have := adr_fresh hC frC hy
        exact ⟨fun z => adr_new Y.ph this (.inr z), fun z => by rw [z, Y.er] at this; cases this⟩
      have aK : Kp ∉ hs ∧ Kp ≠ hr := ⟨fun z => adr_new (Y.ph.mono s3) hK (.inr z), fun z => by rw [z, s3 _ _ Y.er] at hK; cases hK⟩
      generalize upd H3 Kp (HO.lst [V.ref D, V.ref p, V.ref CC]) = H4 at X4 Y4 pC4 eK ⊢
      obtain ⟨q0, e01, e02, e03⟩ := ref_at Y4.ph (show 0 < R.length by omega)
      have q0m := List.mem_of_getElem? e01
      have r24 : (R.getD 0 []).length ≤ 24 := by rw [(gd.row _ (row_mem (show 0 < R.length by omega)).2).1]; exact w24
      refine ⟨_, rfl, L, _, _, .ref h, rfl, rfl, SqL.of Y4.eL, atI_nat (j := 0) rfl, h, _, _, .ref q0, rfl, rfl, SqL.of Y4.ph.top, atI_nat (j := 0) e02, .inl ⟨rfl, _, SqL.of e03⟩, q0, _, .int 3, rfl, rfl, e03, ?_, ?_⟩
      · rw [List.length_map]; exact Nat.lt_of_le_of_lt r24 (by decide)
      have k5 : ∀ b o, b ≠ q0 → H4 b = some o → upd H4 q0 (.lst ((R.getD 0 []).map V.int ++ [.int 3])) b = some o := fun b o n e => by rw [upd_ne n]; exact e
      generalize upd H4 q0 (.lst ((R.getD 0 []).map V.int ++ [.int 3])) = H5 at k5 ⊢
      have eL5 := k5 _ _ (fun z => Y4.nLh (by rw [z]; exact q0m)) Y4.eL
      have er5 := k5 _ _ (fun z => Y4.nrh (by rw [z]; exact q0m)) Y4.er
      refine ⟨_, rfl, L, _, _, .ref hr, rfl, rfl, SqL.of eL5, atI_nat (j := 1) rfl, .inl ⟨rfl, _, SqL.of er5⟩, hr, _, .int 0, rfl, rfl, er5, ?_, ?_⟩
      · rw [List.length_map, hl]; exact Nat.lt_of_le_of_lt h24 (by decide)
      have k6 : ∀ b o, b ∉ hs ∧ b ≠ hr → H4 b = some o → upd H5 hr (.lst (rs.map V.int ++ [.int 0])) b = some o := fun b o n e => by rw [upd_ne n.2]; exact k5 _ _ (fun z => n.1 (by rw [z]; exact q0m)) e
      generalize upd H5 hr (.lst (rs.map V.int ++ [.int 0])) = H6 at k6 ⊢
      have s6 : Same H H6 := fun b o e => k6 b o ⟨fun z => (by have := Y.fh b z; rw [e] at this; cases this), fun z => (by rw [z, Y.fr] at e; cases e)⟩ (X4.s _ _ e)
      exact k12 D F B O Kp CC ds fs bs os cs _ _ _ H6 ⟨s6, PicV.keepA X4.pD fun b o hb e => k6 b o (Y.aD b hb) e, PicV.keepA X4.pF fun b o hb e => k6 b o (Y.aF b hb) e, PicV.keepA X4.pB fun b o hb e => k6 b o (Y.aB b hb) e, PicV.keepA X4.pO fun b o hb e => k6 b o (Y.aO b hb) e, X.fD, X.fF, X.fB, X.fO, X.dDF, X.dDB, X.dDO, X.dFB, X.dFO, X.dBO⟩ (k6 _ _ aK eK) (PicV.keepA pC4 fun b o hb e => k6 b o (aC b hb) e)
    obtain ⟨u6, r6, k6⟩ : ∃ tr, PSs ((cxOf CX0 P w K mg base ["_law_picture_here", "_law_rules", "_law_held", "_law_aboves", "_law_due", "_law_handed", "_law_found", "_law_back", "_law_other", "_law_ups", "_law_kept", "_law_one"] "_law_picture_good" (defScope s_law_picture_good) f cdv A outer s H E).nox) ((defBody s_law_picture_good).drop 6) tr ∧
        ∀ (D F B O L h hr : Addr) (ds fs bs os hs : List Addr) (v3 : Option V) (H2 : Hp), PSt H H2 R rs D F B O ds fs bs os → HSt H H2 R rs D F B O L h hr ds fs bs os hs →
          tr { nx := fun _ H' => Q .non H', rt := Q } [some (.ref p), some (.ref a), some (.ref d), v3, some (.ref D), some (.ref L), some (.ref F), some (.ref B), some (.ref O), none, none, none] H2 := by
      refine ⟨_, (pss_cons (ps_if (PW.pt (pw_or (pt_cmpR (neDK K rfl hu) (pv 6) (pv 4) (nomark _)) (pw_or (pt_cmpR (neDK K rfl hu) (pv 7) (pv 0) (nomark _)) (pw_or (pt_cmpR (neDK K rfl hu) (pv 5) (pe_lst (pa_cons (pv 0) (pa_cons (pv 1) pa_nil))) (nomark _)) (pw_or1 (pt_cmpR op_ne (pe_callB (lenK K rfl) rfl T.len PySem.boot_len (pa_cons (pv 8) pa_nil)) (pe_callB (lenK K rfl) rfl T.len PySem.boot_len (pa_cons (pv 0) pa_nil)) (nomark _))))))) (pss_one (ps_ret pe_bl)) pss_nil)
        (pss_cons (ps_set (i := 9) sc_law_picture_good.nd rfl (by first | exact Or.inl rfl | exact Or.inr rfl) (pe_op op_cat (pe_lst (pa_cons pe_non pa_nil)) (pe_slice (slK K rfl) (pv 8) po_none (po_some (pe_un un_neg pe_int)))))
        (pss_cons (ps_if (pt_cmpR (neDK K rfl hu) (pe_comp (N := ["_law_y", "_law_other", "_law_ups", "_law_rules"]) (src := [none, some 8, some 9, some 1]) rfl ⟨rfl, rfl, rfl, rfl, rfl, by decide +kernel⟩ (pi_range1 rfl T.range (pa_cons (pe_callB (lenK K rfl) rfl T.len PySem.boot_len (pa_cons (pv 8) pa_nil)) pa_nil)) (fun s H C fp => pg_name (i := 0) (show (["_law_y", "_law_other", "_law_ups", "_law_rules"] : List Str).Nodup by decide +kernel) rfl (by first | exact Or.inl rfl | exact Or.inr rfl)) (fun s H C fp => pts_nil) (fun s H C fp => (pe_callD g__law_folded (hr.mono (by decide)) rfl (pa_cons (pe_ix (ixK K rfl) (pv 1) (pv 0) (fun _ _ => rfl)) (pa_cons (pe_ix (ixK K rfl) (pv 2) (pv 0) (fun _ _ => rfl)) (pa_cons (pe_ix (ixK K rfl) (pv 3) (pv 0) (fun _ _ => rfl)) pa_nil)))))) (pv 0) (nomark _)) (pss_one (ps_ret pe_bl)) pss_nil)
        (@r9)))), ?_⟩
      intro D F B O L h hr ds fs bs os hs v3 H2 X Y
      have lo : (ufP R rs).length = R.length := ufPN_len ..
      refine ⟨_, rfl, _, rfl, 1, F, D, true, by decide, rfl, rfl, EqL.pic X.pF X.pD, _, rfl, ?_⟩
      refine ⟨_, rfl, _, rfl, 1, B, p, true, by decide, rfl, rfl, EqL.pic X.pB (pic.mono X.s), _, rfl, ?_⟩
      refine ⟨_, rfl, _, rfl, _, rfl, (by show 2 ≤ sizeLine; decide), fun M hM => ?_⟩
      have z := same_new (o := HO.lst [V.ref p, V.ref a]) hM
      have X2 := X.mono z
      have Y2 := Y.mono z
      refine ⟨2, L, M, true, by decide, rfl, rfl, EqL.two Y2.eL upd_same (eqD_pic Y2.ph (pic.mono X2.s)) (.inl (eqD_ints Y2.er (X2.s _ _ ha))), _, rfl, ?_⟩
      generalize upd H2 M (HO.lst [V.ref p, V.ref a]) = H3 at X2 Y2 ⊢
      refine ⟨_, rfl, O, _, rfl, .inl (SqL.of X2.pO.top), _, rfl, p, _, rfl, .inl (SqL.of (X2.s _ _ pic.top)), rfl, ?_⟩
      rw [List.length_map, List.length_map, X2.pO.len, ir_len, lo, lp, decide_eq_true rfl]
      refine ⟨_, rfl, iteF ?_⟩
      have pO := X2.pO
      refine ⟨(by show 1 ≤ sizeLine; decide), fun L1 hL1 => ⟨_, rfl, _, rfl, _, rfl, O, _, rfl, SqL.of (same_new hL1 _ _ pO.top), fun L2 hL2 => ?_⟩⟩
      have s4 : Same H3 (upd (upd H3 L1 (.lst [.non])) L2 (.lst (cutV (os.map V.ref) none (some (-1))))) := (same_new hL1).trans (same_new hL2)
      refine ⟨L1, L2, _, _, rfl, rfl, same_new hL2 _ _ upd_same, upd_same, ?_, fun UP hUP => ?_⟩
      · refine Nat.le_trans (Nat.add_le_add_left (cutV_length _ _ _) _) ?_
        rw [List.length_map, pO.len, ir_len]
        exact Nat.le_trans (Nat.add_le_add_left (by rw [lo]; exact h24) 1) (by decide)
      have s4 := s4.trans (same_new (o := HO.lst ([V.non] ++ cutV (os.map V.ref) none (some (-1)))) hUP)
      have eU : upd (upd (upd H3 L1 (.lst [.non])) L2 (.lst (cutV (os.map V.ref) none (some (-1))))) UP (.lst ([V.non] ++ cutV (os.map V.ref) none (some (-1)))) UP = some (.lst ([V.non] ++ cutV (os.map V.ref) none (some (-1)))) := upd_same
      generalize upd (upd (upd H3 L1 (.lst [.non])) L2 (.lst (cutV (os.map V.ref) none (some (-1))))) UP (.lst ([V.non] ++ cutV (os.map V.ref) none (some (-1)))) = H4 at s4 eU ⊢
      clear hL1 hL2 hUP
      have pO4 := pO.mono s4
      have X4 := X2.mono s4
      have Y4 := Y2.mono s4
      have ha4 := X4.s _ _ ha
      refine ⟨_, rfl, O, _, rfl, .inl (SqL.of pO4.top), _, rfl, by rw [List.length_map, pO4.len, ir_len]; have := gU.le; omega, by rw [List.length_map, pO4.len, ir_len]; have := gU.le; omega, fun D3 hD3 => ?_⟩
      refine comp_rows (k := 0) (fun v => (foldR ((ufP R rs).getD (nI v) []) (upAt (ufP R rs) (nI v)) (rs.getD (nI v) 0).toNat).map V.int) src_range (by simp only [List.length_map, List.length_range]; rw [pO4.len, ir_len]; have := gU.le; exact Nat.le_trans (show ((ufP R rs).length : Int).toNat ≤ 24 by omega) (by decide)) hD3 (fun x hx H' Q' sm kk => ?_) fun es H5 s5 frD3 pE => ?_
      · obtain ⟨y, hy, rfl⟩ := List.mem_map.mp hx
        have hyl : y < (ufP R rs).length := by
          have := List.mem_range.mp hy
          rw [List.length_map, pO4.len, ir_len] at this; omega
        have pic' := pO4.mono sm
        obtain ⟨q, _, e2, e3⟩ := ref_at pic' hyl
        obtain ⟨v, ev, av⟩ := ab_at pic' hyl
        have hyr : y < rs.length := by rw [hl]; rw [← lo]; exact hyl
        have hrs := hc (rs.getD y 0) (by
          have : rs.getD y 0 = rs[y] := by simp [List.getD, hyr]
          rw [this]; exact List.getElem_mem hyr)
        obtain ⟨rl, erl⟩ : ∃ rl : Nat, rs.getD y 0 = (rl : Int) := ⟨(rs.getD y 0).toNat, by omega⟩
        refine ⟨_, rfl, _, rfl, O, _, _, .ref q, rfl, rfl, SqL.of pic'.top, atI_nat0 e2, _, rfl, _, rfl, UP, _, _, v, rfl, rfl, SqL.of (sm _ _ eU), atI_nat0 ev, _, rfl, _, rfl, a, _, _, .int (rl : Int), rfl, rfl, SqL.of (sm _ _ ha4), atI_nat0 (by rw [ints_at hyr, erl]), q, v, _, _, rl, rfl, e3, av, rowOk_at gU hyl, by omega, fun q9 H9 s9 hq9 h9 => kk q9 H9 s9 hq9 ?_⟩
        rw [h9, nI_0, erl, Int.toNat_natCast]
      have efD3 : (((List.range ((os.map V.ref).length : Int).toNat).map fun (i : Nat) => V.int (0 + (i : Int))).map fun v => (foldR ((ufP R rs).getD (nI v) []) (upAt (ufP R rs) (nI v)) (rs.getD (nI v) 0).toNat).map V.int) = ir (foldP (ufP R rs) rs) := by
        unfold ir foldP
        rw [List.map_map, List.map_map, List.length_map, pO4.len, ir_len, Int.toNat_natCast]
        refine List.map_congr_left fun y _ => ?_
        show (foldR ((ufP R rs).getD (nI (.int (0 + (y : Int)))) []) (upAt (ufP R rs) (nI (.int (0 + (y : Int))))) (rs.getD (nI (.int (0 + (y : Int)))) 0).toNat).map V.int = _
        rw [nI_0]; rfl
      rw [efD3] at pE
      rw [fold_unfoldP gd] at pE
      have X5 := X4.mono s5
      refine ⟨_, rfl, 1, D3, p, true, by decide, rfl, rfl, EqL.pic pE (pic.mono X5.s), _, rfl, iteF ?_⟩
      exact k9 D F B O L h hr ds fs bs os hs _ _ H5 X5 (Y4.mono s5)
    refine ⟨_, (pss_cons (ps_set (i := 3) sc_law_picture_good.nd rfl (by first | exact Or.inl rfl | exact Or.inr rfl) (pe_op op_cat (pe_lst (pa_cons pe_non pa_nil)) (pe_slice (slK K rfl) (pv 0) po_none (po_some (pe_un un_neg pe_int)))))
        (pss_cons (ps_setC (ix := 4) (N := ["_law_y", "_law_picture_here", "_law_aboves", "_law_rules"]) (src := [none, some 0, some 3, some 1]) sc_law_picture_good.nd rfl rfl rfl ⟨rfl, rfl, rfl, rfl, rfl, by decide +kernel⟩ (pi_range1 rfl T.range (pa_cons (pe_callB (lenK K rfl) rfl T.len PySem.boot_len (pa_cons (pv 0) pa_nil)) pa_nil)) (fun s H C fp => pg_name (i := 0) (show (["_law_y", "_law_picture_here", "_law_aboves", "_law_rules"] : List Str).Nodup by decide +kernel) rfl (by first | exact Or.inl rfl | exact Or.inr rfl)) (fun s H C fp => pts_nil) (fun s H C fp => (pe_callD g__law_folded (hr.mono (by decide)) rfl (pa_cons (pe_ix (ixK K rfl) (pv 1) (pv 0) (fun _ _ => rfl)) (pa_cons (pe_ix (ixK K rfl) (pv 2) (pv 0) (fun _ _ => rfl)) (pa_cons (pe_ix (ixK K rfl) (pv 3) (pv 0) (fun _ _ => rfl)) pa_nil))))))
        (pss_cons (ps_set (i := 5) sc_law_picture_good.nd rfl (by first | exact Or.inl rfl | exact Or.inr rfl) (pe_lst (pa_cons (pe_callD g__law_copy (hr.mono (by decide)) rfl (pa_cons (pv 0) pa_nil)) (pa_cons (pe_callTy (listK K rfl) rfl T.list PyProof.Rows.boot_list (pa_cons (pv 1) pa_nil)) pa_nil))))
        (pss_cons (ps_set (i := 6) sc_law_picture_good.nd rfl (by first | exact Or.inl rfl | exact Or.inr rfl) (pe_callD g_folded_picture (hr.mono (by decide)) rfl (pa_cons (pe_ix (ixK K rfl) (pv 5) pe_int (fun _ _ => rfl)) (pa_cons (pe_ix (ixK K rfl) (pv 5) pe_int (fun _ _ => rfl)) pa_nil))))
        (pss_cons (ps_set (i := 7) sc_law_picture_good.nd rfl (by first | exact Or.inl rfl | exact Or.inr rfl) (pe_callD g_unfolded_picture (hr.mono (by decide)) rfl (pa_cons (pe_callD g__law_copy (hr.mono (by decide)) rfl (pa_cons (pv 4) pa_nil)) (pa_cons (pe_ix (ixK K rfl) (pv 5) pe_int (fun _ _ => rfl)) pa_nil))))
        (pss_cons (ps_set (i := 8) sc_law_picture_good.nd rfl (by first | exact Or.inl rfl | exact Or.inr rfl) (pe_callD g_unfolded_picture (hr.mono (by decide)) rfl (pa_cons (pe_ix (ixK K rfl) (pv 5) pe_int (fun _ _ => rfl)) (pa_cons (pe_ix (ixK K rfl) (pv 5) pe_int (fun _ _ => rfl)) pa_nil))))
        (@r6))))))), ?_⟩
    refine ⟨(by show 1 ≤ sizeLine; decide), fun L1 hL1 => ⟨_, rfl, _, rfl, _, rfl, p, _, rfl, SqL.of (same_new hL1 _ _ pic.top), fun L2 hL2 => ?_⟩⟩
    have sa : Same H (upd (upd H L1 (.lst [.non])) L2 (.lst (cutV (ps.map V.ref) none (some (-1))))) := (same_new hL1).trans (same_new hL2)
    refine ⟨L1, L2, _, _, rfl, rfl, same_new hL2 _ _ upd_same, upd_same, ?_, fun AB hAB => ?_⟩
    · refine Nat.le_trans (Nat.add_le_add_left (cutV_length _ _ _) _) ?_
      rw [List.length_map, pic.len, ir_len]
      exact Nat.le_trans (Nat.add_le_add_left h24 1) (by decide)
    have sa := sa.trans (same_new (o := HO.lst ([V.non] ++ cutV (ps.map V.ref) none (some (-1)))) hAB)
    have eA : upd (upd (upd H L1 (.lst [.non])) L2 (.lst (cutV (ps.map V.ref) none (some (-1))))) AB (.lst ([V.non] ++ cutV (ps.map V.ref) none (some (-1)))) AB = some (.lst ([V.non] ++ cutV (ps.map V.ref) none (some (-1)))) := upd_same
    generalize upd (upd (upd H L1 (.lst [.non])) L2 (.lst (cutV (ps.map V.ref) none (some (-1))))) AB (.lst ([V.non] ++ cutV (ps.map V.ref) none (some (-1)))) = Ha at sa eA ⊢
    clear hL1 hL2 hAB
    have pica := pic.mono sa
    have haa := sa _ _ ha
    refine ⟨_, rfl, p, _, rfl, .inl (SqL.of pica.top), _, rfl, by rw [List.length_map, pica.len, ir_len]; have := gd.le; omega, by rw [List.length_map, pica.len, ir_len]; have := gd.le; omega, fun D hD => ?_⟩
    refine comp_rows (k := 0) (fun v => (foldR ((R).getD (nI v) []) (upAt (R) (nI v)) (rs.getD (nI v) 0).toNat).map V.int) src_range (by simp only [List.length_map, List.length_range]; rw [pica.len, ir_len]; have := gd.le; exact Nat.le_trans (show ((R).length : Int).toNat ≤ 24 by omega) (by decide)) hD (fun x hx H' Q' sm kk => ?_) fun ds Hb sb frD pD => ?_
    · obtain ⟨y, hy, rfl⟩ := List.mem_map.mp hx
      have hyl : y < (R).length := by
        have := List.mem_range.mp hy
        rw [List.length_map, pica.len, ir_len] at this; omega
      have pic' := pica.mono sm
      obtain ⟨q, _, e2, e3⟩ := ref_at pic' hyl
      obtain ⟨v, ev, av⟩ := ab_at pic' hyl
      have hyr : y < rs.length := by rw [hl]; exact hyl
      have hrs := hc (rs.getD y 0) (by
        have : rs.getD y 0 = rs[y] := by simp [List.getD, hyr]
        rw [this]; exact List.getElem_mem hyr)
      obtain ⟨rl, erl⟩ : ∃ rl : Nat, rs.getD y 0 = (rl : Int) := ⟨(rs.getD y 0).toNat, by omega⟩
      refine ⟨_, rfl, _, rfl, p, _, _, .ref q, rfl, rfl, SqL.of pic'.top, atI_nat0 e2, _, rfl, _, rfl, AB, _, _, v, rfl, rfl, SqL.of (sm _ _ eA), atI_nat0 ev, _, rfl, _, rfl, a, _, _, .int (rl : Int), rfl, rfl, SqL.of (sm _ _ haa), atI_nat0 (by rw [ints_at hyr, erl]), q, v, _, _, rl, rfl, e3, av, rowOk_at gd hyl, by omega, fun q9 H9 s9 hq9 h9 => kk q9 H9 s9 hq9 ?_⟩
      rw [h9, nI_0, erl, Int.toNat_natCast]
    have efD : (((List.range ((ps.map V.ref).length : Int).toNat).map fun (i : Nat) => V.int (0 + (i : Int))).map fun v => (foldR ((R).getD (nI v) []) (upAt (R) (nI v)) (rs.getD (nI v) 0).toNat).map V.int) = ir (foldP (R) rs) := by
      unfold ir foldP
      rw [List.map_map, List.map_map, List.length_map, pica.len, ir_len, Int.toNat_natCast]
      refine List.map_congr_left fun y _ => ?_
      show (foldR ((R).getD (nI (.int (0 + (y : Int)))) []) (upAt (R) (nI (.int (0 + (y : Int))))) (rs.getD (nI (.int (0 + (y : Int)))) 0).toNat).map V.int = _
      rw [nI_0]; rfl
    rw [efD] at pD
    have sab := sa.trans sb
    have fD : ∀ y, Adr (D, ds) y → H y = none := fun y hy => sa.free (adr_fresh hD frD hy)
    refine ⟨_, rfl, p, ps, R, rfl, pic.mono sab, h24, fun h hs Hc sc hh frh ph => ?_⟩
    refine ⟨_, rfl, a, _, rfl, .inl (SqL.of (sc _ _ (sab _ _ ha))), fun hr hhr => ?_⟩
    have y1 := same_new (o := HO.lst (rs.map V.int)) hhr
    refine ⟨(by show 2 ≤ sizeLine; decide), fun L hL => ?_⟩
    have y2 := y1.trans (same_new (o := HO.lst [V.ref h, V.ref hr]) hL)
    have eL := upd_same (H := upd Hc hr (HO.lst (rs.map V.int))) (a := L) (o := HO.lst [V.ref h, V.ref hr])
    have er := same_new (o := HO.lst [V.ref h, V.ref hr]) hL _ _ (upd_same (H := Hc) (a := hr) (o := HO.lst (rs.map V.int)))
    have phd := ph.mono y2
    have pDd := (pD.mono sc).mono y2
    have nLh : L ∉ hs := fun z => adr_new (ph.mono y1) hL (.inr z)
    have nLr : L ≠ hr := fun z => by rw [z, upd_same] at hL; cases hL
    have nhr : h ≠ hr := ne_new ph.top hhr
    have nrh : hr ∉ hs := fun z => adr_new ph hhr (.inr z)
    have fh : ∀ y ∈ hs, H y = none := fun y hy => sab.free (frh y hy)
    have fr : H hr = none := sab.free (sc.free hhr)
    have aD : ∀ y, Adr (D, ds) y → y ∉ hs ∧ y ≠ hr := fun y hy => ⟨fun z => adr_new pD (frh y z) hy, fun z => adr_new (pD.mono sc) (by rw [z]; exact hhr) hy⟩
    have sd := sab.trans (sc.trans y2)
    generalize upd (upd Hc hr (HO.lst (rs.map V.int))) L (HO.lst [V.ref h, V.ref hr]) = Hd at eL er phd pDd sd ⊢
    refine ⟨_, rfl, L, _, _, .ref h, rfl, rfl, SqL.of eL, atI_nat (j := 0) rfl, _, rfl, L, _, _, .ref hr, rfl, rfl, SqL.of eL, atI_nat (j := 1) rfl, h, hr, hs, R, wd, rs, rfl, phd, gd, er, hl, hc, fun F fs He se hF frF pF => ?_⟩
    have away : ∀ {Hx : Hp} {y : Addr}, Same Hd Hx → Hx y = none → y ∉ hs ∧ y ≠ hr := fun {Hx y} s e => ⟨fun z => adr_new (phd.mono s) e (.inr z), fun z => by rw [z, s _ _ er] at e; cases e⟩
    refine ⟨_, rfl, D, ds, foldP R rs, rfl, pDd.mono se, gF.le, fun dc dcs Hf sf hdc frdc pdc => ?_⟩
    have sdf := se.trans sf
    refine ⟨_, rfl, L, _, _, .ref hr, rfl, rfl, SqL.of (sdf _ _ eL), atI_nat (j := 1) rfl, dc, hr, dcs, foldP R rs, wd, rs, rfl, pdc, gF, sdf _ _ er, by rw [foldP_len]; exact hl, hc, fun B bs Hg sg hB frB pB => ?_⟩
    rw [unfold_foldP gd] at pB
    have sdg := sdf.trans sg
    refine ⟨_, rfl, L, _, _, .ref h, rfl, rfl, SqL.of (sdg _ _ eL), atI_nat (j := 0) rfl, _, rfl, L, _, _, .ref hr, rfl, rfl, SqL.of (sdg _ _ eL), atI_nat (j := 1) rfl, h, hr, hs, R, wd, rs, rfl, phd.mono sdg, gd, sdg _ _ er, hl, hc, fun O os Hh sh hO frO pO => ?_⟩
    have sdh := sdg.trans sh
    have aF : ∀ {y}, Adr (F, fs) y → Hd y = none := fun {y} hy => adr_fresh hF frF hy
    have aB : ∀ {y}, Adr (B, bs) y → Hf y = none := fun {y} hy => adr_fresh hB frB hy
    have aO : ∀ {y}, Adr (O, os) y → Hg y = none := fun {y} hy => adr_fresh hO frO hy
    refine k6 D F B O L h hr ds fs bs os hs _ Hh ⟨sd.trans sdh, pDd.mono sdh, pF.mono (sf.trans (sg.trans sh)), pB.mono sh, pO, fD, fun y hy => sd.free (aF hy), fun y hy => sd.free (sdf.free (aB hy)), fun y hy => sd.free (sdg.free (aO hy)), fun y hy => adr_new pDd (aF hy), fun y hy => adr_new (pDd.mono sdf) (aB hy), fun y hy => adr_new (pDd.mono sdg) (aO hy), fun y hy => adr_new (pF.mono sf) (aB hy), fun y hy => adr_new (pF.mono (sf.trans sg)) (aO hy), fun y hy => adr_new pB (aO hy)⟩
      ⟨sdh _ _ eL, phd.mono sdh, sdh _ _ er, fh, fr, nLh, nLr, nhr, nrh, aD, fun y hy => away (Same.refl _) (aF hy), fun y hy => away sdf (aB hy), fun y hy => away sdg (aO hy)⟩
end
end K23
set_option Elab.async false
set_option linter.all false
set_option maxRecDepth 100000
set_option maxHeartbeats 1600000
namespace K23
open PySem L2 M4
noncomputable def mixE (c j : Int) : Int := (c * 48271 + 7919 * j + 12345) % 2147483647 * ((c * 48271 + 7919 * j + 12345) % 2147483647) % 2147483647 * ((c * 48271 + 7919 * j + 12345) % 2147483647) % 2147483647
theorem mixE_nat (c j : Int) : ∃ m : Nat, mixE c j = (m : Int) ∧ m < 2147483647 := by
  have r1 : 0 ≤ mixE c j := Int.emod_nonneg _ (by decide)
  have r2 : mixE c j < 2147483647 := Int.emod_lt_of_pos _ (by decide)
  exact ⟨(mixE c j).toNat, by omega, by omega⟩
noncomputable def spMixE : Sp := fun vs H Q _ => ∃ c k : Int, vs = [.int c, .int k] ∧ Q (.int (mixE c k)) H
noncomputable def iV : V → Int
  | .int i => i
  | _ => 0
noncomputable def rulesN (m : Nat) (n : Nat) : List Int := (List.range n).map fun (y : Nat) => mixE (m : Int) (0 + (y : Int)) / 3 % 5
theorem rulesN_len (m n : Nat) : (rulesN m n).length = n := by simp [rulesN]
theorem rulesN_in (m n : Nat) : ∀ c ∈ rulesN m n, 0 ≤ c ∧ c ≤ 4 := fun c hc => by
  obtain ⟨y, _, rfl⟩ := List.mem_map.mp hc
  omega
theorem last_at {xs : List V} {v : V} {n : Nat} (h : xs[n]? = some v) (hl : xs.length = n + 1) : atI xs (-1) = some v := by
  unfold atI ixN
  rw [hl, if_neg (by omega), if_pos (by omega)]
  have e : (-1 + ((n + 1 : Nat) : Int)).toNat = n := by omega
  simp only [Option.bind_some, e, h]
noncomputable def spLaw (tb : Addr) (K : PySem.W.Frag) : Sp := fun vs H Q _ => ∃ (a : Addr) (ns : List Int), vs = [.ref a] ∧ SqL K H a (ns.map V.int) ∧ H tb = some (.tbl #[]) ∧ ∀ H', Q (.bl true) H'
structure LSt (H : Hp) (R : List (List Int)) (wd : Nat) (rs : List Int) (p a d : Addr) (ps : List Addr) : Prop where
  pic : PicV H p ps (ir R)
  gd : Good R wd
  ea : H a = some (.lst (rs.map V.int))
  npd : p ≠ d
  nps : d ∉ ps
  nad : a ≠ d
theorem LSt.but {H H' : Hp} {R : List (List Int)} {wd : Nat} {rs : List Int} {p a d : Addr} {ps : List Addr} (x : LSt H R wd rs p a d ps) (b : But d H H') : LSt H' R wd rs p a d ps :=
  ⟨PicV.keepA x.pic fun y o hy e => b y o (by
      rcases hy with rfl | hy
      · exact x.npd
      · exact fun z => x.nps (by rw [← z]; exact hy)) e, x.gd, b _ _ x.nad x.ea, x.npd, x.nps, x.nad⟩
section
variable {P : Program} {w : World} {K : PySem.W.Frag} {mg : Str → Option Value} {base : Heap} {cFE cBP cBR : Addr} {tS tC tR t1 t2 t3 t4 : Tok}
theorem ok_law_mixedE {f : Addr} {fd : FuncData} (F : FunD K "_law_mixed" "_law_mixed" s_law_mixed .none f fd) (T : Txt K mg cFE cBP cBR tS tC tR t1 t2 t3 t4) : FnOk P w K mg base CX0 1 f fd ["_law_cell", "_law_k"] spMixE := by
  refine F.ok sc_law_mixed (fun vs H Q E h => ?_) (fun cdv A outer s H vs Q E hr h => ?_)
  · obtain ⟨c, j, rfl, _⟩ := h; rfl
  · obtain ⟨c, j, rfl, k⟩ := h
    refine ⟨_, (pss_cons (ps_set (i := 2) sc_law_mixed.nd rfl (by first | exact Or.inl rfl | exact Or.inr rfl) (pe_op op_mod (pe_op op_add (pe_op op_add (pe_op op_mul (pv 0) pe_int) (pe_op op_mul pe_int (pv 1))) pe_int) pe_int))
        (pss_one (ps_ret (pe_op op_mod (pe_op op_mul (pe_op op_mod (pe_op op_mul (pv 2) (pv 2)) pe_int) (pv 2)) pe_int)))), ?_⟩
    refine ⟨_, rfl, _, _, rfl, rfl, .inr ⟨by decide, by decide⟩, _, rfl, _, _, rfl, rfl, .inl ⟨by decide, by decide⟩, _, _, rfl, rfl, _, _, rfl, rfl, _, _, rfl, rfl, (by show (0 : Int) < 2147483647; decide), ?_⟩
    show gName 2 (.int ((c * 48271 + 7919 * j + 12345) % 2147483647)) _ H _
    have p1 : 0 ≤ (c * 48271 + 7919 * j + 12345) % 2147483647 := Int.emod_nonneg _ (by decide)
    have p2 : (c * 48271 + 7919 * j + 12345) % 2147483647 < 2147483647 := Int.emod_lt_of_pos _ (by decide)
    unfold mixE at k
    generalize (c * 48271 + 7919 * j + 12345) % 2147483647 = n at p1 p2 k
    have q1 : 0 ≤ n * n % 2147483647 := Int.emod_nonneg _ (by decide)
    have q2 : n * n % 2147483647 < 2147483647 := Int.emod_lt_of_pos _ (by decide)
    refine ⟨_, rfl, _, rfl, _, _, rfl, rfl, .inl ⟨by show _; omega, by show _; omega⟩, _, _, rfl, rfl, (by show (0 : Int) < 2147483647; decide), _, rfl, _, _, rfl, rfl, .inl ⟨Int.lt_of_lt_of_le (by decide) q1, Int.lt_trans q2 (by decide)⟩, _, _, rfl, rfl, (by show (0 : Int) < 2147483647; decide), ?_⟩
    show Q (.int (n * n % 2147483647 * n % 2147483647)) H
    exact k
theorem sc_law : FnScope ["_law_script", "_law_picture_here", "_law_cell", "_law_rules", "_law_held", "_law_y", "_law_number", "_law_above"] ["_law_script"] (defScope s_law) := ⟨rfl, rfl, rfl, by decide +kernel, rfl, by decide +kernel, by decide +kernel⟩
theorem ok_law {tb f : Addr} {fd : FuncData} (F : FunD K "law" "law" s_law .none f fd) (T : Txt K mg cFE cBP cBR tS tC tR t1 t2 t3 t4) (g__law_mixed : Def P w K mg base 1 "_law_mixed" ["_law_cell", "_law_k"] [] spMixE) (g__law_cell_at : Def P w K mg base 2 "_law_cell_at" ["_law_script", "_law_k"] [] (spCell K)) (g__law_picture : Def P w K mg base 2 "_law_picture" ["_law_cell"] [] (spLPic K)) (g__law_refused : Def P w K mg base 12 "_law_refused" ["_law_picture_here", "_law_rules", "_law_cell"] [] (spRefs K tb)) (g__law_picture_good : Def P w K mg base 9 "_law_picture_good" ["_law_picture_here", "_law_rules", "_law_held"] [] (spPicG K)) (g__law_row_good : Def P w K mg base 6 "_law_row_good" ["_law_row", "_law_above", "_law_rule", "_law_held"] [] (spRowG K)) : FnOk P w K mg base CX0 13 f fd ["_law_script"] (spLaw tb K) := by
  refine F.ok sc_law (fun vs H Q E h => ?_) (fun cdv A outer s H vs Q E hr h => ?_)
  · obtain ⟨a, ns, rfl, _⟩ := h; rfl
  · obtain ⟨a, ns, rfl, hS, ht, k⟩ := h
    have hu : _ + 64 < cLine := hr.units
    obtain ⟨u7, r7, k7⟩ : ∃ tr, PSs ((cxOf CX0 P w K mg base ["_law_script", "_law_picture_here", "_law_cell", "_law_rules", "_law_held", "_law_y", "_law_number", "_law_above"] "law" (defScope s_law) f cdv A outer s H E).nox) ((defBody s_law).drop 7) tr ∧
        ∀ (p b d : Addr) (ps ts : List Addr) (R : List (List Int)) (wd : Nat) (rs : List Int) (v2 v5 v6 v7 : Option V) (H2 : Hp), LSt H2 R wd rs p b d ps → rs.length = R.length → (∀ c ∈ rs, 0 ≤ c ∧ c ≤ 4) → H2 d = some (.lst (ts.map V.ref)) → ts.length ≤ 30 → (∀ t ∈ ts, Pair H2 (kpD d) t) →
          tr { nx := fun _ H' => Q .non H', rt := Q } [some (.ref a), some (.ref p), v2, some (.ref b), some (.ref d), v5, v6, v7] H2 := by
      refine ⟨_, (pss_cons (ps_if (pt_not (pt_val (pe_callD g__law_picture_good (hr.mono (by decide)) rfl (pa_cons (pv 1) (pa_cons (pv 3) (pa_cons (pv 4) pa_nil)))))) (pss_one (ps_ret pe_bl)) pss_nil)
        (pss_one (ps_ret (pe_cmpR (eqDK K rfl hu) (pe_comp (N := ["_law_pair"]) (src := [none]) rfl ⟨rfl, rfl, rfl, rfl, rfl, by decide +kernel⟩ (piK K rfl (pv 4)) (fun s H C fp => pg_name (i := 0) (show (["_law_pair"] : List Str).Nodup by decide +kernel) rfl (by first | exact Or.inl rfl | exact Or.inr rfl)) (fun s H C fp => (pts_one (pt_cmpR (neDK K rfl hu) (pe_ix (ixTK K rfl) (pv 0) pe_int (fun _ _ => rfl)) (pe_ix (ixTK K rfl) (pv 0) pe_int (fun _ _ => rfl)) (nomark _)))) (fun s H C fp => (pv 0))) (pe_lst pa_nil) (nomark _))))), ?_⟩
      intro p b d ps ts R wd rs v2 v5 v6 v7 H2 X hl hc hd lt pr
      refine ⟨_, rfl, _, rfl, _, rfl, p, b, d, ps, R, wd, rs, ts, rfl, X.pic, X.gd, X.ea, hl, hc, hd, by omega, X.npd, X.nps, X.nad, fun zs H3 hz b3 hd3 pr3 => ⟨_, rfl, iteF ?_⟩⟩
      have prA : ∀ t ∈ ts ++ zs, Pair H3 (kpD d) t := fun t ht => by
        rcases List.mem_append.mp ht with h | h
        · exact (pr t h).keep fun b o hb e => b3 b o hb e
        · exact pr3 t h
      refine ⟨_, rfl, d, rfl, ⟨_, SqL.of hd3⟩, fun D hD => ?_⟩
      refine comp_fm (k := 0) (fun x => x) (fun _ => false) (src_list (SqL.of hd3)) (by rw [List.length_map, List.length_append, hz]; exact Nat.le_trans (Nat.add_le_add_right lt 3) (by decide)) hD (fun x hx H' Qb sm kb => ?_) (fun x hx z => by cases z) fun H8 s8 h8 => ?_
      · obtain ⟨t, ht, rfl⟩ := List.mem_map.mp hx
        obtain ⟨_, f, g, e1, _, _, hfg⟩ := prA t ht
        have e1 := sm _ _ e1
        rcases hfg with ⟨zs, e2, e3⟩ | ⟨p1, p2, R1, q1, q2, _, _⟩
        · exact ⟨_, rfl, t, _, _, .ref f, rfl, rfl, SqT.of e1, rfl, _, rfl, t, _, _, .ref g, rfl, rfl, SqT.of e1, rfl, 0, f, g, true, by decide, rfl, rfl, eqL_ints (sm _ _ e2) (sm _ _ e3), _, rfl, kb H' (Same.refl _)⟩
        · exact ⟨_, rfl, t, _, _, .ref f, rfl, rfl, SqT.of e1, rfl, _, rfl, t, _, _, .ref g, rfl, rfl, SqT.of e1, rfl, 1, f, g, true, by decide, rfl, rfl, EqL.pic (q1.mono sm) (q2.mono sm), _, rfl, kb H' (Same.refl _)⟩
      · have e0 : ∀ l : List V, (l.filter fun _ => false).map (fun x => x) = [] := fun l => by
          rw [List.filter_eq_nil_iff.mpr (fun _ _ z => by cases z)]; rfl
        rw [e0] at h8
        exact ⟨Nat.zero_le _, fun E0 hE0 => ⟨0, D, E0, _, by decide, rfl, rfl, EqL.nil (SqL.of (same_new hE0 _ _ h8)) (SqL.of upd_same), k _⟩⟩
    obtain ⟨u6, r6, k6⟩ : ∃ tr, PSs ((cxOf CX0 P w K mg base ["_law_script", "_law_picture_here", "_law_cell", "_law_rules", "_law_held", "_law_y", "_law_number", "_law_above"] "law" (defScope s_law) f cdv A outer s H E).nox) ((defBody s_law).drop 6) tr ∧
        ∀ (m : Nat) (p b d : Addr) (ps ts : List Addr) (R : List (List Int)) (wd : Nat) (rs : List Int) (H2 : Hp), LSt H2 R wd rs p b d ps → rs.length = R.length → (∀ c ∈ rs, 0 ≤ c ∧ c ≤ 4) → H2 d = some (.lst (ts.map V.ref)) → ts.length ≤ 3 → (∀ t ∈ ts, Pair H2 (kpD d) t) →
          tr { nx := fun _ H' => Q .non H', rt := Q } [some (.ref a), some (.ref p), some (.int (m : Int)), some (.ref b), some (.ref d), none, none, none] H2 := by
      refine ⟨_, (pss_cons (ps_for PassesOwn.never rfl (pi_range1 rfl T.range (pa_cons (pe_callB (call_min2 rfl) rfl T.min PyProof.Rows.boot_min (pa_cons (pe_callB (lenK K rfl) rfl T.len PySem.boot_len (pa_cons (pv 1) pa_nil)) (pa_cons pe_int pa_nil))) pa_nil)) (pg_name (i := 5) sc_law.nd rfl (by first | exact Or.inl rfl | exact Or.inr rfl)) (pss_cons (ps_set (i := 6) sc_law.nd rfl (by first | exact Or.inl rfl | exact Or.inr rfl) (pe_callD g__law_mixed (hr.mono (by decide)) rfl (pa_cons (pv 2) (pa_cons (pe_op op_add pe_int (pv 5)) pa_nil))))
        (pss_cons (ps_set (i := 7) sc_law.nd rfl (by first | exact Or.inl rfl | exact Or.inr rfl) (pe_ix (ixK K rfl) (pe_lst (pa_cons pe_non (pa_cons (pe_ix (ixK K rfl) (pv 1) (pe_op op_sub (pv 5) pe_int) (fun _ _ => rfl)) (pa_cons (pe_ix (ixK K rfl) (pv 1) (pe_op op_mod (pe_op op_fdiv (pv 6) pe_int) (pe_callB (lenK K rfl) rfl T.len PySem.boot_len (pa_cons (pv 1) pa_nil))) (fun _ _ => rfl)) pa_nil)))) (pe_op op_mod (pv 6) pe_int) (fun _ _ => rfl)))
        (pss_one (ps_if (pt_not (pt_val (pe_callD g__law_row_good (hr.mono (by decide)) rfl (pa_cons (pe_ix (ixK K rfl) (pv 1) (pv 5) (fun _ _ => rfl)) (pa_cons (pv 7) (pa_cons (pe_ix (ixK K rfl) (pv 3) (pv 5) (fun _ _ => rfl)) (pa_cons (pv 4) pa_nil))))))) (pss_one (ps_ret pe_bl)) pss_nil)))))
        (@r7)), ?_⟩
      intro m p b d ps ts R wd rs H2 X hl hc hd lt pr
      have h1 := X.gd.ne
      have h24 := X.gd.le
      have lp : ps.length = R.length := by rw [X.pic.len, ir_len]
      obtain ⟨N, eN, N6, NR⟩ : ∃ N : Nat, (if (6 : Int) < ((ps.map V.ref).length : Int) then (6 : Int) else ((ps.map V.ref).length : Int)) = (N : Int) ∧ N ≤ 6 ∧ N ≤ R.length := by
        rw [List.length_map, lp]
        by_cases h : (6 : Int) < (R.length : Int)
        · exact ⟨6, by rw [if_pos h]; rfl, Nat.le_refl _, by omega⟩
        · exact ⟨R.length, by rw [if_neg h], by omega, Nat.le_refl _⟩
      refine ⟨_, rfl, p, _, rfl, .inl (SqL.of X.pic.top), _, _, rfl, (N : Int), (by rw [eN]), by omega, by omega, ?_⟩
      refine for_range (n := N) (fun i σ H3 => But d H2 H3 ∧ ∃ (zs : List Addr) (v5 v6 v7 : Option V), zs.length = 3 * i ∧ H3 d = some (.lst ((ts ++ zs).map V.ref)) ∧ (∀ t ∈ ts ++ zs, Pair H3 (kpD d) t) ∧ σ = [some (.ref a), some (.ref p), some (.int (m : Int)), some (.ref b), some (.ref d), v5, v6, v7]) ⟨(fun _ _ _ e => e), [], none, none, none, rfl, by rw [List.append_nil]; exact hd, by rw [List.append_nil]; exact pr, rfl⟩ ?_ ?_
      · rintro i σ H3 hi ⟨b3, zs, v5, v6, v7, hz, hd3, pr3, rfl⟩
        have X3 := X.but b3
        have hiR : i < R.length := by omega
        refine ⟨_, rfl, _, rfl, _, _, rfl, rfl, _, _, rfl, ?_⟩
        obtain ⟨mm, emm, _⟩ := mixE_nat (m : Int) (50 + (0 + (i : Int)))
        show gName 6 (.int (mixE (m : Int) (50 + (0 + (i : Int))))) _ H3 _
        rw [emm]
        have hpos : (0 : Int) < ((ps.map V.ref).length : Int) := by rw [List.length_map, lp]; omega
        obtain ⟨yA, hyA, eyA⟩ : ∃ yA : Nat, yA < R.length ∧ ∀ v, (ps.map V.ref)[yA]? = some v → atI (ps.map V.ref) (0 + (i : Int) - 1) = some v := by
          by_cases h0 : i = 0
          · refine ⟨R.length - 1, by omega, fun v hv => ?_⟩
            have e : (0 + (i : Int) - 1) = -1 := by omega
            rw [e]
            exact last_at hv (by rw [List.length_map, lp]; omega)
          · refine ⟨i - 1, by omega, fun v hv => ?_⟩
            have e : (0 + (i : Int) - 1) = ((i - 1 : Nat) : Int) := by omega
            rw [e]; exact atI_nat hv
        obtain ⟨yB, hyB, eyB⟩ : ∃ yB : Nat, yB < R.length ∧ (mm : Int) / 3 % ((ps.map V.ref).length : Int) = (yB : Int) := by
          have h1 := Int.emod_nonneg ((mm : Int) / 3) (by omega : ((ps.map V.ref).length : Int) ≠ 0)
          have h2 := Int.emod_lt_of_pos ((mm : Int) / 3) hpos
          rw [List.length_map, lp] at h1 h2 ⊢
          exact ⟨((mm : Int) / 3 % (R.length : Int)).toNat, by omega, by omega⟩
        obtain ⟨qa, a1, a2, a3⟩ := ref_at X3.pic hyA
        obtain ⟨qb, b1, b2, b3'⟩ := ref_at X3.pic hyB
        obtain ⟨q, q1, q2, q3⟩ := ref_at X3.pic hiR
        refine ⟨_, rfl, _, rfl, _, _, rfl, rfl, p, _, _, .ref qa, rfl, rfl, SqL.of X3.pic.top, eyA _ a2, _, rfl, _, rfl, _, _, rfl, rfl, ⟨by decide, by decide⟩, _, rfl, p, _, rfl, .inl (SqL.of X3.pic.top), _, _, rfl, rfl, hpos, p, _, _, .ref qb, rfl, rfl, SqL.of X3.pic.top, (by show atI _ ((mm : Int) / 3 % ((ps.map V.ref).length : Int)) = _; rw [eyB]; exact atI_nat b2), (by show 3 ≤ sizeLine; decide), fun M hM => ?_⟩
        have z := same_new (o := HO.lst [V.non, V.ref qa, V.ref qb]) hM
        obtain ⟨vab, hv, ev⟩ := atI_memN (xs := [V.non, V.ref qa, V.ref qb]) (j := mm % 3) (by show mm % 3 < 3; omega)
        have ej : ((mm % 3 : Nat) : Int) = (mm : Int) % 3 := by omega
        rw [ej] at ev
        refine ⟨_, rfl, _, _, rfl, rfl, (by show (0 : Int) < 3; decide), M, _, _, vab, rfl, rfl, SqL.of upd_same, ev, ?_⟩
        have nd : ∀ {y : Addr}, y ∈ ps → y ≠ d := fun {y} h e => X.nps (by rw [← e]; exact h)
        have ri := X.gd.row _ (row_mem hiR).2
        have w1 := X.gd.w1
        have w24 := X.gd.w24
        obtain ⟨up, av, rok, nv⟩ : ∃ up, AbV H3 vab up ∧ RowOk (R.getD i []) up ∧ ∀ y, vab = .ref y → y ≠ d := by
          have some_ : ∀ {y : Nat} {qq : Addr}, y < R.length → ps[y]? = some qq → H3 qq = some (.lst ((R.getD y []).map V.int)) → ∃ up, AbV H3 (.ref qq) up ∧ RowOk (R.getD i []) up ∧ ∀ z, V.ref qq = .ref z → z ≠ d := fun {y qq} hy e1 e2 => by
            have ry := X.gd.row _ (row_mem hy).2
            exact ⟨some (R.getD y []), .inr ⟨qq, _, rfl, rfl, e2⟩, ⟨by omega, by omega, ri.2, fun u hu => by cases hu; exact ⟨by omega, ry.2⟩⟩, fun z hz => by cases hz; exact nd (List.mem_of_getElem? e1)⟩
          simp only [List.mem_cons, List.not_mem_nil, or_false] at hv
          rcases hv with rfl | rfl | rfl
          · exact ⟨none, .inl ⟨rfl, rfl⟩, ⟨by omega, by omega, ri.2, fun u hu => by cases hu⟩, fun y hy => by cases hy⟩
          · exact some_ hyA a1 a3
          · exact some_ hyB b1 b3'
        have X4 := X3.but (But.of z)
        have hd4 := z _ _ hd3
        have pr4 : ∀ t ∈ ts ++ zs, Pair (upd H3 M (HO.lst [V.non, V.ref qa, V.ref qb])) (kpD d) t := fun t ht => (pr3 t ht).keep fun b o _ e => z _ _ e
        have av4 := av.mono z
        have q34 := z _ _ q3
        have b4 := b3.trans (But.of z)
        generalize upd H3 M (HO.lst [V.non, V.ref qa, V.ref qb]) = H4 at X4 hd4 pr4 av4 q34 b4 ⊢
        have hir : i < rs.length := by omega
        have hrs := hc (rs.getD i 0) (by
          have : rs.getD i 0 = rs[i] := by simp [List.getD, hir]
          rw [this]; exact List.getElem_mem hir)
        obtain ⟨rl, erl⟩ : ∃ rl : Nat, rs.getD i 0 = (rl : Int) := ⟨(rs.getD i 0).toNat, by omega⟩
        refine ⟨_, rfl, _, rfl, p, _, _, .ref q, rfl, rfl, SqL.of X4.pic.top, atI_nat0 q2, _, rfl, _, rfl, _, rfl, b, _, _, .int (rl : Int), rfl, rfl, SqL.of X4.ea, atI_nat0 (by rw [ints_at hir, erl]), _, rfl, q, d, vab, R.getD i [], up, rl, ts ++ zs, rfl, q34, av4, rok, by omega, hd4, by rw [List.length_append]; omega, nd (List.mem_of_getElem? q1), nv, fun zs' H5 hz' b5 hd5 pr5 => ⟨_, rfl, iteF ?_⟩⟩
        refine ⟨b4.trans b5, zs ++ zs', _, _, _, by rw [List.length_append]; omega, by rw [← List.append_assoc]; exact hd5, fun t ht => ?_, rfl⟩
        rw [← List.append_assoc] at ht
        rcases List.mem_append.mp ht with h | h
        · exact (pr4 t h).keep fun b o hb e => b5 b o hb e
        · exact pr5 t h
      · rintro σ H3 ⟨b3, zs, v5, v6, v7, hz, hd3, pr3, rfl⟩
        exact k7 p b d ps (ts ++ zs) R wd rs _ _ _ _ H3 (X.but b3) hl hc hd3 (by rw [List.length_append]; omega) pr3
    obtain ⟨u5, r5, k5⟩ : ∃ tr, PSs ((cxOf CX0 P w K mg base ["_law_script", "_law_picture_here", "_law_cell", "_law_rules", "_law_held", "_law_y", "_law_number", "_law_above"] "law" (defScope s_law) f cdv A outer s H E).nox) ((defBody s_law).drop 5) tr ∧
        ∀ (m : Nat) (p b d : Addr) (ps : List Addr) (R : List (List Int)) (wd : Nat) (rs : List Int) (H2 : Hp), LSt H2 R wd rs p b d ps → rs.length = R.length → (∀ c ∈ rs, 0 ≤ c ∧ c ≤ 4) → H2 d = some (.lst []) →
          tr { nx := fun _ H' => Q .non H', rt := Q } [some (.ref a), some (.ref p), some (.int (m : Int)), some (.ref b), some (.ref d), none, none, none] H2 := by
      refine ⟨_, (pss_cons (ps_if (PW.pt (pw_and (pt_cmpR op_eq (pe_op op_mod (pv 2) pe_int) pe_int (nomark _)) (pw_and1 (pt_not (pt_val (pe_callD g__law_picture_good (hr.mono (by decide)) rfl (pa_cons (pv 1) (pa_cons (pv 3) (pa_cons (pv 4) pa_nil))))))))) (pss_one (ps_ret pe_bl)) pss_nil)
        (@r6)), ?_⟩
      intro m p b d ps R wd rs H2 X hl hc hd
      refine ⟨_, rfl, _, _, rfl, rfl, (by show (0 : Int) < 2; decide), rfl, _, rfl, ?_⟩
      refine ite2 (fun _ => ?_) (fun _ => ?_)
      · refine ⟨_, rfl, _, rfl, _, rfl, p, b, d, ps, R, wd, rs, [], rfl, X.pic, X.gd, X.ea, hl, hc, hd, by decide, X.npd, X.nps, X.nad, fun zs H3 hz b3 hd3 pr3 => ⟨_, rfl, iteF ?_⟩⟩
        exact k6 m p b d ps zs R wd rs H3 (X.but b3) hl hc hd3 (by omega) pr3
      · exact iteF (k6 m p b d ps [] R wd rs H2 X hl hc hd (by decide) (fun t ht => nomatch ht))
    refine ⟨_, (pss_cons (ps_set (i := 1) sc_law.nd rfl (by first | exact Or.inl rfl | exact Or.inr rfl) (pe_callD g__law_picture (hr.mono (by decide)) rfl (pa_cons (pe_callD g__law_mixed (hr.mono (by decide)) rfl (pa_cons (pe_callD g__law_cell_at (hr.mono (by decide)) rfl (pa_cons (pv 0) (pa_cons pe_int pa_nil))) (pa_cons pe_int pa_nil))) pa_nil)))
        (pss_cons (ps_set (i := 2) sc_law.nd rfl (by first | exact Or.inl rfl | exact Or.inr rfl) (pe_callD g__law_mixed (hr.mono (by decide)) rfl (pa_cons (pe_callD g__law_cell_at (hr.mono (by decide)) rfl (pa_cons (pv 0) (pa_cons pe_int pa_nil))) (pa_cons pe_int pa_nil))))
        (pss_cons (ps_setC (ix := 3) (N := ["_law_y", "_law_cell"]) (src := [none, some 2]) sc_law.nd rfl rfl rfl ⟨rfl, rfl, rfl, rfl, rfl, by decide +kernel⟩ (pi_range1 rfl T.range (pa_cons (pe_callB (lenK K rfl) rfl T.len PySem.boot_len (pa_cons (pv 1) pa_nil)) pa_nil)) (fun s H C fp => pg_name (i := 0) (show (["_law_y", "_law_cell"] : List Str).Nodup by decide +kernel) rfl (by first | exact Or.inl rfl | exact Or.inr rfl)) (fun s H C fp => pts_nil) (fun s H C fp => (pe_op op_mod (pe_op op_fdiv (pe_callD g__law_mixed (hr.mono (by decide)) rfl (pa_cons (pv 1) (pa_cons (pv 0) pa_nil))) pe_int) pe_int)))
        (pss_cons (ps_set (i := 4) sc_law.nd rfl (by first | exact Or.inl rfl | exact Or.inr rfl) (pe_lst pa_nil))
        (pss_cons (ps_if (pt_not (pt_val (pe_callD g__law_refused (hr.mono (by decide)) rfl (pa_cons (pv 1) (pa_cons (pv 3) (pa_cons (pe_callD g__law_mixed (hr.mono (by decide)) rfl (pa_cons (pe_callD g__law_cell_at (hr.mono (by decide)) rfl (pa_cons (pv 0) (pa_cons pe_int pa_nil))) (pa_cons pe_int pa_nil))) pa_nil)))))) (pss_one (ps_ret pe_bl)) pss_nil)
        (@r5)))))), ?_⟩
    obtain ⟨m0, e0, hm0⟩ := mixE_nat (ns.getD 0 0) 0
    obtain ⟨m1, e1, hm1⟩ := mixE_nat (ns.getD 1 0) 1
    obtain ⟨m2, e2, hm2⟩ := mixE_nat (ns.getD 2 0) 2
    refine ⟨_, rfl, a, ns, 0, rfl, hS, _, 0, rfl, m0, (by rw [← e0]; rfl), fun p ps R wd H1 s1 hp fr pic gd => ?_⟩
    refine ⟨_, rfl, a, ns, 1, rfl, s1.sq hS, _, 1, rfl, ?_⟩
    show gName 2 (.int (mixE (ns.getD 1 0) 1)) _ H1 _
    rw [e1]
    have lp : ps.length = R.length := by rw [pic.len, ir_len]
    have h24 := gd.le
    refine ⟨_, rfl, p, _, rfl, .inl (SqL.of pic.top), _, rfl, by rw [List.length_map, lp]; omega, by rw [List.length_map, lp]; omega, fun D hD => ?_⟩
    refine comp_fm (k := 0) (fun v => .int (mixE (m1 : Int) (iV v) / 3 % 5)) (fun _ => true) src_range (by simp only [List.length_map, List.length_range]; rw [lp]; exact Nat.le_trans (show (R.length : Int).toNat ≤ 24 by omega) (by decide)) hD (fun x _ H' Qb _ kb => kb H' (Same.refl _)) (fun x hx _ H' Q' sm kk => ?_) fun H2 s2 h2 => ?_
    · obtain ⟨y, hy, rfl⟩ := List.mem_map.mp hx
      exact ⟨_, rfl, _, rfl, _, _, rfl, _, _, rfl, rfl, ⟨by decide, by decide⟩, _, _, rfl, rfl, (by show (0 : Int) < 5; decide), kk H' (Same.refl _)⟩
    have er : ((((List.range ((ps.map V.ref).length : Int).toNat).map fun (i : Nat) => V.int (0 + (i : Int))).filter fun _ => true).map fun v => V.int (mixE (m1 : Int) (iV v) / 3 % 5)) = (rulesN m1 R.length).map V.int := by
      unfold rulesN
      rw [filter_t, List.map_map, List.map_map, List.length_map, lp, Int.toNat_natCast]
      exact List.map_congr_left fun y _ => rfl
    rw [er] at h2
    refine ⟨Nat.zero_le _, fun d hd => ?_⟩
    have z := same_new (o := HO.lst []) hd
    have pic3 := (pic.mono s2).mono z
    have ed : upd H2 d (HO.lst []) d = some (.lst []) := upd_same
    have eD := z _ _ h2
    have X : LSt (upd H2 d (HO.lst [])) R wd (rulesN m1 R.length) p D d ps := ⟨pic3, gd, eD, ne_new (s2 _ _ pic.top) hd, fun hh => adr_new (pic.mono s2) hd (.inr hh), ne_new h2 hd⟩
    have s3 := s1.trans (s2.trans z)
    generalize upd H2 d (HO.lst []) = H3 at X ed s3 ⊢
    refine ⟨_, rfl, _, rfl, _, rfl, a, ns, 2, rfl, s3.sq hS, _, 2, rfl, p, D, ps, R, wd, rulesN m1 R.length, m2, (by rw [← e2]; rfl), X.pic, gd, X.ea, rulesN_len _ _, (TabG.start ht).mono s3, fun H4 n4 _ => ⟨_, rfl, iteF ?_⟩⟩
    exact k5 m1 p D d ps R wd _ H4 ⟨n4.pic X.pic, gd, n4.lst X.ea, X.npd, X.nps, X.nad⟩ (rulesN_len _ _) (rulesN_in _ _) (n4.lst ed)
end
end K23
set_option Elab.async false
set_option linter.all false
set_option maxRecDepth 100000
set_option maxHeartbeats 8000000
namespace K23
open PySem L2
theorem all_mk {l : PySem.W.OpenLaw} {w : World} {K : PySem.W.Frag} {h : Heap} {mg : Str → Option Value} {fa : Addr} (X : K.In h) (G : h.Ns mainGlobals mg) (hfa : mg "law" = some (.ref fa)) {cL pL : Addr}
    {f1 f2 f3 f4 f5 f6 f7 f8 f9 f10 f11 f12 f13 f14 f15 f16 f17 f18 f19 f20 f21 f22 f23 f24 f25 f26 f27 f28 f29 f30 f31 f32 f33 f34 f35 f36 f37 f38 f39 f40 f41 cFE cBP cBR cBadCell cBadCheck cBadColour cBadDeed cBadEdge cBadHead cBadMask cBadName cBadPack cBadPalette cBadPart cBadRuns cBadSize cBadText cNoColour cNoPart cNoPicture cNothingDone cOutOfPlace cTooMany cTwice : Addr} {tS tC tR t1 t2 t3 t4 : Tok} {od1 an1 od2 an2 od3 an3 od4 an4 od5 an5 od6 an6 od7 an7 od8 an8 od9 an9 od10 an10 od11 an11 od12 an12 od13 an13 od14 an14 od15 an15 od16 an16 od17 an17 od18 an18 od19 an19 od20 an20 od21 an21 od22 an22 od23 an23 od24 an24 od25 an25 od26 an26 od27 an27 od28 an28 od29 an29 od30 an30 od31 an31 od32 an32 od33 an33 od34 an34 od35 an35 od36 an36 od37 an37 od38 an38 od39 an39 od40 an40 od41 an41 : Option Addr} {sl1 sl2 sl3 sl4 sl5 sl6 sl7 sl8 sl9 sl10 sl11 sl12 sl13 sl14 sl15 sl16 sl17 sl18 sl19 sl20 sl21 sl22 sl23 sl24 sl25 sl26 sl27 sl28 sl29 sl30 sl31 sl32 sl33 sl34 sl35 sl36 sl37 sl38 sl39 sl40 sl41 : Array (Option Value)} {oc1 kV1 dc1 pm1 cd1 ct1 oc2 kV2 dc2 pm2 cd2 ct2 oc3 kV3 dc3 pm3 cd3 ct3 oc4 kV4 dc4 pm4 cd4 ct4 oc5 kV5 dc5 pm5 cd5 ct5 oc6 kV6 dc6 pm6 cd6 ct6 oc7 kV7 dc7 pm7 cd7 ct7 oc8 kV8 dc8 pm8 cd8 ct8 oc9 kV9 dc9 pm9 cd9 ct9 oc10 kV10 dc10 pm10 cd10 ct10 oc11 kV11 dc11 pm11 cd11 ct11 oc12 kV12 dc12 pm12 cd12 ct12 oc13 kV13 dc13 pm13 cd13 ct13 oc14 kV14 dc14 pm14 cd14 ct14 oc15 kV15 dc15 pm15 cd15 ct15 oc16 kV16 dc16 pm16 cd16 ct16 oc17 kV17 dc17 pm17 cd17 ct17 oc18 kV18 dc18 pm18 cd18 ct18 oc19 kV19 dc19 pm19 cd19 ct19 oc20 kV20 dc20 pm20 cd20 ct20 oc21 kV21 dc21 pm21 cd21 ct21 oc22 kV22 dc22 pm22 cd22 ct22 oc23 kV23 dc23 pm23 cd23 ct23 oc24 kV24 dc24 pm24 cd24 ct24 oc25 kV25 dc25 pm25 cd25 ct25 oc26 kV26 dc26 pm26 cd26 ct26 oc27 kV27 dc27 pm27 cd27 ct27 oc28 kV28 dc28 pm28 cd28 ct28 oc29 kV29 dc29 pm29 cd29 ct29 oc30 kV30 dc30 pm30 cd30 ct30 oc31 kV31 dc31 pm31 cd31 ct31 oc32 kV32 dc32 pm32 cd32 ct32 oc33 kV33 dc33 pm33 cd33 ct33 oc34 kV34 dc34 pm34 cd34 ct34 oc35 kV35 dc35 pm35 cd35 ct35 oc36 kV36 dc36 pm36 cd36 ct36 oc37 kV37 dc37 pm37 cd37 ct37 oc38 kV38 dc38 pm38 cd38 ct38 oc39 kV39 dc39 pm39 cd39 ct39 oc40 kV40 dc40 pm40 cd40 ct40 oc41 kV41 dc41 pm41 cd41 ct41 : Value}
    (a1 : PySem.W.nsIn K mainGlobals "is_whole_from" = some (some (.ref f1))) (l1 : K.lookup f1 = some ⟨oc1, od1, .func (PySem.W.fnOf "is_whole_from" "is_whole_from" (defArgs s_is_whole_from) (defBody s_is_whole_from) (defScope s_is_whole_from) .none kV1 dc1 pm1 an1 cd1 ct1), sl1⟩) (c1 : PySem.W.codeIn K cd1 "is_whole_from" = true) (k1 : PySem.W.keepIn K (.ref f1) = true)
    (a2 : PySem.W.nsIn K mainGlobals "is_whole_within" = some (some (.ref f2))) (l2 : K.lookup f2 = some ⟨oc2, od2, .func (PySem.W.fnOf "is_whole_within" "is_whole_within" (defArgs s_is_whole_within) (defBody s_is_whole_within) (defScope s_is_whole_within) .none kV2 dc2 pm2 an2 cd2 ct2), sl2⟩) (c2 : PySem.W.codeIn K cd2 "is_whole_within" = true) (k2 : PySem.W.keepIn K (.ref f2) = true)
    (a3 : PySem.W.nsIn K mainGlobals "is_cell" = some (some (.ref f3))) (l3 : K.lookup f3 = some ⟨oc3, od3, .func (PySem.W.fnOf "is_cell" "is_cell" (defArgs s_is_cell) (defBody s_is_cell) (defScope s_is_cell) .none kV3 dc3 pm3 an3 cd3 ct3), sl3⟩) (c3 : PySem.W.codeIn K cd3 "is_cell" = true) (k3 : PySem.W.keepIn K (.ref f3) = true)
    (a4 : PySem.W.nsIn K mainGlobals "is_side" = some (some (.ref f4))) (l4 : K.lookup f4 = some ⟨oc4, od4, .func (PySem.W.fnOf "is_side" "is_side" (defArgs s_is_side) (defBody s_is_side) (defScope s_is_side) .none kV4 dc4 pm4 an4 cd4 ct4), sl4⟩) (c4 : PySem.W.codeIn K cd4 "is_side" = true) (k4 : PySem.W.keepIn K (.ref f4) = true)
    (a5 : PySem.W.nsIn K mainGlobals "is_list_of" = some (some (.ref f5))) (l5 : K.lookup f5 = some ⟨oc5, od5, .func (PySem.W.fnOf "is_list_of" "is_list_of" (defArgs s_is_list_of) (defBody s_is_list_of) (defScope s_is_list_of) .none kV5 dc5 pm5 an5 cd5 ct5), sl5⟩) (c5 : PySem.W.codeIn K cd5 "is_list_of" = true) (k5 : PySem.W.keepIn K (.ref f5) = true)
    (a6 : PySem.W.nsIn K mainGlobals "are_rows_of" = some (some (.ref f6))) (l6 : K.lookup f6 = some ⟨oc6, od6, .func (PySem.W.fnOf "are_rows_of" "are_rows_of" (defArgs s_are_rows_of) (defBody s_are_rows_of) (defScope s_are_rows_of) .none kV6 dc6 pm6 an6 cd6 ct6), sl6⟩) (c6 : PySem.W.codeIn K cd6 "are_rows_of" = true) (k6 : PySem.W.keepIn K (.ref f6) = true)
    (a7 : PySem.W.nsIn K mainGlobals "is_picture" = some (some (.ref f7))) (l7 : K.lookup f7 = some ⟨oc7, od7, .func (PySem.W.fnOf "is_picture" "is_picture" (defArgs s_is_picture) (defBody s_is_picture) (defScope s_is_picture) .none kV7 dc7 pm7 an7 cd7 ct7), sl7⟩) (c7 : PySem.W.codeIn K cd7 "is_picture" = true) (k7 : PySem.W.keepIn K (.ref f7) = true)
    (a8 : PySem.W.nsIn K mainGlobals "need_picture" = some (some (.ref f8))) (l8 : K.lookup f8 = some ⟨oc8, od8, .func (PySem.W.fnOf "need_picture" "need_picture" (defArgs s_need_picture) (defBody s_need_picture) (defScope s_need_picture) .none kV8 dc8 pm8 an8 cd8 ct8), sl8⟩) (c8 : PySem.W.codeIn K cd8 "need_picture" = true) (k8 : PySem.W.keepIn K (.ref f8) = true)
    (a9 : PySem.W.nsIn K mainGlobals "is_fold_rule" = some (some (.ref f9))) (l9 : K.lookup f9 = some ⟨oc9, od9, .func (PySem.W.fnOf "is_fold_rule" "is_fold_rule" (defArgs s_is_fold_rule) (defBody s_is_fold_rule) (defScope s_is_fold_rule) .none kV9 dc9 pm9 an9 cd9 ct9), sl9⟩) (c9 : PySem.W.codeIn K cd9 "is_fold_rule" = true) (k9 : PySem.W.keepIn K (.ref f9) = true)
    (a10 : PySem.W.nsIn K mainGlobals "is_list_of" = some (some (.ref f10))) (l10 : K.lookup f10 = some ⟨oc10, od10, .func (PySem.W.fnOf "is_list_of" "is_list_of" (defArgs s_is_list_of) (defBody s_is_list_of) (defScope s_is_list_of) .none kV10 dc10 pm10 an10 cd10 ct10), sl10⟩) (c10 : PySem.W.codeIn K cd10 "is_list_of" = true) (k10 : PySem.W.keepIn K (.ref f10) = true)
    (a11 : PySem.W.nsIn K mainGlobals "need_fold_rule" = some (some (.ref f11))) (l11 : K.lookup f11 = some ⟨oc11, od11, .func (PySem.W.fnOf "need_fold_rule" "need_fold_rule" (defArgs s_need_fold_rule) (defBody s_need_fold_rule) (defScope s_need_fold_rule) .none kV11 dc11 pm11 an11 cd11 ct11), sl11⟩) (c11 : PySem.W.codeIn K cd11 "need_fold_rule" = true) (k11 : PySem.W.keepIn K (.ref f11) = true)
    (a12 : PySem.W.nsIn K mainGlobals "need_fold_rules" = some (some (.ref f12))) (l12 : K.lookup f12 = some ⟨oc12, od12, .func (PySem.W.fnOf "need_fold_rules" "need_fold_rules" (defArgs s_need_fold_rules) (defBody s_need_fold_rules) (defScope s_need_fold_rules) .none kV12 dc12 pm12 an12 cd12 ct12), sl12⟩) (c12 : PySem.W.codeIn K cd12 "need_fold_rules" = true) (k12 : PySem.W.keepIn K (.ref f12) = true)
    (a13 : PySem.W.nsIn K mainGlobals "row_above" = some (some (.ref f13))) (l13 : K.lookup f13 = some ⟨oc13, od13, .func (PySem.W.fnOf "row_above" "row_above" (defArgs s_row_above) (defBody s_row_above) (defScope s_row_above) .none kV13 dc13 pm13 an13 cd13 ct13), sl13⟩) (c13 : PySem.W.codeIn K cd13 "row_above" = true) (k13 : PySem.W.keepIn K (.ref f13) = true)
    (a14 : PySem.W.nsIn K mainGlobals "awaited" = some (some (.ref f14))) (l14 : K.lookup f14 = some ⟨oc14, od14, .func (PySem.W.fnOf "awaited" "awaited" (defArgs s_awaited) (defBody s_awaited) (defScope s_awaited) .none kV14 dc14 pm14 an14 cd14 ct14), sl14⟩) (c14 : PySem.W.codeIn K cd14 "awaited" = true) (k14 : PySem.W.keepIn K (.ref f14) = true)
    (a15 : PySem.W.nsIn K mainGlobals "folded_cell" = some (some (.ref f15))) (l15 : K.lookup f15 = some ⟨oc15, od15, .func (PySem.W.fnOf "folded_cell" "folded_cell" (defArgs s_folded_cell) (defBody s_folded_cell) (defScope s_folded_cell) .none kV15 dc15 pm15 an15 cd15 ct15), sl15⟩) (c15 : PySem.W.codeIn K cd15 "folded_cell" = true) (k15 : PySem.W.keepIn K (.ref f15) = true)
    (a16 : PySem.W.nsIn K mainGlobals "unfolded_cell" = some (some (.ref f16))) (l16 : K.lookup f16 = some ⟨oc16, od16, .func (PySem.W.fnOf "unfolded_cell" "unfolded_cell" (defArgs s_unfolded_cell) (defBody s_unfolded_cell) (defScope s_unfolded_cell) .none kV16 dc16 pm16 an16 cd16 ct16), sl16⟩) (c16 : PySem.W.codeIn K cd16 "unfolded_cell" = true) (k16 : PySem.W.keepIn K (.ref f16) = true)
    (a17 : PySem.W.nsIn K mainGlobals "folded_row" = some (some (.ref f17))) (l17 : K.lookup f17 = some ⟨oc17, od17, .func (PySem.W.fnOf "folded_row" "folded_row" (defArgs s_folded_row) (defBody s_folded_row) (defScope s_folded_row) .none kV17 dc17 pm17 an17 cd17 ct17), sl17⟩) (c17 : PySem.W.codeIn K cd17 "folded_row" = true) (k17 : PySem.W.keepIn K (.ref f17) = true)
    (a18 : PySem.W.nsIn K mainGlobals "folded_row" = some (some (.ref f18))) (l18 : K.lookup f18 = some ⟨oc18, od18, .func (PySem.W.fnOf "folded_row" "folded_row" (defArgs s_folded_row) (defBody s_folded_row) (defScope s_folded_row) .none kV18 dc18 pm18 an18 cd18 ct18), sl18⟩) (c18 : PySem.W.codeIn K cd18 "folded_row" = true) (k18 : PySem.W.keepIn K (.ref f18) = true)
    (a19 : PySem.W.nsIn K mainGlobals "unfolded_row" = some (some (.ref f19))) (l19 : K.lookup f19 = some ⟨oc19, od19, .func (PySem.W.fnOf "unfolded_row" "unfolded_row" (defArgs s_unfolded_row) (defBody s_unfolded_row) (defScope s_unfolded_row) .none kV19 dc19 pm19 an19 cd19 ct19), sl19⟩) (c19 : PySem.W.codeIn K cd19 "unfolded_row" = true) (k19 : PySem.W.keepIn K (.ref f19) = true)
    (a20 : PySem.W.nsIn K mainGlobals "unfolded_row" = some (some (.ref f20))) (l20 : K.lookup f20 = some ⟨oc20, od20, .func (PySem.W.fnOf "unfolded_row" "unfolded_row" (defArgs s_unfolded_row) (defBody s_unfolded_row) (defScope s_unfolded_row) .none kV20 dc20 pm20 an20 cd20 ct20), sl20⟩) (c20 : PySem.W.codeIn K cd20 "unfolded_row" = true) (k20 : PySem.W.keepIn K (.ref f20) = true)
    (a21 : PySem.W.nsIn K mainGlobals "above_in" = some (some (.ref f21))) (l21 : K.lookup f21 = some ⟨oc21, od21, .func (PySem.W.fnOf "above_in" "above_in" (defArgs s_above_in) (defBody s_above_in) (defScope s_above_in) .none kV21 dc21 pm21 an21 cd21 ct21), sl21⟩) (c21 : PySem.W.codeIn K cd21 "above_in" = true) (k21 : PySem.W.keepIn K (.ref f21) = true)
    (a22 : PySem.W.nsIn K mainGlobals "folded_picture" = some (some (.ref f22))) (l22 : K.lookup f22 = some ⟨oc22, od22, .func (PySem.W.fnOf "folded_picture" "folded_picture" (defArgs s_folded_picture) (defBody s_folded_picture) (defScope s_folded_picture) .none kV22 dc22 pm22 an22 cd22 ct22), sl22⟩) (c22 : PySem.W.codeIn K cd22 "folded_picture" = true) (k22 : PySem.W.keepIn K (.ref f22) = true)
    (a23 : PySem.W.nsIn K mainGlobals "folded_picture" = some (some (.ref f23))) (l23 : K.lookup f23 = some ⟨oc23, od23, .func (PySem.W.fnOf "folded_picture" "folded_picture" (defArgs s_folded_picture) (defBody s_folded_picture) (defScope s_folded_picture) .none kV23 dc23 pm23 an23 cd23 ct23), sl23⟩) (c23 : PySem.W.codeIn K cd23 "folded_picture" = true) (k23 : PySem.W.keepIn K (.ref f23) = true)
    (a24 : PySem.W.nsIn K mainGlobals "unfolded_picture" = some (some (.ref f24))) (l24 : K.lookup f24 = some ⟨oc24, od24, .func (PySem.W.fnOf "unfolded_picture" "unfolded_picture" (defArgs s_unfolded_picture) (defBody s_unfolded_picture) (defScope s_unfolded_picture) .none kV24 dc24 pm24 an24 cd24 ct24), sl24⟩) (c24 : PySem.W.codeIn K cd24 "unfolded_picture" = true) (k24 : PySem.W.keepIn K (.ref f24) = true)
    (a25 : PySem.W.nsIn K mainGlobals "unfolded_picture" = some (some (.ref f25))) (l25 : K.lookup f25 = some ⟨oc25, od25, .func (PySem.W.fnOf "unfolded_picture" "unfolded_picture" (defArgs s_unfolded_picture) (defBody s_unfolded_picture) (defScope s_unfolded_picture) .none kV25 dc25 pm25 an25 cd25 ct25), sl25⟩) (c25 : PySem.W.codeIn K cd25 "unfolded_picture" = true) (k25 : PySem.W.keepIn K (.ref f25) = true)
    (a26 : PySem.W.nsIn K mainGlobals "_law_said" = some (some (.ref f26))) (l26 : K.lookup f26 = some ⟨oc26, od26, .func (PySem.W.fnOf "_law_said" "_law_said" (defArgs s_law_said) (defBody s_law_said) (defScope s_law_said) .none kV26 dc26 pm26 an26 cd26 ct26), sl26⟩) (c26 : PySem.W.codeIn K cd26 "_law_said" = true) (k26 : PySem.W.keepIn K (.ref f26) = true)
    (a27 : PySem.W.nsIn K mainGlobals "_law_cell_at" = some (some (.ref f27))) (l27 : K.lookup f27 = some ⟨oc27, od27, .func (PySem.W.fnOf "_law_cell_at" "_law_cell_at" (defArgs s_law_cell_at) (defBody s_law_cell_at) (defScope s_law_cell_at) .none kV27 dc27 pm27 an27 cd27 ct27), sl27⟩) (c27 : PySem.W.codeIn K cd27 "_law_cell_at" = true) (k27 : PySem.W.keepIn K (.ref f27) = true)
    (a28 : PySem.W.nsIn K mainGlobals "_law_mixed" = some (some (.ref f28))) (l28 : K.lookup f28 = some ⟨oc28, od28, .func (PySem.W.fnOf "_law_mixed" "_law_mixed" (defArgs s_law_mixed) (defBody s_law_mixed) (defScope s_law_mixed) .none kV28 dc28 pm28 an28 cd28 ct28), sl28⟩) (c28 : PySem.W.codeIn K cd28 "_law_mixed" = true) (k28 : PySem.W.keepIn K (.ref f28) = true)
    (a29 : PySem.W.nsIn K mainGlobals "_law_mixed" = some (some (.ref f29))) (l29 : K.lookup f29 = some ⟨oc29, od29, .func (PySem.W.fnOf "_law_mixed" "_law_mixed" (defArgs s_law_mixed) (defBody s_law_mixed) (defScope s_law_mixed) .none kV29 dc29 pm29 an29 cd29 ct29), sl29⟩) (c29 : PySem.W.codeIn K cd29 "_law_mixed" = true) (k29 : PySem.W.keepIn K (.ref f29) = true)
    (a30 : PySem.W.nsIn K mainGlobals "_law_whole" = some (some (.ref f30))) (l30 : K.lookup f30 = some ⟨oc30, od30, .func (PySem.W.fnOf "_law_whole" "_law_whole" (defArgs s_law_whole) (defBody s_law_whole) (defScope s_law_whole) .none kV30 dc30 pm30 an30 cd30 ct30), sl30⟩) (c30 : PySem.W.codeIn K cd30 "_law_whole" = true) (k30 : PySem.W.keepIn K (.ref f30) = true)
    (a31 : PySem.W.nsIn K mainGlobals "_law_numbers" = some (some (.ref f31))) (l31 : K.lookup f31 = some ⟨oc31, od31, .func (PySem.W.fnOf "_law_numbers" "_law_numbers" (defArgs s_law_numbers) (defBody s_law_numbers) (defScope s_law_numbers) .none kV31 dc31 pm31 an31 cd31 ct31), sl31⟩) (c31 : PySem.W.codeIn K cd31 "_law_numbers" = true) (k31 : PySem.W.keepIn K (.ref f31) = true)
    (a32 : PySem.W.nsIn K mainGlobals "_law_fresh" = some (some (.ref f32))) (l32 : K.lookup f32 = some ⟨oc32, od32, .func (PySem.W.fnOf "_law_fresh" "_law_fresh" (defArgs s_law_fresh) (defBody s_law_fresh) (defScope s_law_fresh) .none kV32 dc32 pm32 an32 cd32 ct32), sl32⟩) (c32 : PySem.W.codeIn K cd32 "_law_fresh" = true) (k32 : PySem.W.keepIn K (.ref f32) = true)
    (a33 : PySem.W.nsIn K mainGlobals "_law_but_one" = some (some (.ref f33))) (l33 : K.lookup f33 = some ⟨oc33, od33, .func (PySem.W.fnOf "_law_but_one" "_law_but_one" (defArgs s_law_but_one) (defBody s_law_but_one) (defScope s_law_but_one) .none kV33 dc33 pm33 an33 cd33 ct33), sl33⟩) (c33 : PySem.W.codeIn K cd33 "_law_but_one" = true) (k33 : PySem.W.keepIn K (.ref f33) = true)
    (a34 : PySem.W.nsIn K mainGlobals "_law_folded" = some (some (.ref f34))) (l34 : K.lookup f34 = some ⟨oc34, od34, .func (PySem.W.fnOf "_law_folded" "_law_folded" (defArgs s_law_folded) (defBody s_law_folded) (defScope s_law_folded) .none kV34 dc34 pm34 an34 cd34 ct34), sl34⟩) (c34 : PySem.W.codeIn K cd34 "_law_folded" = true) (k34 : PySem.W.keepIn K (.ref f34) = true)
    (a35 : PySem.W.nsIn K mainGlobals "_law_picture" = some (some (.ref f35))) (l35 : K.lookup f35 = some ⟨oc35, od35, .func (PySem.W.fnOf "_law_picture" "_law_picture" (defArgs s_law_picture) (defBody s_law_picture) (defScope s_law_picture) .none kV35 dc35 pm35 an35 cd35 ct35), sl35⟩) (c35 : PySem.W.codeIn K cd35 "_law_picture" = true) (k35 : PySem.W.keepIn K (.ref f35) = true)
    (a36 : PySem.W.nsIn K mainGlobals "_law_no_picture" = some (some (.ref f36))) (l36 : K.lookup f36 = some ⟨oc36, od36, .func (PySem.W.fnOf "_law_no_picture" "_law_no_picture" (defArgs s_law_no_picture) (defBody s_law_no_picture) (defScope s_law_no_picture) .none kV36 dc36 pm36 an36 cd36 ct36), sl36⟩) (c36 : PySem.W.codeIn K cd36 "_law_no_picture" = true) (k36 : PySem.W.keepIn K (.ref f36) = true)
    (a37 : PySem.W.nsIn K mainGlobals "_law_copy" = some (some (.ref f37))) (l37 : K.lookup f37 = some ⟨oc37, od37, .func (PySem.W.fnOf "_law_copy" "_law_copy" (defArgs s_law_copy) (defBody s_law_copy) (defScope s_law_copy) .none kV37 dc37 pm37 an37 cd37 ct37), sl37⟩) (c37 : PySem.W.codeIn K cd37 "_law_copy" = true) (k37 : PySem.W.keepIn K (.ref f37) = true)
    (a38 : PySem.W.nsIn K mainGlobals "_law_row_good" = some (some (.ref f38))) (l38 : K.lookup f38 = some ⟨oc38, od38, .func (PySem.W.fnOf "_law_row_good" "_law_row_good" (defArgs s_law_row_good) (defBody s_law_row_good) (defScope s_law_row_good) .none kV38 dc38 pm38 an38 cd38 ct38), sl38⟩) (c38 : PySem.W.codeIn K cd38 "_law_row_good" = true) (k38 : PySem.W.keepIn K (.ref f38) = true)
    (a39 : PySem.W.nsIn K mainGlobals "_law_picture_good" = some (some (.ref f39))) (l39 : K.lookup f39 = some ⟨oc39, od39, .func (PySem.W.fnOf "_law_picture_good" "_law_picture_good" (defArgs s_law_picture_good) (defBody s_law_picture_good) (defScope s_law_picture_good) .none kV39 dc39 pm39 an39 cd39 ct39), sl39⟩) (c39 : PySem.W.codeIn K cd39 "_law_picture_good" = true) (k39 : PySem.W.keepIn K (.ref f39) = true)
    (a40 : PySem.W.nsIn K mainGlobals "_law_refused" = some (some (.ref f40))) (l40 : K.lookup f40 = some ⟨oc40, od40, .func (PySem.W.fnOf "_law_refused" "_law_refused" (defArgs s_law_refused) (defBody s_law_refused) (defScope s_law_refused) .none kV40 dc40 pm40 an40 cd40 ct40), sl40⟩) (c40 : PySem.W.codeIn K cd40 "_law_refused" = true) (k40 : PySem.W.keepIn K (.ref f40) = true)
    (a41 : PySem.W.nsIn K mainGlobals "law" = some (some (.ref f41))) (l41 : K.lookup f41 = some ⟨oc41, od41, .func (PySem.W.fnOf "law" "law" (defArgs s_law) (defBody s_law) (defScope s_law) .none kV41 dc41 pm41 an41 cd41 ct41), sl41⟩) (c41 : PySem.W.codeIn K cd41 "law" = true) (k41 : PySem.W.keepIn K (.ref f41) = true)
    (z1 : PySem.W.nsIn K mainGlobals "len" = some none)
    (z2 : PySem.W.nsIn K mainGlobals "range" = some none)
    (z3 : PySem.W.nsIn K mainGlobals "isinstance" = some none)
    (z4 : PySem.W.nsIn K mainGlobals "int" = some none)
    (z5 : PySem.W.nsIn K mainGlobals "bool" = some none)
    (z6 : PySem.W.nsIn K mainGlobals "list" = some none)
    (z7 : PySem.W.nsIn K mainGlobals "all" = some none)
    (z8 : PySem.W.nsIn K mainGlobals "enumerate" = some none)
    (z9 : PySem.W.nsIn K mainGlobals "min" = some none)
    (z10 : PySem.W.nsIn K mainGlobals "sum" = some none)
    (z11 : PySem.W.nsIn K mainGlobals "tuple" = some none)
    (z12 : PySem.W.nsIn K mainGlobals "ValueError" = some none)
    (y1 : PySem.W.nsIn K mainGlobals "MOST_SIDE" = some (some (.int 24 tS)))
    (y2 : PySem.W.nsIn K mainGlobals "MOST_CELL" = some (some (.int 15 tC)))
    (y3 : PySem.W.nsIn K mainGlobals "MOST_RULE" = some (some (.int 4 tR)))
    (y4 : PySem.W.nsIn K mainGlobals "BY_LEFT" = some (some (.int 1 t1)))
    (y5 : PySem.W.nsIn K mainGlobals "BY_ABOVE" = some (some (.int 2 t2)))
    (y6 : PySem.W.nsIn K mainGlobals "BY_BOTH" = some (some (.int 3 t3)))
    (y7 : PySem.W.nsIn K mainGlobals "BY_BITS" = some (some (.int 4 t4)))
    (x1 : PySem.W.nsIn K mainGlobals "FolioError" = some (some (.ref cFE)))
    (x2 : PySem.W.nsIn K mainGlobals "BadPicture" = some (some (.ref cBP)))
    (x3 : PySem.W.nsIn K mainGlobals "BadRule" = some (some (.ref cBR)))
    (x4 : PySem.W.nsIn K mainGlobals "BadCell" = some (some (.ref cBadCell)))
    (x5 : PySem.W.nsIn K mainGlobals "BadCheck" = some (some (.ref cBadCheck)))
    (x6 : PySem.W.nsIn K mainGlobals "BadColour" = some (some (.ref cBadColour)))
    (x7 : PySem.W.nsIn K mainGlobals "BadDeed" = some (some (.ref cBadDeed)))
    (x8 : PySem.W.nsIn K mainGlobals "BadEdge" = some (some (.ref cBadEdge)))
    (x9 : PySem.W.nsIn K mainGlobals "BadHead" = some (some (.ref cBadHead)))
    (x10 : PySem.W.nsIn K mainGlobals "BadMask" = some (some (.ref cBadMask)))
    (x11 : PySem.W.nsIn K mainGlobals "BadName" = some (some (.ref cBadName)))
    (x12 : PySem.W.nsIn K mainGlobals "BadPack" = some (some (.ref cBadPack)))
    (x13 : PySem.W.nsIn K mainGlobals "BadPalette" = some (some (.ref cBadPalette)))
    (x14 : PySem.W.nsIn K mainGlobals "BadPart" = some (some (.ref cBadPart)))
    (x15 : PySem.W.nsIn K mainGlobals "BadRuns" = some (some (.ref cBadRuns)))
    (x16 : PySem.W.nsIn K mainGlobals "BadSize" = some (some (.ref cBadSize)))
    (x17 : PySem.W.nsIn K mainGlobals "BadText" = some (some (.ref cBadText)))
    (x18 : PySem.W.nsIn K mainGlobals "NoColour" = some (some (.ref cNoColour)))
    (x19 : PySem.W.nsIn K mainGlobals "NoPart" = some (some (.ref cNoPart)))
    (x20 : PySem.W.nsIn K mainGlobals "NoPicture" = some (some (.ref cNoPicture)))
    (x21 : PySem.W.nsIn K mainGlobals "NothingDone" = some (some (.ref cNothingDone)))
    (x22 : PySem.W.nsIn K mainGlobals "OutOfPlace" = some (some (.ref cOutOfPlace)))
    (x23 : PySem.W.nsIn K mainGlobals "TooMany" = some (some (.ref cTooMany)))
    (x24 : PySem.W.nsIn K mainGlobals "Twice" = some (some (.ref cTwice)))
    (q1 : PySem.W.excIn K cBP mroVE "ValueError.__new__" = true)
    (q2 : PySem.W.excIn K cBR mroVE "ValueError.__new__" = true)
    (q3 : PySem.W.findIn K (.ref cBP) "__getattribute__" = some (some (.builtin "BaseException.__getattribute__")))
    (q4 : PySem.W.findIn K (.ref cBP) "__getattr__" = some none)
    (q5 : PySem.W.findIn K (.ref cBP) "__class__" = some (some (.builtin "object.__class__")))
    (q6 : PySem.W.mroIn K cBP (.type "BaseException") = some true)
    (q7 : PySem.W.mroIn K cBP (.type "object") = some true)
    (q8 : PySem.W.isClsIn K cBP = true)
    (q9 : PySem.W.findIn K (.ref cBR) "__getattribute__" = some (some (.builtin "BaseException.__getattribute__")))
    (q10 : PySem.W.findIn K (.ref cBR) "__getattr__" = some none)
    (q11 : PySem.W.findIn K (.ref cBR) "__class__" = some (some (.builtin "object.__class__")))
    (q12 : PySem.W.mroIn K cBR (.type "BaseException") = some true)
    (q13 : PySem.W.mroIn K cBR (.type "object") = some true)
    (q14 : PySem.W.isClsIn K cBR = true)
    (q15 : PySem.W.subIn K (.ref cFE) (.type "BaseException") = some true)
    (q16 : PySem.W.isClsIn K cFE = true)
    (q17 : PySem.W.typeIn K (.ref cFE) = some (.type "type"))
    (q18 : PySem.W.subIn K (.ref cBP) (.ref cFE) = some true)
    (q19 : PySem.W.subIn K (.ref cBR) (.ref cFE) = some true)
    (q20 : PySem.W.kitOne K (.ref cBP) (.ref cBP) = some true)
    (q21 : PySem.W.kitOne K (.ref cBP) (.ref cBR) = some false)
    (q22 : PySem.W.kitOne K (.ref cBP) (.type "ValueError") = some true)
    (q23 : PySem.W.kitOne K (.ref cBR) (.ref cBP) = some false)
    (q24 : PySem.W.kitOne K (.ref cBR) (.ref cBR) = some true)
    (q25 : PySem.W.kitOne K (.ref cBR) (.type "ValueError") = some true)
    (q26 : PySem.W.kitOne K (.ref cBP) (.ref cBadCell) = some false)
    (q27 : PySem.W.kitOne K (.ref cBR) (.ref cBadCell) = some false)
    (q28 : PySem.W.kitOne K (.ref cBP) (.ref cBadCheck) = some false)
    (q29 : PySem.W.kitOne K (.ref cBR) (.ref cBadCheck) = some false)
    (q30 : PySem.W.kitOne K (.ref cBP) (.ref cBadColour) = some false)
    (q31 : PySem.W.kitOne K (.ref cBR) (.ref cBadColour) = some false)
    (q32 : PySem.W.kitOne K (.ref cBP) (.ref cBadDeed) = some false)
    (q33 : PySem.W.kitOne K (.ref cBR) (.ref cBadDeed) = some false)
    (q34 : PySem.W.kitOne K (.ref cBP) (.ref cBadEdge) = some false)
    (q35 : PySem.W.kitOne K (.ref cBR) (.ref cBadEdge) = some false)
    (q36 : PySem.W.kitOne K (.ref cBP) (.ref cBadHead) = some false)
    (q37 : PySem.W.kitOne K (.ref cBR) (.ref cBadHead) = some false)
    (q38 : PySem.W.kitOne K (.ref cBP) (.ref cBadMask) = some false)
    (q39 : PySem.W.kitOne K (.ref cBR) (.ref cBadMask) = some false)
    (q40 : PySem.W.kitOne K (.ref cBP) (.ref cBadName) = some false)
    (q41 : PySem.W.kitOne K (.ref cBR) (.ref cBadName) = some false)
    (q42 : PySem.W.kitOne K (.ref cBP) (.ref cBadPack) = some false)
    (q43 : PySem.W.kitOne K (.ref cBR) (.ref cBadPack) = some false)
    (q44 : PySem.W.kitOne K (.ref cBP) (.ref cBadPalette) = some false)
    (q45 : PySem.W.kitOne K (.ref cBR) (.ref cBadPalette) = some false)
    (q46 : PySem.W.kitOne K (.ref cBP) (.ref cBadPart) = some false)
    (q47 : PySem.W.kitOne K (.ref cBR) (.ref cBadPart) = some false)
    (q48 : PySem.W.kitOne K (.ref cBP) (.ref cBadRuns) = some false)
    (q49 : PySem.W.kitOne K (.ref cBR) (.ref cBadRuns) = some false)
    (q50 : PySem.W.kitOne K (.ref cBP) (.ref cBadSize) = some false)
    (q51 : PySem.W.kitOne K (.ref cBR) (.ref cBadSize) = some false)
    (q52 : PySem.W.kitOne K (.ref cBP) (.ref cBadText) = some false)
    (q53 : PySem.W.kitOne K (.ref cBR) (.ref cBadText) = some false)
    (q54 : PySem.W.kitOne K (.ref cBP) (.ref cNoColour) = some false)
    (q55 : PySem.W.kitOne K (.ref cBR) (.ref cNoColour) = some false)
    (q56 : PySem.W.kitOne K (.ref cBP) (.ref cNoPart) = some false)
    (q57 : PySem.W.kitOne K (.ref cBR) (.ref cNoPart) = some false)
    (q58 : PySem.W.kitOne K (.ref cBP) (.ref cNoPicture) = some false)
    (q59 : PySem.W.kitOne K (.ref cBR) (.ref cNoPicture) = some false)
    (q60 : PySem.W.kitOne K (.ref cBP) (.ref cNothingDone) = some false)
    (q61 : PySem.W.kitOne K (.ref cBR) (.ref cNothingDone) = some false)
    (q62 : PySem.W.kitOne K (.ref cBP) (.ref cOutOfPlace) = some false)
    (q63 : PySem.W.kitOne K (.ref cBR) (.ref cOutOfPlace) = some false)
    (q64 : PySem.W.kitOne K (.ref cBP) (.ref cTooMany) = some false)
    (q65 : PySem.W.kitOne K (.ref cBR) (.ref cTooMany) = some false)
    (q66 : PySem.W.kitOne K (.ref cBP) (.ref cTwice) = some false)
    (q67 : PySem.W.kitOne K (.ref cBR) (.ref cTwice) = some false)
    (uL : cd40 = .ref cL) (vL : PySem.W.codeHdIn K cL pL = true)
    : ∃ fd : FuncData, (∀ (s : Shared) (v : Value), BindsTo s fd ⟨[v], []⟩ [("_law_script", v)]) ∧ ∀ base : Heap, K.In base → base.Ns mainGlobals mg → BMain mg base → FnOk l.prog w K mg base CX0 13 fa fd ["_law_script"] (spLaw pL K) := by
  have e := hfa.symm.trans (PySem.W.mg_of X G a41)
  cases e
  have T : Txt K mg cFE cBP cBR tS tC tR t1 t2 t3 t4 := ⟨PySem.W.mg_none_of X G z1, PySem.W.mg_none_of X G z2, PySem.W.mg_none_of X G z3, PySem.W.mg_none_of X G z4, PySem.W.mg_none_of X G z5, PySem.W.mg_none_of X G z6, PySem.W.mg_none_of X G z7, PySem.W.mg_none_of X G z8, PySem.W.mg_none_of X G z9, PySem.W.mg_none_of X G z10, PySem.W.mg_none_of X G z11, PySem.W.mg_none_of X G z12, PySem.W.mg_of X G y1, PySem.W.mg_of X G y2, PySem.W.mg_of X G y3, PySem.W.mg_of X G y4, PySem.W.mg_of X G y5, PySem.W.mg_of X G y6, PySem.W.mg_of X G y7, PySem.W.mg_of X G x1, PySem.W.mg_of X G x2, PySem.W.mg_of X G x3, q1, q2, ⟨q3, q4, q5, q6, q7, q8⟩, ⟨q9, q10, q11, q12, q13, q14⟩, exm_mk q15 q16 q17 q18, exm_mk q15 q16 q17 q19⟩
  have TC : TxtC K mg cBP cBR := ⟨q20, q21, q22, q23, q24, q25, ⟨_, PySem.W.mg_of X G x4, q26, q27⟩, ⟨_, PySem.W.mg_of X G x5, q28, q29⟩, ⟨_, PySem.W.mg_of X G x6, q30, q31⟩, ⟨_, PySem.W.mg_of X G x7, q32, q33⟩, ⟨_, PySem.W.mg_of X G x8, q34, q35⟩, ⟨_, PySem.W.mg_of X G x9, q36, q37⟩, ⟨_, PySem.W.mg_of X G x10, q38, q39⟩, ⟨_, PySem.W.mg_of X G x11, q40, q41⟩, ⟨_, PySem.W.mg_of X G x12, q42, q43⟩, ⟨_, PySem.W.mg_of X G x13, q44, q45⟩, ⟨_, PySem.W.mg_of X G x14, q46, q47⟩, ⟨_, PySem.W.mg_of X G x15, q48, q49⟩, ⟨_, PySem.W.mg_of X G x16, q50, q51⟩, ⟨_, PySem.W.mg_of X G x17, q52, q53⟩, ⟨_, PySem.W.mg_of X G x18, q54, q55⟩, ⟨_, PySem.W.mg_of X G x19, q56, q57⟩, ⟨_, PySem.W.mg_of X G x20, q58, q59⟩, ⟨_, PySem.W.mg_of X G x21, q60, q61⟩, ⟨_, PySem.W.mg_of X G x22, q62, q63⟩, ⟨_, PySem.W.mg_of X G x23, q64, q65⟩, ⟨_, PySem.W.mg_of X G x24, q66, q67⟩⟩
  have F1 := funD_mk (st := s_is_whole_from) l1 c1 k1
  have F2 := funD_mk (st := s_is_whole_within) l2 c2 k2
  have F3 := funD_mk (st := s_is_cell) l3 c3 k3
  have F4 := funD_mk (st := s_is_side) l4 c4 k4
  have F5 := funD_mk (st := s_is_list_of) l5 c5 k5
  have F6 := funD_mk (st := s_are_rows_of) l6 c6 k6
  have F7 := funD_mk (st := s_is_picture) l7 c7 k7
  have F8 := funD_mk (st := s_need_picture) l8 c8 k8
  have F9 := funD_mk (st := s_is_fold_rule) l9 c9 k9
  have F10 := funD_mk (st := s_is_list_of) l10 c10 k10
  have F11 := funD_mk (st := s_need_fold_rule) l11 c11 k11
  have F12 := funD_mk (st := s_need_fold_rules) l12 c12 k12
  have F13 := funD_mk (st := s_row_above) l13 c13 k13
  have F14 := funD_mk (st := s_awaited) l14 c14 k14
  have F15 := funD_mk (st := s_folded_cell) l15 c15 k15
  have F16 := funD_mk (st := s_unfolded_cell) l16 c16 k16
  have F17 := funD_mk (st := s_folded_row) l17 c17 k17
  have F18 := funD_mk (st := s_folded_row) l18 c18 k18
  have F19 := funD_mk (st := s_unfolded_row) l19 c19 k19
  have F20 := funD_mk (st := s_unfolded_row) l20 c20 k20
  have F21 := funD_mk (st := s_above_in) l21 c21 k21
  have F22 := funD_mk (st := s_folded_picture) l22 c22 k22
  have F23 := funD_mk (st := s_folded_picture) l23 c23 k23
  have F24 := funD_mk (st := s_unfolded_picture) l24 c24 k24
  have F25 := funD_mk (st := s_unfolded_picture) l25 c25 k25
  have F26 := funD_mk (st := s_law_said) l26 c26 k26
  have F27 := funD_mk (st := s_law_cell_at) l27 c27 k27
  have F28 := funD_mk (st := s_law_mixed) l28 c28 k28
  have F29 := funD_mk (st := s_law_mixed) l29 c29 k29
  have F30 := funD_mk (st := s_law_whole) l30 c30 k30
  have F31 := funD_mk (st := s_law_numbers) l31 c31 k31
  have F32 := funD_mk (st := s_law_fresh) l32 c32 k32
  have F33 := funD_mk (st := s_law_but_one) l33 c33 k33
  have F34 := funD_mk (st := s_law_folded) l34 c34 k34
  have F35 := funD_mk (st := s_law_picture) l35 c35 k35
  have F36 := funD_mk (st := s_law_no_picture) l36 c36 k36
  have F37 := funD_mk (st := s_law_copy) l37 c37 k37
  have F38 := funD_mk (st := s_law_row_good) l38 c38 k38
  have F39 := funD_mk (st := s_law_picture_good) l39 c39 k39
  have F40 := funD_mk (st := s_law_refused) l40 c40 k40
  have F41 := funD_mk (st := s_law) l41 c41 k41
  have gFR : ∀ base : Heap, BaseOk K mg base → DefX l.prog w K mg base 5 "folded_row" ["row", "above", "rule"] [] (spFoldRX K cBR) := fun base ok => by
    have g1 := F1.def (P := l.prog) (w := w) (mg := mg) (base := base) (ok_is_whole_from F1 T) (PySem.W.mg_of X G a1) (fun _ _ _ _ _ _ us hl => (by obtain ⟨u0, u1, rfl⟩ := len2 hl; rfl))
    have g2 := F2.def (P := l.prog) (w := w) (mg := mg) (base := base) (ok_is_whole_within F2 g1) (PySem.W.mg_of X G a2) (fun _ _ _ _ _ _ us hl => (by obtain ⟨u0, u1, u2, rfl⟩ := len3 hl; rfl))
    have g3A := F3.defA (P := l.prog) (w := w) (mg := mg) (base := base) (ok_is_cell F3 T g2) (fun _ _ _ _ _ _ us hl => (by obtain ⟨u0, rfl⟩ := len1 hl; rfl))
    have g3 := F3.def (P := l.prog) (w := w) (mg := mg) (base := base) (ok_is_cell F3 T g2) (PySem.W.mg_of X G a3) (fun _ _ _ _ _ _ us hl => (by obtain ⟨u0, rfl⟩ := len1 hl; rfl))
    have g4 := F4.def (P := l.prog) (w := w) (mg := mg) (base := base) (ok_is_side F4 T g2) (PySem.W.mg_of X G a4) (fun _ _ _ _ _ _ us hl => (by obtain ⟨u0, rfl⟩ := len1 hl; rfl))
    have g5 := F5.def (P := l.prog) (w := w) (mg := mg) (base := base) (ok_is_list_of F5 T g3A) (PySem.W.mg_of X G a5) (fun _ _ _ _ _ _ us hl => (by obtain ⟨u0, u1, rfl⟩ := len2 hl; rfl))
    have g6 := F6.def (P := l.prog) (w := w) (mg := mg) (base := base) (ok_are_rows_of F6 T g5 g4) (PySem.W.mg_of X G a6) (fun _ _ _ _ _ _ us hl => (by obtain ⟨u0, u1, rfl⟩ := len2 hl; rfl))
    have g7 := F7.def (P := l.prog) (w := w) (mg := mg) (base := base) (ok_is_picture F7 (PySem.W.mg_of X G a3) g6) (PySem.W.mg_of X G a7) (fun _ _ _ _ _ _ us hl => (by obtain ⟨u0, rfl⟩ := len1 hl; rfl))
    have g8 := F8.defX (P := l.prog) (w := w) (mg := mg) (base := base) (ok_need_picture F8 T g7) (PySem.W.mg_of X G a8) (fun _ _ _ _ _ _ us hl => (by obtain ⟨u0, rfl⟩ := len1 hl; rfl))
    have g9A := F9.defA (P := l.prog) (w := w) (mg := mg) (base := base) (ok_is_fold_rule F9 T g2) (fun _ _ _ _ _ _ us hl => (by obtain ⟨u0, rfl⟩ := len1 hl; rfl))
    have g9 := F9.def (P := l.prog) (w := w) (mg := mg) (base := base) (ok_is_fold_rule F9 T g2) (PySem.W.mg_of X G a9) (fun _ _ _ _ _ _ us hl => (by obtain ⟨u0, rfl⟩ := len1 hl; rfl))
    have g10 := F10.def (P := l.prog) (w := w) (mg := mg) (base := base) (ok_is_list_of F10 T g9A) (PySem.W.mg_of X G a10) (fun _ _ _ _ _ _ us hl => (by obtain ⟨u0, u1, rfl⟩ := len2 hl; rfl))
    have g11 := F11.defX (P := l.prog) (w := w) (mg := mg) (base := base) (ok_need_fold_rule F11 T g9) (PySem.W.mg_of X G a11) (fun _ _ _ _ _ _ us hl => (by obtain ⟨u0, rfl⟩ := len1 hl; rfl))
    have g12 := F12.defX (P := l.prog) (w := w) (mg := mg) (base := base) (ok_need_fold_rules F12 T (PySem.W.mg_of X G a9) g10) (PySem.W.mg_of X G a12) (fun _ _ _ _ _ _ us hl => (by obtain ⟨u0, u1, rfl⟩ := len2 hl; rfl))
    have g13 := F13.def (P := l.prog) (w := w) (mg := mg) (base := base) (ok_row_above F13 T) (PySem.W.mg_of X G a13) (fun _ _ _ _ _ _ us hl => (by obtain ⟨u0, u1, rfl⟩ := len2 hl; rfl))
    have g14 := F14.def (P := l.prog) (w := w) (mg := mg) (base := base) (ok_awaited F14 T) (PySem.W.mg_of X G a14) (fun _ _ _ _ _ _ us hl => (by obtain ⟨u0, u1, u2, u3, rfl⟩ := len4 hl; rfl))
    have g15 := F15.def (P := l.prog) (w := w) (mg := mg) (base := base) (ok_folded_cell F15 T) (PySem.W.mg_of X G a15) (fun _ _ _ _ _ _ us hl => (by obtain ⟨u0, u1, u2, rfl⟩ := len3 hl; rfl))
    have g16 := F16.def (P := l.prog) (w := w) (mg := mg) (base := base) (ok_unfolded_cell F16 T) (PySem.W.mg_of X G a16) (fun _ _ _ _ _ _ us hl => (by obtain ⟨u0, u1, u2, rfl⟩ := len3 hl; rfl))
    have g17 := F17.def (P := l.prog) (w := w) (mg := mg) (base := base) (ok_folded_row F17 T g11 g13 g14 g15) (PySem.W.mg_of X G a17) (fun _ _ _ _ _ _ us hl => (by obtain ⟨u0, u1, u2, rfl⟩ := len3 hl; rfl))
    have g18 := F18.defX (P := l.prog) (w := w) (mg := mg) (base := base) (ok_folded_rowX F18 T g11 g13 g14 g15) (PySem.W.mg_of X G a18) (fun _ _ _ _ _ _ us hl => (by obtain ⟨u0, u1, u2, rfl⟩ := len3 hl; rfl))
    exact g18
  have gUR : ∀ base : Heap, BaseOk K mg base → DefX l.prog w K mg base 5 "unfolded_row" ["row", "above", "rule"] [] (spFoldRX K cBR) := fun base ok => by
    have g1 := F1.def (P := l.prog) (w := w) (mg := mg) (base := base) (ok_is_whole_from F1 T) (PySem.W.mg_of X G a1) (fun _ _ _ _ _ _ us hl => (by obtain ⟨u0, u1, rfl⟩ := len2 hl; rfl))
    have g2 := F2.def (P := l.prog) (w := w) (mg := mg) (base := base) (ok_is_whole_within F2 g1) (PySem.W.mg_of X G a2) (fun _ _ _ _ _ _ us hl => (by obtain ⟨u0, u1, u2, rfl⟩ := len3 hl; rfl))
    have g3A := F3.defA (P := l.prog) (w := w) (mg := mg) (base := base) (ok_is_cell F3 T g2) (fun _ _ _ _ _ _ us hl => (by obtain ⟨u0, rfl⟩ := len1 hl; rfl))
    have g3 := F3.def (P := l.prog) (w := w) (mg := mg) (base := base) (ok_is_cell F3 T g2) (PySem.W.mg_of X G a3) (fun _ _ _ _ _ _ us hl => (by obtain ⟨u0, rfl⟩ := len1 hl; rfl))
    have g4 := F4.def (P := l.prog) (w := w) (mg := mg) (base := base) (ok_is_side F4 T g2) (PySem.W.mg_of X G a4) (fun _ _ _ _ _ _ us hl => (by obtain ⟨u0, rfl⟩ := len1 hl; rfl))
    have g5 := F5.def (P := l.prog) (w := w) (mg := mg) (base := base) (ok_is_list_of F5 T g3A) (PySem.W.mg_of X G a5) (fun _ _ _ _ _ _ us hl => (by obtain ⟨u0, u1, rfl⟩ := len2 hl; rfl))
    have g6 := F6.def (P := l.prog) (w := w) (mg := mg) (base := base) (ok_are_rows_of F6 T g5 g4) (PySem.W.mg_of X G a6) (fun _ _ _ _ _ _ us hl => (by obtain ⟨u0, u1, rfl⟩ := len2 hl; rfl))
    have g7 := F7.def (P := l.prog) (w := w) (mg := mg) (base := base) (ok_is_picture F7 (PySem.W.mg_of X G a3) g6) (PySem.W.mg_of X G a7) (fun _ _ _ _ _ _ us hl => (by obtain ⟨u0, rfl⟩ := len1 hl; rfl))
    have g8 := F8.defX (P := l.prog) (w := w) (mg := mg) (base := base) (ok_need_picture F8 T g7) (PySem.W.mg_of X G a8) (fun _ _ _ _ _ _ us hl => (by obtain ⟨u0, rfl⟩ := len1 hl; rfl))
    have g9A := F9.defA (P := l.prog) (w := w) (mg := mg) (base := base) (ok_is_fold_rule F9 T g2) (fun _ _ _ _ _ _ us hl => (by obtain ⟨u0, rfl⟩ := len1 hl; rfl))
    have g9 := F9.def (P := l.prog) (w := w) (mg := mg) (base := base) (ok_is_fold_rule F9 T g2) (PySem.W.mg_of X G a9) (fun _ _ _ _ _ _ us hl => (by obtain ⟨u0, rfl⟩ := len1 hl; rfl))
    have g10 := F10.def (P := l.prog) (w := w) (mg := mg) (base := base) (ok_is_list_of F10 T g9A) (PySem.W.mg_of X G a10) (fun _ _ _ _ _ _ us hl => (by obtain ⟨u0, u1, rfl⟩ := len2 hl; rfl))
    have g11 := F11.defX (P := l.prog) (w := w) (mg := mg) (base := base) (ok_need_fold_rule F11 T g9) (PySem.W.mg_of X G a11) (fun _ _ _ _ _ _ us hl => (by obtain ⟨u0, rfl⟩ := len1 hl; rfl))
    have g12 := F12.defX (P := l.prog) (w := w) (mg := mg) (base := base) (ok_need_fold_rules F12 T (PySem.W.mg_of X G a9) g10) (PySem.W.mg_of X G a12) (fun _ _ _ _ _ _ us hl => (by obtain ⟨u0, u1, rfl⟩ := len2 hl; rfl))
    have g13 := F13.def (P := l.prog) (w := w) (mg := mg) (base := base) (ok_row_above F13 T) (PySem.W.mg_of X G a13) (fun _ _ _ _ _ _ us hl => (by obtain ⟨u0, u1, rfl⟩ := len2 hl; rfl))
    have g14 := F14.def (P := l.prog) (w := w) (mg := mg) (base := base) (ok_awaited F14 T) (PySem.W.mg_of X G a14) (fun _ _ _ _ _ _ us hl => (by obtain ⟨u0, u1, u2, u3, rfl⟩ := len4 hl; rfl))
    have g15 := F15.def (P := l.prog) (w := w) (mg := mg) (base := base) (ok_folded_cell F15 T) (PySem.W.mg_of X G a15) (fun _ _ _ _ _ _ us hl => (by obtain ⟨u0, u1, u2, rfl⟩ := len3 hl; rfl))
    have g16 := F16.def (P := l.prog) (w := w) (mg := mg) (base := base) (ok_unfolded_cell F16 T) (PySem.W.mg_of X G a16) (fun _ _ _ _ _ _ us hl => (by obtain ⟨u0, u1, u2, rfl⟩ := len3 hl; rfl))
    have g17 := F17.def (P := l.prog) (w := w) (mg := mg) (base := base) (ok_folded_row F17 T g11 g13 g14 g15) (PySem.W.mg_of X G a17) (fun _ _ _ _ _ _ us hl => (by obtain ⟨u0, u1, u2, rfl⟩ := len3 hl; rfl))
    have g18 := F18.defX (P := l.prog) (w := w) (mg := mg) (base := base) (ok_folded_rowX F18 T g11 g13 g14 g15) (PySem.W.mg_of X G a18) (fun _ _ _ _ _ _ us hl => (by obtain ⟨u0, u1, u2, rfl⟩ := len3 hl; rfl))
    have g19 := F19.def (P := l.prog) (w := w) (mg := mg) (base := base) (ok_unfolded_row F19 T g11 g13 g14 g16) (PySem.W.mg_of X G a19) (fun _ _ _ _ _ _ us hl => (by obtain ⟨u0, u1, u2, rfl⟩ := len3 hl; rfl))
    have g20 := F20.defX (P := l.prog) (w := w) (mg := mg) (base := base) (ok_unfolded_rowX F20 T g11 g13 g14 g16) (PySem.W.mg_of X G a20) (fun _ _ _ _ _ _ us hl => (by obtain ⟨u0, u1, u2, rfl⟩ := len3 hl; rfl))
    exact g20
  have gFP : ∀ base : Heap, BaseOk K mg base → DefX l.prog w K mg base 8 "folded_picture" ["picture", "rules"] [] (spPicX K cBP cBR) := fun base ok => by
    have g1 := F1.def (P := l.prog) (w := w) (mg := mg) (base := base) (ok_is_whole_from F1 T) (PySem.W.mg_of X G a1) (fun _ _ _ _ _ _ us hl => (by obtain ⟨u0, u1, rfl⟩ := len2 hl; rfl))
    have g2 := F2.def (P := l.prog) (w := w) (mg := mg) (base := base) (ok_is_whole_within F2 g1) (PySem.W.mg_of X G a2) (fun _ _ _ _ _ _ us hl => (by obtain ⟨u0, u1, u2, rfl⟩ := len3 hl; rfl))
    have g3A := F3.defA (P := l.prog) (w := w) (mg := mg) (base := base) (ok_is_cell F3 T g2) (fun _ _ _ _ _ _ us hl => (by obtain ⟨u0, rfl⟩ := len1 hl; rfl))
    have g3 := F3.def (P := l.prog) (w := w) (mg := mg) (base := base) (ok_is_cell F3 T g2) (PySem.W.mg_of X G a3) (fun _ _ _ _ _ _ us hl => (by obtain ⟨u0, rfl⟩ := len1 hl; rfl))
    have g4 := F4.def (P := l.prog) (w := w) (mg := mg) (base := base) (ok_is_side F4 T g2) (PySem.W.mg_of X G a4) (fun _ _ _ _ _ _ us hl => (by obtain ⟨u0, rfl⟩ := len1 hl; rfl))
    have g5 := F5.def (P := l.prog) (w := w) (mg := mg) (base := base) (ok_is_list_of F5 T g3A) (PySem.W.mg_of X G a5) (fun _ _ _ _ _ _ us hl => (by obtain ⟨u0, u1, rfl⟩ := len2 hl; rfl))
    have g6 := F6.def (P := l.prog) (w := w) (mg := mg) (base := base) (ok_are_rows_of F6 T g5 g4) (PySem.W.mg_of X G a6) (fun _ _ _ _ _ _ us hl => (by obtain ⟨u0, u1, rfl⟩ := len2 hl; rfl))
    have g7 := F7.def (P := l.prog) (w := w) (mg := mg) (base := base) (ok_is_picture F7 (PySem.W.mg_of X G a3) g6) (PySem.W.mg_of X G a7) (fun _ _ _ _ _ _ us hl => (by obtain ⟨u0, rfl⟩ := len1 hl; rfl))
    have g8 := F8.defX (P := l.prog) (w := w) (mg := mg) (base := base) (ok_need_picture F8 T g7) (PySem.W.mg_of X G a8) (fun _ _ _ _ _ _ us hl => (by obtain ⟨u0, rfl⟩ := len1 hl; rfl))
    have g9A := F9.defA (P := l.prog) (w := w) (mg := mg) (base := base) (ok_is_fold_rule F9 T g2) (fun _ _ _ _ _ _ us hl => (by obtain ⟨u0, rfl⟩ := len1 hl; rfl))
    have g9 := F9.def (P := l.prog) (w := w) (mg := mg) (base := base) (ok_is_fold_rule F9 T g2) (PySem.W.mg_of X G a9) (fun _ _ _ _ _ _ us hl => (by obtain ⟨u0, rfl⟩ := len1 hl; rfl))
    have g10 := F10.def (P := l.prog) (w := w) (mg := mg) (base := base) (ok_is_list_of F10 T g9A) (PySem.W.mg_of X G a10) (fun _ _ _ _ _ _ us hl => (by obtain ⟨u0, u1, rfl⟩ := len2 hl; rfl))
    have g11 := F11.defX (P := l.prog) (w := w) (mg := mg) (base := base) (ok_need_fold_rule F11 T g9) (PySem.W.mg_of X G a11) (fun _ _ _ _ _ _ us hl => (by obtain ⟨u0, rfl⟩ := len1 hl; rfl))
    have g12 := F12.defX (P := l.prog) (w := w) (mg := mg) (base := base) (ok_need_fold_rules F12 T (PySem.W.mg_of X G a9) g10) (PySem.W.mg_of X G a12) (fun _ _ _ _ _ _ us hl => (by obtain ⟨u0, u1, rfl⟩ := len2 hl; rfl))
    have g13 := F13.def (P := l.prog) (w := w) (mg := mg) (base := base) (ok_row_above F13 T) (PySem.W.mg_of X G a13) (fun _ _ _ _ _ _ us hl => (by obtain ⟨u0, u1, rfl⟩ := len2 hl; rfl))
    have g14 := F14.def (P := l.prog) (w := w) (mg := mg) (base := base) (ok_awaited F14 T) (PySem.W.mg_of X G a14) (fun _ _ _ _ _ _ us hl => (by obtain ⟨u0, u1, u2, u3, rfl⟩ := len4 hl; rfl))
    have g15 := F15.def (P := l.prog) (w := w) (mg := mg) (base := base) (ok_folded_cell F15 T) (PySem.W.mg_of X G a15) (fun _ _ _ _ _ _ us hl => (by obtain ⟨u0, u1, u2, rfl⟩ := len3 hl; rfl))
    have g16 := F16.def (P := l.prog) (w := w) (mg := mg) (base := base) (ok_unfolded_cell F16 T) (PySem.W.mg_of X G a16) (fun _ _ _ _ _ _ us hl => (by obtain ⟨u0, u1, u2, rfl⟩ := len3 hl; rfl))
    have g17 := F17.def (P := l.prog) (w := w) (mg := mg) (base := base) (ok_folded_row F17 T g11 g13 g14 g15) (PySem.W.mg_of X G a17) (fun _ _ _ _ _ _ us hl => (by obtain ⟨u0, u1, u2, rfl⟩ := len3 hl; rfl))
    have g18 := F18.defX (P := l.prog) (w := w) (mg := mg) (base := base) (ok_folded_rowX F18 T g11 g13 g14 g15) (PySem.W.mg_of X G a18) (fun _ _ _ _ _ _ us hl => (by obtain ⟨u0, u1, u2, rfl⟩ := len3 hl; rfl))
    have g19 := F19.def (P := l.prog) (w := w) (mg := mg) (base := base) (ok_unfolded_row F19 T g11 g13 g14 g16) (PySem.W.mg_of X G a19) (fun _ _ _ _ _ _ us hl => (by obtain ⟨u0, u1, u2, rfl⟩ := len3 hl; rfl))
    have g20 := F20.defX (P := l.prog) (w := w) (mg := mg) (base := base) (ok_unfolded_rowX F20 T g11 g13 g14 g16) (PySem.W.mg_of X G a20) (fun _ _ _ _ _ _ us hl => (by obtain ⟨u0, u1, u2, rfl⟩ := len3 hl; rfl))
    have g21 := F21.def (P := l.prog) (w := w) (mg := mg) (base := base) (ok_above_in F21 T) (PySem.W.mg_of X G a21) (fun _ _ _ _ _ _ us hl => (by obtain ⟨u0, u1, rfl⟩ := len2 hl; rfl))
    have g22 := F22.def (P := l.prog) (w := w) (mg := mg) (base := base) (ok_folded_picture F22 T g8 g12 g17 g21) (PySem.W.mg_of X G a22) (fun _ _ _ _ _ _ us hl => (by obtain ⟨u0, u1, rfl⟩ := len2 hl; rfl))
    have g23 := F23.defX (P := l.prog) (w := w) (mg := mg) (base := base) (ok_folded_pictureX F23 T g8 g12 g17 g21) (PySem.W.mg_of X G a23) (fun _ _ _ _ _ _ us hl => (by obtain ⟨u0, u1, rfl⟩ := len2 hl; rfl))
    exact g23
  have gUP : ∀ base : Heap, BaseOk K mg base → DefX l.prog w K mg base 8 "unfolded_picture" ["rows", "rules"] [] (spPicX K cBP cBR) := fun base ok => by
    have g1 := F1.def (P := l.prog) (w := w) (mg := mg) (base := base) (ok_is_whole_from F1 T) (PySem.W.mg_of X G a1) (fun _ _ _ _ _ _ us hl => (by obtain ⟨u0, u1, rfl⟩ := len2 hl; rfl))
    have g2 := F2.def (P := l.prog) (w := w) (mg := mg) (base := base) (ok_is_whole_within F2 g1) (PySem.W.mg_of X G a2) (fun _ _ _ _ _ _ us hl => (by obtain ⟨u0, u1, u2, rfl⟩ := len3 hl; rfl))
    have g3A := F3.defA (P := l.prog) (w := w) (mg := mg) (base := base) (ok_is_cell F3 T g2) (fun _ _ _ _ _ _ us hl => (by obtain ⟨u0, rfl⟩ := len1 hl; rfl))
    have g3 := F3.def (P := l.prog) (w := w) (mg := mg) (base := base) (ok_is_cell F3 T g2) (PySem.W.mg_of X G a3) (fun _ _ _ _ _ _ us hl => (by obtain ⟨u0, rfl⟩ := len1 hl; rfl))
    have g4 := F4.def (P := l.prog) (w := w) (mg := mg) (base := base) (ok_is_side F4 T g2) (PySem.W.mg_of X G a4) (fun _ _ _ _ _ _ us hl => (by obtain ⟨u0, rfl⟩ := len1 hl; rfl))
    have g5 := F5.def (P := l.prog) (w := w) (mg := mg) (base := base) (ok_is_list_of F5 T g3A) (PySem.W.mg_of X G a5) (fun _ _ _ _ _ _ us hl => (by obtain ⟨u0, u1, rfl⟩ := len2 hl; rfl))
    have g6 := F6.def (P := l.prog) (w := w) (mg := mg) (base := base) (ok_are_rows_of F6 T g5 g4) (PySem.W.mg_of X G a6) (fun _ _ _ _ _ _ us hl => (by obtain ⟨u0, u1, rfl⟩ := len2 hl; rfl))
    have g7 := F7.def (P := l.prog) (w := w) (mg := mg) (base := base) (ok_is_picture F7 (PySem.W.mg_of X G a3) g6) (PySem.W.mg_of X G a7) (fun _ _ _ _ _ _ us hl => (by obtain ⟨u0, rfl⟩ := len1 hl; rfl))
    have g8 := F8.defX (P := l.prog) (w := w) (mg := mg) (base := base) (ok_need_picture F8 T g7) (PySem.W.mg_of X G a8) (fun _ _ _ _ _ _ us hl => (by obtain ⟨u0, rfl⟩ := len1 hl; rfl))
    have g9A := F9.defA (P := l.prog) (w := w) (mg := mg) (base := base) (ok_is_fold_rule F9 T g2) (fun _ _ _ _ _ _ us hl => (by obtain ⟨u0, rfl⟩ := len1 hl; rfl))
    have g9 := F9.def (P := l.prog) (w := w) (mg := mg) (base := base) (ok_is_fold_rule F9 T g2) (PySem.W.mg_of X G a9) (fun _ _ _ _ _ _ us hl => (by obtain ⟨u0, rfl⟩ := len1 hl; rfl))
    have g10 := F10.def (P := l.prog) (w := w) (mg := mg) (base := base) (ok_is_list_of F10 T g9A) (PySem.W.mg_of X G a10) (fun _ _ _ _ _ _ us hl => (by obtain ⟨u0, u1, rfl⟩ := len2 hl; rfl))
    have g11 := F11.defX (P := l.prog) (w := w) (mg := mg) (base := base) (ok_need_fold_rule F11 T g9) (PySem.W.mg_of X G a11) (fun _ _ _ _ _ _ us hl => (by obtain ⟨u0, rfl⟩ := len1 hl; rfl))
    have g12 := F12.defX (P := l.prog) (w := w) (mg := mg) (base := base) (ok_need_fold_rules F12 T (PySem.W.mg_of X G a9) g10) (PySem.W.mg_of X G a12) (fun _ _ _ _ _ _ us hl => (by obtain ⟨u0, u1, rfl⟩ := len2 hl; rfl))
    have g13 := F13.def (P := l.prog) (w := w) (mg := mg) (base := base) (ok_row_above F13 T) (PySem.W.mg_of X G a13) (fun _ _ _ _ _ _ us hl => (by obtain ⟨u0, u1, rfl⟩ := len2 hl; rfl))
    have g14 := F14.def (P := l.prog) (w := w) (mg := mg) (base := base) (ok_awaited F14 T) (PySem.W.mg_of X G a14) (fun _ _ _ _ _ _ us hl => (by obtain ⟨u0, u1, u2, u3, rfl⟩ := len4 hl; rfl))
    have g15 := F15.def (P := l.prog) (w := w) (mg := mg) (base := base) (ok_folded_cell F15 T) (PySem.W.mg_of X G a15) (fun _ _ _ _ _ _ us hl => (by obtain ⟨u0, u1, u2, rfl⟩ := len3 hl; rfl))
    have g16 := F16.def (P := l.prog) (w := w) (mg := mg) (base := base) (ok_unfolded_cell F16 T) (PySem.W.mg_of X G a16) (fun _ _ _ _ _ _ us hl => (by obtain ⟨u0, u1, u2, rfl⟩ := len3 hl; rfl))
    have g17 := F17.def (P := l.prog) (w := w) (mg := mg) (base := base) (ok_folded_row F17 T g11 g13 g14 g15) (PySem.W.mg_of X G a17) (fun _ _ _ _ _ _ us hl => (by obtain ⟨u0, u1, u2, rfl⟩ := len3 hl; rfl))
    have g18 := F18.defX (P := l.prog) (w := w) (mg := mg) (base := base) (ok_folded_rowX F18 T g11 g13 g14 g15) (PySem.W.mg_of X G a18) (fun _ _ _ _ _ _ us hl => (by obtain ⟨u0, u1, u2, rfl⟩ := len3 hl; rfl))
    have g19 := F19.def (P := l.prog) (w := w) (mg := mg) (base := base) (ok_unfolded_row F19 T g11 g13 g14 g16) (PySem.W.mg_of X G a19) (fun _ _ _ _ _ _ us hl => (by obtain ⟨u0, u1, u2, rfl⟩ := len3 hl; rfl))
    have g20 := F20.defX (P := l.prog) (w := w) (mg := mg) (base := base) (ok_unfolded_rowX F20 T g11 g13 g14 g16) (PySem.W.mg_of X G a20) (fun _ _ _ _ _ _ us hl => (by obtain ⟨u0, u1, u2, rfl⟩ := len3 hl; rfl))
    have g21 := F21.def (P := l.prog) (w := w) (mg := mg) (base := base) (ok_above_in F21 T) (PySem.W.mg_of X G a21) (fun _ _ _ _ _ _ us hl => (by obtain ⟨u0, u1, rfl⟩ := len2 hl; rfl))
    have g22 := F22.def (P := l.prog) (w := w) (mg := mg) (base := base) (ok_folded_picture F22 T g8 g12 g17 g21) (PySem.W.mg_of X G a22) (fun _ _ _ _ _ _ us hl => (by obtain ⟨u0, u1, rfl⟩ := len2 hl; rfl))
    have g23 := F23.defX (P := l.prog) (w := w) (mg := mg) (base := base) (ok_folded_pictureX F23 T g8 g12 g17 g21) (PySem.W.mg_of X G a23) (fun _ _ _ _ _ _ us hl => (by obtain ⟨u0, u1, rfl⟩ := len2 hl; rfl))
    have g24 := F24.def (P := l.prog) (w := w) (mg := mg) (base := base) (ok_unfolded_picture F24 T g8 g12 g19 g21) (PySem.W.mg_of X G a24) (fun _ _ _ _ _ _ us hl => (by obtain ⟨u0, u1, rfl⟩ := len2 hl; rfl))
    have g25 := F25.defX (P := l.prog) (w := w) (mg := mg) (base := base) (ok_unfolded_pictureX F25 T g8 g12 g19 g21) (PySem.W.mg_of X G a25) (fun _ _ _ _ _ _ us hl => (by obtain ⟨u0, u1, rfl⟩ := len2 hl; rfl))
    exact g25
  have gB : ∀ base : Heap, BaseOk K mg base → Def l.prog w K mg base 11 "_law_said" ["_law_call"] [] (spSaid l.prog w K mg cBP cBR base) := fun base ok => by
    have g26 := F26.def (P := l.prog) (w := w) (mg := mg) (base := base) (ok_law_said F26 T TC) (PySem.W.mg_of X G a26) (fun _ _ _ _ _ _ us hl => (by obtain ⟨u0, rfl⟩ := len1 hl; rfl))
    exact g26
  refine ⟨PySem.W.fnOf "law" "law" (defArgs s_law) (defBody s_law) (defScope s_law) .none kV41 dc41 pm41 an41 cd41 ct41, fun s v => .of_eq rfl, fun base kb nb hB => ?_⟩
  have g1 := F1.def (P := l.prog) (w := w) (mg := mg) (base := base) (ok_is_whole_from F1 T) (PySem.W.mg_of X G a1) (fun _ _ _ _ _ _ us hl => (by obtain ⟨u0, u1, rfl⟩ := len2 hl; rfl))
  have g2 := F2.def (P := l.prog) (w := w) (mg := mg) (base := base) (ok_is_whole_within F2 g1) (PySem.W.mg_of X G a2) (fun _ _ _ _ _ _ us hl => (by obtain ⟨u0, u1, u2, rfl⟩ := len3 hl; rfl))
  have g3A := F3.defA (P := l.prog) (w := w) (mg := mg) (base := base) (ok_is_cell F3 T g2) (fun _ _ _ _ _ _ us hl => (by obtain ⟨u0, rfl⟩ := len1 hl; rfl))
  have g3 := F3.def (P := l.prog) (w := w) (mg := mg) (base := base) (ok_is_cell F3 T g2) (PySem.W.mg_of X G a3) (fun _ _ _ _ _ _ us hl => (by obtain ⟨u0, rfl⟩ := len1 hl; rfl))
  have g4 := F4.def (P := l.prog) (w := w) (mg := mg) (base := base) (ok_is_side F4 T g2) (PySem.W.mg_of X G a4) (fun _ _ _ _ _ _ us hl => (by obtain ⟨u0, rfl⟩ := len1 hl; rfl))
  have g5 := F5.def (P := l.prog) (w := w) (mg := mg) (base := base) (ok_is_list_of F5 T g3A) (PySem.W.mg_of X G a5) (fun _ _ _ _ _ _ us hl => (by obtain ⟨u0, u1, rfl⟩ := len2 hl; rfl))
  have g6 := F6.def (P := l.prog) (w := w) (mg := mg) (base := base) (ok_are_rows_of F6 T g5 g4) (PySem.W.mg_of X G a6) (fun _ _ _ _ _ _ us hl => (by obtain ⟨u0, u1, rfl⟩ := len2 hl; rfl))
  have g7 := F7.def (P := l.prog) (w := w) (mg := mg) (base := base) (ok_is_picture F7 (PySem.W.mg_of X G a3) g6) (PySem.W.mg_of X G a7) (fun _ _ _ _ _ _ us hl => (by obtain ⟨u0, rfl⟩ := len1 hl; rfl))
  have g8 := F8.defX (P := l.prog) (w := w) (mg := mg) (base := base) (ok_need_picture F8 T g7) (PySem.W.mg_of X G a8) (fun _ _ _ _ _ _ us hl => (by obtain ⟨u0, rfl⟩ := len1 hl; rfl))
  have g9A := F9.defA (P := l.prog) (w := w) (mg := mg) (base := base) (ok_is_fold_rule F9 T g2) (fun _ _ _ _ _ _ us hl => (by obtain ⟨u0, rfl⟩ := len1 hl; rfl))
  have g9 := F9.def (P := l.prog) (w := w) (mg := mg) (base := base) (ok_is_fold_rule F9 T g2) (PySem.W.mg_of X G a9) (fun _ _ _ _ _ _ us hl => (by obtain ⟨u0, rfl⟩ := len1 hl; rfl))
  have g10 := F10.def (P := l.prog) (w := w) (mg := mg) (base := base) (ok_is_list_of F10 T g9A) (PySem.W.mg_of X G a10) (fun _ _ _ _ _ _ us hl => (by obtain ⟨u0, u1, rfl⟩ := len2 hl; rfl))
  have g11 := F11.defX (P := l.prog) (w := w) (mg := mg) (base := base) (ok_need_fold_rule F11 T g9) (PySem.W.mg_of X G a11) (fun _ _ _ _ _ _ us hl => (by obtain ⟨u0, rfl⟩ := len1 hl; rfl))
  have g12 := F12.defX (P := l.prog) (w := w) (mg := mg) (base := base) (ok_need_fold_rules F12 T (PySem.W.mg_of X G a9) g10) (PySem.W.mg_of X G a12) (fun _ _ _ _ _ _ us hl => (by obtain ⟨u0, u1, rfl⟩ := len2 hl; rfl))
  have g13 := F13.def (P := l.prog) (w := w) (mg := mg) (base := base) (ok_row_above F13 T) (PySem.W.mg_of X G a13) (fun _ _ _ _ _ _ us hl => (by obtain ⟨u0, u1, rfl⟩ := len2 hl; rfl))
  have g14 := F14.def (P := l.prog) (w := w) (mg := mg) (base := base) (ok_awaited F14 T) (PySem.W.mg_of X G a14) (fun _ _ _ _ _ _ us hl => (by obtain ⟨u0, u1, u2, u3, rfl⟩ := len4 hl; rfl))
  have g15 := F15.def (P := l.prog) (w := w) (mg := mg) (base := base) (ok_folded_cell F15 T) (PySem.W.mg_of X G a15) (fun _ _ _ _ _ _ us hl => (by obtain ⟨u0, u1, u2, rfl⟩ := len3 hl; rfl))
  have g16 := F16.def (P := l.prog) (w := w) (mg := mg) (base := base) (ok_unfolded_cell F16 T) (PySem.W.mg_of X G a16) (fun _ _ _ _ _ _ us hl => (by obtain ⟨u0, u1, u2, rfl⟩ := len3 hl; rfl))
  have g17 := F17.def (P := l.prog) (w := w) (mg := mg) (base := base) (ok_folded_row F17 T g11 g13 g14 g15) (PySem.W.mg_of X G a17) (fun _ _ _ _ _ _ us hl => (by obtain ⟨u0, u1, u2, rfl⟩ := len3 hl; rfl))
  have g18 := F18.defX (P := l.prog) (w := w) (mg := mg) (base := base) (ok_folded_rowX F18 T g11 g13 g14 g15) (PySem.W.mg_of X G a18) (fun _ _ _ _ _ _ us hl => (by obtain ⟨u0, u1, u2, rfl⟩ := len3 hl; rfl))
  have g19 := F19.def (P := l.prog) (w := w) (mg := mg) (base := base) (ok_unfolded_row F19 T g11 g13 g14 g16) (PySem.W.mg_of X G a19) (fun _ _ _ _ _ _ us hl => (by obtain ⟨u0, u1, u2, rfl⟩ := len3 hl; rfl))
  have g20 := F20.defX (P := l.prog) (w := w) (mg := mg) (base := base) (ok_unfolded_rowX F20 T g11 g13 g14 g16) (PySem.W.mg_of X G a20) (fun _ _ _ _ _ _ us hl => (by obtain ⟨u0, u1, u2, rfl⟩ := len3 hl; rfl))
  have g21 := F21.def (P := l.prog) (w := w) (mg := mg) (base := base) (ok_above_in F21 T) (PySem.W.mg_of X G a21) (fun _ _ _ _ _ _ us hl => (by obtain ⟨u0, u1, rfl⟩ := len2 hl; rfl))
  have g22 := F22.def (P := l.prog) (w := w) (mg := mg) (base := base) (ok_folded_picture F22 T g8 g12 g17 g21) (PySem.W.mg_of X G a22) (fun _ _ _ _ _ _ us hl => (by obtain ⟨u0, u1, rfl⟩ := len2 hl; rfl))
  have g23 := F23.defX (P := l.prog) (w := w) (mg := mg) (base := base) (ok_folded_pictureX F23 T g8 g12 g17 g21) (PySem.W.mg_of X G a23) (fun _ _ _ _ _ _ us hl => (by obtain ⟨u0, u1, rfl⟩ := len2 hl; rfl))
  have g24 := F24.def (P := l.prog) (w := w) (mg := mg) (base := base) (ok_unfolded_picture F24 T g8 g12 g19 g21) (PySem.W.mg_of X G a24) (fun _ _ _ _ _ _ us hl => (by obtain ⟨u0, u1, rfl⟩ := len2 hl; rfl))
  have g25 := F25.defX (P := l.prog) (w := w) (mg := mg) (base := base) (ok_unfolded_pictureX F25 T g8 g12 g19 g21) (PySem.W.mg_of X G a25) (fun _ _ _ _ _ _ us hl => (by obtain ⟨u0, u1, rfl⟩ := len2 hl; rfl))
  have g26 := F26.def (P := l.prog) (w := w) (mg := mg) (base := base) (ok_law_said F26 T TC) (PySem.W.mg_of X G a26) (fun _ _ _ _ _ _ us hl => (by obtain ⟨u0, rfl⟩ := len1 hl; rfl))
  have g27 := F27.def (P := l.prog) (w := w) (mg := mg) (base := base) (ok_law_cell_at F27 T) (PySem.W.mg_of X G a27) (fun _ _ _ _ _ _ us hl => (by obtain ⟨u0, u1, rfl⟩ := len2 hl; rfl))
  have g28 := F28.def (P := l.prog) (w := w) (mg := mg) (base := base) (ok_law_mixed F28 T) (PySem.W.mg_of X G a28) (fun _ _ _ _ _ _ us hl => (by obtain ⟨u0, u1, rfl⟩ := len2 hl; rfl))
  have g29 := F29.def (P := l.prog) (w := w) (mg := mg) (base := base) (ok_law_mixedE F29 T) (PySem.W.mg_of X G a29) (fun _ _ _ _ _ _ us hl => (by obtain ⟨u0, u1, rfl⟩ := len2 hl; rfl))
  have g30 := F30.def (P := l.prog) (w := w) (mg := mg) (base := base) (ok_law_whole F30 T) (PySem.W.mg_of X G a30) (fun _ _ _ _ _ _ us hl => (by obtain ⟨u0, rfl⟩ := len1 hl; rfl))
  have g31 := F31.def (P := l.prog) (w := w) (mg := mg) (base := base) (ok_law_numbers F31 T g30) (PySem.W.mg_of X G a31) (fun _ _ _ _ _ _ us hl => (by obtain ⟨u0, u1, rfl⟩ := len2 hl; rfl))
  have g32 := F32.def (P := l.prog) (w := w) (mg := mg) (base := base) (ok_law_fresh F32 T) (PySem.W.mg_of X G a32) (fun _ _ _ _ _ _ us hl => (by obtain ⟨u0, u1, u2, u3, u4, rfl⟩ := len5 hl; rfl))
  have g33 := F33.def (P := l.prog) (w := w) (mg := mg) (base := base) (ok_law_but_one F33 T) (PySem.W.mg_of X G a33) (fun _ _ _ _ _ _ us hl => (by obtain ⟨u0, u1, rfl⟩ := len2 hl; rfl))
  have g34 := F34.def (P := l.prog) (w := w) (mg := mg) (base := base) (ok_law_folded F34 T g33) (PySem.W.mg_of X G a34) (fun _ _ _ _ _ _ us hl => (by obtain ⟨u0, u1, u2, rfl⟩ := len3 hl; rfl))
  have g35 := F35.def (P := l.prog) (w := w) (mg := mg) (base := base) (ok_law_picture F35 T g28 g32) (PySem.W.mg_of X G a35) (fun _ _ _ _ _ _ us hl => (by obtain ⟨u0, rfl⟩ := len1 hl; rfl))
  have g36 := F36.def (P := l.prog) (w := w) (mg := mg) (base := base) (ok_law_no_picture F36 T) (PySem.W.mg_of X G a36) (fun _ _ _ _ _ _ us hl => (by obtain ⟨u0, u1, rfl⟩ := len2 hl; rfl))
  have g37 := F37.def (P := l.prog) (w := w) (mg := mg) (base := base) (ok_law_copy F37 T) (PySem.W.mg_of X G a37) (fun _ _ _ _ _ _ us hl => (by obtain ⟨u0, rfl⟩ := len1 hl; rfl))
  have g38 := F38.def (P := l.prog) (w := w) (mg := mg) (base := base) (ok_law_row_good F38 T g34 g17 g19 g31) (PySem.W.mg_of X G a38) (fun _ _ _ _ _ _ us hl => (by obtain ⟨u0, u1, u2, u3, rfl⟩ := len4 hl; rfl))
  have g39 := F39.def (P := l.prog) (w := w) (mg := mg) (base := base) (ok_law_picture_good F39 T g34 g37 g22 g24 g31) (PySem.W.mg_of X G a39) (fun _ _ _ _ _ _ us hl => (by obtain ⟨u0, u1, u2, rfl⟩ := len3 hl; rfl))
  have g40 := F40.def (P := l.prog) (w := w) (mg := mg) (base := base) (ok_law_refused F40 uL (PySem.W.codeHd_of_K kb vL) hB T gB gFR gUR gFP gUP g36) (PySem.W.mg_of X G a40) (fun _ _ _ _ _ _ us hl => (by obtain ⟨u0, u1, u2, rfl⟩ := len3 hl; rfl))
  exact ok_law F41 T g29 g27 g35 g40 g39 g38
theorem walk {l : PySem.W.OpenLaw} {q : Program} {loose : List Str} {XP : (Str → Option Value) → Heap → Prop} {YP : World → Heap → Prop} {d : DefRec} {K : Params → PySem.W.Frag} {pL : Addr} (hn : l.most = some 63) (hdf : d.params.defaults = [])
    (hY : ∀ (w : World) (h : Heap), YP w h → (K w.params).In h) (hT : ∀ (w : World) (h : Heap), YP w h → ∀ p ∈ [pL], h.get? p = some (PySem.W.tabObj #[]))
    (hC : ∀ (w : World), ∀ p ∈ [pL], ∃ c, PySem.W.codeHdIn (K w.params) c p = true) (hNT : ∀ w : World, PySem.W.noTabs (K w.params) = true)
    (F : ∀ (w : World) (mg : Str → Option Value) (fa : Addr) (h : Heap), (K w.params).In h → h.Ns mainGlobals mg → mg d.name = some (.ref fa) →
      ∃ fd : FuncData, (∀ (s : Shared) (u : Value), BindsTo s fd ⟨[u], []⟩ [("_law_script", u)]) ∧ ∀ base : Heap, (K w.params).In base → base.Ns mainGlobals mg → BMain mg base → FnOk l.prog w (K w.params) mg base CX0 13 fa fd ["_law_script"] (spLaw pL (K w.params))) :
    PySem.W.WalkO q loose XP YP l.row.toRowW d [] (fun f vs => PySem.call f vs) :=
  L2.walk_ofT (n := 63) (k := 13) (x := "_law_script") (CX := CX0) (ts := [pL]) (sp := spLaw pL) hn (by decide) hdf ⟨rfl, by decide, by decide⟩ hY hT hC hNT F (fun _ H a ns _ hb hO hS => ⟨a, ns, rfl, hS, hO pL (by simp), fun _ => rfl⟩) fun _ _ _ _ z => z
end K23
open PySem PySem.W PyProof.Rows
set_option Elab.async false
noncomputable def PySem.W.Fast.tw9021362093875171817 : PySem.Program := PySem.Challenge.pw_cellfolio_k23_folds_undone
theorem PySem.W.Fast.te9021362093875171817 : PySem.Challenge.pw_cellfolio_k23_folds_undone = PySem.W.Fast.tw9021362093875171817 := rfl
def PySem.W.Fast.tw15277889146688597952 : Nat := 0
def PySem.W.Fast.tw12748285220303268545 : Nat := 0
def PySem.W.Fast.tw17220543096039796803 : Nat := 0
def PySem.W.Fast.tw17967867967486777413 : Nat := 0
def PySem.W.Fast.tw12839387939939993575 : Nat := 0
def PySem.W.Fast.tw4150698532169084712 : Nat := 0
def PySem.W.Fast.tw2768376094329655401 : Nat := 0
def PySem.W.Fast.tw7145871349732559209 : Nat := 0
def PySem.W.Fast.tw17120764306487003594 : Nat := 0
def PySem.W.Fast.tw17294041667513708394 : Nat := 0
def PySem.W.Fast.tw17343375734543317804 : Nat := 0
def PySem.W.Fast.tw4080291640579711726 : Nat := 0
def PySem.W.Fast.tw12605625249789430255 : Nat := 0
def PySem.W.Fast.tw16207623536516442192 : Nat := 0
def PySem.W.Fast.tw17402352584255267026 : Nat := 0
def PySem.W.Fast.tw1979566813451398195 : Nat := 0
def PySem.W.Fast.tw13397419583492475667 : Nat := 0
def PySem.W.Fast.tw4405726313872287571 : Nat := 0
def PySem.W.Fast.tw4018916858678633077 : Nat := 0
def PySem.W.Fast.tw4144196289727181239 : Nat := 0
def PySem.W.Fast.tw11672937060570678584 : Nat := 0
def PySem.W.Fast.tw66047052777313912 : Nat := 0
def PySem.W.Fast.tw13036532928278900538 : Nat := 0
def PySem.W.Fast.tw3284234524605418651 : Nat := 0
def PySem.W.Fast.tw18055825618439518587 : Nat := 0
def PySem.W.Fast.tw5431975769809240412 : Nat := 0
def PySem.W.Fast.tw16643905452215973981 : Nat := 0
def PySem.W.Fast.tw10024710948206390205 : Nat := 0
def PySem.W.Fast.tw10124147216752210877 : Nat := 0
def PySem.W.Fast.tw16358159686918765726 : Nat := 0
def PySem.W.Fast.tw11123725978931805375 : Nat := 0
def PySem.W.Fast.tw2304459293690902367 : Nat := 0
set_option maxRecDepth 100000 in
set_option maxHeartbeats 0 in
theorem PySem.Challenge.cw_cellfolio_k23_folds_undone_holds : PySem.Challenge.rw_cellfolio_k23_folds_undone.Holds := by
  w_on; o_law; k_head; (case hw => w_witness2)
  k_fill
  refine K23.walk (l := PySem.Challenge.rw_cellfolio_k23_folds_undone) (pL := 523) rfl rfl (fun w h Y => PySem.W.km_in_of Y) (fun w h Y p hp => PySem.W.km_tabs_of Y p (by simp only [List.mem_cons, List.not_mem_nil, or_false] at hp ⊢; simp [hp])) (fun w p hp => by
    simp only [List.mem_cons, List.not_mem_nil, or_false] at hp
    rcases hp with rfl
    · exact ⟨527, by kernel_rfl⟩) (fun w => by kernel_rfl) ?F
  case F =>
    intro w mg fa h KX G hmg
    refine' K23.all_mk (pL := 523) KX G hmg ?a1 ?l1 ?c1 ?k1 ?a2 ?l2 ?c2 ?k2 ?a3 ?l3 ?c3 ?k3 ?a4 ?l4 ?c4 ?k4 ?a5 ?l5 ?c5 ?k5 ?a6 ?l6 ?c6 ?k6 ?a7 ?l7 ?c7 ?k7 ?a8 ?l8 ?c8 ?k8 ?a9 ?l9 ?c9 ?k9 ?a10 ?l10 ?c10 ?k10 ?a11 ?l11 ?c11 ?k11 ?a12 ?l12 ?c12 ?k12 ?a13 ?l13 ?c13 ?k13 ?a14 ?l14 ?c14 ?k14 ?a15 ?l15 ?c15 ?k15 ?a16 ?l16 ?c16 ?k16 ?a17 ?l17 ?c17 ?k17 ?a18 ?l18 ?c18 ?k18 ?a19 ?l19 ?c19 ?k19 ?a20 ?l20 ?c20 ?k20 ?a21 ?l21 ?c21 ?k21 ?a22 ?l22 ?c22 ?k22 ?a23 ?l23 ?c23 ?k23 ?a24 ?l24 ?c24 ?k24 ?a25 ?l25 ?c25 ?k25 ?a26 ?l26 ?c26 ?k26 ?a27 ?l27 ?c27 ?k27 ?a28 ?l28 ?c28 ?k28 ?a29 ?l29 ?c29 ?k29 ?a30 ?l30 ?c30 ?k30 ?a31 ?l31 ?c31 ?k31 ?a32 ?l32 ?c32 ?k32 ?a33 ?l33 ?c33 ?k33 ?a34 ?l34 ?c34 ?k34 ?a35 ?l35 ?c35 ?k35 ?a36 ?l36 ?c36 ?k36 ?a37 ?l37 ?c37 ?k37 ?a38 ?l38 ?c38 ?k38 ?a39 ?l39 ?c39 ?k39 ?a40 ?l40 ?c40 ?k40 ?a41 ?l41 ?c41 ?k41 ?z1 ?z2 ?z3 ?z4 ?z5 ?z6 ?z7 ?z8 ?z9 ?z10 ?z11 ?z12 ?y1 ?y2 ?y3 ?y4 ?y5 ?y6 ?y7 ?x1 ?x2 ?x3 ?x4 ?x5 ?x6 ?x7 ?x8 ?x9 ?x10 ?x11 ?x12 ?x13 ?x14 ?x15 ?x16 ?x17 ?x18 ?x19 ?x20 ?x21 ?x22 ?x23 ?x24 ?q1 ?q2 ?q3 ?q4 ?q5 ?q6 ?q7 ?q8 ?q9 ?q10 ?q11 ?q12 ?q13 ?q14 ?q15 ?q16 ?q17 ?q18 ?q19 ?q20 ?q21 ?q22 ?q23 ?q24 ?q25 ?q26 ?q27 ?q28 ?q29 ?q30 ?q31 ?q32 ?q33 ?q34 ?q35 ?q36 ?q37 ?q38 ?q39 ?q40 ?q41 ?q42 ?q43 ?q44 ?q45 ?q46 ?q47 ?q48 ?q49 ?q50 ?q51 ?q52 ?q53 ?q54 ?q55 ?q56 ?q57 ?q58 ?q59 ?q60 ?q61 ?q62 ?q63 ?q64 ?q65 ?q66 ?q67 ?uL ?vL
    (case a1 => k_is)
    (case l1 => k_is)
    (case c1 => k_is)
    (case k1 => k_is)
    (case a2 => k_is)
    (case l2 => k_is)
    (case c2 => k_is)
    (case k2 => k_is)
    (case a3 => k_is)
    (case l3 => k_is)
    (case c3 => k_is)
    (case k3 => k_is)
    (case a4 => k_is)
    (case l4 => k_is)
    (case c4 => k_is)
    (case k4 => k_is)
    (case a5 => k_is)
    (case l5 => k_is)
    (case c5 => k_is)
    (case k5 => k_is)
    (case a6 => k_is)
    (case l6 => k_is)
    (case c6 => k_is)
    (case k6 => k_is)
    (case a7 => k_is)
    (case l7 => k_is)
    (case c7 => k_is)
    (case k7 => k_is)
    (case a8 => k_is)
    (case l8 => k_is)
    (case c8 => k_is)
    (case k8 => k_is)
    (case a9 => k_is)
    (case l9 => k_is)
    (case c9 => k_is)
    (case k9 => k_is)
    (case a10 => k_is)
    (case l10 => k_is)
    (case c10 => k_is)
    (case k10 => k_is)
    (case a11 => k_is)
    (case l11 => k_is)
    (case c11 => k_is)
    (case k11 => k_is)
    (case a12 => k_is)
    (case l12 => k_is)
    (case c12 => k_is)
    (case k12 => k_is)
    (case a13 => k_is)
    (case l13 => k_is)
    (case c13 => k_is)
    (case k13 => k_is)
    (case a14 => k_is)
    (case l14 => k_is)
    (case c14 => k_is)
    (case k14 => k_is)
    (case a15 => k_is)
    (case l15 => k_is)
    (case c15 => k_is)
    (case k15 => k_is)
    (case a16 => k_is)
    (case l16 => k_is)
    (case c16 => k_is)
    (case k16 => k_is)
    (case a17 => k_is)
    (case l17 => k_is)
    (case c17 => k_is)
    (case k17 => k_is)
    (case a18 => k_is)
    (case l18 => k_is)
    (case c18 => k_is)
    (case k18 => k_is)
    (case a19 => k_is)
    (case l19 => k_is)
    (case c19 => k_is)
    (case k19 => k_is)
    (case a20 => k_is)
    (case l20 => k_is)
    (case c20 => k_is)
    (case k20 => k_is)
    (case a21 => k_is)
    (case l21 => k_is)
    (case c21 => k_is)
    (case k21 => k_is)
    (case a22 => k_is)
    (case l22 => k_is)
    (case c22 => k_is)
    (case k22 => k_is)
    (case a23 => k_is)
    (case l23 => k_is)
    (case c23 => k_is)
    (case k23 => k_is)
    (case a24 => k_is)
    (case l24 => k_is)
    (case c24 => k_is)
    (case k24 => k_is)
    (case a25 => k_is)
    (case l25 => k_is)
    (case c25 => k_is)
    (case k25 => k_is)
    (case a26 => k_is)
    (case l26 => k_is)
    (case c26 => k_is)
    (case k26 => k_is)
    (case a27 => k_is)
    (case l27 => k_is)
    (case c27 => k_is)
    (case k27 => k_is)
    (case a28 => k_is)
    (case l28 => k_is)
    (case c28 => k_is)
    (case k28 => k_is)
    (case a29 => k_is)
    (case l29 => k_is)
    (case c29 => k_is)
    (case k29 => k_is)
    (case a30 => k_is)
    (case l30 => k_is)
    (case c30 => k_is)
    (case k30 => k_is)
    (case a31 => k_is)
    (case l31 => k_is)
    (case c31 => k_is)
    (case k31 => k_is)
    (case a32 => k_is)
    (case l32 => k_is)
    (case c32 => k_is)
    (case k32 => k_is)
    (case a33 => k_is)
    (case l33 => k_is)
    (case c33 => k_is)
    (case k33 => k_is)
    (case a34 => k_is)
    (case l34 => k_is)
    (case c34 => k_is)
    (case k34 => k_is)
    (case a35 => k_is)
    (case l35 => k_is)
    (case c35 => k_is)
    (case k35 => k_is)
    (case a36 => k_is)
    (case l36 => k_is)
    (case c36 => k_is)
    (case k36 => k_is)
    (case a37 => k_is)
    (case l37 => k_is)
    (case c37 => k_is)
    (case k37 => k_is)
    (case a38 => k_is)
    (case l38 => k_is)
    (case c38 => k_is)
    (case k38 => k_is)
    (case a39 => k_is)
    (case l39 => k_is)
    (case c39 => k_is)
    (case k39 => k_is)
    (case a40 => k_is)
    (case l40 => k_is)
    (case c40 => k_is)
    (case k40 => k_is)
    (case a41 => k_is)
    (case l41 => k_is)
    (case c41 => k_is)
    (case k41 => k_is)
    (case z1 => k_is)
    (case z2 => k_is)
    (case z3 => k_is)
    (case z4 => k_is)
    (case z5 => k_is)
    (case z6 => k_is)
    (case z7 => k_is)
    (case z8 => k_is)
    (case z9 => k_is)
    (case z10 => k_is)
    (case z11 => k_is)
    (case z12 => k_is)
    (case y1 => k_is)
    (case y2 => k_is)
    (case y3 => k_is)
    (case y4 => k_is)
    (case y5 => k_is)
    (case y6 => k_is)
    (case y7 => k_is)
    (case x1 => k_is)
    (case x2 => k_is)
    (case x3 => k_is)
    (case x4 => k_is)
    (case x5 => k_is)
    (case x6 => k_is)
    (case x7 => k_is)
    (case x8 => k_is)
    (case x9 => k_is)
    (case x10 => k_is)
    (case x11 => k_is)
    (case x12 => k_is)
    (case x13 => k_is)
    (case x14 => k_is)
    (case x15 => k_is)
    (case x16 => k_is)
    (case x17 => k_is)
    (case x18 => k_is)
    (case x19 => k_is)
    (case x20 => k_is)
    (case x21 => k_is)
    (case x22 => k_is)
    (case x23 => k_is)
    (case x24 => k_is)
    (case q1 => k_exc)
    (case q2 => k_exc)
    (case q3 => k_is)
    (case q4 => k_is)
    (case q5 => k_is)
    (case q6 => k_is)
    (case q7 => k_is)
    (case q8 => k_is)
    (case q9 => k_is)
    (case q10 => k_is)
    (case q11 => k_is)
    (case q12 => k_is)
    (case q13 => k_is)
    (case q14 => k_is)
    (case q15 => k_is)
    (case q16 => k_is)
    (case q17 => k_is)
    (case q18 => k_is)
    (case q19 => k_is)
    (case q20 => kit_is)
    (case q21 => kit_is)
    (case q22 => kit_is)
    (case q23 => kit_is)
    (case q24 => kit_is)
    (case q25 => kit_is)
    (case q26 => kit_is)
    (case q27 => kit_is)
    (case q28 => kit_is)
    (case q29 => kit_is)
    (case q30 => kit_is)
    (case q31 => kit_is)
    (case q32 => kit_is)
    (case q33 => kit_is)
    (case q34 => kit_is)
    (case q35 => kit_is)
    (case q36 => kit_is)
    (case q37 => kit_is)
    (case q38 => kit_is)
    (case q39 => kit_is)
    (case q40 => kit_is)
    (case q41 => kit_is)
    (case q42 => kit_is)
    (case q43 => kit_is)
    (case q44 => kit_is)
    (case q45 => kit_is)
    (case q46 => kit_is)
    (case q47 => kit_is)
    (case q48 => kit_is)
    (case q49 => kit_is)
    (case q50 => kit_is)
    (case q51 => kit_is)
    (case q52 => kit_is)
    (case q53 => kit_is)
    (case q54 => kit_is)
    (case q55 => kit_is)
    (case q56 => kit_is)
    (case q57 => kit_is)
    (case q58 => kit_is)
    (case q59 => kit_is)
    (case q60 => kit_is)
    (case q61 => kit_is)
    (case q62 => kit_is)
    (case q63 => kit_is)
    (case q64 => kit_is)
    (case q65 => kit_is)
    (case q66 => kit_is)
    (case q67 => kit_is)
    (case uL => first | exact rfl | k_is)
    (case vL => kernel_rfl)
#print axioms PySem.Challenge.cw_cellfolio_k23_folds_undone_holds
