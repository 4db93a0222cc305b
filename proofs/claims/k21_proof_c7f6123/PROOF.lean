import PyProof.Rows.All
import Wide.All
import OpenK.AllK
import Wide.FinOn
import Lean
import PyProof.EqAt
import PyProof.EqKinds
import PyProof.NeKinds
import PyProof.ZipIter
import PyProof.Rows.ZipGen
import PyProof.ExcArgs
import PyProof.CompUse
import PyProof.TupleCall
import PyProof.CompFree
import PyProof.Cells
import OpenK.KEqL
import KE.KEqDict
import PyProof.EnumIter
import PyProof.EnumFor
import PyProof.EnumMake
import PyProof.EnumStmt
import PyProof.Rows.EnumRows
import KE.KRevIter
import OpenK.KRaise
import PyProof.Draws
import PyProof.StrWalks
import PyProof.StrCalls2
import PyProof.Rows.StrJoin2
import PyProof.StrLawsTight
import PyProof.StrLawsIn
import PyProof.SliceStr2
import PyProof.StrBlockI
import PyProof.StrLawsOcc
import PyProof.ConsumeS
import PyProof.MinMaxWalk
import PyProof.StrOps2
import PyProof.WalkInts
import PyProof.LongRange
import KE.KUnpack
import PyProof.Rows.IntBool
import KE.KBits
import PyProof.StrLawsChain
import PyProof.StrCalls3
import KE.RegKIsAll
import PySem.Challenge.RW_cellfolio_k21_packs_read
set_option Elab.async false
set_option linter.all false
set_option maxRecDepth 100000
namespace L2
open PySem PySem.Spec PyProof.Rows
noncomputable abbrev Key := Sum Int Str
noncomputable def keyIs : Key → Value → Bool
  | .inl k, v => Value.isInt k v
  | .inr x, v => Value.isStrOf x v
noncomputable def keyH (w : World) : Key → Int
  | .inl k => hashInt k
  | .inr x => hashStr w x
theorem keyIs_shape : ∀ {k : Key} {v : Value}, keyIs k v = true → (∃ i t, k = Sum.inl i ∧ v = Value.int i t) ∨ (∃ x t, k = Sum.inr x ∧ v = Value.str x t)
  | .inl i, v, h => by
    obtain ⟨t, e⟩ := Value.isInt_shape (k := i) (v := v) h
    exact .inl ⟨i, t, rfl, e⟩
  | .inr x, v, h => by
    obtain ⟨t, e⟩ := Value.isStrOf_shape (x := x) (v := v) h
    exact .inr ⟨x, t, rfl, e⟩
theorem key_ll (a b : Int) : decide ((Sum.inl a : Key) = Sum.inl b) = (a == b) := by
  by_cases e : a = b
  · subst e; simp
  · have h : ¬ (Sum.inl a : Key) = Sum.inl b := fun q => e (Sum.inl.inj q)
    rw [decide_eq_false h]
    exact (beq_eq_false_iff_ne.mpr e).symm
theorem key_rr (a b : Str) : decide ((Sum.inr a : Key) = Sum.inr b) = decide (a = b) := by
  by_cases e : a = b
  · subst e; simp
  · have h : ¬ (Sum.inr a : Key) = Sum.inr b := fun q => e (Sum.inr.inj q)
    rw [decide_eq_false h, decide_eq_false e]
theorem key_lr (a : Int) (b : Str) : decide ((Sum.inl a : Key) = Sum.inr b) = false := decide_eq_false (fun q => nomatch q)
theorem key_rl (a : Str) (b : Int) : decide ((Sum.inr a : Key) = Sum.inl b) = false := decide_eq_false (fun q => nomatch q)
noncomputable def mixKind (prog : Program) (w : World) : PySem.KeyKind prog w Key where
  is := keyIs
  hash := keyH w
  inj := fun v a b ha hb => by
    rcases keyIs_shape ha with ⟨i, t, rfl, rfl⟩ | ⟨x, t, rfl, rfl⟩
    · rcases keyIs_shape hb with ⟨j, u, rfl, e⟩ | ⟨y, u, rfl, e⟩
      · injection e with e1 _; rw [e1]
      · exact nomatch e
    · rcases keyIs_shape hb with ⟨j, u, rfl, e⟩ | ⟨y, u, rfl, e⟩
      · exact nomatch e
      · injection e with e1 _; rw [e1]
  byValue := fun k v h => by
    rcases keyIs_shape h with ⟨i, t, rfl, rfl⟩ | ⟨x, t, rfl, rfl⟩ <;> rfl
  pyHash := fun hv h => by
    rcases keyIs_shape hv with ⟨i, t, rfl, rfl⟩ | ⟨x, t, rfl, rfl⟩
    · exact wpAny_pyHash_int h
    · exact wpAny_pyHash_str h
  eqBool := fun hu hv h => by
    rcases keyIs_shape hu with ⟨i, t, rfl, rfl⟩ | ⟨x, t, rfl, rfl⟩
    · rcases keyIs_shape hv with ⟨j, u, rfl, rfl⟩ | ⟨y, u, rfl, rfl⟩
      · rw [key_ll] at h; exact wpAny_eqBool_int h
      · rw [key_lr] at h; exact SeqAt.EqAt.int_str i t y u _ _ _ _ h
    · rcases keyIs_shape hv with ⟨j, u, rfl, rfl⟩ | ⟨y, u, rfl, rfl⟩
      · rw [key_rl] at h; exact SeqAt.EqAt.str_int x t j u _ _ _ _ h
      · rw [key_rr] at h; exact wpAny_eqBool_str h
  «strs» := fun k x t v h => by
    rcases keyIs_shape h with ⟨i, u, rfl, e⟩ | ⟨y, u, rfl, e⟩
    · exact nomatch e
    · injection e with e1 _
      subst e1
      cases v <;> rfl
end L2
namespace L2
open PySem PySem.Spec PyProof.Rows
inductive V where
  | non | bl (b : Bool) | int (i : Int) | str (x : Str) | byt (b : Array UInt8) | flt (b : UInt64) | ref (a : Addr) | ty (n : String)
  deriving DecidableEq
noncomputable def RelV : V → Value → Prop
  | .non, u => u = Value.none
  | .bl b, u => u = Value.bool b
  | .int i, u => ∃ t, u = Value.int i t
  | .str x, u => ∃ t, u = Value.str x t
  | .byt b, u => ∃ t, u = Value.bytes b t
  | .flt b, u => ∃ t, u = Value.float b t
  | .ref a, u => u = Value.ref a
  | .ty n, u => u = Value.type n
noncomputable abbrev Vals : List V → List Value → Prop := Paired RelV
theorem Vals.length {xs : List V} {us : List Value} (r : Vals xs us) : xs.length = us.length := Paired.length r
theorem Vals.get : ∀ {xs : List V} {us : List Value} {i : Nat} {x : V}, Vals xs us → xs[i]? = some x → ∃ u, us[i]? = some u ∧ RelV x u
  | _, _, _, _, .nil, e => by simp at e
  | _, _, 0, _, .cons r _, e => by simp at e; subst e; exact ⟨_, rfl, r⟩
  | _, _, i + 1, x, .cons _ t, e => by
    obtain ⟨u, h1, h2⟩ := Vals.get (i := i) (x := x) t (by simpa using e)
    exact ⟨u, by simpa using h1, h2⟩
theorem Vals.append : ∀ {xs ys : List V} {us ws : List Value}, Vals xs us → Vals ys ws → Vals (xs ++ ys) (us ++ ws)
  | _, _, _, _, .nil, s => s
  | _, _, _, _, .cons r t, s => .cons r (Vals.append t s)
theorem Vals.take : ∀ {xs : List V} {us : List Value} (n : Nat), Vals xs us → Vals (xs.take n) (us.take n)
  | _, _, 0, _ => .nil
  | _, _, _ + 1, .nil => .nil
  | _, _, n + 1, .cons r t => .cons r (Vals.take n t)
theorem Vals.drop : ∀ {xs : List V} {us : List Value} (n : Nat), Vals xs us → Vals (xs.drop n) (us.drop n)
  | _, _, 0, r => r
  | _, _, _ + 1, .nil => .nil
  | _, _, n + 1, .cons _ t => Vals.drop n t
noncomputable def RelO : Option V → Option Value → Prop
  | some v, some u => RelV v u
  | none, none => True
  | _, _ => False
noncomputable def KV {κ : Type} : List (κ × V) → List (κ × Value) → Prop := Paired fun (p : κ × V) (q : κ × Value) => p.1 = q.1 ∧ RelV p.2 q.2
noncomputable def kV : Key → V
  | .inl i => .int i
  | .inr x => .str x
inductive HO where
  | lst (xs : List V)
  | tup (xs : List V)
  | dK (kvs : List (Key × V)) | dT (kvs : List (List Key × V))
  | set (S : Int → Bool) (n : Nat)
  | ins (C dx : Addr) (fs : List (Str × V))
  | own (x : Addr)
  | xd (fs : List (Str × V))
  | met (f x : Addr)
  | rng (lo hi : Int)
  | frz (o : Obj) (u : HO)
  | tbl (ps : Array Value)
  | ext (φ : Heap → Prop)
noncomputable abbrev Hp := Addr → Option HO
noncomputable def upd (H : Hp) (a : Addr) (o : HO) : Hp := fun b => if b = a then some o else H b
theorem upd_same {H : Hp} {a : Addr} {o : HO} : upd H a o a = some o := by unfold upd; rw [if_pos rfl]
theorem upd_ne {H : Hp} {a b : Addr} {o : HO} (h : b ≠ a) : upd H a o b = H b := by unfold upd; rw [if_neg h]
theorem ne_of_none {H : Hp} {a b : Addr} {o : HO} (h : H a = some o) (h' : H b = none) : a ≠ b := by
  intro e; subst e; rw [h] at h'; cases h'
section
variable (P : Program) (w : World)
noncomputable def ObjOk (H : Hp) (h : Heap) (a : Addr) : HO → Prop
  | .lst xs => xs.length ≤ sizeLine ∧ ∃ (its : List Value) (n : Nat), Vals xs its ∧ h.get? a = some { cls := .type "list", data := .seq its.toArray n }
  | .tup xs => xs.length ≤ sizeLine ∧ ∃ its : List Value, Vals xs its ∧ IsTup h a its.toArray
  | .dK kvs => kvs.length ≤ sizeLine ∧ (a == sysModules) = false ∧ ∃ vs, KV kvs vs ∧ h.DictOf (mixKind P w) a vs
  | .dT kvs => kvs.length ≤ sizeLine ∧ (a == sysModules) = false ∧ ∃ xs : List (List Key × Addr × Value),
      Paired (fun (p : List Key × V) (q : List Key × Addr × Value) => p.1 = q.1 ∧ H q.2.1 = some (.tup (p.1.map kV)) ∧ RelV p.2 q.2.2) kvs xs ∧
      ∃ o es ep, h.get? a = some o ∧ o.ExactDict ∧ o.data = .dict es ep ∧ es.toList = xs.map (entryOfKey (tupleKind (mixKind P w))) ∧ (xs.map (·.1)).Nodup
  | .set S n => h.SetOf (intKind P w) a S n
  | .ins C dx fs => H dx = some (.own a) ∧ fs.length ≤ 1000 ∧ dx ≠ a ∧ h.get? a = some (PySem.W.instObj C dx) ∧
      ∃ mA, h.Ns1 dx mA ∧ (∀ f, RelO (fs.lookup f) (mA f)) ∧ PySem.Within mA (fs.map (·.1))
  | .own _ => ∃ o, h.get? a = some o
  | .xd fs => ∃ mA, h.Ns1 a mA ∧ ∀ f, RelO (fs.lookup f) (mA f)
  | .rng lo hi => ∃ t u v, h.get? a = some { cls := .type "range", data := .fields #[.int lo t, .int hi u, .int 1 v] }
  | .frz o u => h.get? a = some o ∧ ObjOk H h a u
  | .tbl ps => h.get? a = some { cls := .none, data := .fields ps }
  | .met f x => h.get? a = some (PySem.W.methodObj (.ref f) (.ref x))
  | .ext φ => φ h ∧ (∃ o, h.get? a = some o) ∧ ∀ h1 h2 : Heap, φ h1 → (∀ o, h1.get? a = some o → h2.get? a = some o) → φ h2
noncomputable def HOk (H : Hp) (h : Heap) : Prop := ∀ a o, H a = some o → ObjOk P w H h a o
end
section
variable {P : Program} {w : World} {H H' : Hp} {h h' : Heap} {a : Addr} {o : HO}
theorem ObjOk.lt (x : ObjOk P w H h a o) : a < h.objs.size := by
  cases o with
  | lst xs => obtain ⟨_, _, _, _, e⟩ := x; exact Heap.lt_size e
  | tup xs => obtain ⟨_, _, _, p⟩ := x; exact p.lt
  | dK kvs => obtain ⟨_, _, _, _, o, _, _, e, _⟩ := x; exact Heap.lt_size e
  | dT kvs => obtain ⟨_, _, _, _, o, _, _, e, _⟩ := x; exact Heap.lt_size e
  | set S n => obtain ⟨o, _, _, _, e, _⟩ := x; exact Heap.lt_size e
  | ins C dx fs => obtain ⟨_, _, _, e, _⟩ := x; exact Heap.lt_size e
  | own y => obtain ⟨_, e⟩ := x; exact Heap.lt_size e
  | xd fs => obtain ⟨_, ⟨_, _, _, e, _⟩, _⟩ := x; exact Heap.lt_size e
  | rng lo hi => obtain ⟨_, _, _, e⟩ := x; exact Heap.lt_size e
  | frz ob u => obtain ⟨e, _⟩ := x; exact Heap.lt_size e
  | tbl ps => exact Heap.lt_size (show h.get? a = some _ from x)
  | met f y => exact Heap.lt_size (show h.get? a = some _ from x)
  | ext φ => obtain ⟨_, ⟨_, e⟩, _⟩ := x; exact Heap.lt_size e
theorem Paired.mapP {α β : Type} {F G : α → β → Prop} : ∀ {l₁ : List α} {l₂ : List β}, Paired F l₁ l₂ → (∀ a b, F a b → G a b) → Paired G l₁ l₂
  | _, _, .nil, _ => .nil
  | _, _, .cons r t, f => .cons (f _ _ r) (Paired.mapP t f)
theorem ObjOk.stay (x : ObjOk P w H h a o) (k : ∀ b u, (b = a ∨ H b = some (.own a)) → h.get? b = some u → h'.get? b = some u)
    (ho : ∀ b, H b = some (.own a) → H' b = some (.own a)) (ht : ∀ b xs, H b = some (.tup xs) → H' b = some (.tup xs)) : ObjOk P w H' h' a o := by
  induction o with
  | lst xs => obtain ⟨z, its, n, r, e⟩ := x; exact ⟨z, its, n, r, k _ _ (.inl rfl) e⟩
  | tup xs => obtain ⟨z, its, r, ob, e, c⟩ := x; exact ⟨z, its, r, ob, k _ _ (.inl rfl) e, c⟩
  | dK kvs => obtain ⟨z, y, vs, r, ob, es, ep, e, c⟩ := x; exact ⟨z, y, vs, r, ob, es, ep, k _ _ (.inl rfl) e, c⟩
  | dT kvs =>
    obtain ⟨z, y, xs, r, ob, es, ep, e, c⟩ := x
    exact ⟨z, y, xs, Paired.mapP r fun p q z => ⟨z.1, ht _ _ z.2.1, z.2.2⟩, ob, es, ep, k _ _ (.inl rfl) e, c⟩
  | set S n => obtain ⟨ob, es, ep, t, e, c⟩ := x; exact ⟨ob, es, ep, t, k _ _ (.inl rfl) e, c⟩
  | ins C dx fs =>
    obtain ⟨d, z, ne, e, mA, ⟨od, es, ep, e2, c⟩, r⟩ := x
    exact ⟨ho _ d, z, ne, k _ _ (.inl rfl) e, mA, ⟨od, es, ep, k _ _ (.inr d) e2, c⟩, r⟩
  | own y => obtain ⟨ob, e⟩ := x; exact ⟨ob, k _ _ (.inl rfl) e⟩
  | xd fs => obtain ⟨mA, ⟨od, es, ep, e, c⟩, r⟩ := x; exact ⟨mA, ⟨od, es, ep, k _ _ (.inl rfl) e, c⟩, r⟩
  | rng lo hi => obtain ⟨t, u, v, e⟩ := x; exact ⟨t, u, v, k _ _ (.inl rfl) e⟩
  | frz ob u ih => obtain ⟨e, q⟩ := x; exact ⟨k _ _ (.inl rfl) e, ih q⟩
  | tbl ps =>
    have e : h.get? a = some { cls := .none, data := .fields ps } := x
    show h'.get? a = some { cls := .none, data := .fields ps }
    exact k a _ (.inl rfl) e
  | met f y =>
    have e : h.get? a = some (PySem.W.methodObj (.ref f) (.ref y)) := x
    show h'.get? a = some (PySem.W.methodObj (.ref f) (.ref y))
    exact k a _ (.inl rfl) e
  | ext φ => obtain ⟨p, ⟨o, e⟩, st⟩ := x; exact ⟨st _ _ p fun o q => k _ _ (.inl rfl) q, ⟨o, k _ _ (.inl rfl) e⟩, st⟩
theorem HOk.lt (x : HOk P w H h) (e : H a = some o) : a < h.objs.size := (x a o e).lt
theorem HOk.fresh (x : HOk P w H h) (e : h.objs.size ≤ a) : H a = none := by
  cases q : H a with
  | none => rfl
  | some u => exact absurd (Nat.lt_of_lt_of_le (x.lt q) e) (Nat.lt_irrefl _)
theorem HOk.kept (x : HOk P w H h) (k : ∀ b u, h.get? b = some u → h'.get? b = some u) : HOk P w H h' := fun a o e =>
  (x a o e).stay (fun b u _ q => k b u q) (fun _ q => q) fun _ _ q => q
theorem HOk.laid (x : HOk P w H h) (k : ∀ b u, h.get? b = some u → h'.get? b = some u) (hp : h.objs.size ≤ a) (new : ObjOk P w (upd H a o) h' a o) : HOk P w (upd H a o) h' := fun b u e => by
  have hn := x.fresh hp
  by_cases hb : b = a
  · subst hb; rw [upd_same] at e; cases e; exact new
  · rw [upd_ne hb] at e
    exact (x b u e).stay (fun c v _ q => k c v q) (fun c q => by rw [upd_ne (ne_of_none q hn)]; exact q) fun c xs q => by rw [upd_ne (ne_of_none q hn)]; exact q
end
noncomputable def Rd (H : Hp) (a : Addr) (u : HO) : Prop := H a = some u ∨ ∃ o, H a = some (.frz o u)
theorem Rd.ok {P : Program} {w : World} {H : Hp} {h : Heap} {a : Addr} {u : HO} (r : Rd H a u) (x : HOk P w H h) : ObjOk P w H h a u := by
  rcases r with r | ⟨o, r⟩
  · exact x a u r
  · obtain ⟨_, q⟩ := x a _ r
    exact q
noncomputable def Mut : Option HO → Prop
  | some (.lst _) => True
  | some (.dK _) => True
  | some (.dT _) => True
  | some (.set _ _) => True
  | some (.ins _ _ _) => True
  | some (.ext _) => True
  | _ => False
section
variable {P : Program} {w : World} {H : Hp} {h h' : Heap} {x e : Addr} {o' : HO}
theorem HOk.write (ok : HOk P w H h) (mu : Mut (H x)) (he : e = x ∨ H e = some (.own x)) (k : ∀ b u, b ≠ e → h.get? b = some u → h'.get? b = some u) (heo : ∃ u, h'.get? e = some u)
    (new : ObjOk P w (upd H x o') h' x o') : HOk P w (upd H x o') h' := fun b u q => by
  have nown : ∀ c y, H c = some (.own y) → c ≠ x := fun c y r z => by subst z; rw [r] at mu; exact mu
  have ntup : ∀ c xs, H c = some (.tup xs) → c ≠ x := fun c xs r z => by subst z; rw [r] at mu; exact mu
  by_cases hb : b = x
  · subst hb; rw [upd_same] at q; cases q; exact new
  · rw [upd_ne hb] at q
    by_cases hbe : b = e
    · have q' : H b = some (.own x) := by
        rcases he with z | z
        · exact absurd (hbe.trans z) hb
        · rw [hbe]; exact z
      rw [q] at q'; cases q'
      obtain ⟨v, hv⟩ := heo
      exact ⟨v, by rw [hbe]; exact hv⟩
    · refine (ok b u q).stay (fun c v hc r => k c v ?_ r) (fun c r => by rw [upd_ne (nown c b r)]; exact r) fun c xs r => by rw [upd_ne (ntup c xs r)]; exact r
      rcases hc with rfl | hc
      · exact hbe
      · rintro rfl
        rcases he with z | z
        · exact nown c b hc z
        · rw [hc] at z; cases z; exact hb rfl
end
structure Un (fs ex : List Addr) (H H' : Hp) (h h' : Heap) : Prop where
  keep : ∀ b o, h.get? b = some o → H b = none → b ∉ fs → b ∉ ex → h'.get? b = some o
  slot : ∀ b o, h.get? b = some o → H b = none → b ∈ fs → b ∉ ex → ∃ sl, h'.get? b = some { o with slots := sl }
  free : ∀ b o, h.get? b = some o → H b = none → b ∉ ex → H' b = none
  there : ∀ b o, h.get? b = some o → b ∉ ex → ∃ o', h'.get? b = some o'
  tups : ∀ b xs, H b = some (.tup xs) → H' b = some (.tup xs)
  frzs : ∀ b o u, H b = some (.frz o u) → H' b = some (.frz o u)
  tbls : ∀ b ps, H b = some (.tbl ps) → ∃ more, H' b = some (.tbl (ps ++ more))
section
variable {fs fs' ex ex' : List Addr} {H H1 H2 : Hp} {h h1 h2 h' : Heap} {a x e : Addr} {o : HO}
theorem Un.any (u : Un fs ex H H1 h h1) {b : Addr} {ob : Obj} (q : h.get? b = some ob) (n : H b = none) (hx : b ∉ ex) : ∃ sl, h1.get? b = some { ob with slots := sl } := by
  by_cases hb : b ∈ fs
  · exact u.slot b ob q n hb hx
  · exact ⟨ob.slots, u.keep b ob q n hb hx⟩
theorem Un.kept (k : ∀ b u, h.get? b = some u → h'.get? b = some u) : Un fs ex H H h h' :=
  ⟨fun b ob q _ _ _ => k b ob q, fun b ob q _ _ _ => ⟨ob.slots, k b ob q⟩, fun _ _ _ n _ => n, fun b ob q _ => ⟨ob, k b ob q⟩, fun _ _ q => q, fun _ _ _ q => q, fun _ ps q => ⟨#[], by rw [q]; simp⟩⟩
theorem Un.refl : Un fs ex H H h h := Un.kept fun _ _ q => q
theorem Un.laid (k : ∀ b u, h.get? b = some u → h'.get? b = some u) (hp : h.objs.size ≤ a) (hn : H a = none) : Un fs ex H (upd H a o) h h' where
  keep := fun b u q _ _ _ => k b u q
  slot := fun b u q _ _ _ => ⟨u.slots, k b u q⟩
  free := fun b u q n _ => by rw [upd_ne (Nat.ne_of_lt (Nat.lt_of_lt_of_le (Heap.lt_size q) hp))]; exact n
  there := fun b u q _ => ⟨u, k b u q⟩
  tups := fun b xs q => by rw [upd_ne (ne_of_none q hn)]; exact q
  frzs := fun b u xs q => by rw [upd_ne (ne_of_none q hn)]; exact q
  tbls := fun b ps q => ⟨#[], by rw [upd_ne (ne_of_none q hn), q]; simp⟩
theorem Un.write (mu : Mut (H x)) (he : e = x ∨ H e = some (.own x)) (k : ∀ b u, b ≠ e → h.get? b = some u → h'.get? b = some u) (heo : ∃ u, h'.get? e = some u) : Un fs ex H (upd H x o) h h' := by
  have hx : ∀ b, H b = none → b ≠ x := fun b n z => by subst z; rw [n] at mu; exact mu
  have hb : ∀ b, H b = none → b ≠ e := fun b n z => by
    subst z
    rcases he with r | r
    · exact hx b n r
    · rw [n] at r; cases r
  have hm : ∀ b u, H b = some u → ¬ Mut (some u) → b ≠ x := fun b u q nm z => by subst z; rw [q] at mu; exact nm mu
  refine ⟨fun b u q n _ _ => k b u (hb b n) q, fun b u q n _ _ => ⟨u.slots, k b u (hb b n) q⟩, fun b u q n _ => by rw [upd_ne (hx b n)]; exact n, fun b u q _ => ?_,
    fun b xs q => by rw [upd_ne (hm b _ q fun z => z)]; exact q, fun b u xs q => by rw [upd_ne (hm b _ q fun z => z)]; exact q, fun b ps q => ⟨#[], by rw [upd_ne (hm b _ q fun z => z), q]; simp⟩⟩
  by_cases hbe : b = e
  · subst hbe; exact heo
  · exact ⟨u, k b u hbe q⟩
end
noncomputable def trk (h : Heap) (H : Hp) : List Addr := (List.range h.objs.size).filter fun a => (H a).isSome
noncomputable def hidT (h : Heap) (H : Hp) : Heap := PySem.W.hideAll h (trk h H)
theorem hidT_size (h : Heap) (H : Hp) : (hidT h H).objs.size = h.objs.size := PySem.W.hideAll_size _ _
theorem hidT_get {h : Heap} {H : Hp} {b : Addr} {o : Obj} (e : h.get? b = some o) (n : H b = none) : (hidT h H).get? b = some o :=
  PySem.W.hideAll_get _ e fun hm => by
    have q : (H b).isSome = true := (List.mem_filter.mp hm).2
    rw [n] at q; simp at q
theorem of_hidT {h : Heap} {H : Hp} {b : Addr} {o : Obj} (e : (hidT h H).get? b = some o) : h.get? b = some o ∧ H b = none := by
  have e' : h.get? b = some o := PySem.W.of_hideAll (trk h H) e
  refine ⟨e', ?_⟩
  cases q : H b with
  | none => rfl
  | some x =>
    have hm : b ∈ trk h H := List.mem_filter.mpr ⟨List.mem_range.mpr (Heap.lt_size e'), by simp [q]⟩
    have z : (hidT h H).get? b = none := PySem.W.hideAll_none (trk h H) hm
    rw [z] at e; cases e
end L2
namespace L2
open PySem PySem.Spec PyProof.Rows
structure Mod (K : PySem.W.Frag) (mg : Str → Option Value) (base : Heap) : Prop where
  kin : K.In base
  glob : base.Ns mainGlobals mg
  blt : ∃ mb, base.Ns builtinsNs mb ∧ ∀ x : Str, x ≠ "__name__" → mb x = bootBuiltins x
  nolimit : base.NoLimit
structure Cx where
  prog : Program
  w : World
  K : PySem.W.Frag
  mg : Str → Option Value
  base : Heap
  A : Around
  N : List Str
  s₀ : Shared
  H₀ : Hp
  env : Env
  outer : List Env
  stack : List Env
  ex : List Addr
  fn : Str → Bool
  calm : Bool
  pn : List (Addr × Obj)
  xe : Value → Shared → Prop
noncomputable def frs (l : List Env) : List Addr := l.filterMap (·.frame)
noncomputable abbrev Cx.fs (X : Cx) : List Addr := frs X.outer
noncomputable def Vis (sc : Scope) (x : Str) : Prop := sc.names.lookup x = some .local ∨ sc.names.lookup x = some .cell ∨ sc.names.lookup x = some .free
noncomputable def Loc (sc : Scope) (x : Str) : Prop := sc.names.lookup x = some .local ∨ sc.names.lookup x = some .cell
noncomputable def Look (env : Env) (h : Heap) (m : Str → Option Value) (x : Str) (u : Value) : Prop :=
  (env.kindOf x = some .local ∧ m x = some u) ∨ ((env.kindOf x = some .cell ∨ env.kindOf x = some .free) ∧ ∃ c, env.cells.lookup x = some c ∧ h.IsCell c (some u))
structure Cx.Ok (X : Cx) : Prop where
  mod : Mod X.K X.mg X.base
  kind : X.env.scope.kind = .function
  glob : X.env.globals = mainGlobals
  blt : X.env.builtins = builtinsNs
  above : X.s₀.heap.objs.size ≤ X.env.locals
  inj : ∀ x y c, X.env.cells.lookup x = some c → X.env.cells.lookup y = some c → x = y
  has : ∀ x, (X.env.kindOf x = some .cell ∨ X.env.kindOf x = some .free) → ∃ c, X.env.cells.lookup x = some c
  cab : ∀ x c, X.fn x = true → X.env.cells.lookup x = some c → X.s₀.heap.objs.size ≤ c
  hd : X.calm = true → X.A.handled = none
  frames : X.A.frames = some X.stack
  stk : X.stack = X.outer ∨ (X.stack = X.env :: X.outer ∧ X.env.frame = some X.env.locals)
  exf : ∀ b ∈ X.ex, b ≠ X.env.locals ∧ ∀ x c, X.env.cells.lookup x = some c → c ≠ b
  bs : ∀ b o, X.base.get? b = some o → X.s₀.heap.get? b = some o ∧ X.H₀ b = none
  bsz : X.base.objs.size ≤ X.s₀.heap.objs.size
  noex : ∀ b o, X.base.get? b = some o → b ∉ X.ex
  exfs : ∀ b ∈ X.ex, b ∉ X.fs
  funs : X.s₀.heap.FunFrames X.base X.outer
  frf : ∀ b ∈ X.fs, X.H₀ b = none
structure Inv (X : Cx) (pins : List (Addr × Obj)) (σ : List (Option V)) (H : Hp) (s : Shared) : Prop where
  ok : X.Ok
  os : s.os = X.s₀.os
  bare : AllBare s.gens
  base : Un X.fs X.ex X.H₀ H X.s₀.heap s.heap
  loc : ∃ m, s.heap.Ns X.env.locals m ∧ ∀ (i : Nat) (x : Str) (v : V), X.N[i]? = some x → σ[i]? = some (some v) → Vis X.env.scope x → ∃ u, RelV v u ∧ Look X.env s.heap m x u
  cell : ∀ x c, X.env.cells.lookup x = some c → ∃ v, s.heap.IsCell c v
  free : H X.env.locals = none
  freeC : ∀ x c, X.env.cells.lookup x = some c → H c = none
  pin : ∀ p ∈ X.pn ++ pins, s.heap.get? p.1 = some p.2 ∧ H p.1 = none ∧ p.1 ≠ X.env.locals ∧ p.1 ∉ X.fs ∧ ∀ v, p.2.data ≠ .cell v
  hok : HOk X.prog X.w H s.heap
  len : σ.length = X.N.length
section
variable {X : Cx} {pins : List (Addr × Obj)} {σ : List (Option V)} {H H' : Hp} {s : Shared} {h' : Heap}
theorem Cx.Ok.nofr (ok : X.Ok) {b : Addr} {o : Obj} (e : X.base.get? b = some o) : b ∉ X.fs := fun hb => by
  have := (ok.funs.mem hb).1
  rw [e] at this; cases this
theorem Inv.bs (I : Inv X pins σ H s) : ∀ b o, X.base.get? b = some o → s.heap.get? b = some o ∧ H b = none := fun b o e =>
  ⟨I.base.keep b o (I.ok.bs b o e).1 (I.ok.bs b o e).2 (I.ok.nofr e) (I.ok.noex b o e), I.base.free b o (I.ok.bs b o e).1 (I.ok.bs b o e).2 (I.ok.noex b o e)⟩
theorem Inv.bk (I : Inv X pins σ H s) : ∀ b o, X.base.get? b = some o → s.heap.get? b = some o := fun b o e => (I.bs b o e).1
theorem Inv.mod (I : Inv X pins σ H s) : Mod X.K X.mg X.base := I.ok.mod
theorem Inv.kIn (I : Inv X pins σ H s) : X.K.In s.heap := I.ok.mod.kin.keeps I.bk
theorem Inv.lt (I : Inv X pins σ H s) : X.env.locals < s.heap.objs.size := let ⟨_, hn, _⟩ := I.loc; hn.lt
theorem Inv.sz (I : Inv X pins σ H s) : X.s₀.heap.objs.size ≤ s.heap.objs.size := Nat.le_trans I.ok.above (Nat.le_of_lt I.lt)
theorem Inv.nofs (I : Inv X pins σ H s) {a : Addr} (h : s.heap.objs.size ≤ a) : a ∉ X.fs := fun hb => by
  obtain ⟨_, o, ho, _⟩ := I.ok.funs.mem hb
  exact absurd (Nat.lt_of_lt_of_le (Heap.lt_size ho) (Nat.le_trans I.sz h)) (Nat.lt_irrefl _)
theorem Inv.cne (I : Inv X pins σ H s) : ∀ x c, X.env.cells.lookup x = some c → c ≠ X.env.locals := fun x c e z => by
  obtain ⟨v, o, ho, hd⟩ := I.cell x c e
  obtain ⟨m, ⟨o', es, ep, ho', hd', _⟩, _⟩ := I.loc
  rw [z, ho'] at ho; cases ho; rw [hd'] at hd; cases hd
theorem Inv.funs (I : Inv X pins σ H s) : s.heap.FunFrames X.base X.outer := by
  have all : ∀ (l : List Env), (∀ b ∈ frs l, b ∈ X.fs) → X.s₀.heap.FunFrames X.base l → s.heap.FunFrames X.base l := by
    intro l
    induction l with
    | nil => intro _ _; trivial
    | cons env r ih =>
      intro hs hl
      obtain ⟨hk, ⟨L, o, hf, hn, ho, hd⟩, hr⟩ := hl
      have hL : L ∈ X.fs := hs L (by unfold frs; rw [List.filterMap_cons, hf]; exact List.mem_cons_self)
      obtain ⟨sl, e⟩ := I.base.slot L o ho (I.ok.frf L hL) hL fun z => I.ok.exfs L z hL
      exact ⟨hk, ⟨L, _, hf, hn, e, hd⟩, ih (fun b hb => hs b (by unfold frs; rw [List.filterMap_cons, hf]; exact List.mem_cons_of_mem _ hb)) hr⟩
  exact all X.outer (fun _ hb => hb) I.ok.funs
theorem Inv.stack (I : Inv X pins σ H s) : s.heap.FunFrames X.base X.stack := by
  rcases I.ok.stk with e | ⟨e, hf⟩
  · rw [e]; exact I.funs
  · rw [e]
    obtain ⟨m, hn, _⟩ := I.loc
    refine .cons (by rw [I.ok.kind]; decide) hf hn ?_ I.funs
    exact Heap.get?_none_of_le (Nat.le_trans I.ok.bsz I.ok.above)
theorem Inv.stkSub (I : Inv X pins σ H s) : ∀ b ∈ frs X.stack, b ∈ X.env.locals :: X.fs := fun b hb => by
  rcases I.ok.stk with e | ⟨e, hf⟩
  · rw [e] at hb; exact List.mem_cons_of_mem _ hb
  · rw [e] at hb
    unfold frs at hb
    rw [List.filterMap_cons, hf] at hb
    exact hb
theorem Inv.stkFree (I : Inv X pins σ H s) : ∀ b ∈ frs X.stack, H b = none := fun b hb => by
  rcases List.mem_cons.mp (I.stkSub b hb) with e | hb
  · rw [e]; exact I.free
  · obtain ⟨_, o, ho, _⟩ := I.ok.funs.mem hb
    exact I.base.free b o ho (I.ok.frf b hb) fun z => I.ok.exfs b z hb
theorem Inv.step {g' : Array GenState} {t' : Nat} {d' : Drawn} {ch : List Addr} (I : Inv X pins σ H s)
    (hch : ∀ b ∈ ch, (b ∈ X.ex ∨ X.s₀.heap.objs.size ≤ b) ∧ b ≠ X.env.locals ∧ (∀ x c, X.env.cells.lookup x = some c → c ≠ b) ∧ ∀ p ∈ X.pn ++ pins, p.1 ≠ b)
    (keep : ∀ b o, b ≠ X.env.locals → b ∉ X.fs → b ∉ ch → s.heap.get? b = some o → H b = none → h'.get? b = some o)
    (slot : ∀ b o, b ≠ X.env.locals → b ∈ X.fs → b ∉ ch → s.heap.get? b = some o → H b = none → ∃ sl, h'.get? b = some { o with slots := sl }) (free : ∀ b o, b ∉ ch → s.heap.get? b = some o → H b = none → H' b = none)
    (there : ∀ b o, b ∉ ch → s.heap.get? b = some o → ∃ o', h'.get? b = some o')
    (tups : ∀ b xs, H b = some (.tup xs) → H' b = some (.tup xs)) (frzs : ∀ b o u, H b = some (.frz o u) → H' b = some (.frz o u)) (tbls : ∀ b ps, H b = some (.tbl ps) → ∃ more, H' b = some (.tbl (ps ++ more)))
    (ns : ∀ m, s.heap.Ns X.env.locals m → h'.Ns X.env.locals m) (hok : HOk X.prog X.w H' h') (hg : AllBare g') :
    Inv X pins σ H' { s with heap := h', gens := g', drawn := d', toks := t' } := by
  have neL : ∀ b o, X.s₀.heap.get? b = some o → b ≠ X.env.locals := fun b o e => Nat.ne_of_lt (Nat.lt_of_lt_of_le (Heap.lt_size e) I.ok.above)
  have neC : ∀ b o, X.s₀.heap.get? b = some o → b ∉ X.ex → b ∉ ch := fun b o e hx hb => by
    rcases (hch b hb).1 with z | z
    · exact hx z
    · exact absurd (Nat.lt_of_lt_of_le (Heap.lt_size e) z) (Nat.lt_irrefl _)
  have cellK : ∀ x c, X.env.cells.lookup x = some c → ∀ v, s.heap.IsCell c v → h'.IsCell c v := fun x c e v ⟨o, ho, hd⟩ => by
    have nch : c ∉ ch := fun z => (hch c z).2.2.1 x c e rfl
    by_cases hc : c ∈ X.fs
    · obtain ⟨sl, q⟩ := slot c o (I.cne x c e) hc nch ho (I.freeC x c e)
      exact ⟨_, q, hd⟩
    · exact ⟨o, keep c o (I.cne x c e) hc nch ho (I.freeC x c e), hd⟩
  refine ⟨I.ok, I.os, hg, ⟨fun b o e n hb hx => ?_, fun b o e n hb hx => ?_, fun b o e n hx => ?_, fun b o e hx => ?_, fun b xs e => tups b xs (I.base.tups b xs e), fun b o xs e => frzs b o xs (I.base.frzs b o xs e), fun b ps e => ?_⟩, ?_, fun x c e => ?_, ?_, fun x c e => ?_, fun p hp => ?_, hok, I.len⟩
  · exact keep b o (neL b o e) hb (neC b o e hx) (I.base.keep b o e n hb hx) (I.base.free b o e n hx)
  · obtain ⟨sl, e1⟩ := I.base.slot b o e n hb hx
    obtain ⟨sl', e2⟩ := slot b _ (neL b o e) hb (neC b o e hx) e1 (I.base.free b o e n hx)
    exact ⟨sl', e2⟩
  · obtain ⟨o', e1⟩ := I.base.there b o e hx
    exact free b o' (neC b o e hx) e1 (I.base.free b o e n hx)
  · obtain ⟨o', e1⟩ := I.base.there b o e hx
    exact there b o' (neC b o e hx) e1
  · obtain ⟨m1, e1⟩ := I.base.tbls b ps e
    obtain ⟨m2, e2⟩ := tbls b _ e1
    exact ⟨m1 ++ m2, by rw [e2, Array.append_assoc]⟩
  · obtain ⟨m, hn, hl⟩ := I.loc
    refine ⟨m, ns m hn, fun i x v e1 e2 e3 => ?_⟩
    obtain ⟨u, r, l⟩ := hl i x v e1 e2 e3
    refine ⟨u, r, ?_⟩
    rcases l with l | ⟨k, c, e, z⟩
    · exact .inl l
    · exact .inr ⟨k, c, e, cellK x c e _ z⟩
  · obtain ⟨v, z⟩ := I.cell x c e
    exact ⟨v, cellK x c e v z⟩
  · obtain ⟨m, ⟨o, _, _, ho, _⟩, _⟩ := I.loc
    exact free _ o (fun z => (hch _ z).2.1 rfl) ho I.free
  · obtain ⟨v, o, ho, hd⟩ := I.cell x c e
    exact free c o (fun z => (hch c z).2.2.1 x c e rfl) ho (I.freeC x c e)
  · obtain ⟨e, n, ne, nf, d⟩ := I.pin p hp
    have nch : p.1 ∉ ch := fun z => (hch p.1 z).2.2.2 p hp rfl
    exact ⟨keep p.1 p.2 ne nf nch e n, free p.1 p.2 nch e n, ne, nf, d⟩
theorem Inv.un {t' : Nat} (I : Inv X pins σ H s) (u : Un X.fs [] H H' s.heap h') (hok : HOk X.prog X.w H' h') : Inv X pins σ H' { s with heap := h', toks := t' } := by
  obtain ⟨m, ⟨o, es, ep, ho, r⟩, _⟩ := id I.loc
  obtain ⟨sl, hL⟩ := u.any ho I.free (by simp)
  exact I.step (g' := s.gens) (d' := s.drawn) (ch := []) (fun _ z => nomatch z) (fun b o _ hb _ e n => u.keep b o e n hb (by simp)) (fun b o _ hb _ e n => u.slot b o e n hb (by simp)) (fun b o _ e n => u.free b o e n (by simp)) (fun b o _ e => u.there b o e (by simp)) u.tups u.frzs u.tbls (fun m' hm => by
    obtain ⟨o', es', ep', ho', r'⟩ := hm
    rw [ho] at ho'; cases ho'
    exact ⟨_, es', ep', hL, r'⟩) hok I.bare
theorem Inv.call {g' : Array GenState} {t' : Nat} {d' : Drawn} {ch : List Addr} (I : Inv X pins σ H s) (u : Un (frs X.stack) ch H H' s.heap h') (hok : HOk X.prog X.w H' h') (hg : AllBare g')
    (hch : ∀ b ∈ ch, (b ∈ X.ex ∨ X.s₀.heap.objs.size ≤ b) ∧ b ≠ X.env.locals ∧ (∀ x c, X.env.cells.lookup x = some c → c ≠ b) ∧ ∀ p ∈ X.pn ++ pins, p.1 ≠ b) :
    Inv X pins σ H' { s with heap := h', gens := g', drawn := d', toks := t' } := by
  obtain ⟨m, ⟨o, es, ep, ho, r⟩, _⟩ := id I.loc
  obtain ⟨sl, hL⟩ := u.any ho I.free fun z => (hch _ z).2.1 rfl
  exact I.step (ch := ch) hch (fun b o hL hb hc e n => u.keep b o e n (fun z => (List.mem_cons.mp (I.stkSub b z)).elim hL hb) hc) (fun b o _ _ hc e n => u.any e n hc) (fun b o hc e n => u.free b o e n hc) (fun b o hc e => u.there b o e hc) u.tups u.frzs u.tbls (fun m' hm => by
    obtain ⟨o', es', ep', ho', r'⟩ := hm
    rw [ho] at ho'; cases ho'
    exact ⟨_, es', ep', hL, r'⟩) hok hg
theorem Inv.turned {t' : Nat} {it : Addr} (I : Inv X pins σ H s) (k : ∀ b o, b ≠ it → s.heap.get? b = some o → h'.get? b = some o) (hn : H it = none) (hL : it ≠ X.env.locals)
    (h1 : it ∈ X.ex ∨ X.s₀.heap.objs.size ≤ it) (h2 : ∀ x c, X.env.cells.lookup x = some c → c ≠ it) (h3 : ∀ p ∈ X.pn ++ pins, p.1 ≠ it) : Inv X pins σ H { s with heap := h', toks := t' } := by
  have nit : ∀ b u, H b = some u → b ≠ it := fun b u e z => by rw [z, hn] at e; cases e
  refine I.step (g' := s.gens) (d' := s.drawn) (ch := [it]) (fun b hb => ?_) (fun b o _ _ hc e _ => k b o (fun z => hc (by simp [z])) e) (fun b o _ _ hc e _ => ⟨o.slots, k b o (fun z => hc (by simp [z])) e⟩) (fun _ _ _ _ n => n)
    (fun b o hc e => ⟨o, k b o (fun z => hc (by simp [z])) e⟩) (fun _ _ e => e) (fun _ _ _ e => e) (fun b ps e => ⟨#[], by rw [e]; simp⟩) (fun m hm => ?_) (fun b u e => ?_) I.bare
  · have e : b = it := by simpa using hb
    subst e
    exact ⟨h1, hL, h2, h3⟩
  · obtain ⟨o, es, ep, ho, r⟩ := hm
    exact ⟨o, es, ep, k _ o (Ne.symm hL) ho, r⟩
  · refine (I.hok b u e).stay (fun c v hc q => k c v ?_ q) (fun _ q => q) fun _ _ q => q
    rcases hc with z | z
    · rw [z]; exact nit b u e
    · exact nit c _ z
theorem Inv.tok (I : Inv X pins σ H s) (t : Nat) : Inv X pins σ H { s with toks := t } := I.un (h' := s.heap) (t' := t) Un.refl I.hok
theorem Inv.kept {t' : Nat} (I : Inv X pins σ H s) (k : ∀ b u, s.heap.get? b = some u → h'.get? b = some u) : Inv X pins σ H { s with heap := h', toks := t' } := I.un (Un.kept k) (I.hok.kept k)
theorem Inv.laid {a : Addr} {o : HO} {t' : Nat} (I : Inv X pins σ H s) (k : ∀ b u, s.heap.get? b = some u → h'.get? b = some u) (hp : s.heap.objs.size ≤ a) (new : ObjOk X.prog X.w (upd H a o) h' a o) :
    Inv X pins σ (upd H a o) { s with heap := h', toks := t' } := I.un (Un.laid k hp (I.hok.fresh hp)) (I.hok.laid k hp new)
theorem Inv.write {x e : Addr} {o : HO} {t' : Nat} (I : Inv X pins σ H s) (mu : Mut (H x)) (he : e = x ∨ H e = some (.own x)) (k : ∀ b u, b ≠ e → s.heap.get? b = some u → h'.get? b = some u) (heo : ∃ u, h'.get? e = some u)
    (new : ObjOk X.prog X.w (upd H x o) h' x o) : Inv X pins σ (upd H x o) { s with heap := h', toks := t' } := I.un (Un.write mu he k heo) (I.hok.write mu he k heo new)
theorem Inv.pins_of {pins' : List (Addr × Obj)} (I : Inv X pins σ H s) (h : ∀ p ∈ pins', s.heap.get? p.1 = some p.2 ∧ H p.1 = none ∧ p.1 ≠ X.env.locals ∧ p.1 ∉ X.fs ∧ ∀ v, p.2.data ≠ .cell v) : Inv X pins' σ H s :=
  ⟨I.ok, I.os, I.bare, I.base, I.loc, I.cell, I.free, I.freeC, fun p hp => (List.mem_append.mp hp).elim (fun z => I.pin p (List.mem_append_left _ z)) (h p), I.hok, I.len⟩
theorem nodup_ix {N : List Str} (hN : N.Nodup) {i j : Nat} {x : Str} (a : N[i]? = some x) (b : N[j]? = some x) : i = j := by
  obtain ⟨h1, e1⟩ := List.getElem?_eq_some_iff.mp a
  obtain ⟨h2, e2⟩ := List.getElem?_eq_some_iff.mp b
  exact (List.getElem_inj hN).mp (e1.trans e2.symm)
theorem store_ok2 {M : Model} {A : Around} {E : Value → Shared → Prop} {i : Nat} {x : Str} {v : V} {u : Value} {Q : Unit → Shared → Prop} (I : Inv X pins σ H s) (hN : X.N.Nodup) (hi : X.N[i]? = some x) (hx : Loc X.env.scope x) (r : RelV v u)
    (h : ∀ s', Inv X pins (σ.set i (some v)) H s' → (∃ a, Heap.SameBut a s.heap s'.heap ∧ (a = X.env.locals ∨ X.env.cells.lookup x = some a)) → Q () s') (hf : X.fn x = true ∨ X.env.scope.names.lookup x = some .local := by first | exact .inl rfl | exact .inr rfl | assumption) : wpAny M A (storeName X.env x u) Q E s := by
  obtain ⟨m, hn, hl⟩ := id I.loc
  have hcls : (X.env.scope.kind == .class || (X.env.scope.kind == .module && X.env.locals != X.env.globals)) = false := by rw [I.ok.kind]; rfl
  have hiσ : i < σ.length := by rw [I.len]; exact (List.getElem?_eq_some_iff.mp hi).1
  have cne := I.cne
  have tracked : ∀ {a : Addr} {h' : Heap}, (∃ o, s.heap.get? a = some o ∧ H a = none) → Heap.SameBut a s.heap h' → HOk X.prog X.w H h' := fun {a h'} ha hs b ob e => by
    obtain ⟨_, _, hfree⟩ := ha
    refine (I.hok b ob e).stay (fun c w' hc q => (hs.2 c ?_).trans q) (fun _ q => q) fun _ _ q => q
    rintro rfl
    rcases hc with rfl | hc
    · rw [hfree] at e; cases e
    · rw [hfree] at hc; cases hc
  rcases hx with hk | hk
  · refine wpAny_storeName_local hk hn (fun h' hn' hs => ?_) hcls
    obtain ⟨oL, _, _, hoL, _⟩ := id hn
    refine h _ ⟨I.ok, I.os, I.bare, ⟨fun b o e n hb hx => ?_, fun b o e n hb hx => ?_, I.base.free, fun b o e hx => ?_, I.base.tups, I.base.frzs, I.base.tbls⟩, ⟨_, hn', fun j y v' e1 e2 e3 => ?_⟩, fun y c e => ?_, I.free, I.freeC, fun p hp => ?_, tracked ⟨oL, hoL, I.free⟩ hs, by simpa using I.len⟩ ⟨_, hs, .inl rfl⟩
    · exact (hs.2 b (Nat.ne_of_lt (Nat.lt_of_lt_of_le (Heap.lt_size e) I.ok.above))).trans (I.base.keep b o e n hb hx)
    · obtain ⟨sl, e1⟩ := I.base.slot b o e n hb hx
      exact ⟨sl, (hs.2 b (Nat.ne_of_lt (Nat.lt_of_lt_of_le (Heap.lt_size e) I.ok.above))).trans e1⟩
    · obtain ⟨o', e1⟩ := I.base.there b o e hx
      exact ⟨o', (hs.2 b (Nat.ne_of_lt (Nat.lt_of_lt_of_le (Heap.lt_size e) I.ok.above))).trans e1⟩
    · by_cases hj : j = i
      · subst hj
        rw [hi] at e1; cases e1
        rw [List.getElem?_set_self hiσ] at e2
        cases e2
        exact ⟨u, r, .inl ⟨hk, by simp⟩⟩
      · rw [List.getElem?_set_ne (Ne.symm hj)] at e2
        obtain ⟨u', r', q⟩ := hl j y v' e1 e2 e3
        refine ⟨u', r', ?_⟩
        rcases q with ⟨k, e⟩ | ⟨k, c, e, z⟩
        · refine .inl ⟨k, ?_⟩
          have : y ≠ x := fun e => hj (nodup_ix hN e1 (e ▸ hi))
          simp [this, e]
        · exact .inr ⟨k, c, e, z.sameBut hs (cne y c e)⟩
    · obtain ⟨w', z⟩ := I.cell y c e
      exact ⟨w', z.sameBut hs (cne y c e)⟩
    · obtain ⟨e, n, ne, nf, d⟩ := I.pin p hp
      exact ⟨(hs.2 p.1 ne).trans e, n, ne, nf, d⟩
  · have hfn : X.fn x = true := by
      rcases hf with z | z
      · exact z
      · rw [z] at hk; cases hk
    obtain ⟨c, hc⟩ := I.ok.has x (.inl hk)
    obtain ⟨w', z⟩ := I.cell x c hc
    refine wpAny_storeName_cell I.ok.kind hk hc z (fun h' hc' hs => ?_)
    obtain ⟨oc, hoc, hocd⟩ := id z
    refine h { s with heap := h' } ⟨I.ok, I.os, I.bare, ⟨fun b o e n hb hx => ?_, fun b o e n hb hx => ?_, I.base.free, fun b o e hx => ?_, I.base.tups, I.base.frzs, I.base.tbls⟩, ⟨m, hn.sameBut hs (Ne.symm (cne x c hc)), fun j y v' e1 e2 e3 => ?_⟩, fun y c' e => ?_, I.free, I.freeC, fun p hp => ?_, tracked ⟨oc, hoc, I.freeC x c hc⟩ hs, by simpa using I.len⟩ ⟨c, hs, .inr hc⟩
    · exact (hs.2 b (Nat.ne_of_lt (Nat.lt_of_lt_of_le (Heap.lt_size e) (I.ok.cab x c hfn hc)))).trans (I.base.keep b o e n hb hx)
    · obtain ⟨sl, e1⟩ := I.base.slot b o e n hb hx
      exact ⟨sl, (hs.2 b (Nat.ne_of_lt (Nat.lt_of_lt_of_le (Heap.lt_size e) (I.ok.cab x c hfn hc)))).trans e1⟩
    · obtain ⟨o', e1⟩ := I.base.there b o e hx
      exact ⟨o', (hs.2 b (Nat.ne_of_lt (Nat.lt_of_lt_of_le (Heap.lt_size e) (I.ok.cab x c hfn hc)))).trans e1⟩
    · by_cases hj : j = i
      · subst hj
        rw [hi] at e1; cases e1
        rw [List.getElem?_set_self hiσ] at e2
        cases e2
        exact ⟨u, r, .inr ⟨.inl hk, c, hc, hc'⟩⟩
      · rw [List.getElem?_set_ne (Ne.symm hj)] at e2
        obtain ⟨u', r', q⟩ := hl j y v' e1 e2 e3
        refine ⟨u', r', ?_⟩
        rcases q with q | ⟨k, c', e, z'⟩
        · exact .inl q
        · refine .inr ⟨k, c', e, z'.sameBut hs ?_⟩
          rintro rfl
          exact hj (nodup_ix hN e1 (I.ok.inj _ _ _ e hc ▸ hi))
    · by_cases hcc : c' = c
      · subst hcc; exact ⟨_, hc'⟩
      · obtain ⟨w2, z2⟩ := I.cell y c' e
        exact ⟨w2, z2.sameBut hs hcc⟩
    · obtain ⟨e, n, ne, nf, d⟩ := I.pin p hp
      refine ⟨(hs.2 p.1 ?_).trans e, n, ne, nf, d⟩
      intro q
      rw [q, hoc] at e
      have q' : oc = p.2 := Option.some.inj e
      exact d w' (by rw [← q']; exact hocd)
theorem store_ok {M : Model} {A : Around} {E : Value → Shared → Prop} {i : Nat} {x : Str} {v : V} {u : Value} {Q : Unit → Shared → Prop} (I : Inv X pins σ H s) (hN : X.N.Nodup) (hi : X.N[i]? = some x) (hx : Loc X.env.scope x) (r : RelV v u)
    (h : ∀ s', Inv X pins (σ.set i (some v)) H s' → Q () s') (hf : X.fn x = true ∨ X.env.scope.names.lookup x = some .local := by first | exact .inl rfl | exact .inr rfl | assumption) : wpAny M A (storeName X.env x u) Q E s :=
  store_ok2 I hN hi hx r (fun s' I' _ => h s' I') hf
theorem Inv.call' {s' : Shared} {ch : List Addr} (I : Inv X pins σ H s) (ho : s'.os = s.os) (u : Un (frs X.stack) ch H H' s.heap s'.heap) (hok : HOk X.prog X.w H' s'.heap) (hg : AllBare s'.gens)
    (hch : ∀ b ∈ ch, (b ∈ X.ex ∨ X.s₀.heap.objs.size ≤ b) ∧ b ≠ X.env.locals ∧ (∀ x c, X.env.cells.lookup x = some c → c ≠ b) ∧ ∀ p ∈ X.pn ++ pins, p.1 ≠ b) : Inv X pins σ H' s' := by
  obtain ⟨h', g', d', t', o'⟩ := s'
  have e : o' = s.os := ho
  subst e
  exact I.call (g' := g') (t' := t') (d' := d') u hok hg hch
end
noncomputable abbrev XK := Value → Option Addr → Hp → Prop
noncomputable abbrev St := List (Option V)
noncomputable abbrev VK := V → Hp → Prop
noncomputable abbrev TE := St → Hp → VK → Prop
noncomputable abbrev TT := St → Hp → (Bool → Hp → Prop) → Prop
noncomputable abbrev TA := St → Hp → (List V → Hp → Prop) → Prop
structure Ends where
  nx : St → Hp → Prop
  rt : VK
  bk : St → Hp → Prop := fun _ _ => False
  ct : St → Hp → Prop := fun _ _ => False
noncomputable abbrev TS := Ends → St → Hp → Prop
noncomputable def EP (X : Cx) (pins : List (Addr × Obj)) (σ : St) (Q : VK) (u : Value) (s' : Shared) : Prop := ∃ v H', Inv X pins σ H' s' ∧ RelV v u ∧ Q v H'
noncomputable def TP (X : Cx) (pins : List (Addr × Obj)) (σ : St) (Q : Bool → Hp → Prop) (b : Bool) (s' : Shared) : Prop := ∃ H', Inv X pins σ H' s' ∧ Q b H'
noncomputable def AP (X : Cx) (pins : List (Addr × Obj)) (σ : St) (Q : List V → Hp → Prop) (us : List Value) (s' : Shared) : Prop := ∃ vs H', Inv X pins σ H' s' ∧ Vals vs us ∧ Q vs H'
noncomputable def SP (X : Cx) (pins : List (Addr × Obj)) (D : Ends) (f : Flow) (s' : Shared) : Prop :=
  match f with
  | .next => ∃ σ' H', Inv X pins σ' H' s' ∧ D.nx σ' H'
  | .brk => ∃ σ' H', Inv X pins σ' H' s' ∧ D.bk σ' H'
  | .cont => ∃ σ' H', Inv X pins σ' H' s' ∧ D.ct σ' H'
  | .ret u => ∃ v σ' H', Inv X pins σ' H' s' ∧ RelV v u ∧ D.rt v H'
noncomputable def PE (X : Cx) (e : Expr) (t : TE) : Prop :=
  ∀ (pins : List (Addr × Obj)) (s : Shared) (σ : St) (H : Hp) (Q : VK), Inv X pins σ H s → t σ H Q → wpAny (model X.prog X.w) X.A (eval e X.env) (EP X pins σ Q) X.xe s
noncomputable def PT (X : Cx) (e : Expr) (t : TT) : Prop :=
  ∀ (pins : List (Addr × Obj)) (s : Shared) (σ : St) (H : Hp) (Q : Bool → Hp → Prop), Inv X pins σ H s → t σ H Q → wpAny (model X.prog X.w) X.A (isTrue e X.env (eval e X.env)) (TP X pins σ Q) X.xe s
noncomputable def PW (X : Cx) (e : Expr) (t : TT) : Prop :=
  ∀ (whole : Sem Value) (pins : List (Addr × Obj)) (s : Shared) (σ : St) (H : Hp) (Q : Bool → Hp → Prop), Inv X pins σ H s → t σ H Q → wpAny (model X.prog X.w) X.A (isTrue e X.env whole) (TP X pins σ Q) X.xe s
theorem PW.pt {X : Cx} {e : Expr} {t : TT} (h : PW X e t) : PT X e t := h _
noncomputable def PA (X : Cx) (es : List Expr) (t : TA) : Prop :=
  ∀ (pos : Pos) (pins : List (Addr × Obj)) (s : Shared) (σ : St) (H : Hp) (Q : List V → Hp → Prop), Inv X pins σ H s → t σ H Q → wpAny (model X.prog X.w) X.A (spliced (backTo pos (starEach es X.env))) (AP X pins σ Q) X.xe s
noncomputable def PS (X : Cx) (st : Stmt) (t : TS) : Prop :=
  ∀ (pins : List (Addr × Obj)) (s : Shared) (σ : St) (H : Hp) (D : Ends), Inv X pins σ H s → t D σ H → wpAny (model X.prog X.w) X.A (exec st X.env) (SP X pins D) X.xe s
noncomputable def PSs (X : Cx) (st : List Stmt) (t : TS) : Prop :=
  ∀ (pins : List (Addr × Obj)) (s : Shared) (σ : St) (H : Hp) (D : Ends), Inv X pins σ H s → t D σ H → wpAny (model X.prog X.w) X.A (execs st X.env) (SP X pins D) X.xe s
theorem thn {α : Type} {t : Sem α} {Q Q' : α → Shared → Prop} {M : Model} {A : Around} {E : Value → Shared → Prop} {s : Shared} (h : wpAny M A t Q E s) (hQ : ∀ a s, Q a s → Q' a s) : wpAny M A t Q' E s := wpAny_mono h hQ fun _ _ x => x
end L2
namespace L2
open PySem PySem.Spec PyProof.Rows
section
variable {X : Cx}
noncomputable def tVar (i : Nat) : TE := fun σ H Q => ∃ v, σ[i]? = some (some v) ∧ Q v H
noncomputable def tC (v : V) : TE := fun _ H Q => Q v H
theorem pe_var {i : Nat} {x : Str} {pos : Pos} (hN : X.N[i]? = some x) (hv : Vis X.env.scope x) (hd : (x == ("__debug__" : Str)) = false := by decide) (hcd : (x == ("__classdict__" : Str)) = false := by decide) : PE X (.Name x pos) (tVar i) := by
  intro pins s σ H Q I h
  obtain ⟨v, e, h⟩ := h
  obtain ⟨m, hn, hl⟩ := I.loc
  obtain ⟨u, r, l⟩ := hl i x v hN e hv
  have fin : EP X pins σ Q u s := ⟨v, H, I, r, h⟩
  rcases l with ⟨hk, hm⟩ | ⟨hk, c, hc, hcell⟩
  · exact wpAny_Name (wpAny_loadName_local I.ok.kind hk hn hm fin) hd
  · rcases hk with hk | hk
    · exact wpAny_Name (wpAny_loadName_cell I.ok.kind hk hc hcell fin) hd
    · exact wpAny_Name (wpAny_loadName_free I.ok.kind hk hc hcell fin hcd) hd
theorem pe_int {i j pos} : PE X (.Constant (.int i) j pos) (tC (.int i)) := fun _ _ _ H _ I h => wpAny_Constant_int ⟨.int i, H, I.tok _, ⟨_, rfl⟩, h⟩
theorem pe_bl {b j pos} : PE X (.Constant (.bool b) j pos) (tC (.bl b)) := fun _ _ _ H _ I h => Constant_bool ⟨.bl b, H, I, rfl, h⟩
theorem pe_non {j pos} : PE X (.Constant .none j pos) (tC .non) := fun _ _ _ H _ I h => Constant_none ⟨.non, H, I, rfl, h⟩
theorem pe_str {x j pos} : PE X (.Constant (.str x) j pos) (tC (.str x)) := fun _ _ _ H _ I h => Calls.Constant_str ⟨.str x, H, I.tok _, ⟨_, rfl⟩, h⟩
noncomputable def Gl (X : Cx) (x : Str) : Prop := X.env.kindOf x = some .globalImplicit
theorem ld_glob {E : Value → Shared → Prop} {pins : List (Addr × Obj)} {s : Shared} {σ : St} {H : Hp} {x : Str} {u : Value} {pos : Pos} {Q : Value → Shared → Prop} (I : Inv X pins σ H s) (hg : Gl X x) (hm : X.mg x = some u) (h : Q u s)
    (hd : (x == ("__debug__" : Str)) = false := by decide) : wpAny (model X.prog X.w) X.A (eval (.Name x pos) X.env) Q E s :=
  Calls.Name_function_global I.ok.kind hg (Calls.loadGlobal_global (by rw [I.ok.glob]; exact I.mod.glob.keeps I.bk) hm h) hd
theorem ld_blt {E : Value → Shared → Prop} {pins : List (Addr × Obj)} {s : Shared} {σ : St} {H : Hp} {x : Str} {u : Value} {pos : Pos} {Q : Value → Shared → Prop} (I : Inv X pins σ H s) (hg : Gl X x) (hm : X.mg x = none) (hv : bootBuiltins x = some u) (h : Q u s)
    (hn : x ≠ "__name__" := by decide) (hd : (x == ("__debug__" : Str)) = false := by decide) : wpAny (model X.prog X.w) X.A (eval (.Name x pos) X.env) Q E s := by
  obtain ⟨mb, h1, h2⟩ := I.mod.blt
  exact Calls.Name_function_global I.ok.kind hg (Calls.loadGlobal_builtin (by rw [I.ok.glob]; exact I.mod.glob.keeps I.bk) hm (by rw [I.ok.blt]; exact h1.keeps I.bk) ((h2 x hn).trans hv) h) hd
theorem pe_glob {x : Str} {v : V} {u : Value} {pos : Pos} (hg : Gl X x) (hm : X.mg x = some u) (r : RelV v u) (hd : (x == ("__debug__" : Str)) = false := by decide) : PE X (.Name x pos) (tC v) :=
  fun _ _ _ H _ I h => ld_glob I hg hm ⟨v, H, I, r, h⟩ hd
theorem pe_bltn {x : Str} {v : V} {u : Value} {pos : Pos} (hg : Gl X x) (hm : X.mg x = none) (hv : bootBuiltins x = some u) (r : RelV v u) (hn : x ≠ "__name__" := by decide) (hd : (x == ("__debug__" : Str)) = false := by decide) : PE X (.Name x pos) (tC v) :=
  fun _ _ _ H _ I h => ld_blt I hg hm hv ⟨v, H, I, r, h⟩ hn hd
variable {a b : Expr} {ta tb : TE} {pos : Pos}
noncomputable def PC (X : Cx) (op : CmpOp) (a b : Expr) (t : TE) : Prop :=
  ∀ (pins : List (Addr × Obj)) (s : Shared) (σ : St) (H : Hp) (Q : VK), Inv X pins σ H s → t σ H Q →
    wpAny (model X.prog X.w) X.A (eval a X.env) (fun v s₁ => wpAny (model X.prog X.w) X.A (eval b X.env) (fun u s₂ => wpAny (model X.prog X.w) X.A (compareOp op v u) (EP X pins σ Q) X.xe s₂) X.xe s₁) X.xe s
theorem nobehind (b : Expr) {op : CmpOp} (h : op ≠ .In) (h2 : op ≠ .NotIn) : behindInMarks op b = false := by
  have e1 : (op == CmpOp.In) = false := by cases op <;> first | rfl | exact absurd rfl h
  have e2 : (op == CmpOp.NotIn) = false := by cases op <;> first | rfl | exact absurd rfl h2
  cases b <;> simp [behindInMarks, e1, e2]
noncomputable def tIsN (ta : TE) : TE := fun σ H Q => ta σ H fun x H1 => Q (.bl (decide (x = .non))) H1
theorem RelV.none_iff {x : V} {v : Value} (r : RelV x v) : (v == Value.none) = decide (x = .non) := by
  cases x with
  | non => cases r; rfl
  | bl _ => cases r; rfl
  | int _ => obtain ⟨t, rfl⟩ := r; rfl
  | str _ => obtain ⟨t, rfl⟩ := r; rfl
  | byt _ => obtain ⟨t, rfl⟩ := r; rfl
  | flt _ => obtain ⟨t, rfl⟩ := r; rfl
  | ref _ => cases r; rfl
  | ty _ => cases r; rfl
theorem pc_isN {j pos'} (ha : PE X a ta) : PC X .Is a (.Constant .none j pos') (tIsN ta) := by
  intro pins s σ H Q I h
  refine thn (ha pins s σ H _ I h) fun v s1 ⟨x, H1, I1, r1, q1⟩ => ?_
  exact Constant_none (is_none_gen ⟨.bl _, H1, I1, by rw [r1.none_iff]; rfl, q1⟩)
noncomputable def tB (t : TE) : TT := fun σ H Q => t σ H fun x H1 => ∃ c, x = .bl c ∧ Q c H1
theorem pt_cmp {op : CmpOp} {t : TE} (h : PC X op a b t) (h1 : behindInMarks op b = false := by first | exact nobehind _ (by decide) (by decide) | rfl) : PT X (.Compare a [op] [b] pos) (tB t) := by
  intro pins s σ H Q I hw
  refine wpAny_isTrue_Compare1 (thn (h pins s σ H _ I hw) fun v s1 h1 => thn h1 fun u s2 h2 => thn h2 fun c s3 ⟨x, H1, I1, r1, q1⟩ => ?_) h1
  obtain ⟨d, rfl, q⟩ := q1
  cases r1
  exact wpAny_truthy_bool ⟨H1, I1, q⟩
theorem pt_val {e : Expr} {t : TE} (h : PE X e t) (he : ∀ whole, isTrue e X.env whole = (do let v ← whole; standAt e.pos; holding [v] (truthy v)) := by intro _; rfl) : PT X e (tB t) := by
  intro pins s σ H Q I hw
  refine isTrue_plain (thn (h pins s σ H _ I hw) fun v s1 ⟨x, H1, I1, r1, q1⟩ => ?_) (he _)
  obtain ⟨d, rfl, q⟩ := q1
  cases r1
  exact wpAny_truthy_bool ⟨H1, I1, q⟩
variable {tA tB' : TT} {rest : List Expr}
noncomputable def tOr (t u : TT) : TT := fun σ H Q => t σ H fun c H1 => if c = true then Q true H1 else u σ H1 Q
noncomputable def tNot (t : TT) : TT := fun σ H Q => t σ H fun c H1 => Q (!c) H1
theorem pw_or1 (ha : PT X a tA) : PW X (.BoolOp .Or [a] pos) tA := by
  intro wh pins s σ H Q I h
  refine isTrue_or (thn (ha pins s σ H Q I h) fun c s1 e => ?_)
  cases c with
  | false => exact isTrue_or_nil e
  | true => exact e
theorem pw_or (ha : PT X a tA) (hb : PW X (.BoolOp .Or (b :: rest) pos) tB') : PW X (.BoolOp .Or (a :: b :: rest) pos) (tOr tA tB') := by
  intro wh pins s σ H Q I h
  refine isTrue_or (thn (ha pins s σ H _ I h) fun c s1 ⟨H1, I1, q1⟩ => ?_)
  cases c with
  | true => exact ⟨H1, I1, q1⟩
  | false => exact hb wh pins s1 σ H1 Q I1 q1
theorem pt_not (ha : PT X a tA) : PT X (.UnaryOp .Not a pos) (tNot tA) := by
  intro pins s σ H Q I h
  exact isTrue_not (ha pins s σ H (fun c H1 => Q (!c) H1) I h)
noncomputable def tAndV (ta tb : TE) : TE := fun σ H Q => ta σ H fun x H1 => ∃ c, x = .bl c ∧ if c = true then tb σ H1 Q else Q (.bl false) H1
noncomputable def tNotV (ta : TE) : TE := fun σ H Q => ta σ H fun x H1 => ∃ c, x = .bl c ∧ Q (.bl (!c)) H1
theorem pe_one {op} {t : TE} (h : PE X a t) : PE X (.BoolOp op [a] pos) t := fun pins s σ H Q I hw => BoolOp_one (h pins s σ H Q I hw)
theorem pe_and (ha : PE X a ta) (hb : PE X (.BoolOp .And (b :: rest) pos) tb) : PE X (.BoolOp .And (a :: b :: rest) pos) (tAndV ta tb) := by
  intro pins s σ H Q I h
  refine BoolOp_and (thn (ha pins s σ H _ I h) fun v s1 ⟨x, H1, I1, r1, q1⟩ => ?_)
  obtain ⟨c, rfl, q1⟩ := q1
  cases r1
  refine wpAny_truthy_bool ?_
  cases c with
  | true => exact hb pins s1 σ H1 Q I1 q1
  | false => exact ⟨.bl false, H1, I1, rfl, q1⟩
theorem pe_not (ha : PE X a ta) : PE X (.UnaryOp .Not a pos) (tNotV ta) := by
  intro pins s σ H Q I h
  refine UnaryOp_ (thn (ha pins s σ H _ I h) fun v s1 ⟨x, H1, I1, r1, q1⟩ => ?_)
  obtain ⟨c, rfl, q1⟩ := q1
  cases r1
  exact not_of (wpAny_truthy_bool ⟨.bl (!c), H1, I1, rfl, q1⟩)
noncomputable def tIf (t : TT) (ta tb : TE) : TE := fun σ H Q => t σ H fun c H1 => if c = true then ta σ H1 Q else tb σ H1 Q
theorem pe_ifExp {c : Expr} (hc : PT X c tA) (ha : PE X a ta) (hb : PE X b tb) : PE X (.IfExp c a b pos) (tIf tA ta tb) := by
  intro pins s σ H Q I h
  refine wpAny_IfExp (thn (hc pins s σ H _ I h) fun d s1 ⟨H1, I1, q1⟩ => ?_)
  cases d with
  | true => exact ha pins s1 σ H1 Q I1 q1
  | false => exact hb pins s1 σ H1 Q I1 q1
end
end L2
namespace L2
open PySem PySem.Spec PyProof.Rows
noncomputable def SqL (K : PySem.W.Frag) (H : Hp) (a : Addr) (xs : List V) : Prop :=
  Rd H a (.lst xs) ∨
    ∃ (o : Obj) (its : Array Value) (n : Nat), K.lookup a = some o ∧ o.cls = .type "list" ∧ o.dict = none ∧ o.data = .seq its n ∧ its.size ≤ sizeLine ∧ Vals xs its.toList
noncomputable def SqT (K : PySem.W.Frag) (H : Hp) (a : Addr) (xs : List V) : Prop :=
  Rd H a (.tup xs) ∨
    ∃ (o : Obj) (its : Array Value) (n : Nat), K.lookup a = some o ∧ o.cls = .type "tuple" ∧ o.data = .seq its n ∧ its.size ≤ sizeLine ∧ Vals xs its.toList
noncomputable def absV : Value → Option V
  | .none => some .non
  | .bool b => some (.bl b)
  | .int i _ => some (.int i)
  | .str x _ => some (.str x)
  | .bytes b _ => some (.byt b)
  | .float b _ => some (.flt b)
  | .ref a => some (.ref a)
  | .type n => some (.ty n)
  | _ => none
theorem RelV.abs {x : V} {u : Value} (r : RelV x u) : absV u = some x := by
  cases x with
  | non => cases r; rfl
  | bl _ => cases r; rfl
  | int _ => obtain ⟨t, rfl⟩ := r; rfl
  | str _ => obtain ⟨t, rfl⟩ := r; rfl
  | byt _ => obtain ⟨t, rfl⟩ := r; rfl
  | flt _ => obtain ⟨t, rfl⟩ := r; rfl
  | ref _ => cases r; rfl
  | ty _ => cases r; rfl
theorem RelV.inj {x y : V} {u : Value} (r : RelV x u) (q : RelV y u) : x = y := Option.some.inj (r.abs.symm.trans q.abs)
theorem Vals.inj : ∀ {xs ys : List V} {us : List Value}, Vals xs us → Vals ys us → xs = ys
  | _, _, _, .nil, .nil => rfl
  | _, _, _, .cons r t, .cons r' t' => by rw [r.inj r', Vals.inj t t']
section
variable {X : Cx} {pins : List (Addr × Obj)} {σ : St} {H : Hp} {s : Shared} {a : Addr} {xs ys : List V}
theorem SqL.of {K : PySem.W.Frag} (h : H a = some (.lst xs)) : SqL K H a xs := .inl (.inl h)
theorem SqT.of {K : PySem.W.Frag} (h : H a = some (.tup xs)) : SqT K H a xs := .inl (.inl h)
theorem Inv.list (I : Inv X pins σ H s) (h : SqL X.K H a xs) : ∃ its : List Value, Vals xs its ∧ PlainL s.heap a its.toArray ∧ xs.length ≤ sizeLine := by
  rcases h with h | ⟨o, its, n, hk, hc, hd, hs, hz, r⟩
  · obtain ⟨z, its, n, r, e⟩ := h.ok I.hok
    exact ⟨its, r, ⟨_, n, e, rfl, rfl, rfl⟩, z⟩
  · refine ⟨its.toList, r, ⟨o, n, I.kIn a o hk, hc, hd, by simpa using hs⟩, ?_⟩
    have e := r.length
    simp only [Array.length_toList] at e
    omega
theorem Inv.tuple (I : Inv X pins σ H s) (h : SqT X.K H a xs) : ∃ its : List Value, Vals xs its ∧ IsTup s.heap a its.toArray ∧ xs.length ≤ sizeLine := by
  rcases h with h | ⟨o, its, n, hk, hc, hs, hz, r⟩
  · obtain ⟨z, its, r, p⟩ := h.ok I.hok
    exact ⟨its, r, p, z⟩
  · refine ⟨its.toList, r, ⟨o, I.kIn a o hk, hc, n, by simpa using hs⟩, ?_⟩
    have e := r.length
    simp only [Array.length_toList] at e
    omega
theorem Inv.list_inj (I : Inv X pins σ H s) (h : SqL X.K H a xs) (h' : SqL X.K H a ys) : xs = ys := by
  obtain ⟨its, r, ⟨o, n, e, _, _, d⟩, _⟩ := I.list h
  obtain ⟨its', r', ⟨o', n', e', _, _, d'⟩, _⟩ := I.list h'
  rw [e] at e'; cases e'
  rw [d] at d'
  injection d' with d1 _
  have : its = its' := by simpa using congrArg Array.toList d1
  subst this
  exact r.inj r'
end
noncomputable abbrev Cx.wish (X : Cx) (E : Value → Shared → Prop) : Cx := { X with xe := E }
noncomputable abbrev Cx.nox (X : Cx) : Cx := X.wish fun _ _ => False
theorem Cx.Ok.wish {X : Cx} (ok : X.Ok) (E : Value → Shared → Prop) : (X.wish E).Ok :=
  ⟨ok.mod, ok.kind, ok.glob, ok.blt, ok.above, ok.inj, ok.has, ok.cab, ok.hd, ok.frames, ok.stk, ok.exf, ok.bs, ok.bsz, ok.noex, ok.exfs, ok.funs, ok.frf⟩
theorem Cx.Ok.unwish {X : Cx} {E : Value → Shared → Prop} (ok : (X.wish E).Ok) : X.Ok :=
  ⟨ok.mod, ok.kind, ok.glob, ok.blt, ok.above, ok.inj, ok.has, ok.cab, ok.hd, ok.frames, ok.stk, ok.exf, ok.bs, ok.bsz, ok.noex, ok.exfs, ok.funs, ok.frf⟩
section
variable {X : Cx} {pins : List (Addr × Obj)} {σ : St} {H : Hp} {s : Shared} {E : Value → Shared → Prop}
theorem Inv.wish (I : Inv X pins σ H s) (E : Value → Shared → Prop) : Inv (X.wish E) pins σ H s := ⟨I.ok.wish E, I.os, I.bare, I.base, I.loc, I.cell, I.free, I.freeC, I.pin, I.hok, I.len⟩
theorem Inv.unwish (I : Inv (X.wish E) pins σ H s) : Inv X pins σ H s := ⟨I.ok.unwish, I.os, I.bare, I.base, I.loc, I.cell, I.free, I.freeC, I.pin, I.hok, I.len⟩
theorem SP.unwish {D : Ends} {f : Flow} {s' : Shared} (h : SP (X.wish E) pins D f s') : SP X pins D f s' := by
  cases f with
  | next => obtain ⟨σ', H', I, q⟩ := h; exact ⟨σ', H', I.unwish, q⟩
  | brk => obtain ⟨σ', H', I, q⟩ := h; exact ⟨σ', H', I.unwish, q⟩
  | cont => obtain ⟨σ', H', I, q⟩ := h; exact ⟨σ', H', I.unwish, q⟩
  | ret u => obtain ⟨v, σ', H', I, r, q⟩ := h; exact ⟨v, σ', H', I.unwish, r, q⟩
theorem PSs.nox {st : List Stmt} {t : TS} (h : PSs X.nox st t) : PSs X st t := fun pins s σ H D I hw =>
  wpAny_mono (h pins s σ H D (I.wish _) hw) (fun _ _ q => q.unwish) fun _ _ z => False.elim z
end
section
variable {X : Cx} {st : Stmt} {rest : List Stmt} {t u : TS} {e : Expr} {te : TE} {pos : Pos}
noncomputable def tNext : TS := fun D σ H => D.nx σ H
noncomputable def tSeq (t u : TS) : TS := fun D σ H => t { D with nx := u D } σ H
theorem pss_nil : PSs X [] tNext := fun _ _ σ H _ I h => wpAny_execs_nil ⟨σ, H, I, h⟩
theorem pss_cons (h1 : PS X st t) (h2 : PSs X rest u) : PSs X (st :: rest) (tSeq t u) := by
  intro pins s σ H D I h
  refine wpAny_execs_cons (thn (h1 pins s σ H { D with nx := u D } I h) fun f s1 q => ?_)
  cases f with
  | next =>
    obtain ⟨σ', H', I', q⟩ := q
    exact h2 pins s1 σ' H' D I' q
  | ret v => exact q
  | brk => exact q
  | cont => exact q
theorem pss_one (h1 : PS X st t) : PSs X [st] t := by
  intro pins s σ H D I h
  refine wpAny_execs_cons (thn (h1 pins s σ H D I h) fun f s1 q => ?_)
  cases f with
  | next => exact wpAny_execs_nil q
  | ret v => exact q
  | brk => exact q
  | cont => exact q
theorem Inv.quiet {pins : List (Addr × Obj)} {σ : St} {H : Hp} {s : Shared} (I : Inv X pins σ H s) : interactive X.env = false := by simp [interactive, I.ok.kind]
noncomputable def tDrop (te : TE) : TS := fun D σ H => te σ H fun _ H1 => D.nx σ H1
theorem ps_expr (he : PE X e te) (hs : swapsWith e none pos.line X.env = pure false := by rfl) : PS X (.Expr e pos) (tDrop te) := by
  intro pins s σ H D I h
  exact wpAny_Expr_any (thn (he pins s σ H _ I h) fun v s1 ⟨x, H1, I1, r1, q1⟩ => ⟨σ, H1, I1, q1⟩) I.quiet hs
noncomputable def tRet (te : TE) : TS := fun D σ H => te σ H D.rt
theorem ps_ret (he : PE X e te) : PS X (.Return (some e) pos) (tRet te) := by
  intro pins s σ H D I h
  exact wpAny_Return_some (thn (he pins s σ H _ I h) fun v s1 ⟨x, H1, I1, r1, q1⟩ => ⟨x, σ, H1, I1, r1, q1⟩)
noncomputable def tIfS (c : TT) (t u : TS) : TS := fun D σ H => c σ H fun b H1 => if b = true then t D σ H1 else u D σ H1
theorem ps_if {c : Expr} {a b : List Stmt} {tc : TT} (hc : PT X c tc) (ha : PSs X a t) (hb : PSs X b u) : PS X (.If c a b pos) (tIfS tc t u) := by
  intro pins s σ H D I h
  refine wpAny_If (thn (hc pins s σ H _ I h) fun d s1 ⟨H1, I1, q1⟩ => ?_)
  cases d with
  | true => exact ha pins s1 σ H1 D I1 q1
  | false => exact hb pins s1 σ H1 D I1 q1
end
noncomputable abbrev TG := V → St → Hp → (St → Hp → Prop) → Prop
noncomputable abbrev TGs := List V → St → Hp → (St → Hp → Prop) → Prop
noncomputable def PG (X : Cx) (target : Expr) (t : TG) : Prop :=
  ∀ (pins : List (Addr × Obj)) (s : Shared) (σ : St) (H : Hp) (v : V) (u : Value) (Q : St → Hp → Prop), Inv X pins σ H s → RelV v u → t v σ H Q →
    wpAny (model X.prog X.w) X.A (assign target X.env u) (fun _ s' => ∃ σ' H', Inv X pins σ' H' s' ∧ Q σ' H') X.xe s
noncomputable def PGs (X : Cx) (ts : List Expr) (t : TGs) : Prop :=
  ∀ (pins : List (Addr × Obj)) (s : Shared) (σ : St) (H : Hp) (vs : List V) (us : List Value) (Q : St → Hp → Prop), Inv X pins σ H s → Vals vs us → t vs σ H Q →
    wpAny (model X.prog X.w) X.A (assignInOrder ((assignEach ts X.env).map (·.2)) us) (fun _ s' => ∃ σ' H', Inv X pins σ' H' s' ∧ Q σ' H') X.xe s
noncomputable abbrev TIp := V → V → Hp → VK → Prop
noncomputable def PIp (X : Cx) (op : Operator) (t : TIp) : Prop :=
  ∀ (pins : List (Addr × Obj)) (s : Shared) (σ : St) (H : Hp) (x y : V) (v u : Value) (Q : VK), Inv X pins σ H s → RelV x v → RelV y u → t x y H Q →
    wpAny (model X.prog X.w) X.A (inplaceOp op v u) (EP X pins σ Q) X.xe s
section
variable {X : Cx} {pos : Pos}
noncomputable def gName (i : Nat) : TG := fun v σ H Q => Q (σ.set i (some v)) H
theorem pg_name {i : Nat} {x : Str} (hN : X.N.Nodup) (hi : X.N[i]? = some x) (hx : Loc X.env.scope x) (hf : X.fn x = true ∨ X.env.scope.names.lookup x = some .local := by first | exact .inl rfl | exact .inr rfl | assumption) : PG X (.Name x pos) (gName i) := by
  intro pins s σ H v u Q I r h
  exact wpAny_assign_Name (store_ok I hN hi hx r (fun s' I' => ⟨_, H, I', h⟩) hf)
noncomputable def gNil : TGs := fun vs σ H Q => vs = [] ∧ Q σ H
noncomputable def gCons (t : TG) (u : TGs) : TGs := fun vs σ H Q => ∃ v r, vs = v :: r ∧ t v σ H fun σ' H' => u r σ' H' Q
theorem pgs_nil : PGs X [] gNil := by
  intro pins s σ H vs us Q I r h
  obtain ⟨e, h⟩ := h
  subst e
  cases r
  exact assignInOrder_nil ⟨σ, H, I, h⟩
theorem pgs_cons {e : Expr} {es : List Expr} {t : TG} {u : TGs} (h1 : PG X e t) (h2 : PGs X es u)
    (hs : (assignEach (e :: es) X.env).map (·.2) = assign e X.env :: (assignEach es X.env).map (·.2) := by rfl) : PGs X (e :: es) (gCons t u) := by
  intro pins s σ H vs us Q I r h
  obtain ⟨v, vr, e1, h⟩ := h
  subst e1
  cases r with
  | cons r rr =>
    rw [hs]
    refine assignInOrder_cons (thn (h1 pins s σ H _ _ _ I r h) fun _ s1 ⟨σ1, H1, I1, q1⟩ => ?_)
    exact h2 pins s1 σ1 H1 _ _ Q I1 rr q1
noncomputable def gTup (K : PySem.W.Frag) (n : Nat) (t : TGs) : TG := fun v σ H Q => ∃ a xs, v = .ref a ∧ SqT K H a xs ∧ xs.length = n ∧ t xs σ H Q
noncomputable def tAsg (te : TE) (g : TG) : TS := fun D σ H => te σ H fun x H1 => g x σ H1 D.nx
theorem ps_set {i : Nat} {x : Str} {e : Expr} {te : TE} {pos' : Pos} (hN : X.N.Nodup) (hi : X.N[i]? = some x) (hx : Loc X.env.scope x) (he : PE X e te) (hs : swapsWith e (some (.Name x pos')) pos.line X.env = pure false := by rfl) (hf : X.fn x = true ∨ X.env.scope.names.lookup x = some .local := by first | exact .inl rfl | exact .inr rfl | assumption) :
    PS X (.Assign [.Name x pos'] e pos) (tAsg te (gName i)) := by
  intro pins s σ H D I h
  refine wpAny_Assign_Name (thn (he pins s σ H _ I h) fun v s1 ⟨y, H1, I1, r1, q1⟩ => ?_) hs
  exact store_ok I1 hN hi hx r1 (fun s2 I2 => ⟨_, H1, I2, q1⟩) hf
noncomputable def tAug (i : Nat) (te : TE) (ti : TIp) : TS := fun D σ H => ∃ x, σ[i]? = some (some x) ∧ te σ H fun y H1 => ti x y H1 fun z H2 => D.nx (σ.set i (some z)) H2
theorem ps_aug {i : Nat} {x : Str} {e : Expr} {te : TE} {op : Operator} {ti : TIp} {pos' : Pos} (hN : X.N.Nodup) (hi : X.N[i]? = some x) (hx : Loc X.env.scope x) (he : PE X e te) (ho : PIp X op ti) (hf : X.fn x = true ∨ X.env.scope.names.lookup x = some .local := by first | exact .inl rfl | exact .inr rfl | assumption) :
    PS X (.AugAssign (.Name x pos') op e pos) (tAug i te ti) := by
  intro pins s σ H D I h
  obtain ⟨v, e1, h⟩ := h
  obtain ⟨m, hn, hl⟩ := I.loc
  have vis : Vis X.env.scope x := by rcases hx with k | k; exact .inl k; exact .inr (.inl k)
  obtain ⟨u, r, l⟩ := hl i x v hi e1 vis
  refine wpAny_AugAssign_Name ?_
  have go : wpAny (model X.prog X.w) X.A (eval e X.env) (fun w s₂ => wpAny (model X.prog X.w) X.A (inplaceOp op u w) (fun r s₃ => wpAny (model X.prog X.w) X.A (storeName X.env x r) (fun _ => SP X pins D .next) X.xe s₃) X.xe s₂) X.xe s := by
    refine thn (he pins s σ H _ I h) fun w s1 ⟨y, H1, I1, r1, q1⟩ => ?_
    refine thn (ho pins s1 σ H1 v y u w _ I1 r r1 q1) fun z s2 ⟨zv, H2, I2, r2, q2⟩ => ?_
    exact store_ok I2 hN hi hx r2 (fun s3 I3 => ⟨_, H2, I3, q2⟩) hf
  rcases l with ⟨hk, hm⟩ | ⟨hk, c, hc, hcell⟩
  · exact wpAny_loadName_local I.ok.kind hk hn hm go
  · rcases hk with hk | hk
    · exact wpAny_loadName_cell I.ok.kind hk hc hcell go
    · rcases hx with k | k
      · have : X.env.scope.names.lookup x = some .free := hk
        rw [k] at this; cases this
      · have : X.env.scope.names.lookup x = some .free := hk
        rw [k] at this; cases this
noncomputable def ipI (f : Int → Int → Int) : TIp := fun x y H Q => ∃ i j, x = .int i ∧ y = .int j ∧ Q (.int (f i j)) H
theorem ip_add : PIp X .Add (ipI fun i j => i + j) := by
  intro pins s σ H x y v u Q I r1 r2 h
  obtain ⟨i, j, e1, e2, q⟩ := h
  subst e1; subst e2
  obtain ⟨t, rfl⟩ := r1
  obtain ⟨t', rfl⟩ := r2
  exact iadd_int ⟨.int _, H, I.tok _, ⟨_, rfl⟩, q⟩
end
section
variable {X : Cx} {pos : Pos}
noncomputable def tWhile (c : TT) (tb : TS) : TS := fun D σ H => ∃ W : Nat → St → Hp → Prop, (∃ m, W m σ H) ∧ ∀ m σ H, W m σ H →
  c σ H fun b H1 => if b = true then ∃ N : St → Hp → Prop, (∀ σ' H', N σ' H' → ∃ m', m' < m ∧ W m' σ' H') ∧ tb { D with nx := N, ct := N, bk := D.nx } σ H1 else D.nx σ H1
theorem ps_while {c : Expr} {body : List Stmt} {tc : TT} {tb : TS} (hp : PassesOwn (model X.prog X.w) X.A X.env X.xe) (hc : PT X c tc) (hb : PSs X body tb) : PS X (.While c body [] pos) (tWhile tc tb) := by
  intro pins s σ H D I h
  obtain ⟨W, ⟨m0, w0⟩, turn⟩ := h
  refine wpAny_While (codeAny_whileLoop (fun n s' => ∃ σ' H', Inv X pins σ' H' s' ∧ W n σ' H') ?_ m0 ⟨σ, H, I, w0⟩)
  rintro n s1 ⟨σ1, H1, I1, w1⟩
  refine wpAny_passesOwn hp (thn (hc pins s1 σ1 H1 _ I1 (turn n σ1 H1 w1)) fun b s2 ⟨H2, I2, q2⟩ => ?_)
  cases b with
  | true =>
    obtain ⟨N, hN, q2⟩ := q2
    rw [if_pos rfl]
    refine wpAny_passesOwn hp (thn (hb pins s2 σ1 H2 _ I2 q2) fun f s3 q3 => ?_)
    cases f with
    | next =>
      obtain ⟨σ3, H3, I3, n3⟩ := q3
      obtain ⟨m', hm, w3⟩ := hN σ3 H3 n3
      exact ⟨m', hm, σ3, H3, I3, w3⟩
    | cont =>
      obtain ⟨σ3, H3, I3, n3⟩ := q3
      obtain ⟨m', hm, w3⟩ := hN σ3 H3 n3
      exact ⟨m', hm, σ3, H3, I3, w3⟩
    | brk => exact q3
    | ret v => exact q3
  | false =>
    rw [if_neg Bool.false_ne_true]
    exact wpAny_execs_nil ⟨σ1, H2, I2, q2⟩
end
structure It where
  go : Nat → Hp → Prop
  yld : Nat → Hp → V → Hp → Prop
  stop : Nat → Hp → Prop
noncomputable def FpOk (X : Cx) (pins : List (Addr × Obj)) (H : Hp) (b : Addr) : Prop :=
  H b = none ∧ b ≠ X.env.locals ∧ b ∉ X.fs ∧ (b ∈ X.ex ∨ X.s₀.heap.objs.size ≤ b) ∧ (∀ x c, X.env.cells.lookup x = some c → c ≠ b) ∧ ∀ p ∈ X.pn ++ pins, p.1 ≠ b
theorem Inv.fpOk {X : Cx} {pins : List (Addr × Obj)} {σ : St} {H H' : Hp} {s : Shared} {b : Addr} (I : Inv X pins σ H s) (hb : s.heap.objs.size ≤ b) (hn : H' b = none) : FpOk X pins H' b := by
  refine ⟨hn, Nat.ne_of_gt (Nat.lt_of_lt_of_le I.lt hb), I.nofs hb, .inr (Nat.le_trans I.sz hb), fun x c e z => ?_, fun p hp z => ?_⟩
  · obtain ⟨v, q⟩ := I.cell x c e
    exact absurd (Nat.lt_of_lt_of_le q.lt (by rw [z]; exact hb)) (Nat.lt_irrefl _)
  · exact absurd (Nat.lt_of_lt_of_le (Heap.lt_size (I.pin p hp).1) (by rw [z]; exact hb)) (Nat.lt_irrefl _)
structure Turn (P : Program) (w : World) (K : PySem.W.Frag) (tg : Expr) (J : It) (fp : List Addr) (it : Addr) (tn : Nat → Heap → Prop) : Prop where
  mem : it ∈ fp
  obj : ∀ i h, tn i h → ∀ b ∈ fp, ∃ o, h.get? b = some o ∧ ∀ v, o.data ≠ .cell v
  keep : ∀ i h h', tn i h → (∀ b ∈ fp, ∀ o, h.get? b = some o → h'.get? b = some o) → tn i h'
  item : ∀ (X : Cx), X.prog = P → X.w = w → X.K = K → X.calm = true → ∀ (i : Nat) (pins : List (Addr × Obj)) (s : Shared) (σ : St) (H : Hp) (E : Value → Shared → Prop), Inv X pins σ H s → (∀ b ∈ fp, FpOk X pins H b) → tn i s.heap → J.go i H →
    wpAny (model P w) X.A (pyNext (.ref it)) (fun r s1 => ∃ u, r = some u ∧
      wpAny (model P w) X.A (letOwnedTupleGo tg (.ref it) u) (fun _ s2 => ∃ x H', Inv X pins σ H' s2 ∧ RelV x u ∧ J.yld i H x H' ∧ tn (i + 1) s2.heap ∧ ∀ b ∈ fp, H' b = none) E s1) E s
  done : ∀ (X : Cx), X.prog = P → X.w = w → X.K = K → X.calm = true → ∀ (i : Nat) (pins : List (Addr × Obj)) (s : Shared) (σ : St) (H : Hp) (E : Value → Shared → Prop), Inv X pins σ H s → (∀ b ∈ fp, FpOk X pins H b) → tn i s.heap → J.stop i H →
    wpAny (model P w) X.A (pyNext (.ref it)) (fun r s1 => r = none ∧ Inv X pins σ H s1) E s
  self : ∀ (A : Around) (i : Nat) (s : Shared) (Q : Value → Shared → Prop) (E : Value → Shared → Prop), tn i s.heap → Q (.ref it) s → wpAny (model P w) A (pyIter (.ref it)) Q E s
noncomputable abbrev TI := St → Hp → (It → Hp → Prop) → Prop
noncomputable def PIE (X : Cx) (pins : List (Addr × Obj)) (σ : St) (tg : Expr) (R : It → Hp → Prop) (itv : Value) (s2 : Shared) : Prop :=
  ∃ (it : Addr) (fp : List Addr) (tn : Nat → Heap → Prop) (J : It) (H' : Hp), itv = .ref it ∧ Inv X pins σ H' s2 ∧ Turn X.prog X.w X.K tg J fp it tn ∧ tn 0 s2.heap ∧ (∀ b ∈ fp, FpOk X pins H' b) ∧ R J H'
noncomputable def PI (X : Cx) (tg iter : Expr) (wi : TI) : Prop :=
  ∀ (pins : List (Addr × Obj)) (s : Shared) (σ : St) (H : Hp) (R : It → Hp → Prop), Inv X pins σ H s → wi σ H R →
    wpAny (model X.prog X.w) X.A (eval iter X.env) (fun v s1 => wpAny (model X.prog X.w) X.A (pyIter v) (PIE X pins σ tg R) X.xe s1) X.xe s
theorem go_of {M : Model} {A : Around} {E : Value → Shared → Prop} {s : Shared} {tg : Expr} {it : Addr} {u : Value} {o : Obj} {n : String} {vs : Array Value} {Q : Unit → Shared → Prop} (ho : s.heap.get? it = some o) (hc : o.cls = .type n) (hd : o.data = .fields vs)
    (hn : ["enumerate", "zip", "dict_itemiterator", "dict_reverseitemiterator", "odict_iterator", "itertools.zip_longest", "itertools.pairwise"].contains n = false) (hQ : Q () s) : wpAny M A (letOwnedTupleGo tg (.ref it) u) Q E s := by
  unfold letOwnedTupleGo
  cases tg <;> first
    | exact wpAny_pure hQ
    | (cases u <;> first
        | exact wpAny_pure hQ
        | (refine wpAny_bind (wpAny_load ho ?_)
           rw [hc, hd]
           show wpAny M A (if (["enumerate", "zip", "dict_itemiterator", "dict_reverseitemiterator", "odict_iterator", "itertools.zip_longest", "itertools.pairwise"].contains n && vs[0]? == some (rawInt _)) = true then _ else _) Q E s
           rw [if_neg (by intro h; rw [hn, Bool.false_and] at h; cases h)]
           exact wpAny_pure hQ))
noncomputable def Itl (K : PySem.W.Frag) (a : Addr) : It :=
  ⟨fun i H => ∃ xs x, SqL K H a xs ∧ xs[i]? = some x, fun i H x H' => H' = H ∧ ∀ xs, SqL K H a xs → xs[i]? = some x, fun i H => ∃ xs, SqL K H a xs ∧ xs.length ≤ i⟩
noncomputable def Itr (lo : Int) (n : Nat) : It := ⟨fun i _ => i < n, fun i H x H' => H' = H ∧ x = .int (lo + i), fun i _ => n ≤ i⟩
theorem turn_list {P : Program} {w : World} {K : PySem.W.Frag} {tg : Expr} (a it : Addr) : Turn P w K tg (Itl K a) [it] it (fun i h => h.IsListIter it a i) where
  mem := by simp
  obj := fun i h st b hb => by
    have e : b = it := by simpa using hb
    subst e
    obtain ⟨o, e, c, d⟩ := st
    exact ⟨o, e, fun v z => by rw [d] at z; cases z⟩
  keep := fun i h h' st k => st.at fun o e => k it (by simp) o e
  item := by
    intro X hP hw hK hc i pins s σ H E I hf st hg
    subst hP hw hK
    obtain ⟨xs, x, hq, hx⟩ := hg
    obtain ⟨its, rv, p, hz⟩ := I.list hq
    obtain ⟨u, hu, ru⟩ := rv.get hx
    obtain ⟨f0, f1, f2, f3, f4, f5⟩ := hf it (by simp)
    refine wpAny_pyNext_list_item st p.isList (x := u) (by simpa using hu) fun h' st' sb => ?_
    have I1 : Inv X pins σ H { s with heap := h' } := I.turned (t' := s.toks) (fun b o hb e => (sb.2 b hb).trans e) f0 f1 f3 f4 f5
    obtain ⟨o, e, c, d⟩ := id st'
    exact ⟨u, rfl, go_of (s := { s with heap := h' }) e c d (by decide) ⟨x, H, I1, ru, ⟨rfl, fun ys hy => by rw [I.list_inj hy hq]; exact hx⟩, st', fun b hb => (hf b hb).1⟩⟩
  done := by
    intro X hP hw hK hc i pins s σ H E I hf st hg
    subst hP hw hK
    obtain ⟨xs, hq, hx⟩ := hg
    obtain ⟨its, rv, p, hz⟩ := I.list hq
    obtain ⟨f0, f1, f2, f3, f4, f5⟩ := hf it (by simp)
    have hl := rv.length
    exact wpAny_pyNext_list_end (I.ok.hd hc) st p.isList (by simp; omega) fun h' eb => ⟨rfl, I.turned (t' := s.toks) (fun b o hb e => eb b o hb e) f0 f1 f3 f4 f5⟩
  self := fun _ _ _ _ _ st h => wpAny_pyIter_listiter st h
theorem turn_range {P : Program} {w : World} {K : PySem.W.Frag} {tg : Expr} (it : Addr) (lo : Int) (n : Nat) : Turn P w K tg (Itr lo n) [it] it (fun i h => IsRangeIter h it (lo + (i : Nat) * 1) ((n : Int) - (i : Nat)) 1) where
  mem := by simp
  obj := fun i h st b hb => by
    have e : b = it := by simpa using hb
    subst e
    exact ⟨_, st, fun v z => by
      have z' : Data.fields _ = Data.cell v := z
      cases z'⟩
  keep := fun i h h' st k => k it (by simp) _ st
  item := by
    intro X hP hw hK hc i pins s σ H E I hf st hg
    subst hP hw hK
    obtain ⟨f0, f1, f2, f3, f4, f5⟩ := hf it (by simp)
    have W := Walks.range (prog := X.prog) (w := X.w) (I.ok.hd hc) it lo 1 n
    refine W.item i s _ _ hg st fun v h' tk hv st' kk => ?_
    obtain ⟨t, rfl⟩ := hv
    have I1 : Inv X pins σ H { s with heap := h', toks := tk } := I.turned (fun b o hb e => kk b o (by simpa using hb) e) f0 f1 f3 f4 f5
    refine ⟨_, rfl, go_of (s := { s with heap := h', toks := tk }) (n := "range_iterator") st' rfl rfl (by decide) ⟨.int (lo + i), H, I1, ⟨t, ?_⟩, ⟨rfl, rfl⟩, st', fun b hb => (hf b hb).1⟩⟩
    rw [Int.mul_one]
  done := by
    intro X hP hw hK hc i pins s σ H E I hf st hg
    subst hP hw hK
    obtain ⟨f0, f1, f2, f3, f4, f5⟩ := hf it (by simp)
    exact wpAny_pyNext_range_end (I.ok.hd hc) st (by have : n ≤ i := hg; omega) fun h' eb => ⟨rfl, I.turned (t' := s.toks) (fun b o hb e => eb b o hb e) f0 f1 f3 f4 f5⟩
  self := fun _ _ _ _ _ st h => wpAny_pyIter_rangeiter st h
end L2
namespace L2
open PySem PySem.Spec PyProof.Rows
section
variable {X : Cx} {tg : Expr}
noncomputable def iList (K : PySem.W.Frag) (tl : TE) : TI := fun σ H R => tl σ H fun x H1 => ∃ a, x = .ref a ∧ (∃ xs, SqL K H1 a xs) ∧ R (Itl K a) H1
theorem pi_list {l : Expr} {tl : TE} (hl : PE X l tl) : PI X tg l (iList X.K tl) := by
  intro pins s σ H R I h
  refine thn (hl pins s σ H _ I h) fun v s1 ⟨x, H1, I1, r1, q1⟩ => ?_
  obtain ⟨a, e, ⟨xs, hq⟩, q⟩ := q1
  subst e
  cases r1
  obtain ⟨its, rv, p, hz⟩ := I1.list hq
  refine wpAny_pyIter_list p.isList ?_
  refine ⟨s1.heap.objs.size, [s1.heap.objs.size], _, _, H1, rfl, I1.kept (t' := s1.toks) fun b o e => Heap.get?_push_of_some _ e, turn_list a _, ⟨_, Heap.get?_push_size _ rfl, rfl, rfl⟩, fun b hb => ?_, q⟩
  have e : b = s1.heap.objs.size := by simpa using hb
  subst e
  exact I1.fpOk (Nat.le_refl _) (I1.hok.fresh (Nat.le_refl _))
theorem range_it {pins : List (Addr × Obj)} {σ : St} {H : Hp} {s : Shared} {R : It → Hp → Prop} {E : Value → Shared → Prop} {lo hi : Int} {t u v : Tok} {tk : Nat} (I : Inv X pins σ H s) (h1 : -(2 ^ 62) ≤ lo) (h2 : lo < 2 ^ 62) (h3 : -(2 ^ 62) ≤ hi) (h4 : hi < 2 ^ 62)
    (q : R (Itr lo (hi - lo).toNat) H) : wpAny (model X.prog X.w) X.A (pyIter (.ref s.heap.objs.size)) (PIE X pins σ tg R) E { s with heap := s.heap.push { cls := .type "range", data := .fields #[.int lo t, .int hi u, .int 1 v] }, toks := tk } := by
  refine wpAny_pyIter_range (IsRange.new ..) (small_one h1 h2 h3 h4) ?_
  have I1 : Inv X pins σ H { s with heap := s.heap.push { cls := .type "range", data := .fields #[.int lo t, .int hi u, .int 1 v] }, toks := tk } := I.kept fun b o e => Heap.get?_push_of_some _ e
  refine ⟨(s.heap.push { cls := .type "range", data := .fields #[.int lo t, .int hi u, .int 1 v] }).objs.size, [(s.heap.push { cls := .type "range", data := .fields #[.int lo t, .int hi u, .int 1 v] }).objs.size], _, _, H, rfl,
    I1.kept (t' := tk) fun b o e => Heap.get?_push_of_some _ e, turn_range _ lo (hi - lo).toNat, ?_, fun b hb => ?_, q⟩
  · have e1 : lo + ((0 : Nat) : Int) * 1 = lo := by simp
    have e2 : (((hi - lo).toNat : Nat) : Int) - ((0 : Nat) : Int) = Builtin.Range.rangeSize lo hi 1 := by rw [rangeSize_one]; split <;> omega
    show IsRangeIter _ _ (lo + ((0 : Nat) : Int) * 1) ((((hi - lo).toNat : Nat) : Int) - ((0 : Nat) : Int)) 1
    rw [e1, e2]
    exact Heap.get?_push_size _ rfl
  · have e : b = (s.heap.push { cls := .type "range", data := .fields #[.int lo t, .int hi u, .int 1 v] }).objs.size := by simpa using hb
    subst e
    exact I1.fpOk (Nat.le_refl _) (I1.hok.fresh (Nat.le_refl _))
noncomputable def iRng1 (ta : TA) : TI := fun σ H R => ta σ H fun vs H1 => ∃ j : Int, vs = [.int j] ∧ -(2 ^ 62) ≤ j ∧ j < 2 ^ 62 ∧ R (Itr 0 j.toNat) H1
theorem pi_range1 {a : Expr} {ta : TA} {p pos : Pos} (hg : Gl X "range") (hm : X.mg "range" = none) (ha : PA X [a] ta) (hs : starEach [a] X.env = [(false, eval a X.env)] := by rfl) : PI X tg (.Call (.Name "range" p) [a] [] pos) (iRng1 ta) := by
  intro pins s σ H R I h
  refine Call_ (ld_blt I hg hm boot_range (PyProof.Rows.callWith_type1 (thn (ha pos pins s σ H _ I h) fun us s1 ⟨vs, H1, I1, r1, q1⟩ => ?_) hs rfl))
  obtain ⟨j, e, q1, q2, q⟩ := q1
  subst e
  cases r1 with
  | cons r rr =>
    cases rr
    obtain ⟨t, rfl⟩ := r
    exact call_range_1 (range_it I1 (by omega) (by omega) q1 q2 (by simpa using q))
noncomputable def tFor (wi : TI) (g : TG) (tb : TS) : TS := fun D σ H => wi σ H fun J H1 => ∃ W : Nat → Nat → St → Hp → Prop, (∃ m, W 0 m σ H1) ∧ ∀ i m σ H, W i m σ H →
  (J.stop i H ∧ D.nx σ H) ∨ (J.go i H ∧ ∃ N : St → Hp → Prop, (∀ σ' H', N σ' H' → ∃ m', m' < m ∧ W (i + 1) m' σ' H') ∧ ∀ x H', J.yld i H x H' → g x σ H' fun σ2 H2 => tb { D with nx := N, ct := N, bk := D.nx } σ2 H2)
noncomputable def pinsAt (fp : List Addr) (h : Heap) : List (Addr × Obj) := fp.filterMap fun b => (h.get? b).map fun o => (b, o)
theorem mem_pinsAt {fp : List Addr} {h : Heap} {b : Addr} {o : Obj} (hb : b ∈ fp) (e : h.get? b = some o) : (b, o) ∈ pinsAt fp h := List.mem_filterMap.mpr ⟨b, hb, by rw [e]; rfl⟩
theorem of_pinsAt {fp : List Addr} {h : Heap} {p : Addr × Obj} (hp : p ∈ pinsAt fp h) : p.1 ∈ fp ∧ h.get? p.1 = some p.2 := by
  obtain ⟨b, hb, e⟩ := List.mem_filterMap.mp hp
  cases q : h.get? b with
  | none => rw [q] at e; cases e
  | some o =>
    rw [q] at e
    have e' : (b, o) = p := Option.some.inj e
    subst e'
    exact ⟨hb, q⟩
theorem Inv.pinned {pins : List (Addr × Obj)} {σ : St} {H : Hp} {s : Shared} {fp : List Addr} (I : Inv X pins σ H s) (hf : ∀ b ∈ fp, FpOk X pins H b) (ho : ∀ b ∈ fp, ∃ o, s.heap.get? b = some o ∧ ∀ v, o.data ≠ .cell v) : Inv X (pins ++ pinsAt fp s.heap) σ H s :=
  I.pins_of fun p hp => (List.mem_append.mp hp).elim (fun z => I.pin p (List.mem_append_right _ z)) fun z => by
    obtain ⟨hb, e⟩ := of_pinsAt z
    obtain ⟨f0, f1, f2, _⟩ := hf p.1 hb
    obtain ⟨o, e', d⟩ := ho p.1 hb
    rw [e] at e'; cases e'
    exact ⟨e, f0, f1, f2, d⟩
theorem Inv.unpinned {pins pl : List (Addr × Obj)} {σ : St} {H : Hp} {s : Shared} (I : Inv X (pins ++ pl) σ H s) : Inv X pins σ H s := I.pins_of fun p hp => I.pin p (List.mem_append_right _ (List.mem_append_left _ hp))
theorem ps_for {iter : Expr} {body : List Stmt} {wi : TI} {g : TG} {tb : TS} {pos : Pos} (hp : PassesOwn (model X.prog X.w) X.A X.env X.xe) (hc : X.calm = true) (hi : PI X tg iter wi) (hg : PG X tg g) (hb : PSs X body tb)
    (hs : ∀ x, foldedSetIterable iter X.env x = pure x := by intro _; rfl) : PS X (.For tg iter body [] pos) (tFor wi g tb) := by
  intro pins s σ H D I h
  refine wpAny_For (thn (hi pins s σ H _ I h) fun v s1 h1 => thn h1 fun itv s2 h2 => ?_) hs
  obtain ⟨it, fp, tn, J, H2, e, I2, T, st2, f2, W, ⟨m0, w0⟩, turn⟩ := h2
  subst e
  have stat : ∀ {H' : Hp}, (∀ b ∈ fp, H' b = none) → ∀ b ∈ fp, FpOk X pins H' b := fun hn b hb => ⟨hn b hb, (f2 b hb).2⟩
  refine codeAny_forLoop_any (fun n s' => ∃ i σ' H', Inv X pins σ' H' s' ∧ tn i s'.heap ∧ (∀ b ∈ fp, H' b = none) ∧ W i n σ' H') ?_ m0 ⟨0, σ, H2, I2, st2, fun b hb => (f2 b hb).1, w0⟩
  rintro n s3 ⟨i, σ3, H3, I3, st3, fr3, w3⟩
  rcases turn i n σ3 H3 w3 with ⟨stop, qn⟩ | ⟨go, N, hN, step⟩
  · refine wpAny_passesOwn hp (thn (T.done X rfl rfl rfl hc i pins s3 σ3 H3 X.xe I3 (stat fr3) st3 stop) fun r s4 ⟨hr, I4⟩ => ?_)
    subst hr
    exact wpAny_execs_nil ⟨σ3, H3, I4, qn⟩
  · refine wpAny_passesOwn hp (thn (T.item X rfl rfl rfl hc i pins s3 σ3 H3 X.xe I3 (stat fr3) st3 go) fun r s4 ⟨u, hr, h4⟩ => ?_)
    subst hr
    refine wpAny_passesOwn hp (thn h4 fun _ s5 ⟨x, H5, I5, r5, y5, st5, fr5⟩ => ?_)
    have I5' := I5.pinned (stat fr5) (T.obj _ _ st5)
    refine wpAny_passesOwn hp (thn (hg _ s5 σ3 H5 x u _ I5' r5 (step x H5 y5)) fun _ s6 ⟨σ6, H6, I6, q6⟩ => ?_)
    refine wpAny_passesOwn hp (thn (hb _ s6 σ6 H6 _ I6 q6) fun f s7 q7 => ?_)
    have again : ∀ {σ7 : St} {H7 : Hp}, Inv X (pins ++ pinsAt fp s5.heap) σ7 H7 s7 → N σ7 H7 → ∃ m, m < n ∧ ∃ i σ' H', Inv X pins σ' H' s7 ∧ tn i s7.heap ∧ (∀ b ∈ fp, H' b = none) ∧ W i m σ' H' := fun {σ7 H7} I7 n7 => by
      obtain ⟨m', hm, w7⟩ := hN σ7 H7 n7
      refine ⟨m', hm, i + 1, σ7, H7, I7.unpinned, T.keep _ _ _ st5 fun b hb o e => (I7.pin (b, o) (List.mem_append_right _ (List.mem_append_right _ (mem_pinsAt hb e)))).1, fun b hb => ?_, w7⟩
      obtain ⟨o, e, d⟩ := T.obj _ _ st5 b hb
      exact (I7.pin (b, o) (List.mem_append_right _ (List.mem_append_right _ (mem_pinsAt hb e)))).2.1
    cases f with
    | next => obtain ⟨σ7, H7, I7, n7⟩ := q7; exact again I7 n7
    | cont => obtain ⟨σ7, H7, I7, n7⟩ := q7; exact again I7 n7
    | brk => obtain ⟨σ7, H7, I7, q7⟩ := q7; exact ⟨σ7, H7, I7.unpinned, q7⟩
    | ret v => obtain ⟨x7, σ7, H7, I7, r7, q7⟩ := q7; exact ⟨x7, σ7, H7, I7.unpinned, r7, q7⟩
end
theorem for_list {K : PySem.W.Frag} {a : Addr} {xs : List V} {g : TG} {tb : TS} {D : Ends} {σ : St} {H : Hp} (Pv : Nat → St → Hp → Prop) (h0 : Pv 0 σ H) (hl : ∀ i σ H, i ≤ xs.length → Pv i σ H → SqL K H a xs)
    (hs : ∀ i x σ H, xs[i]? = some x → Pv i σ H → g x σ H fun σ2 H2 => tb { D with nx := Pv (i + 1), ct := Pv (i + 1), bk := D.nx } σ2 H2) (hd : ∀ σ H, Pv xs.length σ H → D.nx σ H) :
    ∃ W : Nat → Nat → St → Hp → Prop, (∃ m, W 0 m σ H) ∧ ∀ i m σ H, W i m σ H →
      ((Itl K a).stop i H ∧ D.nx σ H) ∨ ((Itl K a).go i H ∧ ∃ N : St → Hp → Prop, (∀ σ' H', N σ' H' → ∃ m', m' < m ∧ W (i + 1) m' σ' H') ∧ ∀ x H', (Itl K a).yld i H x H' → g x σ H' fun σ2 H2 => tb { D with nx := N, ct := N, bk := D.nx } σ2 H2) := by
  refine ⟨fun i m σ H => m = xs.length - i ∧ i ≤ xs.length ∧ Pv i σ H, ⟨xs.length, by simp, Nat.zero_le _, h0⟩, ?_⟩
  rintro i m σ H ⟨rfl, hi, p⟩
  have q := hl i σ H hi p
  by_cases hlt : i < xs.length
  · refine .inr ⟨⟨xs, xs[i], q, by simp [hlt]⟩, Pv (i + 1), fun σ' H' p' => ⟨xs.length - (i + 1), by omega, rfl, hlt, p'⟩, fun x H' y => ?_⟩
    obtain ⟨e, y⟩ := y
    subst e
    exact hs i x σ _ (y xs q) p
  · have e : i = xs.length := by omega
    subst e
    exact .inl ⟨⟨xs, q, Nat.le_refl _⟩, hd σ H p⟩
theorem for_range {lo : Int} {n : Nat} {g : TG} {tb : TS} {D : Ends} {σ : St} {H : Hp} (Pv : Nat → St → Hp → Prop) (h0 : Pv 0 σ H)
    (hs : ∀ i σ H, i < n → Pv i σ H → g (.int (lo + i)) σ H fun σ2 H2 => tb { D with nx := Pv (i + 1), ct := Pv (i + 1), bk := D.nx } σ2 H2) (hd : ∀ σ H, Pv n σ H → D.nx σ H) :
    ∃ W : Nat → Nat → St → Hp → Prop, (∃ m, W 0 m σ H) ∧ ∀ i m σ H, W i m σ H →
      ((Itr lo n).stop i H ∧ D.nx σ H) ∨ ((Itr lo n).go i H ∧ ∃ N : St → Hp → Prop, (∀ σ' H', N σ' H' → ∃ m', m' < m ∧ W (i + 1) m' σ' H') ∧ ∀ x H', (Itr lo n).yld i H x H' → g x σ H' fun σ2 H2 => tb { D with nx := N, ct := N, bk := D.nx } σ2 H2) := by
  refine ⟨fun i m σ H => m = n - i ∧ i ≤ n ∧ Pv i σ H, ⟨n, by simp, Nat.zero_le _, h0⟩, ?_⟩
  rintro i m σ H ⟨rfl, hi, p⟩
  by_cases hlt : i < n
  · refine .inr ⟨hlt, Pv (i + 1), fun σ' H' p' => ⟨n - (i + 1), by omega, rfl, hlt, p'⟩, fun x H' y => ?_⟩
    obtain ⟨e, y⟩ := y
    subst e y
    exact hs i σ _ hlt p
  · have e : i = n := by omega
    subst e
    exact .inl ⟨Nat.le_refl _, hd σ H p⟩
theorem while_by {c : TT} {tb : TS} {D : Ends} {σ : St} {H : Hp} (Pv : St → Hp → Prop) (μ : St → Hp → Nat) (h0 : Pv σ H)
    (hs : ∀ σ H, Pv σ H → c σ H fun b H1 => if b = true then tb { D with nx := fun σ' H' => Pv σ' H' ∧ μ σ' H' < μ σ H, ct := fun σ' H' => Pv σ' H' ∧ μ σ' H' < μ σ H, bk := D.nx } σ H1 else D.nx σ H1)
    (mono : ∀ σ H Q Q', (∀ b H1, Q b H1 → Q' b H1) → c σ H Q → c σ H Q') : tWhile c tb D σ H := by
  refine ⟨fun m σ H => m = μ σ H ∧ Pv σ H, ⟨_, rfl, h0⟩, ?_⟩
  rintro m σ H ⟨rfl, p⟩
  refine mono σ H _ _ (fun b H1 q => ?_) (hs σ H p)
  cases b with
  | true => exact ⟨_, fun σ' H' ⟨p', l⟩ => ⟨_, l, rfl, p'⟩, q⟩
  | false => exact q
end L2
namespace L2
open PySem PySem.Spec PyProof.Rows
noncomputable abbrev R2 := V → V → Hp → VK → Prop
noncomputable def OpR (X : Cx) (f : Value → Value → Sem Value) (r : R2) : Prop :=
  ∀ (pins : List (Addr × Obj)) (s : Shared) (σ : St) (H : Hp) (x y : V) (v u : Value) (Q : VK), Inv X pins σ H s → RelV x v → RelV y u → r x y H Q →
    wpAny (model X.prog X.w) X.A (f v u) (EP X pins σ Q) X.xe s
noncomputable def UnR (X : Cx) (f : Value → Sem Value) (r : V → Hp → VK → Prop) : Prop :=
  ∀ (pins : List (Addr × Obj)) (s : Shared) (σ : St) (H : Hp) (x : V) (v : Value) (Q : VK), Inv X pins σ H s → RelV x v → r x H Q →
    wpAny (model X.prog X.w) X.A (f v) (EP X pins σ Q) X.xe s
noncomputable def CallR (X : Cx) (f : Value) (r : List V → Hp → VK → Prop) : Prop :=
  ∀ (pins : List (Addr × Obj)) (s : Shared) (σ : St) (H : Hp) (xs : List V) (us : List Value) (Q : VK), Inv X pins σ H s → Vals xs us → r xs H Q →
    wpAny (model X.prog X.w) X.A (call f us) (EP X pins σ Q) X.xe s
noncomputable def tOp (r : R2) (ta tb : TE) : TE := fun σ H Q => ta σ H fun x H1 => tb σ H1 fun y H2 => r x y H2 Q
noncomputable def tUn (r : V → Hp → VK → Prop) (ta : TE) : TE := fun σ H Q => ta σ H fun x H1 => r x H1 Q
noncomputable def rI (C : Int → Int → Prop) (g : Int → Int → V) : R2 := fun x y H Q => ∃ i j, x = .int i ∧ y = .int j ∧ C i j ∧ Q (g i j) H
noncomputable def rI0 (g : Int → Int → V) : R2 := fun x y H Q => ∃ i j, x = .int i ∧ y = .int j ∧ Q (g i j) H
noncomputable def rU (g : Int → V) : V → Hp → VK → Prop := fun x H Q => ∃ i, x = .int i ∧ Q (g i) H
section
variable {X : Cx} {a b c : Expr} {ta tb tc : TE} {pos : Pos}
theorem binT (ha : PE X a ta) (hb : PE X b tb) {pins : List (Addr × Obj)} {s : Shared} {σ : St} {H : Hp} {R : V → V → Hp → Prop} (I : Inv X pins σ H s)
    (h : ta σ H fun x H1 => tb σ H1 fun y H2 => R x y H2) {Q : Value → Shared → Prop} {f : Value → Value → Sem Value}
    (hf : ∀ v u s2 x y H2, Inv X pins σ H2 s2 → RelV x v → RelV y u → R x y H2 → wpAny (model X.prog X.w) X.A (f v u) Q X.xe s2) :
    wpAny (model X.prog X.w) X.A (eval a X.env) (fun v s₁ => wpAny (model X.prog X.w) X.A (eval b X.env) (fun u s₂ => wpAny (model X.prog X.w) X.A (f v u) Q X.xe s₂) X.xe s₁) X.xe s := by
  refine thn (ha pins s σ H _ I h) fun v s1 ⟨x, H1, I1, r1, q1⟩ => ?_
  refine thn (hb pins s1 σ H1 _ I1 q1) fun u s2 ⟨y, H2, I2, r2, q2⟩ => ?_
  exact hf v u s2 x y H2 I2 r1 r2 q2
theorem pe_op {op : Operator} {r : R2} (ho : OpR X (binaryOp op) r) (ha : PE X a ta) (hb : PE X b tb) : PE X (.BinOp a op b pos) (tOp r ta tb) := by
  intro pins s σ H Q I h
  exact wpAny_BinOp (binT ha hb I h fun v u s2 x y H2 I2 rx ry q => ho pins s2 σ H2 x y v u Q I2 rx ry q)
theorem pe_un {op : UnaryOp} {r : V → Hp → VK → Prop} (ho : UnR X (unaryOp op) r) (ha : PE X a ta) : PE X (.UnaryOp op a pos) (tUn r ta) := by
  intro pins s σ H Q I h
  exact UnaryOp_ (thn (ha pins s σ H _ I h) fun v s1 ⟨x, H1, I1, r1, q1⟩ => ho pins s1 σ H1 x v Q I1 r1 q1)
theorem opI {f : Value → Value → Sem Value} {C : Int → Int → Prop} {g : Int → Int → Int}
    (rule : ∀ (i j : Int) (t u : Tok) (s : Shared) (Q : Value → Shared → Prop) (E : Value → Shared → Prop), C i j → Q (.int (g i j) s.toks) { s with toks := s.toks + 1 } → wpAny (model X.prog X.w) X.A (f (.int i t) (.int j u)) Q E s) :
    OpR X f (rI C fun i j => .int (g i j)) := by
  intro pins s σ H x y v u Q I rx ry h
  obtain ⟨i, j, rfl, rfl, hc, q⟩ := h
  obtain ⟨t, rfl⟩ := rx
  obtain ⟨t', rfl⟩ := ry
  exact rule i j t t' s _ _ hc ⟨.int (g i j), H, I.tok _, ⟨_, rfl⟩, q⟩
theorem opI0 {f : Value → Value → Sem Value} {g : Int → Int → Int}
    (rule : ∀ (i j : Int) (t u : Tok) (s : Shared) (Q : Value → Shared → Prop) (E : Value → Shared → Prop), Q (.int (g i j) s.toks) { s with toks := s.toks + 1 } → wpAny (model X.prog X.w) X.A (f (.int i t) (.int j u)) Q E s) :
    OpR X f (rI0 fun i j => .int (g i j)) := by
  intro pins s σ H x y v u Q I rx ry h
  obtain ⟨i, j, rfl, rfl, q⟩ := h
  obtain ⟨t, rfl⟩ := rx
  obtain ⟨t', rfl⟩ := ry
  exact rule i j t t' s _ _ ⟨.int (g i j), H, I.tok _, ⟨_, rfl⟩, q⟩
theorem opB0 {f : Value → Value → Sem Value} {g : Int → Int → Bool}
    (rule : ∀ (i j : Int) (t u : Tok) (s : Shared) (Q : Value → Shared → Prop) (E : Value → Shared → Prop), Q (.bool (g i j)) s → wpAny (model X.prog X.w) X.A (f (.int i t) (.int j u)) Q E s) :
    OpR X f (rI0 fun i j => .bl (g i j)) := by
  intro pins s σ H x y v u Q I rx ry h
  obtain ⟨i, j, rfl, rfl, q⟩ := h
  obtain ⟨t, rfl⟩ := rx
  obtain ⟨t', rfl⟩ := ry
  exact rule i j t t' s _ _ ⟨.bl (g i j), H, I, rfl, q⟩
noncomputable def CDiv (i j : Int) : Prop := 0 < j ∧ j < 1073741824
noncomputable def CPow (i j : Int) : Prop := 0 ≤ j ∧ j ≤ 1000000 ∧ i.natAbs < 2 ^ 64
noncomputable def CMul (i j : Int) : Prop := (-(2 ^ 64) < i ∧ i < 2 ^ 64) ∨ (-(2 ^ 64) < j ∧ j < 2 ^ 64)
theorem CMul.ok {i j : Int} (h : CMul i j) : IntMulOk i j := by
  rcases h with ⟨h1, h2⟩ | ⟨h1, h2⟩
  · exact .of_left (intBits_le_64 h1 h2)
  · exact .of_right (intBits_le_64 h1 h2)
theorem op_add : OpR X (binaryOp .Add) (rI0 fun i j => .int (i + j)) := opI0 fun _ _ _ _ _ _ _ q => add_int q
theorem op_sub : OpR X (binaryOp .Sub) (rI0 fun i j => .int (i - j)) := opI0 fun _ _ _ _ _ _ _ q => sub_int q
theorem op_mul : OpR X (binaryOp .Mult) (rI CMul fun i j => .int (i * j)) := opI fun _ _ _ _ _ _ _ hc q => mul_int q hc.ok
theorem op_fdiv : OpR X (binaryOp .FloorDiv) (rI CDiv fun i j => .int (i / j)) := opI fun i j _ _ _ _ _ hc q => by
  have h1 : (0 : Int) < j := hc.1
  have h2 : j < 1073741824 := hc.2
  exact floordiv_int (by omega) (by rw [Int.fdiv_eq_ediv_of_nonneg i (by omega)]; exact q) (.inl (PyProof.noPylong_small (by omega)))
theorem op_mod : OpR X (binaryOp .Mod) (rI (fun _ j => 0 < j) fun i j => .int (i % j)) := opI fun i j _ _ _ _ _ hc q => by
  have h1 : (0 : Int) < j := hc
  exact mod_int' (by omega) (by rw [Int.fmod_eq_emod_of_nonneg i (by omega)]; exact q)
theorem op_pow : OpR X (binaryOp .Pow) (rI CPow fun i j => .int (i ^ j.toNat)) := opI fun _ _ _ _ _ _ _ hc q => pow_int_small hc.1 hc.2.1 hc.2.2 q
theorem unI {f : Value → Sem Value} {g : Int → Int}
    (rule : ∀ (i : Int) (t : Tok) (s : Shared) (Q : Value → Shared → Prop) (E : Value → Shared → Prop), Q (.int (g i) s.toks) { s with toks := s.toks + 1 } → wpAny (model X.prog X.w) X.A (f (.int i t)) Q E s) :
    UnR X f (rU fun i => .int (g i)) := by
  intro pins s σ H x v Q I rx h
  obtain ⟨i, rfl, q⟩ := h
  obtain ⟨t, rfl⟩ := rx
  exact rule i t s _ _ ⟨.int (g i), H, I.tok _, ⟨_, rfl⟩, q⟩
theorem un_neg : UnR X (unaryOp .USub) (rU fun i => .int (-i)) := unI fun _ _ _ _ _ q => neg_int q
end
noncomputable def scal : V → V → Bool
  | .non, .non => true | .non, .int _ => true | .int _, .non => true | .non, .bl _ => true | .bl _, .non => true | .non, .str _ => true | .str _, .non => true
  | .int _, .int _ => true | .bl _, .bl _ => true | .str _, .str _ => true | .byt _, .byt _ => true
  | .int _, .str _ => true | .str _, .int _ => true | .bl _, .str _ => true | .str _, .bl _ => true
  | _, _ => false
noncomputable def rEq : R2 := fun x y H Q => scal x y = true ∧ Q (.bl (decide (x = y))) H
theorem dec_int {i j : Int} : decide (V.int i = V.int j) = (i == j) := by
  rw [Bool.eq_iff_iff]
  simp
theorem dec_bl {i j : Bool} : decide (V.bl i = V.bl j) = (i == j) := by
  rw [Bool.eq_iff_iff]
  simp
theorem dec_str {i j : Str} : decide (V.str i = V.str j) = (i == j) := by
  rw [Bool.eq_iff_iff]
  simp
theorem dec_byt {i j : Array UInt8} : decide (V.byt i = V.byt j) = (i.toList == j.toList) := by
  rw [Bool.eq_iff_iff]
  cases i
  cases j
  simp
section
variable {X : Cx} {a b c : Expr} {ta tb tc : TE} {pos : Pos}
theorem fin_bl {pins : List (Addr × Obj)} {σ : St} {H : Hp} {s : Shared} {Q : VK} {k k' : Bool} (I : Inv X pins σ H s) (q : Q (.bl k) H) (e : k = k') : EP X pins σ Q (.bool k') s := by
  subst e
  exact ⟨.bl k, H, I, rfl, q⟩
theorem op_eq : OpR X (compareOp .Eq) rEq := by
  intro pins s σ H x y v u Q I rx ry h
  obtain ⟨hs, q⟩ := h
  cases x with
  | non =>
    cases rx
    cases y with
    | non => cases ry; exact PySem.EqNone.eq_none_none (fin_bl I q (by simp))
    | bl j => cases ry; exact PySem.EqNone.eq_none_bool (fin_bl I q (by simp))
    | int j => obtain ⟨t', rfl⟩ := ry; exact PySem.EqNone.eq_none_int (fin_bl I q (by simp))
    | str j => obtain ⟨t', rfl⟩ := ry; exact PySem.EqNone.eq_none_str (fin_bl I q (by simp))
    | _ => exact absurd (show false = true from hs) Bool.false_ne_true
  | bl i =>
    cases rx
    cases y with
    | non => cases ry; exact PySem.EqNone.eq_bool_none (fin_bl I q (by simp))
    | bl j => cases ry; exact eq_bool (fin_bl I q dec_bl)
    | str j => obtain ⟨t', rfl⟩ := ry; exact PySem.EqMixed.eq_bool_str (fin_bl I q (by simp))
    | _ => exact absurd (show false = true from hs) Bool.false_ne_true
  | int i =>
    obtain ⟨t, rfl⟩ := rx
    cases y with
    | non => cases ry; exact PySem.EqNone.eq_int_none (fin_bl I q (by simp))
    | int j => obtain ⟨t', rfl⟩ := ry; exact eq_int (fin_bl I q dec_int)
    | str j => obtain ⟨t', rfl⟩ := ry; exact PySem.EqMixed.eq_int_str (fin_bl I q (by simp))
    | _ => exact absurd (show false = true from hs) Bool.false_ne_true
  | str i =>
    obtain ⟨t, rfl⟩ := rx
    cases y with
    | non => cases ry; exact PySem.EqNone.eq_str_none (fin_bl I q (by simp))
    | bl j => cases ry; exact PySem.EqMixed.eq_str_bool (fin_bl I q (by simp))
    | int j => obtain ⟨t', rfl⟩ := ry; exact PySem.EqMixed.eq_str_int (fin_bl I q (by simp))
    | str j => obtain ⟨t', rfl⟩ := ry; exact eq_str (fin_bl I q dec_str)
    | _ => exact absurd (show false = true from hs) Bool.false_ne_true
  | byt i =>
    obtain ⟨t, rfl⟩ := rx
    cases y with
    | byt j => obtain ⟨t', rfl⟩ := ry; exact PySem.W.eq_bytes (fin_bl I q dec_byt)
    | _ => exact absurd (show false = true from hs) Bool.false_ne_true
  | _ => cases y <;> exact absurd (show false = true from hs) Bool.false_ne_true
theorem op_lt : OpR X (compareOp .Lt) (rI0 fun i j => .bl (decide (i < j))) := opB0 fun _ _ _ _ _ _ _ q => lt_int q
theorem op_le : OpR X (compareOp .LtE) (rI0 fun i j => .bl (decide (i ≤ j))) := opB0 fun _ _ _ _ _ _ _ q => le_int q
theorem op_gt : OpR X (compareOp .Gt) (rI0 fun i j => .bl (decide (j < i))) := opB0 fun _ _ _ _ _ _ _ q => gt_int q
theorem nomark (b : Expr) {op : CmpOp} (h : op ≠ .In := by decide) (h2 : op ≠ .NotIn := by decide) : behindInMarks op b = false := by
  have e1 : (op == CmpOp.In) = false := by cases op <;> first | rfl | exact absurd rfl h
  have e2 : (op == CmpOp.NotIn) = false := by cases op <;> first | rfl | exact absurd rfl h2
  cases b <;> simp [behindInMarks, e1, e2]
theorem pe_cmpR {op : CmpOp} {r : R2} (ho : OpR X (compareOp op) r) (ha : PE X a ta) (hb : PE X b tb) (hm : behindInMarks op b = false) : PE X (.Compare a [op] [b] pos) (tOp r ta tb) := by
  intro pins s σ H Q I h
  exact wpAny_Compare1 (binT ha hb I h fun v u s2 x y H2 I2 rx ry q => ho pins s2 σ H2 x y v u Q I2 rx ry q) hm
noncomputable def tTest (t : TE) : TT := fun σ H Q => t σ H fun x H' => ∃ k, x = .bl k ∧ Q k H'
theorem pt_cmpR {op : CmpOp} {r : R2} (ho : OpR X (compareOp op) r) (ha : PE X a ta) (hb : PE X b tb) (hm : behindInMarks op b = false) : PT X (.Compare a [op] [b] pos) (tTest (tOp r ta tb)) := by
  intro pins s σ H Q I h
  refine wpAny_isTrue_Compare1 (thn (ha pins s σ H _ I h) fun v s1 ⟨x, H1, I1, r1, q1⟩ => thn (hb pins s1 σ H1 _ I1 q1) fun u s2 ⟨y, H2, I2, r2, q2⟩ =>
    thn (ho pins s2 σ H2 x y v u _ I2 r1 r2 q2) fun c s3 ⟨z, H3, I3, r3, k, e, q3⟩ => ?_) hm
  subst e
  cases r3
  exact wpAny_truthy_bool ⟨H3, I3, q3⟩
theorem line63 : (sizeLine : Nat) < 2 ^ 63 := by rw [sizeLine_eq]; decide
theorem vals1 {x : V} {us : List Value} (r : Vals [x] us) : ∃ u, us = [u] ∧ RelV x u := by
  cases r with
  | cons r1 r2 => cases r2; exact ⟨_, rfl, r1⟩
theorem vals2 {x y : V} {us : List Value} (r : Vals [x, y] us) : ∃ u w', us = [u, w'] ∧ RelV x u ∧ RelV y w' := by
  cases r with
  | cons r1 r2 =>
    cases r2 with
    | cons r3 r4 => cases r4; exact ⟨_, _, rfl, r1, r3⟩
theorem call_int1 : CallR X (.type "int") (fun xs H Q => (∃ i, xs = [.int i] ∧ Q (.int i) H) ∨ ∃ k, xs = [.bl k] ∧ Q (.int (if k then 1 else 0)) H) := by
  intro pins s σ H xs us Q I r h
  rcases h with ⟨i, rfl, q⟩ | ⟨k, rfl, q⟩
  · obtain ⟨u, rfl, t, rfl⟩ := vals1 r
    exact call_int_int ⟨.int i, H, I, ⟨_, rfl⟩, q⟩
  · obtain ⟨u, rfl, r1⟩ := vals1 r
    cases r1
    exact call_int_bool ⟨.int (if k then 1 else 0), H, I.tok _, ⟨_, rfl⟩, q⟩
end
end L2
namespace L2
open PySem PySem.Spec PyProof.Rows
structure ObjM (h : Heap) (x dx C : Addr) (mA : Str → Option Value) : Prop where
  obj : h.get? x = some (PySem.W.instObj C dx)
  ns : h.Ns1 dx mA
  ne : dx ≠ x
theorem lookIn_ns {h : Heap} {dx : Addr} {mA : Str → Option Value} (n : h.Ns1 dx mA) : ∃ od, h.get? dx = some od ∧ ∀ name, PySem.W.lookIn name od = some (mA name) := by
  obtain ⟨o, es, ep, ho, hd, hk, _, hm⟩ := n
  refine ⟨o, ho, fun name => ?_⟩
  have e := hm name
  unfold nsFind findBy at e
  rw [← Array.find?_toList] at e
  unfold PySem.W.lookIn
  rw [hd]
  dsimp only
  split
  · rename_i y q
    rw [q] at e
    exact congrArg some e
  · rename_i q
    rw [q] at e
    have a : es.toList.any (·.refKey) = false := by
      rw [List.any_eq_false]
      intro y hy
      obtain ⟨z, t, hkey⟩ := hk y (Array.mem_toList_iff.mp hy)
      simp [DictEntry.refKey, hkey]
    have a' : ¬ es.toList.any (·.refKey) = true := by rw [a]; exact Bool.false_ne_true
    rw [if_neg a']
    exact congrArg some e
theorem ObjM.look {h : Heap} {x dx C : Addr} {mA : Str → Option Value} (I : ObjM h x dx C mA) : ∃ od, PySem.W.InstAt h x (PySem.W.instObj C dx) C (some od) ∧ ∀ name, PySem.W.lookIn name od = some (mA name) :=
  let ⟨od, ho, hl⟩ := lookIn_ns I.ns
  ⟨od, ⟨I.obj, rfl, rfl, ho⟩, hl⟩
section
variable {prog : Program} {w : World} {A : Around} {E : Value → Shared → Prop} {s : Shared} {K : PySem.W.Frag} {x dx C f : Addr} {mA : Str → Option Value} {name : Str} {v : Value}
end
noncomputable def putF (f : Str) (v : V) : List (Str × V) → List (Str × V)
  | [] => [(f, v)]
  | (g, x) :: r => if g = f then (g, v) :: r else (g, x) :: putF f v r
section
variable {P : Program} {w : World} {H H' : Hp} {h h' : Heap} {a C dx : Addr} {fs fs' : List (Str × V)}
theorem ins_get (hok : HOk P w H h) (e : H a = some (.ins C dx fs)) : ∃ mA, ObjM h a dx C mA ∧ (∀ f, RelO (fs.lookup f) (mA f)) ∧ PySem.Within mA (fs.map (·.1)) ∧ fs.length ≤ 1000 ∧ H dx = some (.own a) := by
  obtain ⟨d, z, ne, ob, mA, n, r, q⟩ := (show ObjOk P w H h a (.ins C dx fs) from hok a _ e)
  exact ⟨mA, ⟨ob, n, ne⟩, r, q, z, d⟩
end
structure Cls (K : PySem.W.Frag) (C : Addr) : Prop where
  pg : PySem.W.plainGet K C Str.empty = true
  hd : PySem.W.hasDictIn K C = true
  po : PySem.W.plainOver K C = true
  sa : PySem.W.findIn K (.ref C) "__setattr__" = some (some (.builtin "object.__setattr__"))
theorem Cls.get {K : PySem.W.Frag} {C : Addr} (c : Cls K C) (f : Str) : PySem.W.plainGet K C f = true := c.pg
section
variable {X : Cx} {pins : List (Addr × Obj)} {σ : St} {H : Hp} {s : Shared} {a C dx : Addr} {fs : List (Str × V)} {f : Str} {v : V} {A : Around} {E : Value → Shared → Prop}
end
section
variable {X : Cx} {o e value : Expr} {f : Str} {pos pos' tpos : Pos} {ta tv : TE}
end
section
variable {X : Cx} {pins : List (Addr × Obj)} {σ : St} {H : Hp} {s : Shared} {A : Around} {E : Value → Shared → Prop} {Q : Value → Shared → Prop} {c : Value} {b : Bool}
inductive TyOf (K : PySem.W.Frag) (H : Hp) : V → Value → Prop where
  | non : TyOf K H .non (.type "NoneType")
  | bl (x : Bool) : TyOf K H (.bl x) (.type "bool")
  | int (i : Int) : TyOf K H (.int i) (.type "int")
  | str (x : Str) : TyOf K H (.str x) (.type "str")
  | flt (x : UInt64) : TyOf K H (.flt x) (.type "float")
  | lst {a : Addr} {xs : List V} (e : H a = some (.lst xs)) : TyOf K H (.ref a) (.type "list")
  | frz {a : Addr} {o : Obj} {xs : List V} (e : H a = some (.frz o (.lst xs))) : TyOf K H (.ref a) (.type "list")
  | tup {a : Addr} {xs : List V} (e : H a = some (.tup xs)) : TyOf K H (.ref a) (.type "tuple")
  | dK {a : Addr} {kvs : List (Key × V)} (e : H a = some (.dK kvs)) : TyOf K H (.ref a) (.type "dict")
  | dT {a : Addr} {kvs : List (List Key × V)} (e : H a = some (.dT kvs)) : TyOf K H (.ref a) (.type "dict")
  | ins {a C dx : Addr} {fs : List (Str × V)} (e : H a = some (.ins C dx fs)) (cl : Cls K C) (ha : PySem.W.findIn K (.ref C) "__class__" = some (some (.builtin "object.__class__")))
      (hn : PySem.W.specialIn K (.builtin "object.__class__") "__get__" = some (some (.builtin "getset_descriptor.__get__"))) (htk : PySem.W.takesIn K (.builtin "object.__class__") = some true)
      (hm : PySem.W.mroIn K C (.type "object") = some true) : TyOf K H (.ref a) (.ref C)
theorem isinst_ok {x : V} {u t : Value} (I : Inv X pins σ H s) (rx : RelV x u) (ty : TyOf X.K H x t) (e : PySem.W.kitOne X.K t c = some b) (h : ∀ tk, Q (.bool b) { s with toks := tk }) :
    wpAny (model X.prog X.w) A (call (.builtin "isinstance") [u, c]) Q E s := by
  cases ty with
  | non => cases (show u = Value.none from rx); exact PySem.W.kia_one PySem.W.kitx_none I.kIn True.intro e (fun z => nomatch z) h
  | bl y => cases (show u = Value.bool y from rx); exact PySem.W.kia_one PySem.W.kitx_bool I.kIn True.intro e (fun z => nomatch z) h
  | int i => obtain ⟨t, q⟩ := (show ∃ t, u = Value.int i t from rx); cases q; exact PySem.W.kia_one PySem.W.kitx_int I.kIn True.intro e (fun z => nomatch z) h
  | str y => obtain ⟨t, q⟩ := (show ∃ t, u = Value.str y t from rx); cases q; exact PySem.W.kia_one PySem.W.kitx_str I.kIn True.intro e (fun z => nomatch z) h
  | flt y => obtain ⟨t, q⟩ := (show ∃ t, u = Value.float y t from rx); cases q; exact PySem.W.kia_one PySem.W.kitx_float I.kIn True.intro e (fun z => nomatch z) h
  | @lst a xs ea =>
    cases (show u = Value.ref a from rx)
    obtain ⟨_, _, n, _, h1⟩ := (show ObjOk X.prog X.w H s.heap a (.lst xs) from I.hok a _ ea)
    exact PySem.W.kia_one PySem.W.kitx_list I.kIn ⟨_, h1, rfl⟩ e (fun z => nomatch z) h
  | @frz a ob xs ea =>
    cases (show u = Value.ref a from rx)
    obtain ⟨_, _, _, n, _, h1⟩ := (show ObjOk X.prog X.w H s.heap a (.frz ob (.lst xs)) from I.hok a _ ea)
    exact PySem.W.kia_one PySem.W.kitx_list I.kIn ⟨_, h1, rfl⟩ e (fun z => nomatch z) h
  | @tup a xs ea =>
    cases (show u = Value.ref a from rx)
    obtain ⟨_, _, _, p⟩ := (show ObjOk X.prog X.w H s.heap a (.tup xs) from I.hok a _ ea)
    obtain ⟨o, h1, h2, _⟩ := p
    exact PySem.W.kia_one PySem.W.kitx_tuple I.kIn ⟨o, h1, h2⟩ e (fun z => nomatch z) h
  | @dK a kvs ea =>
    cases (show u = Value.ref a from rx)
    obtain ⟨_, _, vs, _, p⟩ := (show ObjOk X.prog X.w H s.heap a (.dK kvs) from I.hok a _ ea)
    obtain ⟨o, es, ep, h1, h2, _⟩ := p
    exact PySem.W.kia_one PySem.W.kitx_dict I.kIn ⟨o, h1, h2.1⟩ e (fun z => nomatch z) h
  | @dT a kvs ea =>
    cases (show u = Value.ref a from rx)
    obtain ⟨_, _, xs, _, o, es, ep, h1, h2, _⟩ := (show ObjOk X.prog X.w H s.heap a (.dT kvs) from I.hok a _ ea)
    exact PySem.W.kia_one PySem.W.kitx_dict I.kIn ⟨o, h1, h2.1⟩ e (fun z => nomatch z) h
  | @ins a C dx fs ea cl ha hn htk hm =>
    cases (show u = Value.ref a from rx)
    obtain ⟨mA, O, _⟩ := ins_get I.hok ea
    obtain ⟨od, J, _⟩ := O.look
    exact PySem.W.kia_one (PySem.W.kitx_own (cl.get _) cl.hd ha hn htk hm) I.kIn J e (fun z => nomatch z) h
end
end L2
namespace L2
open PySem PySem.Spec PyProof.Rows
structure Room (k : Nat) (A : Around) : Prop where
  hd : A.handled = none
  dp : A.depth + 3 * k + 5 < recursionLimit
  un : A.units + 16 * k + 200 < cLine
  gd : A.guards = some []
theorem Room.mono {j k : Nat} {A : Around} (r : Room k A) (h : j ≤ k) : Room j A := ⟨r.hd, by have := r.dp; omega, by have := r.un; omega, r.gd⟩
theorem Room.deeper {k : Nat} {A : Around} (r : Room (k + 1) A) (env : Env) : Room k (A.deeper env) :=
  ⟨r.hd, by have := r.dp; show A.depth + 1 + 3 * k + 5 < _; omega, by have := r.un; show A.units + 3 + 16 * k + 200 < _; omega, r.gd⟩
theorem Room.depth {k : Nat} {A : Around} (r : Room k A) : A.depth < recursionLimit := by have := r.dp; omega
theorem Room.units {k : Nat} {A : Around} (r : Room k A) : A.units + 64 < cLine := by have := r.un; omega
noncomputable def tNil : TA := fun _ H Q => Q [] H
noncomputable def tCons (ta : TE) (tr : TA) : TA := fun σ H Q => ta σ H fun x H1 => tr σ H1 fun xs H2 => Q (x :: xs) H2
section
variable {X : Cx} {e : Expr} {es : List Expr} {te : TE} {t : TA} {pos : Pos}
theorem pa_nil : PA X [] tNil := fun _ _ _ _ H Q I h => Calls.spliced_nil ⟨[], H, I, .nil, h⟩
theorem pa_cons (ha : PE X e te) (hr : PA X es t) (hs : starEach (e :: es) X.env = (false, eval e X.env) :: starEach es X.env := by rfl) : PA X (e :: es) (tCons te t) := by
  intro pos pins s σ H Q I h
  rw [hs]
  show wpAny _ _ (spliced ((false, eval e X.env) :: backTo pos (starEach es X.env))) _ _ s
  refine Calls.spliced_cons (thn (ha pins s σ H _ I h) fun u s1 ⟨x, H1, I1, r1, q1⟩ => ?_)
  exact thn (hr pos pins s1 σ H1 _ I1 q1) fun us s2 ⟨xs, H2, I2, r2, q2⟩ => ⟨x :: xs, H2, I2, .cons r1 r2, q2⟩
noncomputable def tTup (t : TA) : TE := fun σ H Q => t σ H fun xs H1 => xs.length ≤ sizeLine ∧ ∀ p, H1 p = none → Q (.ref p) (upd H1 p (.tup xs))
noncomputable def tLst (t : TA) : TE := fun σ H Q => t σ H fun xs H1 => xs.length ≤ sizeLine ∧ ∀ p, H1 p = none → Q (.ref p) (upd H1 p (.lst xs))
theorem pe_tup {x1} (h : PA X es t) : PE X (.Tuple es x1 pos) (tTup t) := by
  intro pins s σ H Q I hq
  refine wpAny_Tuple_spliced (thn (h pos pins s σ H _ I hq) fun us s1 ⟨xs, H1, I1, r, z, q⟩ => ⟨by rw [← r.length]; exact z, ?_⟩)
  have hf : H1 s1.heap.objs.size = none := I1.hok.fresh (Nat.le_refl _)
  refine ⟨.ref s1.heap.objs.size, upd H1 s1.heap.objs.size (.tup xs), I1.laid (t' := s1.toks) (fun b u e => Heap.get?_push_of_some _ e) (Nat.le_refl _) ?_, rfl, q _ hf⟩
  exact ⟨z, us, r, ⟨_, Heap.get?_push_size _ rfl, rfl, _, rfl⟩⟩
theorem pe_lst (h : PA X es t) : PE X (.List es pos) (tLst t) := by
  intro pins s σ H Q I hq
  refine wpAny_List_spliced (thn (h pos pins s σ H _ I hq) fun us s1 ⟨xs, H1, I1, r, z, q⟩ => ⟨by rw [← r.length]; exact z, ?_⟩)
  have hf : H1 s1.heap.objs.size = none := I1.hok.fresh (Nat.le_refl _)
  refine ⟨.ref s1.heap.objs.size, upd H1 s1.heap.objs.size (.lst xs), I1.laid (t' := s1.toks) (fun b u e => Heap.get?_push_of_some _ e) (Nat.le_refl _) ?_, rfl, q _ hf⟩
  exact ⟨z, us, 0, r, Heap.get?_push_size _ rfl⟩
end
noncomputable abbrev Sp := List V → Hp → VK → XK → Prop
noncomputable abbrev CXT := List Env → Hp → Shared → XK → Value → Shared → Prop
structure Env0 (P : Program) (w : World) (K : PySem.W.Frag) (mg : Str → Option Value) (base : Heap) (A : Around) (outer : List Env) (s : Shared) (H : Hp) : Prop where
  frames : A.frames = some outer
  mod : Mod K mg base
  bs : ∀ b o, base.get? b = some o → s.heap.get? b = some o ∧ H b = none
  bsz : base.objs.size ≤ s.heap.objs.size
  funs : s.heap.FunFrames base outer
  frf : ∀ b ∈ frs outer, H b = none
  hok : HOk P w H s.heap
  bare : AllBare s.gens
noncomputable def CE (outer : List Env) (P : Program) (w : World) (H : Hp) (s : Shared) (Q : VK) (u : Value) (s' : Shared) : Prop :=
  ∃ v H', s'.os = s.os ∧ AllBare s'.gens ∧ Un (frs outer) [] H H' s.heap s'.heap ∧ HOk P w H' s'.heap ∧ RelV v u ∧ Q v H'
noncomputable def CR (CX : CXT) (outer : List Env) (P : Program) (w : World) (H : Hp) (s : Shared) (Q : VK) (E : XK) (r : Result) (s' : Shared) : Prop :=
  match r with
  | .ok (.ret u) => CE outer P w H s Q u s'
  | .ok _ => False
  | .error e => CX outer H s E e s'
structure FnOk (P : Program) (w : World) (K : PySem.W.Frag) (mg : Str → Option Value) (base : Heap) (CX : CXT) (k : Nat) (f : Addr) (fd : FuncData) (ps : List Str) (sp : Sp) : Prop where
  len : ∀ vs H Q E, sp vs H Q E → vs.length = ps.length
  run : ∀ (A : Around) (outer : List Env) (s : Shared) (H : Hp) (args : Args) (us : List Value) (vs : List V) (Q : VK) (E : XK), Room k A → Env0 P w K mg base A outer s H → BindsTo s fd args (ps.zip us) → Vals vs us → sp vs H Q E →
    codeAny (model P w) A (.call (.ref f) args) (CR CX outer P w H s Q E) s
section
variable {X : Cx} {pins : List (Addr × Obj)} {σ : St} {H : Hp} {s s' : Shared}
theorem Inv.env0 (I : Inv X pins σ H s) : Env0 X.prog X.w X.K X.mg X.base X.A X.stack s H :=
  ⟨I.ok.frames, I.ok.mod, I.bs, Nat.le_trans I.ok.bsz I.sz, I.stack, I.stkFree, I.hok, I.bare⟩
theorem Inv.after {Q : VK} {u : Value} (I : Inv X pins σ H s) (h : CE X.stack X.prog X.w H s Q u s') : EP X pins σ Q u s' := by
  obtain ⟨v, H', os, bare, un, hok, r, q⟩ := h
  obtain ⟨hh, g, d, t, os'⟩ := s'
  obtain rfl : os' = s.os := os
  exact ⟨v, H', I.call (h' := hh) (g' := g) (d' := d) (t' := t) (ch := []) un hok bare (fun b z => absurd z (by simp)), r, q⟩
end
noncomputable def tCall (sp : Sp) (dvs : List V) (E : XK) (t : TA) : TE := fun σ H Q => t σ H fun vs H1 => sp (vs ++ dvs) H1 Q E
noncomputable def Binds (K : PySem.W.Frag) (fd : FuncData) (ps : List Str) (ds : List Value) : Prop :=
  ∀ (s : Shared) (us : List Value), K.In s.heap → (us ++ ds).length = ps.length → BindsTo s fd ⟨us, []⟩ (ps.zip (us ++ ds))
theorem Binds.all {K : PySem.W.Frag} {fd : FuncData} {ps : List Str} (h : ∀ us : List Value, us.length = ps.length → bindArgs fd ⟨us, []⟩ = pure (ps.zip us)) : Binds K fd ps [] := fun s us _ hl => by
  rw [List.append_nil] at hl ⊢
  exact .of_eq (h us hl)
noncomputable def Passes (CX : CXT) (X : Cx) (E : XK) : Prop := ∀ (pins : List (Addr × Obj)) (σ : St) (H : Hp) (s : Shared) (e : Value) (s' : Shared), Inv X pins σ H s → CX X.stack H s E e s' → X.xe e s'
section
variable {X : Cx} {CX : CXT} {k : Nat} {f C : Addr} {fd : FuncData} {ps : List Str} {sp : Sp} {dvs : List V} {ds : List Value} {E : XK} {x m : Str} {p pos apos : Pos} {e o : Expr} {es : List Expr} {ta : TE} {t : TA}
theorem run_fn {pins : List (Addr × Obj)} {σ : St} {H : Hp} {s : Shared} {Q : VK} {us : List Value} {vs : List V} (F : FnOk X.prog X.w X.K X.mg X.base CX k f fd ps sp) (hr : Room k X.A) (hb : Binds X.K fd ps ds) (hd : Vals dvs ds) (hx : Passes CX X E)
    (I : Inv X pins σ H s) (r : Vals vs us) (h : sp (vs ++ dvs) H Q E) : wpAny (model X.prog X.w) X.A (call (.ref f) us) (EP X pins σ Q) X.xe s := by
  have r2 : Vals (vs ++ dvs) (us ++ ds) := r.append hd
  have hl : (us ++ ds).length = ps.length := by rw [← r2.length]; exact F.len _ _ _ _ h
  refine wpAny_call (codeAny_mono (F.run X.A X.stack s H ⟨us, []⟩ (us ++ ds) (vs ++ dvs) Q E hr I.env0 (hb s us I.kIn hl) r2 h) fun r s' hq => ?_)
  cases r with
  | error e => exact hx pins σ H s e s' I hq
  | ok fl =>
    cases fl with
    | ret u => exact I.after hq
    | next => exact False.elim hq
    | brk => exact False.elim hq
    | cont => exact False.elim hq
theorem pe_call (F : FnOk X.prog X.w X.K X.mg X.base CX k f fd ps sp) (hr : Room k X.A) (hg : Gl X x) (hm : X.mg x = some (.ref f)) (hk : PySem.W.keepIn X.K (.ref f) = true) (hb : Binds X.K fd ps ds) (hd : Vals dvs ds) (hx : Passes CX X E)
    (ha : PA X (e :: es) t) (hdb : (x == ("__debug__" : Str)) = false := by decide) (he : starEach (e :: es) X.env = (false, eval e X.env) :: starEach es X.env := by rfl) (hpl : (backTo pos (starEach es X.env)).any (·.1) = false := by rfl) :
    PE X (.Call (.Name x p) (e :: es) [] pos) (tCall sp dvs E t) := by
  intro pins s σ H Q I h
  refine wpAny_Call_Name_kw (ld_glob I hg hm ?_ hdb)
  refine PySem.W.callWith_K (h₀ := X.base) I.ok.mod.kin hk (thn (ha pos pins s σ H _ I h) fun us s1 ⟨vs, H1, I1, r, q⟩ => ⟨I1.kIn, ?_⟩) he hpl
  exact run_fn F hr hb hd hx I1 r q
end
section
variable {X : Cx} {CX : CXT} {k : Nat} {f C : Addr} {fd : FuncData} {ps ks : List Str} {sp : Sp} {E : XK} {x m : Str} {p pos apos kpos : Pos} {e o : Expr} {es : List Expr} {kws : List Keyword} {te ta : TE} {t tk : TA} {nm : Option Str}
variable {g : List Value → List Value → List Value} {gV : List V → List V → List V}
end
structure FnScope (N P : List Str) (sc : Scope) : Prop where
  kind : sc.kind = .function
  co : sc.isCoroutine = false
  gen : sc.isGenerator = false
  nd : N.Nodup
  pre : N.take P.length = P
  par : ∀ x ∈ P, sc.names.lookup x = some .local ∨ sc.names.lookup x = some .cell
  nofree : ∀ y ∈ sc.names, y.2 ≠ .free
theorem bindL_out {kindOf : Str → Option NameKind} {x : Str} : ∀ {binds : List (Str × Value)} {m : Str → Option Value}, (∀ v, (x, v) ∉ binds) → bindL kindOf binds m x = m x
  | [], _, _ => rfl
  | (n, v) :: r, m, h => by
    unfold bindL
    rw [bindL_out fun w hw => h w (List.mem_cons_of_mem _ hw)]
    split
    · have : x ≠ n := by rintro rfl; exact h v List.mem_cons_self
      simp [this]
    · rfl
theorem bindC_out {kindOf : Str → Option NameKind} {x : Str} : ∀ {binds : List (Str × Value)} {m : Str → Option Value}, (∀ v, (x, v) ∉ binds) → bindC kindOf binds m x = m x
  | [], _, _ => rfl
  | (n, v) :: r, m, h => by
    unfold bindC
    rw [bindC_out fun w hw => h w (List.mem_cons_of_mem _ hw)]
    split
    · rfl
    · have : x ≠ n := by rintro rfl; exact h v List.mem_cons_self
      simp [this]
theorem bindL_get {kindOf : Str → Option NameKind} {x : Str} {v : Value} : ∀ {P : List Str} {vs : List Value} {i : Nat} {m : Str → Option Value}, P.Nodup → P[i]? = some x → vs[i]? = some v → kindOf x = some .local →
    bindL kindOf (P.zip vs) m x = some v
  | [], _, _, _, _, h, _, _ => by simp at h
  | _ :: _, [], _, _, _, _, h, _ => by simp at h
  | p :: P, w :: vs, 0, m, nd, h1, h2, hk => by
    simp at h1 h2; subst h1; subst h2
    show bindL kindOf ((p, w) :: P.zip vs) m p = _
    unfold bindL
    rw [bindL_out fun v hv => (List.nodup_cons.mp nd).1 (List.of_mem_zip hv).1, if_pos hk]
    simp
  | p :: P, w :: vs, i + 1, m, nd, h1, h2, hk => by
    show bindL kindOf ((p, w) :: P.zip vs) m x = _
    unfold bindL
    exact bindL_get (i := i) (List.nodup_cons.mp nd).2 (by simpa using h1) (by simpa using h2) hk
theorem bindC_get {kindOf : Str → Option NameKind} {x : Str} {v : Value} : ∀ {P : List Str} {vs : List Value} {i : Nat} {m : Str → Option Value}, P.Nodup → P[i]? = some x → vs[i]? = some v → kindOf x ≠ some .local →
    bindC kindOf (P.zip vs) m x = some v
  | [], _, _, _, _, h, _, _ => by simp at h
  | _ :: _, [], _, _, _, _, h, _ => by simp at h
  | p :: P, w :: vs, 0, m, nd, h1, h2, hk => by
    simp at h1 h2; subst h1; subst h2
    show bindC kindOf ((p, w) :: P.zip vs) m p = _
    unfold bindC
    rw [bindC_out fun v hv => (List.nodup_cons.mp nd).1 (List.of_mem_zip hv).1, if_neg hk]
    simp
  | p :: P, w :: vs, i + 1, m, nd, h1, h2, hk => by
    show bindC kindOf ((p, w) :: P.zip vs) m x = _
    unfold bindC
    exact bindC_get (i := i) (List.nodup_cons.mp nd).2 (by simpa using h1) (by simpa using h2) hk
noncomputable def start (N : List Str) (vs : List V) : St := vs.map some ++ List.replicate (N.length - vs.length) none
noncomputable def cxOf (CX : CXT) (P : Program) (w : World) (K : PySem.W.Frag) (mg : Str → Option Value) (base : Heap) (N : List Str) (qual : Str) (scope : Scope) (f : Addr) (cd : Value) (A : Around) (outer : List Env) (s : Shared) (H : Hp) (E : XK) : Cx where
  prog := P
  w := w
  K := K
  mg := mg
  base := base
  A := A.deeper (envOfC qual scope s.heap.objs.size f cd)
  N := N
  s₀ := s
  H₀ := H
  env := envOfC qual scope s.heap.objs.size f cd
  outer := outer
  stack := envOfC qual scope s.heap.objs.size f cd :: outer
  ex := []
  calm := true
  fn := fun _ => true
  pn := []
  xe := fun e s' => wpAny (model P w) (A.deeper (envOfC qual scope s.heap.objs.size f cd)) (leaving (envOfC qual scope s.heap.objs.size f cd) e) (fun _ s'' => CX outer H s E e s'') (fun e' s'' => CX outer H s E e' s'') s'
theorem cell_has {sc : Scope} {n : Nat} {x : Str} (h : sc.names.lookup x = some .cell) : ∃ c, (cellsFrom n sc.names []).lookup x = some c := by
  have q := PySem.W.cellsFrom_some sc.names n [] (.inl h)
  exact Option.isSome_iff_exists.mp q
theorem inv_start {CX : CXT} {P : Program} {w : World} {K : PySem.W.Frag} {mg : Str → Option Value} {base : Heap} {N ps : List Str} {qual : Str} {scope : Scope} {f : Addr} {cd : Value} {A : Around} {outer : List Env} {s s1 : Shared} {H : Hp} {E : XK} {us : List Value} {vs : List V}
    (S : FnScope N ps scope) (hd : A.handled = none) (e0 : Env0 P w K mg base A outer s H) (hl : vs.length = ps.length) (r : Vals vs us)
    (x : InCallC s s.heap.objs.size (bindL (envOfC qual scope s.heap.objs.size f cd).kindOf (ps.zip us) fun _ => none) (cellsFrom (s.heap.objs.size + 1) scope.names []) (bindC (envOfC qual scope s.heap.objs.size f cd).kindOf (ps.zip us) fun _ => none) s1) :
    Inv (cxOf CX P w K mg base N qual scope f cd A outer s H E) [] (start N vs) H s1 := by
  have hpl : ps.length ≤ N.length := by have := congrArg List.length S.pre; rw [List.length_take] at this; omega
  obtain ⟨h1, tk, rfl, hk⟩ := x.done
  have noA : ∀ b : Addr, b ∉ (cxOf CX P w K mg base N qual scope f cd A outer s H E).ex := fun b z => absurd (show b ∈ ([] : List Addr) from z) (by simp)
  refine ⟨⟨e0.mod, S.kind, rfl, rfl, Nat.le_refl _, fun y z c h1 h2 => ?_, fun y hy => ?_, fun y c _ h => ?_, fun _ => hd, Around.frames_deeper e0.frames, .inr ⟨rfl, rfl⟩, fun b z => absurd z (noA b), e0.bs, e0.bsz, fun b _ _ => noA b, fun b z => absurd z (noA b), e0.funs, e0.frf⟩,
    rfl, e0.bare, Un.kept hk, ⟨_, x.toInCall.ns, fun i y v h1 h2 h3 => ?_⟩, fun y c h => ⟨_, x.cell y c h⟩, e0.hok.fresh (Nat.le_refl _), fun y c h => ?_, fun p hp => absurd (show p ∈ ([] : List (Addr × Obj)) from hp) (by simp), e0.hok.kept hk, ?_⟩
  · exact name_of_addr x.apart (PySem.mem_of_lookup h1) (PySem.mem_of_lookup h2)
  · have hy : scope.names.lookup y = some .cell ∨ scope.names.lookup y = some .free := hy
    rcases hy with hy | hy
    · exact cell_has hy
    · exact absurd rfl (S.nofree _ (PySem.mem_of_lookup hy))
  · exact Nat.le_of_lt (x.above y c (PySem.mem_of_lookup h))
  · have hi : i < vs.length := by
      unfold start at h2
      by_cases hi : i < vs.length
      · exact hi
      · rw [List.getElem?_append_right (by simpa using hi)] at h2
        rw [List.getElem?_replicate] at h2
        split at h2 <;> cases h2
    have ha : vs[i]? = some v := by
      unfold start at h2
      rw [List.getElem?_append_left (by simpa using hi), List.getElem?_map] at h2
      cases e : vs[i]? with
      | none => rw [e] at h2; cases h2
      | some a => rw [e] at h2; cases h2; rfl
    obtain ⟨u, hu, rv⟩ := r.get ha
    have hp : ps[i]? = some y := by
      rw [← S.pre, List.getElem?_take_of_lt (by omega)]; exact h1
    have ndP : ps.Nodup := by rw [← S.pre]; exact S.nd.sublist (List.take_sublist _ _)
    refine ⟨u, rv, ?_⟩
    rcases S.par y (List.mem_of_getElem? hp) with k | k
    · exact .inl ⟨k, bindL_get ndP hp hu k⟩
    · obtain ⟨c, e⟩ := cell_has (n := s.heap.objs.size + 1) k
      refine .inr ⟨.inl k, c, e, ?_⟩
      have q := x.cell y c e
      rw [bindC_get ndP hp hu (by show scope.names.lookup y ≠ _; rw [k]; decide)] at q
      exact q
  · exact e0.hok.fresh (Nat.le_of_lt (x.above y c (PySem.mem_of_lookup h)))
  · unfold start
    show _ = N.length
    rw [List.length_append, List.length_map, List.length_replicate]
    omega
theorem fn_of {CX : CXT} {P : Program} {w : World} {K : PySem.W.Frag} {mg : Str → Option Value} {base : Heap} {k : Nat} {f : Addr} {name qual : Str} {params : Arguments} {body : List Stmt} {scope : Scope} {dV kV doc pm cdv ct oc : Value} {an od : Option Addr}
    {osl : Array (Option Value)} {N ps : List Str} {sp : Sp} (lk : K.lookup f = some ⟨oc, od, .func (PySem.W.fnOf name qual params body scope dV kV doc pm an cdv ct), osl⟩) (hcd : PySem.W.codeIn K cdv qual = true) (S : FnScope N ps scope)
    (len : ∀ vs H Q E, sp vs H Q E → vs.length = ps.length)
    (hbody : ∀ (A : Around) (outer : List Env) (s : Shared) (H : Hp) (vs : List V) (Q : VK) (E : XK), Room k (A.deeper (envOfC qual scope s.heap.objs.size f cdv)) → sp vs H Q E →
      ∃ t, PSs (cxOf CX P w K mg base N qual scope f cdv A outer s H E) body t ∧ t { nx := fun _ H' => Q .non H', rt := Q } (start N vs) H) :
    FnOk P w K mg base CX (k + 1) f (PySem.W.fnOf name qual params body scope dV kV doc pm an cdv ct) ps sp := by
  refine ⟨len, fun A outer s H args us vs Q E hr e0 hb r hsp => ?_⟩
  have hl := len _ _ _ _ hsp
  have KX : K.In s.heap := e0.mod.kin.keeps fun b o e => (e0.bs b o e).1
  have lim : s.heap.NoLimit := e0.mod.nolimit.keeps fun b o e => (e0.bs b o e).1
  have hkind : ∀ y ∈ ps.zip us, scope.names.lookup y.1 = some .local ∨ (scope.names.lookup y.1 = some .cell ∧ ((cellsFrom (s.heap.objs.size + 1) scope.names []).lookup y.1).isSome = true) := fun ⟨n, v⟩ hy => by
    rcases S.par n (List.of_mem_zip hy).1 with q | q
    · exact .inl q
    · exact .inr ⟨q, PySem.W.cellsFrom_some _ _ _ (.inl q)⟩
  refine codeAny_call_function hr.depth (KX _ _ lk) rfl S.co S.gen rfl (PySem.W.codeRec_of KX hcd) (hb _ _ _ _ ?_)
  refine wpAny_newFunctionEnv_cells S.kind hkind fun env he s1 x => ?_
  subst he
  refine ⟨lim.keeps x.toInCall.keep, codeAny_func ?_⟩
  obtain ⟨t, ht, hq⟩ := hbody A outer s H vs Q E (hr.deeper _) hsp
  have I : Inv (cxOf CX P w K mg base N qual scope f cdv A outer s H E) [] (start N vs) H s1 := inv_start S hr.hd e0 hl r x
  refine wpAny_mono (ht [] s1 (start N vs) H _ I hq) (fun fl s' hs => ?_) fun e s' hs => hs
  have fin : ∀ {σ' : St} {H' : Hp} {v : V} {u : Value}, Inv (cxOf CX P w K mg base N qual scope f cdv A outer s H E) [] σ' H' s' → RelV v u → Q v H' → CE outer P w H s Q u s' :=
    fun {σ' H' v u} J rv q => ⟨v, H', J.os, J.bare, J.base, J.hok, rv, q⟩
  cases fl with
  | ret u =>
    obtain ⟨v, σ', H', J, rv, q⟩ := hs
    exact fin J rv q
  | next =>
    obtain ⟨σ', H', J, q⟩ := hs
    exact fin (v := V.non) (u := Value.none) J rfl q
  | brk =>
    obtain ⟨_, _, _, q⟩ := hs
    exact False.elim q
  | cont =>
    obtain ⟨_, _, _, q⟩ := hs
    exact False.elim q
end L2
namespace L2
open PySem PySem.Spec PyProof.Rows
section
variable {X : Cx} {x : Str} {p pos : Pos} {e : Expr} {es : List Expr} {t : TA} {id T : String} {r : List V → Hp → VK → Prop}
noncomputable def tCB (r : List V → Hp → VK → Prop) (t : TA) : TE := fun σ H Q => t σ H fun vs H1 => r vs H1 Q
theorem pe_callB (hc : CallR X (.builtin id) r) (hg : Gl X x) (hm : X.mg x = none) (hv : bootBuiltins x = some (.builtin id)) (ha : PA X (e :: es) t) (hn : x ≠ "__name__" := by decide) (hdb : (x == ("__debug__" : Str)) = false := by decide)
    (he : starEach (e :: es) X.env = (false, eval e X.env) :: starEach es X.env := by rfl) (hpl : (backTo pos (starEach es X.env)).any (·.1) = false := by rfl) : PE X (.Call (.Name x p) (e :: es) [] pos) (tCB r t) := by
  intro pins s σ H Q I h
  refine wpAny_Call_Name_kw (ld_blt I hg hm hv ?_ hn hdb)
  exact PyProof.Rows.callWith_builtin1 (thn (ha pos pins s σ H _ I h) fun us s1 ⟨vs, H1, I1, r1, q1⟩ => hc pins s1 σ H1 vs us Q I1 r1 q1) he hpl
theorem pe_callTy (hc : CallR X (.type T) r) (hg : Gl X x) (hm : X.mg x = none) (hv : bootBuiltins x = some (.type T)) (ha : PA X (e :: es) t) (hn : x ≠ "__name__" := by decide) (hdb : (x == ("__debug__" : Str)) = false := by decide)
    (he : starEach (e :: es) X.env = (false, eval e X.env) :: starEach es X.env := by rfl) (hpl : (backTo pos (starEach es X.env)).any (·.1) = false := by rfl) : PE X (.Call (.Name x p) (e :: es) [] pos) (tCB r t) := by
  intro pins s σ H Q I h
  refine wpAny_Call_Name_kw (ld_blt I hg hm hv ?_ hn hdb)
  exact PyProof.Rows.callWith_type1 (thn (ha pos pins s σ H _ I h) fun us s1 ⟨vs, H1, I1, r1, q1⟩ => hc pins s1 σ H1 vs us Q I1 r1 q1) he hpl
end
end L2
namespace HT
open PySem PyProof.Rows
section
open PySem.SeqAt
open PySem.AutoSeq1 (wpAny_loadPart')
open PySem.MeetsSeq PySem.MeetsSeq2 PySem.MeetsSeq3
end
section
variable {prog : Program} {w : World} {A : Around} {E : Value → Shared → Prop} {s : Shared}
noncomputable def sIx (n d : Nat) : Option Int → Nat
  | none => d
  | some v => if v < 0 then (v + (n : Int)).toNat else min v.toNat n
theorem sIx_none (n d : Nat) : sIx n d none = d := rfl
theorem sIx_nat (n d k : Nat) : sIx n d (some (k : Int)) = min k n := by
  show (if (k : Int) < 0 then ((k : Int) + (n : Int)).toNat else min (k : Int).toNat n) = min k n
  rw [if_neg (by omega), Int.toNat_natCast]
end
end HT
namespace L2
open PySem PySem.Spec PyProof.Rows
noncomputable abbrev TO := St → Hp → (Option Int → Hp → Prop) → Prop
noncomputable def PO (X : Cx) (e : Option Expr) (t : TO) : Prop :=
  ∀ (pins : List (Addr × Obj)) (s : Shared) (σ : St) (H : Hp) (Q : Option Int → Hp → Prop), Inv X pins σ H s → t σ H Q →
    wpAny (model X.prog X.w) X.A (evalPart e X.env) (fun u s' => ∃ o H', Inv X pins σ H' s' ∧ IsPart u o ∧ Q o H') X.xe s
noncomputable def tNoPart : TO := fun _ H Q => Q none H
noncomputable def tPart (t : TE) : TO := fun σ H Q => t σ H fun x H1 => ∃ i, x = .int i ∧ Q (some i) H1
section
variable {X : Cx} {e : Expr} {te : TE} {lo hi : Option Expr} {tl th : TO} {pos p2 : Pos}
theorem po_none : PO X none tNoPart := by
  intro pins s σ H Q I h
  rw [evalPart_none]
  exact wpAny_pure ⟨none, H, I, .none, h⟩
theorem po_some (h : PE X e te) : PO X (some e) (tPart te) := by
  intro pins s σ H Q I hw
  rw [evalPart_some]
  refine thn (h pins s σ H _ I hw) fun u s1 ⟨x, H1, I1, r1, q1⟩ => ?_
  obtain ⟨i, rfl, q⟩ := q1
  obtain ⟨t, rfl⟩ := r1
  exact ⟨some i, H1, I1, .int i t, q⟩
noncomputable def SlR (X : Cx) (r : V → Option Int → Option Int → Hp → VK → Prop) : Prop :=
  ∀ (pins : List (Addr × Obj)) (s : Shared) (σ : St) (H : Hp) (x : V) (v vl vu : Value) (lo hi : Option Int) (sl : Addr) (Q : VK), Inv X pins σ H s → RelV x v → s.heap.IsSliceOf sl vl vu .none → IsPart vl lo → IsPart vu hi → r x lo hi H Q →
    ∃ T id, typeLookup (.type T) "__getitem__" = pure (some (.builtin id)) ∧ s.TypeIs v T ∧ wpAny (model X.prog X.w) X.A (getItem v (.ref sl)) (EP X pins σ Q) X.xe s
noncomputable def tSl (r : V → Option Int → Option Int → Hp → VK → Prop) (te : TE) (tl th : TO) : TE := fun σ H Q => te σ H fun x H1 => tl σ H1 fun l H2 => th σ H2 fun u H3 => r x l u H3 Q
theorem pe_slice {r : V → Option Int → Option Int → Hp → VK → Prop} (hr : SlR X r) (he : PE X e te) (hl : PO X lo tl) (hu : PO X hi th) : PE X (.Subscript e (.Slice lo hi none p2) pos) (tSl r te tl th) := by
  intro pins s σ H Q I h
  refine Subscript_ (thn (he pins s σ H _ I h) fun v s1 ⟨x, H1, I1, r1, q1⟩ => ?_)
  refine wpAny_Slice (thn (hl pins s1 σ H1 _ I1 q1) fun vl s2 ⟨l, H2, I2, pl, q2⟩ => thn (hu pins s2 σ H2 _ I2 q2) fun vu s3 ⟨u, H3, I3, pu, q3⟩ => ?_)
  rw [evalPart_none]
  refine wpAny_pure ?_
  have I4 : Inv X pins σ H3 { s3 with heap := s3.heap.push { cls := .type "slice", data := .fields #[vl, vu, .none] } } := I3.kept (t' := s3.toks) fun b ob q => Heap.get?_push_of_some _ q
  obtain ⟨T, id, hT, ht, hg⟩ := hr pins { s3 with heap := s3.heap.push { cls := .type "slice", data := .fields #[vl, vu, .none] } } σ H3 x v vl vu l u s3.heap.objs.size Q I4 r1 (Heap.IsSliceOf.new ..) pl pu q3
  show wpAny (model X.prog X.w) X.A (subscriptTail e (.Slice lo hi none p2) v (.ref s3.heap.objs.size)) (EP X pins σ Q) X.xe { s3 with heap := s3.heap.push { cls := .type "slice", data := .fields #[vl, vu, .none] } }
  exact tail_any (ops := [.ref s3.heap.objs.size, v]) ht hT hg (by with_unfolding_all rfl)
noncomputable def cutV (xs : List V) (lo hi : Option Int) : List V := (xs.drop (HT.sIx xs.length 0 lo)).take (HT.sIx xs.length xs.length hi - HT.sIx xs.length 0 lo)
theorem cutV_length (xs : List V) (lo hi : Option Int) : (cutV xs lo hi).length ≤ xs.length := by
  unfold cutV
  rw [List.length_take, List.length_drop]
  omega
end
end L2
namespace L2
open PySem PySem.Spec PyProof.Rows
noncomputable def ixN (n : Nat) (i : Int) : Option Nat := if 0 ≤ i then (if i < n then some i.toNat else none) else if -(n : Int) ≤ i then some (i + n).toNat else none
noncomputable def atI {α : Type} (xs : List α) (i : Int) : Option α := (ixN xs.length i).bind fun j => xs[j]?
theorem ixN_seq {n : Nat} {i : Int} {j : Nat} (h : ixN n i = some j) : seqIndex? i n = some j ∧ j < n ∧ -(n : Int) ≤ i ∧ i < n := by
  unfold ixN at h
  by_cases h0 : 0 ≤ i
  · rw [if_pos h0] at h
    by_cases h1 : i < n
    · rw [if_pos h1] at h
      have e : i.toNat = j := Option.some.inj h
      exact ⟨by rw [seqIndex_of h0 h1, e], by omega, by omega, h1⟩
    · rw [if_neg h1] at h; cases h
  · rw [if_neg h0] at h
    by_cases h1 : -(n : Int) ≤ i
    · rw [if_pos h1] at h
      have e : (i + n).toNat = j := Option.some.inj h
      exact ⟨by rw [seqIndex_neg (by omega) h1, e], by omega, h1, by omega⟩
    · rw [if_neg h1] at h; cases h
theorem atI_get {α : Type} {xs : List α} {i : Int} {v : α} (h : atI xs i = some v) : ∃ j, seqIndex? i xs.length = some j ∧ xs[j]? = some v ∧ j < xs.length ∧ -(xs.length : Int) ≤ i ∧ i < xs.length := by
  unfold atI at h
  cases e : ixN xs.length i with
  | none => rw [e] at h; cases h
  | some j =>
    rw [e] at h
    obtain ⟨h1, h2, h3, h4⟩ := ixN_seq e
    exact ⟨j, h1, h, h2, h3, h4⟩
theorem atI_nat {α : Type} {xs : List α} {j : Nat} {v : α} (h : xs[j]? = some v) : atI xs (j : Int) = some v := by
  have hj : j < xs.length := (List.getElem?_eq_some_iff.mp h).1
  have e : ixN xs.length (j : Int) = some j := by
    unfold ixN
    rw [if_pos (by omega), if_pos (by omega)]; simp
  unfold atI; rw [e]; exact h
noncomputable def PlainIx (b : Expr) : Prop := ∀ o i, subscripted b false o i = operate [o, i] (getItem o i)
noncomputable def IxR (X : Cx) (r : R2) : Prop :=
  ∀ (value slice : Expr) (pins : List (Addr × Obj)) (s : Shared) (σ : St) (H : Hp) (x y : V) (v u : Value) (Q : VK), Inv X pins σ H s → RelV x v → RelV y u → r x y H Q →
    subscripted slice false v u = operate [v, u] (getItem v u) → wpAny (model X.prog X.w) X.A (subscriptTail value slice v u) (EP X pins σ Q) X.xe s
noncomputable def MtR (X : Cx) (id : String) (r : V → List V → Hp → VK → Prop) : Prop :=
  ∀ (pins : List (Addr × Obj)) (s : Shared) (σ : St) (H : Hp) (x : V) (xs : List V) (v : Value) (us : List Value) (Q : VK), Inv X pins σ H s → RelV x v → Vals xs us → r x xs H Q →
    wpAny (model X.prog X.w) X.A (call (.builtin id) (v :: us)) (EP X pins σ Q) X.xe s
section
variable {X : Cx} {a b : Expr} {ta tb : TE} {pos : Pos}
theorem pe_ix {r : R2} (hr : IxR X r) (ha : PE X a ta) (hb : PE X b tb) (hs : PlainIx b) : PE X (.Subscript a b pos) (tOp r ta tb) := by
  intro pins s σ H Q I h
  exact Subscript_ (binT ha hb I h fun v u s2 x y H2 I2 rx ry q => hr a b pins s2 σ H2 x y v u Q I2 rx ry q (hs _ _))
noncomputable def rIxL (K : PySem.W.Frag) : R2 := fun x y H Q => ∃ p xs i v, x = .ref p ∧ y = .int i ∧ SqL K H p xs ∧ atI xs i = some v ∧ Q v H
theorem ix_list : IxR X (rIxL X.K) := by
  intro value slice pins s σ H x y v u Q I rx ry h hs
  obtain ⟨p, xs, i, z, rfl, rfl, hq, he, q⟩ := h
  cases rx
  obtain ⟨t, rfl⟩ := ry
  obtain ⟨its, r, pl, hz⟩ := I.list hq
  obtain ⟨j, h1, h2, h3, h4, h5⟩ := atI_get he
  obtain ⟨w, ew, rw'⟩ := r.get h2
  have hl := r.length
  have hn := line63
  have fin : EP X pins σ Q w s := ⟨z, H, I, rw', q⟩
  by_cases h0 : 0 ≤ i
  · have hj : i.toNat = j := by
      rw [seqIndex_of h0 h5] at h1
      exact Option.some.inj h1
    exact item_listR pl.isList h0 (by omega) (by rw [hj]; simpa using ew) fin hs
  · have hj : (i + (its.toArray.size : Int)).toNat = j := by
      rw [seqIndex_neg (by omega) h4] at h1
      rw [List.size_toArray, ← hl]
      exact Option.some.inj h1
    exact subscriptTail_builtinR (x := w) pl.isList.typeIs slot_list_getitem.lookup
      (wpAny_getItem_list_neg (Q := fun r s' => r = w ∧ EP X pins σ Q r s') pl.isList (by omega) (by rw [List.size_toArray] <;> omega) (by omega) (by rw [hj]; simpa using ew) ⟨rfl, fin⟩) hs
theorem slice_bounds (lo hi : Option Int) (n : Nat) : (sliceBounds lo hi none n).1 = ((HT.sIx n 0 lo : Nat) : Int) ∧ (sliceBounds lo hi none n).2.1 = ((HT.sIx n n hi : Nat) : Int) ∧ (sliceBounds lo hi none n).2.2 = 1 := by
  refine ⟨?_, ?_, rfl⟩
  · cases lo with
    | none => simp [sliceBounds, HT.sIx]
    | some i =>
      simp only [sliceBounds, HT.sIx, Option.getD_none, show (1 : Int) > 0 by decide, if_true]
      by_cases h : i < 0
      · simp only [h, if_true] <;> omega
      · simp only [h, if_false] <;> omega
  · cases hi with
    | none => simp [sliceBounds, HT.sIx]
    | some i =>
      simp only [sliceBounds, HT.sIx, Option.getD_none, show (1 : Int) > 0 by decide, if_true]
      by_cases h : i < 0
      · simp only [h, if_true] <;> omega
      · simp only [h, if_false] <;> omega
theorem slicePick_cut (its : List Value) (lo hi : Option Int) : slicePick its.toArray lo hi none = ((its.drop (HT.sIx its.length 0 lo)).take (HT.sIx its.length its.length hi - HT.sIx its.length 0 lo)).toArray := by
  obtain ⟨h1, h2, h3⟩ := slice_bounds lo hi its.toArray.size
  unfold slicePick
  rw [h1, h2, h3]
  simp only [sliceRange_one, pick_run, List.size_toArray] <;> rfl
noncomputable def rSlL (K : PySem.W.Frag) : V → Option Int → Option Int → Hp → VK → Prop := fun x lo hi H Q => ∃ a xs, x = .ref a ∧ SqL K H a xs ∧ ∀ p, H p = none → Q (.ref p) (upd H p (.lst (cutV xs lo hi)))
theorem sl_list : SlR X (rSlL X.K) := by
  intro pins s σ H x v vl vu lo hi sl Q I rx hs pl pu h
  obtain ⟨a, xs, rfl, hx, q⟩ := h
  cases rx
  obtain ⟨its, r, ht, hz⟩ := I.list hx
  have hlen := r.length
  refine ⟨"list", _, slot_list_getitem.lookup, ht.isList.typeIs, ?_⟩
  refine wpAny_getItem_list_slice ht.isList hs pl pu .none (by simp) ?_ (by rw [List.size_toArray] <;> omega)
  rw [slicePick_cut, ← hlen]
  refine ⟨.ref s.heap.objs.size, _, I.laid (t' := s.toks) (o := .lst (cutV xs lo hi)) (fun b ob q => Heap.get?_push_of_some _ q) (Nat.le_refl _) ?_, rfl, q _ (I.hok.fresh (Nat.le_refl _))⟩
  exact ⟨Nat.le_trans (cutV_length xs lo hi) hz, _, 0, (r.drop (HT.sIx xs.length 0 lo)).take (HT.sIx xs.length xs.length hi - HT.sIx xs.length 0 lo), Heap.get?_push_size _ rfl⟩
noncomputable def flatV : V → Bool
  | .non => true
  | .bl _ => true
  | .int _ => true
  | .str _ => true
  | _ => false
noncomputable def eqV : V → V → Bool
  | .non, .non => true
  | .bl a, .bl b => a == b
  | .bl a, .int b => (if a then 1 else 0) == b
  | .int a, .bl b => a == (if b then 1 else 0)
  | .int a, .int b => a == b
  | .str a, .str b => a == b
  | _, _ => false
theorem eqAt_V {A : Around} {s : Shared} {y x : V} {u v : Value} (ry : RelV y u) (rx : RelV x v) (fy : flatV y = true) (fx : flatV x = true) : SeqAt.EqAt A s u v (eqV y x) := by
  cases y with
  | non =>
    cases ry
    cases x with
    | non => cases rx; exact SeqAt.EqAt.same _
    | bl b => cases rx; exact SeqAt.EqAt.none_bool b
    | int b => obtain ⟨t, rfl⟩ := rx; exact SeqAt.EqAt.none_int b t
    | str b => obtain ⟨t, rfl⟩ := rx; exact SeqAt.EqAt.none_str b t
    | _ => exact absurd (show false = true from fx) Bool.false_ne_true
  | bl a =>
    cases ry
    cases x with
    | non => cases rx; exact SeqAt.EqAt.bool_none a
    | bl b => cases rx; exact SeqAt.EqAt.bool_bool a b
    | int b => obtain ⟨t, rfl⟩ := rx; exact SeqAt.EqAt.bool_int a b t
    | str b => obtain ⟨t, rfl⟩ := rx; exact SeqAt.EqAt.bool_str a b t
    | _ => exact absurd (show false = true from fx) Bool.false_ne_true
  | int a =>
    obtain ⟨t', rfl⟩ := ry
    cases x with
    | non => cases rx; exact SeqAt.EqAt.int_none a t'
    | bl b => cases rx; exact SeqAt.EqAt.int_bool a t' b
    | int b => obtain ⟨t, rfl⟩ := rx; exact SeqAt.EqAt.int_int a t' b t
    | str b => obtain ⟨t, rfl⟩ := rx; exact SeqAt.EqAt.int_str a t' b t
    | _ => exact absurd (show false = true from fx) Bool.false_ne_true
  | str a =>
    obtain ⟨t', rfl⟩ := ry
    cases x with
    | non => cases rx; exact SeqAt.EqAt.str_none a t'
    | bl b => cases rx; exact SeqAt.EqAt.str_bool a t' b
    | int b => obtain ⟨t, rfl⟩ := rx; exact SeqAt.EqAt.str_int a t' b t
    | str b => obtain ⟨t, rfl⟩ := rx; exact SeqAt.EqAt.str_str a t' b t
    | _ => exact absurd (show false = true from fx) Bool.false_ne_true
  | _ => exact absurd (show false = true from fy) Bool.false_ne_true
theorem call_len_seq : CallR X (.builtin "len") (fun xs H Q => ∃ p ys, xs = [.ref p] ∧ (SqL X.K H p ys ∨ SqT X.K H p ys) ∧ Q (.int ys.length) H) := by
  intro pins s σ H xs us Q I r h
  obtain ⟨p, ys, rfl, hq, q⟩ := h
  obtain ⟨u, rfl, rx⟩ := vals1 r
  cases rx
  have hn := line63
  rcases hq with hq | hq
  · obtain ⟨its, r', pl, hz⟩ := I.list hq
    have hlen := r'.length
    exact Calls.call_len_list pl.isList (by simp only [List.size_toArray] <;> omega) ⟨.int ys.length, H, I.tok _, ⟨s.toks + 1, by rw [List.size_toArray, hlen]⟩, q⟩
  · obtain ⟨its, r', pl, hz⟩ := I.tuple hq
    have hlen := r'.length
    exact len_tuple pl (by simp only [List.size_toArray] <;> omega) ⟨.int ys.length, H, I.tok _, ⟨s.toks + 1, by rw [List.size_toArray, hlen]⟩, q⟩
theorem call_list_of : CallR X (.type "list") (fun xs H Q => ∃ p ys, xs = [.ref p] ∧ (SqL X.K H p ys ∨ SqT X.K H p ys) ∧ ∀ l, H l = none → Q (.ref l) (upd H l (.lst ys))) := by
  intro pins s σ H xs us Q I r h
  obtain ⟨p, ys, rfl, hq, q⟩ := h
  obtain ⟨u, rfl, rx⟩ := vals1 r
  cases rx
  have fin : ∀ (its : List Value), Vals ys its → ys.length ≤ sizeLine → ∀ (h' : Heap) (c' : Nat), (∀ b o', s.heap.get? b = some o' → h'.get? b = some o') →
      h'.get? s.heap.objs.size = some { cls := .type "list", dict := none, data := .seq its.toArray c', slots := #[] } → EP X pins σ Q (.ref s.heap.objs.size) { s with heap := h' } := fun its r' hz h' c' kp e =>
    ⟨.ref s.heap.objs.size, _, I.laid (t' := s.toks) kp (Nat.le_refl _) (show ObjOk X.prog X.w _ h' _ (.lst ys) from ⟨hz, its, c', r', e⟩), rfl, q _ (I.hok.fresh (Nat.le_refl _))⟩
  rcases hq with hq | hq
  · obtain ⟨its, r', pl, hz⟩ := I.list hq
    have hlen := r'.length
    obtain ⟨o, ho, hc, n, hd⟩ := pl.isList
    exact call_list_seq p (.inl rfl) ho hc hd (fun h' c' kp e => fin its r' hz h' c' kp e) (by simp only [List.size_toArray] <;> omega)
  · obtain ⟨its, r', pl, hz⟩ := I.tuple hq
    have hlen := r'.length
    obtain ⟨o, ho, hc, n, hd⟩ := pl
    exact call_list_seq p (.inr rfl) ho hc hd (fun h' c' kp e => fin its r' hz h' c' kp e) (by simp only [List.size_toArray] <;> omega)
theorem call_tuple_of : CallR X (.type "tuple") (fun xs H Q => ∃ p ys, xs = [.ref p] ∧ ((SqL X.K H p ys ∧ ∀ l, H l = none → Q (.ref l) (upd H l (.tup ys))) ∨ (SqT X.K H p ys ∧ Q (.ref p) H))) := by
  intro pins s σ H xs us Q I r h
  obtain ⟨p, ys, rfl, h⟩ := h
  obtain ⟨u, rfl, rx⟩ := vals1 r
  cases rx
  rcases h with ⟨hq, q⟩ | ⟨hq, q⟩
  · obtain ⟨its, r', pl, hz⟩ := I.list hq
    have hlen := r'.length
    refine call_tuple_list pl.isList (fun h' kp => ?_) (by simp only [List.size_toArray] <;> omega)
    have I1 : Inv X pins σ H { s with heap := h' } := I.kept (t' := s.toks) kp
    have I2 : Inv X pins σ (upd H h'.objs.size (.tup ys)) { s with heap := h'.push { cls := .type "tuple", data := .seq its.toArray } } :=
      I1.laid (t' := s.toks) (fun b o e => Heap.get?_push_of_some _ e) (Nat.le_refl _) (show ObjOk X.prog X.w _ _ _ (.tup ys) from ⟨hz, its, r', IsTup.new _ _⟩)
    exact ⟨.ref h'.objs.size, _, I2, rfl, q _ (I1.hok.fresh (Nat.le_refl _))⟩
  · obtain ⟨its, r', pl, hz⟩ := I.tuple hq
    exact call_tuple_same pl ⟨.ref p, H, I, rfl, q⟩
noncomputable def tyV (K : PySem.W.Frag) (T : String) (x : V) (H : Hp) : Prop := match x with
  | .str _ => T = "str"
  | .int _ => T = "int"
  | .ref p => (T = "list" ∧ ∃ xs, SqL K H p xs) ∨ (T = "tuple" ∧ ∃ o, K.lookup p = some o ∧ o.cls = .type "tuple" ∧ o.dict = none) ∨
      (T = "dict" ∧ ((∃ kvs, H p = some (.dK kvs)) ∨ ∃ kvs, H p = some (.dT kvs))) ∨ (T = "set" ∧ ∃ S n, H p = some (.set S n))
  | _ => False
theorem tyV_is {pins : List (Addr × Obj)} {σ : St} {H : Hp} {s : Shared} {T : String} {x : V} {v : Value} (I : Inv X pins σ H s) (r : RelV x v) (ty : tyV X.K T x H) :
    s.TypeIs v T ∧ ∀ a, v = .ref a → ∃ ob, s.heap.get? a = some ob ∧ ob.dict = none := by
  cases x with
  | str z =>
    obtain ⟨t, rfl⟩ := r
    cases (show T = "str" from ty)
    exact ⟨typeIs_str s z t, fun _ e => nomatch e⟩
  | int i =>
    obtain ⟨t, rfl⟩ := r
    cases (show T = "int" from ty)
    exact ⟨typeIs_int s i t, fun _ e => nomatch e⟩
  | ref p =>
    cases r
    rcases ty with ⟨rfl, xs, hq⟩ | ⟨rfl, o, hk, hc, hd⟩ | ⟨rfl, hk⟩ | ⟨rfl, S, n, hk⟩
    · obtain ⟨its, _, pl, _⟩ := I.list hq
      refine ⟨pl.isList.typeIs, fun a e => ?_⟩
      cases e
      obtain ⟨o, n, e, c, hd, _⟩ := pl
      exact ⟨o, e, hd⟩
    · refine ⟨⟨o, I.kIn p o hk, hc⟩, fun a e => ?_⟩
      cases e
      exact ⟨o, I.kIn _ o hk, hd⟩
    · have z : ∃ o, s.heap.get? p = some o ∧ o.ExactDict := by
        rcases hk with ⟨kvs, hk⟩ | ⟨kvs, hk⟩
        · obtain ⟨_, _, _, _, o, _, _, e, ex, _⟩ := I.hok p _ hk
          exact ⟨o, e, ex⟩
        · obtain ⟨_, _, _, _, o, _, _, e, ex, _⟩ := I.hok p _ hk
          exact ⟨o, e, ex⟩
      obtain ⟨o, e, ex⟩ := z
      refine ⟨⟨o, e, ex.1⟩, fun a e2 => ?_⟩
      cases e2
      exact ⟨o, e, ex.2.1⟩
    · obtain ⟨o, _, _, _, e, ex, _⟩ := I.hok p _ hk
      refine ⟨⟨o, e, ex.1⟩, fun a e2 => ?_⟩
      cases e2
      exact ⟨o, e, ex.2.1⟩
  | _ => exact False.elim ty
noncomputable def tBM0 (K : PySem.W.Frag) (T : String) (r : V → List V → Hp → VK → Prop) (to : TE) : TE := fun σ H Q => to σ H fun x H1 => tyV K T x H1 ∧ r x [] H1 Q
noncomputable def tBM (K : PySem.W.Frag) (T : String) (r : V → List V → Hp → VK → Prop) (to : TE) (t : TA) : TE := fun σ H Q => to σ H fun x H1 => tyV K T x H1 ∧ t σ H1 fun xs H2 => r x xs H2 Q
variable {o e : Expr} {es : List Expr} {to : TE} {t : TA} {name : Str} {apos cpos : Pos} {T id : String} {r : V → List V → Hp → VK → Prop}
theorem pe_bm0 (pa : PlainAttrs T) (slot : Slot T name id) (hty : typeOf (.builtin id) = pure (.type "method_descriptor")) (hm : MtR X id r) (ho : PE X o to)
    (hbase : attributeBase o name X.env (eval o X.env) = eval o X.env := by rfl) (hline : (apos.endLine == cpos.line) = true := by rfl) : PE X (.Call (.Attribute o name apos) [] [] cpos) (tBM0 X.K T r to) := by
  intro pins s σ H Q I h
  refine wpAny_Call_method0_late hbase hline (thn (ho pins s σ H _ I h) fun v s1 ⟨x, H1, I1, r1, ty, q1⟩ => ?_)
  obtain ⟨h1, h2⟩ := tyV_is I1 r1 ty
  exact ⟨T, id, pa, slot, hty, h1, h2, Calls.callWith_builtin rfl (PySem.evalArgs_none (hm pins s1 σ H1 x [] v [] Q I1 r1 .nil q1))⟩
theorem pe_bm (pa : PlainAttrs T) (slot : Slot T name id) (hty : typeOf (.builtin id) = pure (.type "method_descriptor")) (hm : MtR X id r) (ho : PE X o to) (ha : PA X (e :: es) t)
    (hbase : attributeBase o name X.env (eval o X.env) = eval o X.env := by rfl)
    (hfew : ((backTo cpos (starEach (e :: es) X.env)).all (fun x => !x.1) && (backToKw cpos (keywordEach [] X.env)).all (fun x => x.1.isSome)
      && decide ((e :: es).length + ([] : List Keyword).length + (if ([] : List Keyword).isEmpty then 0 else 1) < 30)) = true := by rfl)
    (hline : (apos.endLine == cpos.line) = true := by rfl) (hs : starEach (e :: es) X.env = (false, eval e X.env) :: starEach es X.env := by rfl) (hplain : (backTo cpos (starEach es X.env)).any (·.1) = false := by rfl) :
    PE X (.Call (.Attribute o name apos) (e :: es) [] cpos) (tBM X.K T r to t) := by
  intro pins s σ H Q I h
  refine wpAny_Call_method_late hbase hfew hline rfl (thn (ho pins s σ H _ I h) fun v s1 ⟨x, H1, I1, r1, ty, q1⟩ => ?_)
  obtain ⟨h1, h2⟩ := tyV_is I1 r1 ty
  refine ⟨T, id, pa, slot, hty, h1, h2, ?_⟩
  have hA := ha cpos pins s1 σ H1 _ I1 q1
  rw [hs] at hA ⊢
  refine Calls.callWith_builtin (by show (false || (backTo cpos (starEach es X.env)).any (·.1)) = false; rw [hplain] <;> rfl) (Calls.evalArgs_plain ?_)
  exact thn hA fun us s2 ⟨vs, H2, I2, r2, q2⟩ => hm pins s2 σ H2 x vs v us Q I2 r1 r2 q2
end
end L2
namespace L2
open PySem PySem.Spec PyProof.Rows
noncomputable def MtM (X : Cx) (id : String) (r : V → List V → Hp → VK → Prop) : Prop :=
  ∀ (pins : List (Addr × Obj)) (s : Shared) (σ : St) (H : Hp) (x : V) (xs : List V) (v : Value) (us : List Value) (Q : VK), Inv X pins σ H s → RelV x v → Vals xs us → r x xs H Q →
    wpAny (model X.prog X.w) X.A (call (.builtin id) (v :: us)) (EP X pins σ Q) X.xe s
theorem Vals.one : ∀ {x : V} {us : List Value}, Vals [x] us → ∃ u, us = [u] ∧ RelV x u
  | _, _, .cons r .nil => ⟨_, rfl, r⟩
theorem Vals.zero : ∀ {us : List Value}, Vals [] us → us = []
  | _, .nil => rfl
theorem Vals.reverse {xs : List V} {us : List Value} (h : Vals xs us) : Vals xs.reverse us.reverse := by
  induction h with
  | nil => exact .nil
  | cons r t ih => rw [List.reverse_cons, List.reverse_cons]; exact Vals.append ih (.cons r .nil)
theorem Vals.rep {xs : List V} {us : List Value} (h : Vals xs us) : ∀ k : Nat, Vals (List.replicate k xs).flatten (List.replicate k us).flatten
  | 0 => .nil
  | k + 1 => by
    rw [List.replicate_succ, List.replicate_succ, List.flatten_cons, List.flatten_cons]
    exact Vals.append h (Vals.rep h k)
theorem foldl_rep (its : List Value) : ∀ (k : Nat) (acc : List Value),
    List.foldl (fun x1 x2 => x1 ++ x2) acc.toArray (List.replicate k its.toArray) = (acc ++ (List.replicate k its).flatten).toArray
  | 0, acc => by simp
  | k + 1, acc => by
    have e : acc.toArray ++ its.toArray = (acc ++ its).toArray := by simp
    have e2 : (acc ++ its) ++ (List.replicate k its).flatten = acc ++ (List.replicate (k + 1) its).flatten := by
      rw [List.replicate_succ, List.flatten_cons, List.append_assoc]
    rw [← e2, ← foldl_rep its k (acc ++ its), ← e, List.replicate_succ, List.foldl_cons]
section
variable {X : Cx} {pins : List (Addr × Obj)} {σ : St} {H : Hp} {s : Shared} {l b : Addr} {xs ys zs : List V}
theorem Inv.lset {its its' : List Value} {n : Nat} {f : Array Value → Array Value} {t' : Nat} (I : Inv X pins σ H s) (hH : H l = some (.lst xs))
    (e : s.heap.get? l = some { cls := .type "list", data := .seq its.toArray n }) (hf : f its.toArray = its'.toArray) (hv : Vals ys its') (hz : ys.length ≤ sizeLine) :
    Inv X pins σ (upd H l (.lst ys)) { s with heap := s.heap.update l (Obj.mapSeq f), toks := t' } := by
  have q := PySem.IsL.update e f
  rw [hf] at q
  refine I.write (x := l) (e := l) (by rw [hH]; exact trivial) (.inl rfl) (fun b' u hb hu => (Heap.get?_update_other s.heap (Obj.mapSeq f) (Ne.symm hb)).trans hu) ⟨_, q⟩ ?_
  exact ⟨hz, its', _, hv, q⟩
theorem Inv.lnew {its : List Value} {t' : Nat} (I : Inv X pins σ H s) (hv : Vals ys its) (hz : ys.length ≤ sizeLine) :
    Inv X pins σ (upd H s.heap.objs.size (.lst ys)) { s with heap := s.heap.push { cls := .type "list", data := .seq its.toArray }, toks := t' } :=
  I.laid (fun _ _ q => Heap.get?_push_of_some _ q) (Nat.le_refl _) ⟨hz, its, 0, hv, Heap.get?_push_size _ rfl⟩
theorem Inv.fresh (I : Inv X pins σ H s) : H s.heap.objs.size = none := I.hok.fresh (Nat.le_refl _)
theorem Inv.lstM (I : Inv X pins σ H s) (hH : H l = some (.lst xs)) : xs.length ≤ sizeLine ∧ ∃ (its : List Value) (n : Nat), Vals xs its ∧ xs.length = its.length ∧ s.heap.get? l = some { cls := .type "list", data := .seq its.toArray n } := by
  obtain ⟨z, its, n, r, e⟩ := I.hok l _ hH
  exact ⟨z, its, n, r, r.length, e⟩
theorem notLongL {n : Nat} (h : n ≤ sizeLine) : Builtin.List.listTooLong n = false := by
  unfold Builtin.List.listTooLong
  exact decide_eq_false (by omega)
end
section
variable {X : Cx}
noncomputable def rAppend : V → List V → Hp → VK → Prop := fun x vs H Q => ∃ l xs y, x = .ref l ∧ vs = [y] ∧ H l = some (.lst xs) ∧ xs.length < sizeLine ∧ Q .non (upd H l (.lst (xs ++ [y])))
theorem mt_append : MtM X "list.append" rAppend := by
  intro pins s σ H x vs v us Q I rx rv h
  obtain ⟨l, xs, y, rfl, rfl, hH, hz, q⟩ := h
  cases rx
  obtain ⟨u, rfl, ru⟩ := rv.one
  obtain ⟨z, its, n, r, hl, e⟩ := I.lstM hH
  refine call_meets F.slot_list_append ⟨_, e, rfl⟩ F.entry_list_append (F.args_list_append_2 _ _) (PySem.list_append l its.toArray n u (by rw [List.size_toArray]; omega)) ⟨e, ?_⟩
  refine ⟨.non, _, I.lset (its' := its ++ [u]) hH e (by simp) (r.append (.cons ru .nil)) ?_, rfl, q⟩
  rw [List.length_append, List.length_singleton]
  omega
noncomputable def rExtend : V → List V → Hp → VK → Prop := fun x vs H Q => ∃ l b xs zs, x = .ref l ∧ vs = [.ref b] ∧ H l = some (.lst xs) ∧ H b = some (.lst zs) ∧ xs.length + zs.length ≤ sizeLine ∧ Q .non (upd H l (.lst (xs ++ zs)))
theorem mt_extend : MtM X "list.extend" rExtend := by
  intro pins s σ H x vs v us Q I rx rv h
  obtain ⟨l, b, xs, zs, rfl, rfl, hH, hB, hz, q⟩ := h
  cases rx
  obtain ⟨u, rfl, ru⟩ := rv.one
  cases ru
  obtain ⟨z, its, n, r, hl, e⟩ := I.lstM hH
  obtain ⟨z2, its2, n2, r2, hl2, e2⟩ := I.lstM hB
  have hsz : its.toArray.size + its2.toArray.size ≤ sizeLine := by rw [List.size_toArray, List.size_toArray]; omega
  have hlong : ¬ (!its.toArray.isEmpty && Builtin.List.listTooLong (its.toArray.size + its2.toArray.size)) = true := by
    rw [notLongL hsz, Bool.and_false]
    exact Bool.false_ne_true
  refine call_meets F.slot_list_extend ⟨_, e, rfl⟩ F.entry_list_extend (F.args_list_extend_2 _ _)
    (AutoSeq1.list_extend_list_list_0 l its.toArray n b its2.toArray n2 hlong (by rw [List.size_toArray]; omega) (by omega)) ⟨e, e2, ?_⟩
  refine ⟨.non, _, I.lset (its' := its ++ its2) hH e (by simp) (r.append r2) ?_, rfl, q⟩
  rw [List.length_append]
  omega
noncomputable def rReverse : V → List V → Hp → VK → Prop := fun x vs H Q => ∃ l xs, x = .ref l ∧ vs = [] ∧ H l = some (.lst xs) ∧ Q .non (upd H l (.lst xs.reverse))
theorem mt_reverse : MtM X "list.reverse" rReverse := by
  intro pins s σ H x vs v us Q I rx rv h
  obtain ⟨l, xs, rfl, rfl, hH, q⟩ := h
  cases rx
  have hus := rv.zero
  subst hus
  obtain ⟨z, its, n, r, hl, e⟩ := I.lstM hH
  refine call_meets F.slot_list_reverse ⟨_, e, rfl⟩ F.entry_list_reverse (F.args_list_reverse_1 _) (AutoSeq1.list_reverse_list_0 l its.toArray n (by rw [List.size_toArray]; omega)) ⟨e, ?_⟩
  refine ⟨.non, _, I.lset (its' := its.reverse) hH e (by simp) r.reverse ?_, rfl, q⟩
  rw [List.length_reverse]
  omega
noncomputable def rCat : R2 := fun x y H Q => ∃ l b xs zs, x = .ref l ∧ y = .ref b ∧ H l = some (.lst xs) ∧ H b = some (.lst zs) ∧ xs.length + zs.length ≤ sizeLine ∧ ∀ p, H p = none → Q (.ref p) (upd H p (.lst (xs ++ zs)))
theorem op_cat : OpR X (binaryOp .Add) rCat := by
  intro pins s σ H x y v u Q I rx ry h
  obtain ⟨l, b, xs, zs, rfl, rfl, hH, hB, hz, q⟩ := h
  cases rx
  cases ry
  obtain ⟨z, its, n, r, hl, e⟩ := I.lstM hH
  obtain ⟨z2, its2, n2, r2, hl2, e2⟩ := I.lstM hB
  refine PySem.P.add_list e e2 ?_ (by rw [List.size_toArray, List.size_toArray]; omega)
  have ea : its.toArray ++ its2.toArray = (its ++ its2).toArray := by simp
  rw [ea]
  exact ⟨.ref _, _, I.lnew (t' := s.toks) (r.append r2) (by rw [List.length_append]; omega), rfl, q _ I.fresh⟩
noncomputable def rRep : R2 := fun x y H Q => ∃ l k xs, x = .ref l ∧ y = .int k ∧ H l = some (.lst xs) ∧ -(2 ^ 63) ≤ k ∧ k < 2 ^ 63 ∧ xs.length * k.toNat ≤ sizeLine ∧
  ∀ p, H p = none → Q (.ref p) (upd H p (.lst (List.replicate k.toNat xs).flatten))
theorem len_rep {α : Type} (xs : List α) (k : Nat) : (List.replicate k xs).flatten.length = k * xs.length := by
  induction k with
  | zero => simp
  | succ k ih => rw [List.replicate_succ, List.flatten_cons, List.length_append, ih, Nat.succ_mul, Nat.add_comm]
theorem op_rep : OpR X (binaryOp .Mult) rRep := by
  intro pins s σ H x y v u Q I rx ry h
  obtain ⟨l, k, xs, rfl, rfl, hH, h1, h2, hz, q⟩ := h
  cases rx
  obtain ⟨t, rfl⟩ := ry
  obtain ⟨z, its, n, r, hl, e⟩ := I.lstM hH
  have hlen : its.toArray.size * k.toNat ≤ sizeLine := by rw [List.size_toArray, ← hl]; exact hz
  have hcap : ¬ its.toArray.size * k.toNat > (2 ^ 63 - 1) / 8 := by
    have : (sizeLine : Nat) ≤ (2 ^ 63 - 1) / 8 := by decide
    omega
  have hfit : ¬ (!Builtin.List.listFitsIndex k) = true := by
    rw [fitsIndex_both h1 h2]
    exact Bool.false_ne_true
  have hlong : ¬ Builtin.List.listTooLong (its.toArray.size * k.toNat) = true := by
    rw [notLongL hlen]
    exact Bool.false_ne_true
  have hnew : List.foldl (fun x1 x2 => x1 ++ x2) #[] (List.replicate (if its.toArray.isEmpty = true then 0 else k.toNat) its.toArray) = (List.replicate k.toNat its).flatten.toArray := by
    have f0 : ∀ m : Nat, List.foldl (fun x1 x2 => x1 ++ x2) #[] (List.replicate m its.toArray) = (List.replicate m its).flatten.toArray := fun m => by
      have := foldl_rep its m []
      rw [List.nil_append] at this
      exact this
    rw [f0]
    cases its with
    | nil => simp
    | cons a r' => rw [if_neg (by simp)]
  refine wpAny_binaryOp_repeat_ref (T := "list") (U := "int") (by decide) ⟨_, e, rfl⟩ (fun s' => typeIs_int s' k t) noFill_list_mul F.fills_int_mul F.slot_int_rmul repeat_list F.slot_int_index.lookup
    (call_meets F.slot_int_rmul (typeIs_int s k t) F.entry_int_rmul (F.args_int_rmul_2 _ _) (int___rmul___int_list k t l its.toArray n)
      ⟨e, rfl, ⟨_, e, rfl⟩, call_meets F.slot_list_mul ⟨_, e, rfl⟩ F.entry_list_mul (F.args_list_mul_2 _ _) (AutoListH.list___mul___list_int_3 l its.toArray n k t hfit hcap hlong) ⟨e, ?_⟩⟩)
  rw [hnew]
  exact ⟨.ref _, _, I.lnew (t' := s.toks) (r.rep k.toNat) (by rw [len_rep, Nat.mul_comm]; exact hz), rfl, q _ I.fresh⟩
end
section
variable {prog : Program} {w : World} {A : Around} {E : Value → Shared → Prop} {s : Shared}
end
section
variable {X : Cx}
end
end L2
namespace Att
open PySem PySem.W PySem.Calls PyProof.Rows
theorem ints_of_wellAll {P : Params} {h : Heap} : ∀ (ns : List Int) (vs : List Value), WellAll P h vs (ns.map WData.int) → IntsAre vs ns := by
  intro ns
  induction ns with
  | nil =>
    intro vs w
    rw [List.map_nil] at w
    cases w
    exact .nil
  | cons n ns ih =>
    intro vs w
    rw [List.map_cons] at w
    cases w with
    | cons a b =>
      cases a
      exact .cons _ _ (ih _ b)
theorem script_of {l : OpenLaw} {n : Nat} (hn : l.most = some n) {P : Params} {h : Heap} {args : List WData} {vals : List Value}
    (hpre : l.row.toRowW.claim.pre args = true) (hwl : WellAll P h vals args) :
    ∃ a vs ns, vals = [Value.ref a] ∧ args = [WData.list (ns.map WData.int)] ∧ h.get? a = some { cls := .type "list", data := .seq vs.toArray } ∧ IntsAre vs ns ∧ ns.length ≤ n := by
  have hsh : WShape.hasAll [] args [.list .int] = true := (pre_splitW hpre).1
  have hc : l.pre.holds [] { args := args } = true := (pre_splitW hpre).2
  obtain ⟨d, r, rfl, h1, h2⟩ := hasAllW_cons hsh
  obtain rfl := hasAllW_nil h2
  obtain ⟨xs, rfl, h3⟩ := hasW_list h1
  obtain ⟨ns, rfl⟩ := items_int h3
  have hlen : ns.length ≤ n := by
    unfold OpenLaw.pre at hc
    have h4 : (WTm.not (.lt (.lit (.int (n : Int))) (.len (.arg 0)))).holds [] { args := [.list (ns.map .int)] } = true := by
      have h4 := (holds_andW hc).1
      rw [hn] at h4
      exact h4
    have h5 := condW_of h4 (w_not (w_lt w_lit (w_len_list (w_arg rfl))))
    rw [List.length_map] at h5
    refine Nat.le_of_not_lt fun q => ?_
    have q' : (n : Int) < ((ns.length : Nat) : Int) := by omega
    first
      | (rw [decide_eq_true q'] at h5; exact absurd h5 (by decide))
      | (simp at h5; omega)
  cases hwl with
  | cons w1 w2 =>
    cases w2
    cases w1 with
    | list ho hall => exact ⟨_, _, ns, rfl, rfl, ho, ints_of_wellAll ns _ hall, hlen⟩
theorem post_true (l : OpenLaw) (args : List WData) : l.row.toRowW.claim.post args (.bool true) args = true :=
  postW_of (r := l.row.toRowW) (X := (true == true))
    (show WShape.has [] (.bool true) .bool = true by first | rfl | decide | simp [WShape.has, WShape.arms, WShape.armsAll])
    (show (WTm.eq .res (.lit (.bool true))).value [] { args := args, res := some (.bool true), after := args } = some (.bool (true == true)) from w_eq_bool (w_res rfl) w_lit) rfl
section
variable {prog : Program} {w : World} {A : Around} {E : Value → Shared → Prop} {s : Shared} {K : Frag}
end
end Att
namespace L2
open PySem PySem.Spec PyProof.Rows
theorem vals_ints : ∀ {vs : List Value} {ns : List Int}, IntsAre vs ns → Vals (ns.map V.int) vs
  | _, _, .nil => .nil
  | _, _, .cons n t h => .cons ⟨t, rfl⟩ (vals_ints h)
noncomputable def Only (H : Hp) : Prop := ∀ b, H b = none ∨ ∃ o xs, H b = some (.frz o (.lst xs))
theorem law_call {P : Program} {w : World} {K : PySem.W.Frag} {mg mb : Str → Option Value} {CX : CXT} {k : Nat} {fa a : Addr} {fd : FuncData} {x : Str} {sp : Sp} {s₁ : Shared} {vs : List Value} {ns : List Int}
    (KX : K.In s₁.heap) (hns : s₁.heap.Ns mainGlobals mg) (hb : s₁.heap.Ns builtinsNs mb) (hbb : ∀ x : Str, x ≠ "__name__" → mb x = bootBuiltins x) (hlim : s₁.heap.NoLimit) (hg : s₁.gens = #[])
    (ha : s₁.heap.get? a = some { cls := .type "list", data := .seq vs.toArray }) (hi : IntsAre vs ns) (hl : ns.length ≤ sizeLine) (hr : Room k callerA)
    (F : ∀ base : Heap, K.In base → base.Ns mainGlobals mg → FnOk P w K mg base CX k fa fd [x] sp) (hbind : ∀ (s : Shared) (u : Value), BindsTo s fd ⟨[u], []⟩ [(x, u)])
    (hsp : ∀ H : Hp, Only H → SqL K H a (ns.map V.int) → sp [.ref a] H (fun v _ => v = .bl true) fun _ _ _ => False)
    (hCX : ∀ H e s', CX [] H s₁ (fun _ _ _ => False) e s' → False) :
    codeAny (model P w) callerA (.call (.ref fa) ⟨[.ref a], []⟩) (fun r s' => r = .ok (.ret (.bool true)) ∧ OldK s₁.heap s'.heap ∧ s'.os = s₁.os ∧ AllBare s'.gens) s₁ := by
  have rv := vals_ints hi
  have lenV := hi.length
  have core : ∀ H : Hp, Only H → SqL K H a (ns.map V.int) → HOk P w H s₁.heap → (∀ b, H b ≠ none → b = a) → (H a ≠ none → K.lookup a = none) →
      codeAny (model P w) callerA (.call (.ref fa) ⟨[.ref a], []⟩) (fun r s' => r = .ok (.ret (.bool true)) ∧ OldK s₁.heap s'.heap ∧ s'.os = s₁.os ∧ AllBare s'.gens) s₁ := by
    intro H hO hS hok hA hK
    have base_of : ∀ {b : Addr} {o : Obj}, s₁.heap.get? b = some o → H b = none → (hidT s₁.heap H).get? b = some o := fun e n => hidT_get e n
    have noA : ∀ {b : Addr} {o : Obj} {es : Array DictEntry} {ep : Nat}, s₁.heap.get? b = some o → o.data = .dict es ep → H b = none := fun {b o es ep} e d => by
      cases q : H b with
      | none => rfl
      | some u =>
        have e' : b = a := hA b (by rw [q]; simp)
        subst e'
        rw [ha] at e; cases e
        have d' : Data.seq vs.toArray _ = Data.dict es ep := d
        cases d'
    have nsK : ∀ {b : Addr} {m : Str → Option Value}, s₁.heap.Ns b m → (hidT s₁.heap H).Ns b m := fun {b m} ⟨o, es, ep, e, d, r⟩ => ⟨o, es, ep, base_of e (noA e d), d, r⟩
    have hKb : K.In (hidT s₁.heap H) := fun b o e => base_of (KX b o e) (by
      cases q : H b with
      | none => rfl
      | some u =>
        have e' : b = a := hA b (by rw [q]; simp)
        subst e'
        rw [hK (by rw [q]; simp)] at e; cases e)
    have hM : Mod K mg (hidT s₁.heap H) := ⟨hKb, nsK hns, ⟨mb, nsK hb, hbb⟩, let ⟨mc, h1, h2⟩ := hlim; ⟨mc, nsK h1, h2⟩⟩
    have e0 : Env0 P w K mg (hidT s₁.heap H) callerA [] s₁ H := ⟨rfl, hM, fun b o e => of_hidT e, Nat.le_of_eq (hidT_size _ _), trivial, fun b hb => absurd (show b ∈ ([] : List Addr) from hb) (by simp), hok, .of_eq hg⟩
    refine codeAny_mono ((F _ hKb (nsK hns)).run callerA [] s₁ H ⟨[.ref a], []⟩ [.ref a] [.ref a] _ _ hr e0 (hbind s₁ (.ref a)) (.cons rfl .nil) (hsp H hO hS)) fun r s' h => ?_
    cases r with
    | error e => exact (hCX H e s' h).elim
    | ok fl =>
      cases fl with
      | next => exact False.elim h
      | brk => exact False.elim h
      | cont => exact False.elim h
      | ret u =>
        obtain ⟨v, H', os, bare, un, hok', r', q⟩ := h
        have q' : v = .bl true := q
        subst q'
        obtain rfl : u = Value.bool true := r'
        refine ⟨rfl, OldK.of_keep fun b o e => ?_, os, bare⟩
        cases q : H b with
        | none => exact un.keep b o e q (by intro z; exact absurd (show b ∈ ([] : List Addr) from z) (by simp)) (by simp)
        | some u =>
          rcases hO b with z | ⟨ob, xs, z⟩
          · rw [q] at z; cases z
          · have z2 := un.frzs b ob _ z
            obtain ⟨e1, _⟩ := hok b _ z
            obtain ⟨e2, _⟩ := hok' b _ z2
            rw [e] at e1; cases e1
            exact e2
  cases hk : K.lookup a with
  | some o =>
    have e := KX a o hk
    rw [ha] at e
    cases e
    refine core (fun _ => none) (fun _ => .inl rfl) (.inr ⟨_, vs.toArray, _, hk, rfl, rfl, rfl, by rw [List.size_toArray, lenV]; exact hl, by simpa using rv⟩) (fun b u z => by have z' : (none : Option HO) = some u := z; cases z') (fun b z => absurd rfl z) fun z => absurd rfl z
  | none =>
    refine core (fun b => if b = a then some (.frz { cls := .type "list", data := .seq vs.toArray } (.lst (ns.map V.int))) else none) (fun b => ?_) (.inl (.inr ⟨{ cls := .type "list", data := .seq vs.toArray }, if_pos rfl⟩)) (fun b u z => ?_) (fun b z => ?_) fun _ => hk
    · by_cases hb : b = a
      · exact .inr ⟨_, _, if_pos hb⟩
      · exact .inl (if_neg hb)
    · by_cases hb : b = a
      · have z' := (if_pos hb).symm.trans z
        cases z'
        subst hb
        exact ⟨ha, by rw [List.length_map]; exact hl, vs, _, rv, ha⟩
      · have z' := (if_neg hb).symm.trans z
        cases z'
    · by_cases hb : b = a
      · exact hb
      · exact absurd (if_neg hb) z
end L2
namespace L2
open PySem PySem.Spec PyProof.Rows
end L2
namespace L2
open PySem PySem.Spec PyProof.Rows
noncomputable def defArgs (s : Stmt) : Arguments := match s with
  | .FunctionDef _ a _ _ _ _ _ _ _ _ => a
  | _ => { posonlyargs := [], args := [], vararg := none, kwonlyargs := [], kw_defaults := [], kwarg := none, defaults := [] }
noncomputable def defBody (s : Stmt) : List Stmt := match s with
  | .FunctionDef _ _ b _ _ _ _ _ _ _ => b
  | _ => []
noncomputable def defScope (s : Stmt) : Scope := match s with
  | .FunctionDef _ _ _ _ _ _ sc _ _ _ => sc
  | _ => { kind := .function, names := [], isGenerator := false, isCoroutine := false }
noncomputable abbrev CX0 : CXT := fun _ _ _ _ _ _ => False
noncomputable abbrev E0 : XK := fun _ _ _ => False
theorem pass0 {X : Cx} : Passes CX0 X E0 := fun _ _ _ _ _ _ _ h => h.elim
section
variable {P : Program} {w : World} {K : PySem.W.Frag} {mg : Str → Option Value} {base : Heap}
end
section
variable {X : Cx}
theorem pv (i : Nat) {x : Str} {pos : Pos} (hN : X.N[i]? = some x := by rfl) (hv : Vis X.env.scope x := by first | exact Or.inl rfl | exact Or.inr (Or.inl rfl) | exact Or.inr (Or.inr rfl)) (hd : (x == ("__debug__" : Str)) = false := by decide)
    (hcd : (x == ("__classdict__" : Str)) = false := by decide) : PE X (.Name x pos) (tVar i) := pe_var hN hv hd hcd
end
theorem iteF {A B : Prop} (h : B) : if false = true then A else B := by
  rw [if_neg Bool.false_ne_true]
  exact h
theorem iteT {A B : Prop} (h : A) : if true = true then A else B := by
  rw [if_pos rfl]
  exact h
noncomputable def Same (H H' : Hp) : Prop := ∀ b o, H b = some o → H' b = some o
theorem Same.refl (H : Hp) : Same H H := fun _ _ h => h
theorem Same.trans {H H1 H2 : Hp} (a : Same H H1) (b : Same H1 H2) : Same H H2 := fun c o h => b c o (a c o h)
theorem Same.free {H H' : Hp} (e : Same H H') {l : Addr} (h : H' l = Option.none) : H l = Option.none := by
  cases q : H l with
  | none => rfl
  | some o =>
    rw [e l o q] at h
    cases h
theorem Same.seq {K : PySem.W.Frag} {H H' : Hp} {a : Addr} {xs : List V} (e : Same H H') (h : SqL K H a xs) : SqL K H' a xs := by
  rcases h with (h | ⟨o, h⟩) | h
  · exact .inl (.inl (e _ _ h))
  · exact .inl (.inr ⟨o, e _ _ h⟩)
  · exact .inr h
end L2
namespace C5
open PySem
section
variable {M : Model} {A : Around} {E : Value → Shared → Prop} {s : Shared}
noncomputable def clGo (env : Env) : List (Str × NameKind) → List (Str × Addr) → List (Str × Addr)
  | [], cs => cs
  | (n, k) :: r, cs => clGo env r (if k == .free then (n, (env.cells.lookup n).getD 0) :: cs else cs)
theorem clGo_cons (env : Env) (n : Str) (k : NameKind) (r : List (Str × NameKind)) (cs : List (Str × Addr)) : clGo env ((n, k) :: r) cs = clGo env r (if k == .free then (n, (env.cells.lookup n).getD 0) :: cs else cs) := rfl
noncomputable def clOf (sc : Scope) (env : Env) : List (Str × Addr) := clGo env sc.names []
theorem clGo_run {env : Env} (f : Str × NameKind → List (Str × Addr) → Sem (ForInStep (List (Str × Addr))))
    (hf : ∀ n k cs, f (n, k) cs = if k == .free then (do let a ← cellOf env n; pure (.yield ((n, a) :: cs))) else pure (.yield cs)) :
    ∀ (l : List (Str × NameKind)) (cs : List (Str × Addr)), (∀ y ∈ l, y.2 = .free → ∃ c, env.cells.lookup y.1 = some c) → forIn l cs f = pure (clGo env l cs)
  | [], cs, _ => by rw [List.forIn_nil]; rfl
  | (n, k) :: r, cs, h => by
    rw [List.forIn_cons, hf]
    have hr := fun cs' => clGo_run f hf r cs' fun y hy => h y (List.mem_cons_of_mem _ hy)
    cases hk : k == NameKind.free with
    | false =>
      simp only [Bool.false_eq_true, if_false, pure_bind]
      rw [hr, clGo_cons, hk]; rfl
    | true =>
      obtain ⟨c, hc⟩ := h (n, k) List.mem_cons_self (by simpa using hk)
      have hc' : cellOf env n = pure c := by
        unfold cellOf
        rw [show env.cells.lookup n = some c from hc]
      simp only [if_true, hc', pure_bind]
      rw [hr, clGo_cons, hk, show env.cells.lookup n = some c from hc]; rfl
theorem clos_of {sc : Scope} {env : Env} (h : ∀ y ∈ sc.names, y.2 = .free → ∃ c, env.cells.lookup y.1 = some c) : closureFor sc env = pure (clOf sc env) := by
  unfold closureFor clOf
  dsimp only
  rw [clGo_run (env := env) _ (fun n k cs => by cases hk : k == NameKind.free <;> simp [hk]) sc.names [] h]
  exact pure_bind _ _
theorem clGo_mem {env : Env} : ∀ (l : List (Str × NameKind)) (cs : List (Str × Addr)) (x : Str) (c : Addr), (x, c) ∈ clGo env l cs → (x, c) ∈ cs ∨ ((x, NameKind.free) ∈ l ∧ c = (env.cells.lookup x).getD 0)
  | [], cs, x, c, h => .inl h
  | (n, k) :: r, cs, x, c, h => by
    unfold clGo at h
    rcases clGo_mem r _ x c h with h | ⟨h, e⟩
    · cases hk : k == NameKind.free with
      | false => rw [hk, if_neg Bool.false_ne_true] at h; exact .inl h
      | true =>
        rw [hk, if_pos rfl] at h
        have hk' : k = .free := by simpa using hk
        rcases List.mem_cons.mp h with e | h
        · cases e; subst hk'; exact .inr ⟨List.mem_cons_self, rfl⟩
        · exact .inl h
    · exact .inr ⟨List.mem_cons_of_mem _ h, e⟩
theorem clGo_keep {env : Env} : ∀ (l : List (Str × NameKind)) (cs : List (Str × Addr)) (p : Str × Addr), p ∈ cs → p ∈ clGo env l cs
  | [], _, _, h => h
  | (n, k) :: r, cs, p, h => by
    unfold clGo
    refine clGo_keep r _ p ?_
    split
    · exact List.mem_cons_of_mem _ h
    · exact h
theorem clGo_has {env : Env} : ∀ (l : List (Str × NameKind)) (cs : List (Str × Addr)) (x : Str), (x, NameKind.free) ∈ l → (x, (env.cells.lookup x).getD 0) ∈ clGo env l cs
  | (n, k) :: r, cs, x, h => by
    unfold clGo
    rcases List.mem_cons.mp h with e | h
    · cases e
      refine clGo_keep r _ _ ?_
      simp
    · exact clGo_has r _ x h
theorem lookup_of_mem {α : Type} : ∀ {l : List (Str × α)} {x : Str} {c : α}, (x, c) ∈ l → (∀ c', (x, c') ∈ l → c' = c) → l.lookup x = some c
  | (k, v) :: r, x, c, h, u => by
    rw [List.lookup_cons]
    cases hb : x == k with
    | true =>
      have e := beq_iff_eq.mp hb
      subst e
      rw [u v List.mem_cons_self]
    | false =>
      rcases List.mem_cons.mp h with e | h
      · cases e; simp at hb
      · exact lookup_of_mem h fun c' h' => u c' (List.mem_cons_of_mem _ h')
theorem clOf_sub {sc : Scope} {env : Env} (h : ∀ y ∈ sc.names, y.2 = .free → ∃ c, env.cells.lookup y.1 = some c) {x : Str} {c : Addr} (e : (clOf sc env).lookup x = some c) :
    env.cells.lookup x = some c ∧ (x, NameKind.free) ∈ sc.names := by
  rcases clGo_mem sc.names [] x c (mem_of_lookup e) with z | ⟨z, q⟩
  · exact absurd z (by simp)
  · obtain ⟨c', hc⟩ := h _ z rfl
    have hc : env.cells.lookup x = some c' := hc
    rw [hc] at q
    exact ⟨by rw [hc, q]; rfl, z⟩
theorem clOf_has {sc : Scope} {env : Env} {x : Str} (e : (x, NameKind.free) ∈ sc.names) : (clOf sc env).lookup x = some ((env.cells.lookup x).getD 0) :=
  lookup_of_mem (clGo_has sc.names [] x e) fun c' h' => by
    rcases clGo_mem sc.names [] x c' h' with z | ⟨_, q⟩
    · exact absurd z (by simp)
    · exact q
theorem cellsFrom_app : ∀ (names : List (Str × NameKind)) (n : Nat) (acc : List (Str × Addr)), cellsFrom n names acc = cellsFrom n names [] ++ acc
  | [], _, _ => rfl
  | (x, k) :: r, n, acc => by
    unfold cellsFrom
    split
    · rw [cellsFrom_app r (n + 1) ((x, n) :: acc), cellsFrom_app r (n + 1) [(x, n)]]; simp
    · exact cellsFrom_app r n acc
theorem cellsFrom_key : ∀ (names : List (Str × NameKind)) (n : Nat) (x : Str) (c : Addr), (x, c) ∈ cellsFrom n names [] → (x, NameKind.cell) ∈ names
  | [], _, _, _, h => by simp [cellsFrom] at h
  | (y, k) :: r, n, x, c, h => by
    unfold cellsFrom at h
    split at h
    · rename_i hk
      have hk' : k = .cell := by simpa using hk
      rw [cellsFrom_app] at h
      rcases List.mem_append.mp h with h | h
      · exact List.mem_cons_of_mem _ (cellsFrom_key r _ x c h)
      · have e : (x, c) = (y, n) := by simpa using h
        cases e; subst hk'; exact List.mem_cons_self
    · exact List.mem_cons_of_mem _ (cellsFrom_key r _ x c h)
noncomputable def bkEnv (sc : Scope) (cl : List (Str × Addr)) (C : Addr) (env : Env) : Env :=
  { scope := relabel sc env, locals := C, globals := env.globals, cells := cellsFrom (C + 1) sc.names cl, qual := env.qual, func := none, code := env.code, frame := env.frame, builtins := env.builtins }
theorem newBlock {sc : Scope} {cl : List (Str × Addr)} {env : Env} {Q : Env → Shared → Prop}
    (h : Q (newEnv sc s.heap.objs.size env.globals (cellsFrom (s.heap.objs.size + 1) sc.names cl) env.qual none .none (some env) builtinsNs) { s with heap := pushCells (s.heap.push { cls := .type "dict", data := .dict #[] }) sc.names }) :
    wpAny M A (newFunctionEnv sc env.globals cl [] env.qual none .none (some env)) Q E s := by
  simp only [newFunctionEnv, Option.isSome_some, if_true]
  refine wpAny_bind (wpAny_alloc ?_)
  refine wpAny_bind (wpAny_layCells _ (fun name kind cells => by cases hkc : kind == NameKind.cell <;> simp [hkc]) _ _ _ _ ?_)
  rw [show ({ s with heap := s.heap.push { cls := .type "dict", data := .dict #[] } } : Shared).heap.objs.size = s.heap.objs.size + 1 from Heap.size_push ..]
  rw [List.forIn_nil]
  exact wpAny_bind (wpAny_pure (wpAny_pure h))
theorem relabel_cell {sc : Scope} {env : Env} : ∀ {l : List (Str × NameKind)} {x : Str},
    (l.map fun (n, k) => if (k == NameKind.free && env.scope.kind == .function && env.kindOf n == some .cell) then (n, NameKind.cell) else (n, k)).lookup x = some .cell → l.lookup x = some .cell ∨ l.lookup x = some .free
  | [], x, h => by simp at h
  | (n, k) :: r, x, h => by
    rw [List.map_cons] at h
    rw [List.lookup_cons]
    cases hx : x == n with
    | true =>
      dsimp only at h
      split at h
      · rename_i hc
        rw [Bool.and_eq_true, Bool.and_eq_true] at hc
        have : k = .free := by simpa using hc.1.1
        rw [this]; exact .inr rfl
      · simp only [List.lookup_cons, hx] at h
        exact .inl h
    | false =>
      refine relabel_cell (sc := sc) (env := env) (l := r) ?_
      dsimp only at h
      split at h <;> simpa only [List.lookup_cons, hx] using h
theorem relabel_free {env : Env} : ∀ {l : List (Str × NameKind)} {x : Str},
    (l.map fun (n, k) => if (k == NameKind.free && env.scope.kind == .function && env.kindOf n == some .cell) then (n, NameKind.cell) else (n, k)).lookup x = some .free → l.lookup x = some .free
  | [], x, h => by simp at h
  | (n, k) :: r, x, h => by
    rw [List.map_cons] at h
    rw [List.lookup_cons]
    cases hx : x == n with
    | true =>
      dsimp only at h
      split at h
      · simp only [List.lookup_cons, hx] at h
        cases h
      · simp only [List.lookup_cons, hx] at h
        exact h
    | false =>
      refine relabel_free (env := env) (l := r) ?_
      dsimp only at h
      split at h <;> simpa only [List.lookup_cons, hx] using h
theorem relabel_of_free {env : Env} : ∀ {l : List (Str × NameKind)} {x : Str}, l.lookup x = some .free →
    (l.map fun (n, k) => if (k == NameKind.free && env.scope.kind == .function && env.kindOf n == some .cell) then (n, NameKind.cell) else (n, k)).lookup x = some .cell ∨
    (l.map fun (n, k) => if (k == NameKind.free && env.scope.kind == .function && env.kindOf n == some .cell) then (n, NameKind.cell) else (n, k)).lookup x = some .free
  | [], x, h => by simp at h
  | (n, k) :: r, x, h => by
    rw [List.map_cons]
    rw [List.lookup_cons] at h
    cases hx : x == n with
    | true =>
      rw [hx] at h
      cases h
      dsimp only
      split
      · exact .inl (by simp only [List.lookup_cons, hx])
      · exact .inr (by simp only [List.lookup_cons, hx])
    | false =>
      rw [hx] at h
      have := relabel_of_free (env := env) (l := r) h
      dsimp only
      split <;> simpa only [List.lookup_cons, hx] using this
end
section
variable {prog : Program} {w : World} {A : Around} {R : Result → Shared → Prop} {s : Shared}
theorem compLoop_go {elt target iter : Expr} {ifs : List Expr} {scope : Scope} {pos : Pos} {it acc : Value} {env : Env} (I : Nat → Shared → Prop)
    (turn : ∀ n s, I n s → wpAny (model prog w) A (pyNext it) (fun r s₁ => match r with
      | none => R (.ok .next) s₁
      | some v => wpAny (model prog w) A (letOwnedTupleGo target it v) (fun _ s₁' => wpAny (model prog w) A (assign target env v) (fun _ s₂ =>
          wpAny (model prog w) A (forIn ifs true fun c r => if r = true then do let ok ← isTrue c env (eval c env); pure (ForInStep.yield ok) else pure (ForInStep.yield r)) (fun ok s₃ =>
            if ok = true then wpAny (model prog w) A (eval elt env) (fun x s₄ =>
              wpAny (model prog w) A (call (.builtin "list.append") [acc, x]) (fun _ s₅ => ∃ m, m < n ∧ I m s₅) (fun _ _ => False) s₄) (fun _ _ => False) s₃
            else ∃ m, m < n ∧ I m s₃) (fun _ _ => False) s₂) (fun _ _ => False) s₁') (fun _ _ => False) s₁) (fun _ _ => False) s)
    (n : Nat) (h : I n s) :
    codeAny (model prog w) A (.compLoop (.ListComp elt [⟨target, iter, ifs, 0⟩] scope pos) 0 it acc env) R s := by
  refine codeAny_loop rfl I (fun n s hI => ?_) n h
  show wpAny _ A ((compTurn (.ListComp elt [⟨target, iter, ifs, 0⟩] scope pos) 0 it acc env).onRaise (fun x => do noteFrame x env; theTreesLotGoes x)) _ _ s
  refine wpAny_noted ?_
  rw [compTurn_list]
  refine wpAny_bind (wpAny_standAt (wpAny_bind (wpAny_mono (turn n s hI) (fun r s₁ h₁ => ?_) fun _ _ h' => h'.elim)))
  cases r with
  | none => exact wpAny_pure h₁
  | some v =>
    refine wpAny_bind (wpAny_mono h₁ (fun _ s₁' h₁' => ?_) fun _ _ h' => h'.elim)
    refine wpAny_bind (wpAny_mono h₁' (fun _ s₂ h₂ => wpAny_bind (wpAny_mono h₂ (fun ok s₃ h₃ => ?_) fun _ _ h' => h'.elim)) fun _ _ h' => h'.elim)
    cases ok with
    | false => exact wpAny_pure ⟨rfl, h₃⟩
    | true =>
      exact wpAny_bind (wpAny_bind (wpAny_mono h₃ (fun x s₄ h₄ => wpAny_bind (wpAny_mono h₄ (fun _ s₅ h₅ => wpAny_pure (wpAny_pure ⟨rfl, h₅⟩)) fun _ _ h' => h'.elim)) fun _ _ h' => h'.elim))
end
end C5
set_option Elab.async false
set_option linter.all false
set_option maxRecDepth 100000
namespace L2
open PySem PySem.Spec PyProof.Rows C5
noncomputable def entry (src : List (Option Nat)) (σ : St) : St := src.map fun o => o.bind fun i => (σ[i]?).join
structure BkScope (so sc : Scope) (No N : List Str) (src : List (Option Nat)) : Prop where
  kind : sc.kind = .function
  free : sc.names.all (fun y => !(y.2 == .free) || (so.names.lookup y.1 == some .cell || so.names.lookup y.1 == some .free)) = true
  uniq : sc.names.all (fun y => sc.names.lookup y.1 == some y.2) = true
  len : src.length = N.length
  src : (src.zip N).all (fun p => match p.1 with | none => true | some i => No[i]? == some p.2 && sc.names.lookup p.2 == some .free) = true
  nd : N.Nodup
noncomputable def cxB (X : Cx) (sc : Scope) (N : List Str) (fp : List Addr) (C : Addr) (s : Shared) (H : Hp) : Cx :=
  { X with N := N, s₀ := s, H₀ := H, env := bkEnv sc (clOf sc X.env) C X.env, outer := X.stack, stack := X.stack, ex := fp, fn := fun x => sc.names.lookup x == some .cell, pn := [], xe := fun _ _ => False }
section
variable {X : Cx} {pins : List (Addr × Obj)} {σ : St} {H : Hp} {s : Shared} {sc : Scope} {N : List Str} {src : List (Option Nat)}
theorem BkScope.has {so : Scope} {No : List Str} (B : BkScope so sc No N src) (hso : X.env.scope = so) (ok : X.Ok) : ∀ y ∈ sc.names, y.2 = .free → ∃ c, X.env.cells.lookup y.1 = some c := by
  intro y hy hk
  have h := List.all_eq_true.mp B.free y hy
  rw [hk] at h
  simp only [beq_self_eq_true, Bool.not_true, Bool.false_or, Bool.or_eq_true, beq_iff_eq] at h
  rw [← hso] at h
  rcases h with h | h
  · exact ok.has y.1 (.inl h)
  · exact ok.has y.1 (.inr h)
theorem BkScope.look {so : Scope} {No : List Str} (B : BkScope so sc No N src) {x : Str} {k : NameKind} (h : (x, k) ∈ sc.names) : sc.names.lookup x = some k := by
  have := List.all_eq_true.mp B.uniq (x, k) h
  simpa using this
theorem lookup_app {α : Type} : ∀ {l r : List (Str × α)} {x : Str} {c : α}, (l ++ r).lookup x = some c → l.lookup x = some c ∨ r.lookup x = some c
  | [], _, _, _, h => .inr h
  | (k, v) :: l, r, x, c, h => by
    rw [List.cons_append, List.lookup_cons] at h
    rw [List.lookup_cons]
    cases hb : x == k with
    | true => rw [hb] at h; exact .inl h
    | false => rw [hb] at h; exact lookup_app h
theorem lookup_app_r {α : Type} : ∀ {l r : List (Str × α)} {x : Str}, (∀ c, (x, c) ∉ l) → (l ++ r).lookup x = r.lookup x
  | [], _, _, _ => rfl
  | (k, v) :: l, r, x, h => by
    rw [List.cons_append, List.lookup_cons]
    have hb : (x == k) = false := beq_eq_false_iff_ne.mpr fun e => h v (by rw [e]; exact List.mem_cons_self)
    rw [hb]
    exact lookup_app_r fun c hc => h c (List.mem_cons_of_mem _ hc)
theorem Inv.block {fp : List Addr} {h1 : Heap} {C : Nat} {t : Nat} (I : Inv X pins σ H s) (B : BkScope X.env.scope sc X.N N src) (hf : ∀ b ∈ fp, FpOk X pins H b) (hlt : ∀ b ∈ fp, b < s.heap.objs.size)
    (hC : C = s.heap.objs.size + 1) (e1 : h1 = pushCells ((s.heap.push { cls := .type "list", data := .seq #[] }).push { cls := .type "dict", data := .dict #[] }) sc.names) :
    Inv (cxB X sc N fp C s H) [] (entry src σ) (upd H s.heap.objs.size (.lst [])) { s with heap := h1, toks := t } := by
  have has := B.has rfl I.ok
  have szL : (s.heap.push { cls := .type "list", data := .seq #[] } : Heap).objs.size = C := by rw [Heap.size_push, hC]
  have szD : ((s.heap.push { cls := .type "list", data := .seq #[] }).push { cls := .type "dict", data := .dict #[] } : Heap).objs.size = C + 1 := by rw [Heap.size_push, szL]
  have own := cellsFrom_ok sc.names ((s.heap.push { cls := .type "list", data := .seq #[] }).push { cls := .type "dict", data := .dict #[] }) (C + 1) [] ⟨fun _ _ hm => (nomatch hm), List.Pairwise.nil⟩ (by rw [szD]; exact Nat.le_refl _)
  rw [szD, ← e1] at own
  have keep0 : ∀ b o, ((s.heap.push { cls := .type "list", data := .seq #[] }).push { cls := .type "dict", data := .dict #[] } : Heap).get? b = some o → h1.get? b = some o := fun b o e => by rw [e1]; exact pushCells_keeps _ _ b o e
  have keep : ∀ b o, s.heap.get? b = some o → h1.get? b = some o := fun b o e => keep0 b o (Heap.get?_push_of_some _ (Heap.get?_push_of_some _ e))
  have atD : h1.get? s.heap.objs.size = some { cls := .type "list", data := .seq #[] } := keep0 _ _ (Heap.get?_push_of_some _ (Heap.get?_push_size _ rfl))
  have nsC : h1.Ns C (fun _ => none) := by
    have q := Heap.Ns.new (s.heap.push { cls := .type "list", data := .seq #[] }) (.type "dict")
    rw [szL] at q
    exact q.keeps keep0
  have fresh : ∀ b, s.heap.objs.size ≤ b → H b = none := fun b hb => I.hok.fresh hb
  have cells : ∀ x c, (cellsFrom (C + 1) sc.names (clOf sc X.env)).lookup x = some c →
      ((x, c) ∈ cellsFrom (C + 1) sc.names [] ∧ h1.IsCell c none ∧ C + 1 ≤ c) ∨ (X.env.cells.lookup x = some c ∧ (x, NameKind.free) ∈ sc.names) := fun x c e => by
    rw [cellsFrom_app] at e
    rcases lookup_app e with e | e
    · have hm := mem_of_lookup e
      obtain ⟨q1, q2⟩ := own.empty x c hm
      exact .inl ⟨hm, q1, q2⟩
    · exact .inr (clOf_sub has e)
  have cellLt : ∀ x c, X.env.cells.lookup x = some c → @LT.lt Nat instLTNat c s.heap.objs.size := fun x c e => by
    obtain ⟨v, z⟩ := I.cell x c e
    exact z.lt
  have freeIn : ∀ x, (x, NameKind.free) ∈ sc.names → (cellsFrom (C + 1) sc.names (clOf sc X.env)).lookup x = X.env.cells.lookup x := fun x hx => by
    rw [cellsFrom_app, lookup_app_r (fun c hc => ?_), clOf_has hx]
    · obtain ⟨c, hc⟩ := has _ hx rfl
      have hc : X.env.cells.lookup x = some c := hc
      rw [hc]; rfl
    · have k1 := B.look (cellsFrom_key sc.names _ x c hc)
      have k2 := B.look hx
      rw [k1] at k2; cases k2
  have ex : (cxB X sc N fp C s H).ex = fp := rfl
  refine ⟨⟨I.ok.mod, B.kind, I.ok.glob, I.ok.blt, ?_, ?_, ?_, ?_, I.ok.hd, I.ok.frames, .inl rfl, ?_, I.bs, Nat.le_trans I.ok.bsz I.sz, ?_, ?_, I.stack, I.stkFree⟩, rfl, I.bare, Un.laid keep (Nat.le_refl _) (fresh _ (Nat.le_refl _)), ?_, ?_, ?_, ?_, ?_, ?_, ?_⟩
  · -- above
    show s.heap.objs.size ≤ C
    omega
  · -- inj
    intro x y c h1' h2'
    rcases cells x c h1' with ⟨m1, _, g1⟩ | ⟨e1', _⟩
    · rcases cells y c h2' with ⟨m2, _, _⟩ | ⟨e2', _⟩
      · exact name_of_addr own.apart m1 m2
      · have := cellLt y c e2'; omega
    · rcases cells y c h2' with ⟨_, _, g2⟩ | ⟨e2', _⟩
      · have := cellLt x c e1'; omega
      · exact I.ok.inj x y c e1' e2'
  · -- has
    intro x hx
    show ∃ c, (cellsFrom (C + 1) sc.names (clOf sc X.env)).lookup x = some c
    have hx' : sc.names.lookup x = some .cell ∨ sc.names.lookup x = some .free := by
      rcases hx with hx | hx
      · exact relabel_cell (sc := sc) (env := X.env) hx
      · exact .inr (relabel_free (env := X.env) hx)
    rcases hx' with hx' | hx'
    · exact Option.isSome_iff_exists.mp (PySem.W.cellsFrom_some sc.names (C + 1) (clOf sc X.env) (.inl hx'))
    · rw [freeIn x (PySem.mem_of_lookup hx')]
      exact has _ (PySem.mem_of_lookup hx') rfl
  · -- cab
    intro x c hfn hc
    have hfn' : sc.names.lookup x = some .cell := by simpa [cxB] using hfn
    show s.heap.objs.size ≤ c
    rcases cells x c hc with ⟨_, _, g⟩ | ⟨_, hfr⟩
    · omega
    · have := B.look hfr
      rw [hfn'] at this; cases this
  · -- exf
    intro b hb
    rw [ex] at hb
    have hb' : @LT.lt Nat instLTNat b s.heap.objs.size := hlt b hb
    obtain ⟨f0, f1, f2, f3, f4, f5⟩ := hf b hb
    refine ⟨Nat.ne_of_lt (show @LT.lt Nat instLTNat b C by omega), fun x c hc => ?_⟩
    rcases cells x c hc with ⟨_, _, g⟩ | ⟨e, _⟩
    · exact Nat.ne_of_gt (show @LT.lt Nat instLTNat b c by omega)
    · exact f4 x c e
  · -- noex
    intro b o e hb
    rw [ex] at hb
    obtain ⟨f0, f1, f2, f3, f4, f5⟩ := hf b hb
    rcases f3 with f3 | f3
    · exact I.ok.noex b o e f3
    · exact absurd (Nat.lt_of_lt_of_le (Heap.lt_size e) (Nat.le_trans I.ok.bsz f3)) (Nat.lt_irrefl _)
  · -- exfs
    intro b hb hb2
    rw [ex] at hb
    obtain ⟨f0, f1, f2, f3, f4, f5⟩ := hf b hb
    rcases List.mem_cons.mp (I.stkSub b hb2) with z | z
    · exact f1 z
    · exact f2 z
  · -- loc
    refine ⟨fun _ => none, nsC, fun j x v hj hv _ => ?_⟩
    have hj : N[j]? = some x := hj
    unfold entry at hv
    rw [List.getElem?_map] at hv
    cases hs : src[j]? with
    | none => rw [hs] at hv; cases hv
    | some o =>
      rw [hs] at hv
      cases o with
      | none => cases hv
      | some i =>
        have hv : ((σ[i]?).join) = some v := by simpa using hv
        have hm : (some i, x) ∈ src.zip N := by
          rw [List.mem_iff_getElem?]
          exact ⟨j, by rw [List.getElem?_zip_eq_some]; exact ⟨hs, hj⟩⟩
        have q := List.all_eq_true.mp B.src _ hm
        simp only [Bool.and_eq_true, beq_iff_eq] at q
        obtain ⟨q1, q2⟩ := q
        have hfr := PySem.mem_of_lookup q2
        have hσ : σ[i]? = some (some v) := by
          cases e : σ[i]? with
          | none => rw [e] at hv; cases hv
          | some u => rw [e] at hv; cases u with
            | none => cases hv
            | some w' => cases hv; rfl
        obtain ⟨m, hn, hl⟩ := I.loc
        have hso := List.all_eq_true.mp B.free _ hfr
        simp only [beq_self_eq_true, Bool.not_true, Bool.false_or, Bool.or_eq_true, beq_iff_eq] at hso
        have hvis : Vis X.env.scope x := by
          rcases hso with z | z
          · exact .inr (.inl z)
          · exact .inr (.inr z)
        obtain ⟨u, ru, lk⟩ := hl i x v q1 hσ hvis
        refine ⟨u, ru, .inr ⟨?_, ?_⟩⟩
        · exact relabel_of_free (env := X.env) q2
        · rcases lk with ⟨kk, _⟩ | ⟨_, c, hc, hcell⟩
          · have kk : X.env.scope.names.lookup x = some .local := kk
            rcases hso with z | z
            · rw [kk] at z; cases z
            · rw [kk] at z; cases z
          · refine ⟨c, ?_, hcell.keeps keep⟩
            show (cellsFrom (C + 1) sc.names (clOf sc X.env)).lookup x = some c
            rw [freeIn x hfr]; exact hc
  · -- cell
    intro x c hc
    rcases cells x c hc with ⟨_, g, _⟩ | ⟨e, _⟩
    · exact ⟨none, g⟩
    · obtain ⟨v, z⟩ := I.cell x c e
      exact ⟨v, z.keeps keep⟩
  · -- free
    show upd H s.heap.objs.size (.lst []) C = none
    rw [upd_ne (Nat.ne_of_gt (show @LT.lt Nat instLTNat s.heap.objs.size C by omega))]
    exact fresh _ (show @LE.le Nat instLENat s.heap.objs.size C by omega)
  · -- freeC
    intro x c hc
    rcases cells x c hc with ⟨_, _, g⟩ | ⟨e, _⟩
    · rw [upd_ne (Nat.ne_of_gt (show @LT.lt Nat instLTNat s.heap.objs.size c by omega))]; exact fresh _ (show @LE.le Nat instLENat s.heap.objs.size c by omega)
    · rw [upd_ne (Nat.ne_of_lt (cellLt x c e))]; exact I.freeC x c e
  · -- pin
    intro p hp
    exact absurd (show p ∈ ([] : List (Addr × Obj)) from hp) (by simp)
  · -- hok
    refine I.hok.laid keep (Nat.le_refl _) ?_
    exact ⟨Nat.zero_le _, [], 0, .nil, atD⟩
  · -- len
    unfold entry
    rw [List.length_map]
    exact B.len
noncomputable def PTs (X : Cx) (ifs : List Expr) (t : TT) : Prop :=
  ∀ (pins : List (Addr × Obj)) (s : Shared) (σ : St) (H : Hp) (Q : Bool → Hp → Prop), Inv X pins σ H s → t σ H Q →
    wpAny (model X.prog X.w) X.A (forIn ifs true fun c r => if r = true then do let ok ← isTrue c X.env (eval c X.env); pure (ForInStep.yield ok) else pure (ForInStep.yield r)) (TP X pins σ Q) X.xe s
noncomputable def tTrue : TT := fun _ H Q => Q true H
theorem pts_nil : PTs X [] tTrue := fun _ _ _ H _ I h => wpAny_tests_nil ⟨H, I, h⟩
theorem pts_one {c : Expr} {t : TT} (h : PT X c t) : PTs X [c] t := fun pins s σ H Q I hw => wpAny_tests_one (h pins s σ H Q I hw)
noncomputable def tComp (src : List (Option Nat)) (wi : TI) (g : TG) (tt : TT) (te : TE) : TE := fun σ H Q => wi σ H fun J H1 => ∀ D, H1 D = none →
  ∃ W : Nat → Nat → St → Hp → Prop, (∃ m, W 0 m (entry src σ) (upd H1 D (.lst []))) ∧ ∀ i m σ' H', W i m σ' H' →
    (J.stop i H' ∧ Q (.ref D) H') ∨ (J.go i H' ∧ ∃ N : St → Hp → Prop, (∀ σ2 H2, N σ2 H2 → ∃ m', m' < m ∧ W (i + 1) m' σ2 H2) ∧ ∀ x H2, J.yld i H' x H2 → g x σ' H2 fun σ3 H3 => tt σ3 H3 fun b H4 =>
      if b = true then te σ3 H4 fun v H5 => ∃ xs, H5 D = some (.lst xs) ∧ xs.length < sizeLine ∧ N σ3 (upd H5 D (.lst (xs ++ [v]))) else N σ3 H4)
theorem pe_comp {elt tgt iter : Expr} {ifs : List Expr} {wi : TI} {g : TG} {tt : TT} {te : TE} {pos : Pos} (hc : X.calm = true) (B : BkScope X.env.scope sc X.N N src) (hi : PI X tgt iter wi)
    (hg : ∀ (s : Shared) (H : Hp) (C : Addr) (fp : List Addr), PG (cxB X sc N fp C s H) tgt g) (ht : ∀ (s : Shared) (H : Hp) (C : Addr) (fp : List Addr), PTs (cxB X sc N fp C s H) ifs tt)
    (he : ∀ (s : Shared) (H : Hp) (C : Addr) (fp : List Addr), PE (cxB X sc N fp C s H) elt te) (hs : ∀ x, foldedSetIterable iter X.env x = pure x := by intro _; rfl) :
    PE X (.ListComp elt [⟨tgt, iter, ifs, 0⟩] sc pos) (tComp src wi g tt te) := by
  intro pins s σ H Q I h
  rw [eval_ListComp]
  have has := B.has rfl I.ok
  refine wpAny_comprehension_free (use := none) rfl hs (clos_of has) B.kind (fun y hy hk => by have := B.look (x := y.1) (k := y.2) hy; rw [hk] at this; exact this)
    (thn (hi pins s σ H _ I h) fun v s1 h1 => thn h1 fun itv s2 h2 => ?_)
  obtain ⟨it, fp, tn, J, H2, e, I2, T, st2, f2, q⟩ := h2
  subst e
  refine wpAny_newObj_type (newBlock ?_)
  obtain ⟨W, ⟨m0, w0⟩, turn⟩ := q s2.heap.objs.size (I2.hok.fresh (Nat.le_refl _))
  have hlt : ∀ b ∈ fp, b < s2.heap.objs.size := fun b hb => by
    obtain ⟨o, ho, _⟩ := T.obj 0 _ st2 b hb
    exact Heap.lt_size ho
  have szL : (s2.heap.push { cls := .type "list", dict := none, data := .seq ([] : List Value).toArray } : Heap).objs.size = s2.heap.objs.size + 1 := Heap.size_push ..
  generalize hh1 : pushCells ((s2.heap.push { cls := .type "list", dict := none, data := .seq ([] : List Value).toArray } : Heap).push { cls := .type "dict", data := .dict #[] }) sc.names = hB
  have IB := I2.block (C := (s2.heap.push { cls := .type "list", dict := none, data := .seq ([] : List Value).toArray } : Heap).objs.size) (t := s2.toks) B f2 hlt szL hh1.symm
  generalize (s2.heap.push { cls := .type "list", dict := none, data := .seq ([] : List Value).toArray } : Heap).objs.size = C at IB szL ⊢
  have keepB : ∀ b o, s2.heap.get? b = some o → hB.get? b = some o := fun b o e => by
    rw [← hh1]
    exact pushCells_keeps _ _ b o (Heap.get?_push_of_some _ (Heap.get?_push_of_some _ e))
  have stB : tn 0 hB := T.keep 0 _ _ st2 fun b _ o e => keepB b o e
  have frB : ∀ b ∈ fp, upd H2 s2.heap.objs.size (.lst []) b = none := fun b hb => by
    rw [upd_ne (Nat.ne_of_lt (hlt b hb))]
    exact (f2 b hb).1
  have stat : ∀ {H' : Hp}, (∀ b ∈ fp, H' b = none) → ∀ b ∈ fp, FpOk (cxB X sc N fp C s2 H2) [] H' b := fun {H'} hn b hb => by
    obtain ⟨z1, z2⟩ := IB.ok.exf b hb
    exact ⟨hn b hb, z1, IB.ok.exfs b hb, .inl hb, z2, fun p hp => absurd (show p ∈ ([] : List (Addr × Obj)) from hp) (by simp)⟩
  show codeAny (model X.prog X.w) X.A (.compStart (.ListComp elt [⟨tgt, iter, ifs, 0⟩] sc pos) 0 (.ref it) (.ref s2.heap.objs.size) (bkEnv sc (clOf sc X.env) C X.env)) (compPost (model X.prog X.w) X.A X.xe none (EP X pins σ Q) (.ref s2.heap.objs.size) C) { s2 with heap := hB }
  have loop : codeAny (model X.prog X.w) X.A (.compLoop (.ListComp elt [⟨tgt, iter, ifs, 0⟩] sc pos) 0 (.ref it) (.ref s2.heap.objs.size) (bkEnv sc (clOf sc X.env) C X.env))
      (compPost (model X.prog X.w) X.A X.xe none (EP X pins σ Q) (.ref s2.heap.objs.size) C) { s2 with heap := hB } := by
    refine compLoop_go (fun n s' => ∃ i σ' H', Inv (cxB X sc N fp C s2 H2) [] σ' H' s' ∧ tn i s'.heap ∧ (∀ b ∈ fp, H' b = none) ∧ W i n σ' H') ?_ m0 ⟨0, _, _, IB, stB, frB, w0⟩
    rintro n s3 ⟨i, σ3, H3, I3, st3, fr3, w3⟩
    rcases turn i n σ3 H3 w3 with ⟨stop, qn⟩ | ⟨go, N', hN, step⟩
    · refine thn (T.done (cxB X sc N fp C s2 H2) rfl rfl rfl hc i [] s3 σ3 H3 _ I3 (stat fr3) st3 stop) fun r s4 ⟨hr, I4⟩ => ?_
      subst hr
      obtain ⟨m, hn, _⟩ := I4.loc
      refine ⟨m, hn, fun h' hs' => ?_⟩
      refine ⟨.ref s2.heap.objs.size, H3, ?_, rfl, qn⟩
      have ltC : ∀ b o, s2.heap.get? b = some o → b ≠ C := fun b o e => Nat.ne_of_lt (show @LT.lt Nat instLTNat b C by have : @LT.lt Nat instLTNat b s2.heap.objs.size := Heap.lt_size e; omega)
      have base := I4.base
      have freeC : H3 C = none := I4.free
      refine I2.call' (s' := { s4 with heap := h' }) (ch := fp) I4.os ⟨fun b o e n hb hx => ?_, fun b o e n hb hx => ?_, base.free, fun b o e hx => ?_, base.tups, base.frzs, base.tbls⟩ (fun b ob e => ?_) I4.bare (fun b hb => ?_)
      · exact (hs'.2 b (ltC b o e)).trans (base.keep b o e n hb hx)
      · obtain ⟨sl, e1⟩ := base.slot b o e n hb hx
        exact ⟨sl, (hs'.2 b (ltC b o e)).trans e1⟩
      · obtain ⟨o', e1⟩ := base.there b o e hx
        exact ⟨o', (hs'.2 b (ltC b o e)).trans e1⟩
      · refine (I4.hok b ob e).stay (fun c w' hc' q' => (hs'.2 c ?_).trans q') (fun _ q' => q') fun _ _ q' => q'
        intro z
        rcases hc' with z' | z'
        · rw [← z', z, freeC] at e; cases e
        · rw [z, freeC] at z'; cases z'
      · obtain ⟨f0, f1, f2', f3, f4, f5⟩ := f2 b hb
        exact ⟨f3, f1, f4, f5⟩
    · refine thn (T.item (cxB X sc N fp C s2 H2) rfl rfl rfl hc i [] s3 σ3 H3 _ I3 (stat fr3) st3 go) fun r s4 ⟨u, hr, h4⟩ => ?_
      subst hr
      refine thn h4 fun _ s5 ⟨x, H5, I5, r5, y5, st5, fr5⟩ => ?_
      have I5' := I5.pinned (stat fr5) (T.obj _ _ st5)
      have again : ∀ {s7 : Shared} {σ7 : St} {H7 : Hp}, Inv (cxB X sc N fp C s2 H2) ([] ++ pinsAt fp s5.heap) σ7 H7 s7 → N' σ7 H7 → ∃ m, m < n ∧ ∃ i σ' H', Inv (cxB X sc N fp C s2 H2) [] σ' H' s7 ∧ tn i s7.heap ∧ (∀ b ∈ fp, H' b = none) ∧ W i m σ' H' := fun {s7 σ7 H7} I7 n7 => by
        obtain ⟨m', hm, w7⟩ := hN σ7 H7 n7
        refine ⟨m', hm, i + 1, σ7, H7, I7.unpinned, T.keep _ _ _ st5 fun b hb o e => (I7.pin (b, o) (List.mem_append_right _ (List.mem_append_right _ (mem_pinsAt hb e)))).1, fun b hb => ?_, w7⟩
        obtain ⟨o, e, d⟩ := T.obj _ _ st5 b hb
        exact (I7.pin (b, o) (List.mem_append_right _ (List.mem_append_right _ (mem_pinsAt hb e)))).2.1
      refine thn (hg s2 H2 C fp _ s5 σ3 H5 x u _ I5' r5 (step x H5 y5)) fun _ s6 ⟨σ6, H6, I6, q6⟩ => ?_
      refine thn (ht s2 H2 C fp _ s6 σ6 H6 _ I6 q6) fun b s7 ⟨H7, I7, q7⟩ => ?_
      cases b with
      | false =>
        rw [if_neg Bool.false_ne_true] at q7 ⊢
        exact again I7 q7
      | true =>
        rw [if_pos rfl] at q7 ⊢
        refine thn (he s2 H2 C fp _ s7 σ6 H7 _ I7 q7) fun u8 s8 ⟨v8, H8, I8, r8, xs, hD, hz, n8⟩ => ?_
        exact thn (mt_append (X := cxB X sc N fp C s2 H2) _ s8 σ6 H8 (.ref s2.heap.objs.size) [v8] (.ref s2.heap.objs.size) [u8] (fun _ H => N' σ6 H) I8 rfl (.cons r8 .nil) ⟨_, xs, v8, rfl, rfl, hD, hz, n8⟩) fun _ s9 ⟨_, H9, I9, _, n9⟩ => again I9 n9
  exact codeAny_compStart_list loop (T.self _ 0 _ _ _ stB loop)
end
section
variable {X : Cx}
noncomputable def rAll (K : PySem.W.Frag) : List V → Hp → VK → Prop := fun xs H Q => ∃ (p : Addr) (bs : List Bool), xs = [.ref p] ∧ SqL K H p (bs.map V.bl) ∧ Q (.bl (bs.all id)) H
theorem all_range (bs : List Bool) : ((List.range bs.length).all fun i => bs.getD i false) = bs.all id := by
  induction bs with
  | nil => rfl
  | cons b r ih =>
    rw [List.length_cons, List.range_succ_eq_map, List.all_cons, List.all_map, List.all_cons, ← ih]
    rfl
theorem call_all (hc : X.calm = true) : CallR X (.builtin "all") (rAll X.K) := by
  intro pins s σ H xs us Q I rs h
  obtain ⟨p, bs, rfl, hq, q⟩ := h
  obtain ⟨u, rfl, r1⟩ := vals1 rs
  cases r1
  obtain ⟨its, r, pl, hz⟩ := I.list hq
  have hlen : its.length = bs.length := by have := r.length; rw [List.length_map] at this; exact this.symm
  refine call_function_tree F.kind_all F.plain_all F.entry_all (F.args_all1 _) ?_
  show wpAny _ X.A.in1 (pyIter (.ref p) >>= _) _ _ s
  refine wpAny_bind (wpAny_pyIter_list pl.isList ?_)
  have hne : p ≠ s.heap.objs.size := by
    obtain ⟨o, ho, _⟩ := pl.isList
    exact Nat.ne_of_lt (Heap.lt_size ho)
  refine wpAny_pure ⟨plainId_quiet F.plain_all_loop _, ?_⟩
  refine codeAny_all_loop (Walks.list (A := X.A.in1) (I.ok.hd hc) s.heap.objs.size p hne its.toArray) (fun i => bs.getD i false) (fun i v s' Q' E' hP hQ' => ?_) its.toArray.size 0 _ rfl (Nat.zero_le _)
    ⟨⟨_, Heap.get?_push_size _ rfl, rfl, rfl⟩, (show s.heap.IsList p its.toArray from pl.isList).at fun o e => Heap.get?_push_of_some _ e⟩ fun h' tk hk => ?_
  · have hP' : its[i]? = some v := by simpa using hP
    have hi : i < bs.length := by rw [← hlen]; exact (List.getElem?_eq_some_iff.mp hP').1
    obtain ⟨u, hu, ru⟩ := r.get (i := i) (x := V.bl (bs[i])) (by simp [hi])
    rw [hP'] at hu; cases hu
    obtain rfl : v = Value.bool bs[i] := ru
    have e : bs.getD i false = bs[i] := by simp [List.getD, hi]
    dsimp only at hQ'
    rw [e] at hQ'
    exact wpAny_truthy_bool hQ'
  · refine ⟨.bl (bs.all id), H, I.kept (t' := tk) fun b o e => hk b o (fun z => ?_) (Heap.get?_push_of_some _ e), ?_, q⟩
    · have z' : b = s.heap.objs.size := by simpa using z
      exact absurd (Heap.lt_size e) (by rw [z']; exact Nat.lt_irrefl _)
    · show Value.bool _ = Value.bool _
      rw [List.drop_zero, List.size_toArray, hlen, all_range]
end
end L2
set_option Elab.async false
set_option linter.all false
set_option maxRecDepth 100000
namespace L2
open PySem PySem.Spec PyProof.Rows
structure FunD (K : PySem.W.Frag) (x qual : Str) (st : Stmt) (dV : Value) (f : Addr) (fd : FuncData) : Prop where
  ex : ∃ (oc : Value) (od : Option Addr) (kV doc pm : Value) (an : Option Addr) (cdv ct : Value) (osl : Array (Option Value)),
    fd = PySem.W.fnOf x qual (defArgs st) (defBody st) (defScope st) dV kV doc pm an cdv ct ∧ K.lookup f = some ⟨oc, od, .func fd, osl⟩ ∧ PySem.W.codeIn K cdv qual = true
  kp : PySem.W.keepIn K (.ref f) = true
theorem funD_mk {K : PySem.W.Frag} {x qual : Str} {st : Stmt} {dV : Value} {f : Addr} {oc : Value} {od an : Option Addr} {osl : Array (Option Value)} {kV doc pm cdv ct : Value}
    (l : K.lookup f = some ⟨oc, od, .func (PySem.W.fnOf x qual (defArgs st) (defBody st) (defScope st) dV kV doc pm an cdv ct), osl⟩)
    (c : PySem.W.codeIn K cdv qual = true) (k : PySem.W.keepIn K (.ref f) = true) : FunD K x qual st dV f (PySem.W.fnOf x qual (defArgs st) (defBody st) (defScope st) dV kV doc pm an cdv ct) := ⟨⟨oc, od, kV, doc, pm, an, cdv, ct, osl, rfl, l, c⟩, k⟩
structure Def (P : Program) (w : World) (K : PySem.W.Frag) (mg : Str → Option Value) (base : Heap) (k : Nat) (x : Str) (ps : List Str) (ds : List V) (sp : Sp) : Prop where
  ex : ∃ (f : Addr) (fd : FuncData) (dvs : List Value), FnOk P w K mg base CX0 k f fd ps sp ∧ mg x = some (.ref f) ∧ PySem.W.keepIn K (.ref f) = true ∧ Binds K fd ps dvs ∧ Vals ds dvs
section
variable {P : Program} {w : World} {K : PySem.W.Frag} {mg : Str → Option Value} {base : Heap}
theorem FunD.ok {x qual : Str} {st : Stmt} {dV : Value} {f : Addr} {fd : FuncData} {N ps : List Str} {k : Nat} {sp : Sp} (F : FunD K x qual st dV f fd) (S : FnScope N ps (defScope st)) (len : ∀ vs H Q E, sp vs H Q E → vs.length = ps.length)
    (hbody : ∀ (cdv : Value) (A : Around) (outer : List Env) (s : Shared) (H : Hp) (vs : List V) (Q : VK) (E : XK), Room k (A.deeper (envOfC qual (defScope st) s.heap.objs.size f cdv)) → sp vs H Q E →
      ∃ t, PSs (cxOf CX0 P w K mg base N qual (defScope st) f cdv A outer s H E).nox (defBody st) t ∧ t { nx := fun _ H' => Q .non H', rt := Q } (start N vs) H) : FnOk P w K mg base CX0 (k + 1) f fd ps sp := by
  obtain ⟨oc, od, kV, doc, pm, an, cdv, ct, osl, rfl, lk, hcd⟩ := F.ex
  refine fn_of lk hcd S len fun A outer s H vs Q E hr hsp => ?_
  obtain ⟨t, h, q⟩ := hbody cdv A outer s H vs Q E hr hsp
  exact ⟨t, h.nox, q⟩
theorem FunD.def {x qual : Str} {st : Stmt} {f : Addr} {fd : FuncData} {ps : List Str} {k : Nat} {sp : Sp} (F : FunD K x qual st .none f fd) (G : FnOk P w K mg base CX0 k f fd ps sp) (hm : mg x = some (.ref f))
    (h : ∀ (kV doc pm : Value) (an : Option Addr) (cdv ct : Value) (us : List Value), us.length = ps.length → bindArgs (PySem.W.fnOf x qual (defArgs st) (defBody st) (defScope st) .none kV doc pm an cdv ct) ⟨us, []⟩ = pure (ps.zip us)) : Def P w K mg base k x ps [] sp := by
  obtain ⟨oc, od, kV, doc, pm, an, cdv, ct, osl, rfl, lk, hcd⟩ := F.ex
  exact ⟨f, _, [], G, hm, F.kp, .all (h kV doc pm an cdv ct), .nil⟩
end
section
variable {X : Cx}
theorem pe_callD {k : Nat} {x : Str} {ps : List Str} {ds : List V} {sp : Sp} {e : Expr} {es : List Expr} {t : TA} {p pos : Pos} (D : Def X.prog X.w X.K X.mg X.base k x ps ds sp) (hr : Room k X.A) (hg : Gl X x)
    (ha : PA X (e :: es) t) (hdb : (x == ("__debug__" : Str)) = false := by decide) (he : starEach (e :: es) X.env = (false, eval e X.env) :: starEach es X.env := by rfl) (hpl : (backTo pos (starEach es X.env)).any (·.1) = false := by rfl) :
    PE X (.Call (.Name x p) (e :: es) [] pos) (tCall sp ds E0 t) := by
  obtain ⟨f, fd, dvs, F, hm, hk, hb, hd⟩ := D.ex
  exact pe_call F hr hg hm hk hb hd pass0 ha hdb he hpl
end
end L2
namespace Att
open PySem PySem.W PySem.Calls PyProof.Rows
theorem weight_mem : ∀ {ns : List Int} {x : Int}, x ∈ ns → Builtin.Int.intBits x ≤ WData.weightAll (ns.map WData.int)
  | n :: r, x, h => by
    rw [List.map_cons]
    unfold WData.weightAll
    rcases List.mem_cons.mp h with e | h
    · subst e
      have : WData.weight (.int x) = Builtin.Int.intBits x := by unfold WData.weight Builtin.Int.intBits; rfl
      omega
    · have := weight_mem h
      omega
theorem bits_of_lay {ns : List Int} (h : WData.layableAll [WData.list (ns.map WData.int)] = true) : ∀ x ∈ ns, Builtin.Int.intBits x ≤ 2 ^ 20 := fun x hx => by
  have h1 : WData.layable (WData.list (ns.map WData.int)) = true := by simpa [WData.layableAll] using h
  unfold WData.layable at h1
  rw [Bool.and_eq_true] at h1
  have h2 : WData.weight (WData.list (ns.map WData.int)) ≤ 2 ^ 20 := of_decide_eq_true h1.2
  have h3 : WData.weight (WData.list (ns.map WData.int)) = WData.weightAll (ns.map WData.int) := by unfold WData.weight; rfl
  have h4 := weight_mem hx
  omega
theorem attach_callB {l : OpenLaw} {n : Nat} {q : Program} {loose : List Str} {XP : (Str → Option Value) → Heap → Prop} {YP : World → Heap → Prop} {d : DefRec}
    (hn : l.most = some n) (hdf : d.params.defaults = [])
    (call : ∀ (w : World) (s₀ s₁ : Shared) (mg mb : Str → Option Value) (fa : Addr) (o : Obj) (pm cd doc : Value) (a : Addr) (vs : List Value) (ns : List Int),
      Ground q loose [] XP w s₀ mg mb s₁.heap → YP w s₁.heap →
      s₁.heap.get? fa = some o → o.data = .func (docDef d.name d.params d.body d.scope pm cd doc) → s₁.heap.CodeRec cd d.name → mg d.name = some (.ref fa) →
      s₁.heap.get? a = some { cls := .type "list", data := .seq vs.toArray } → IntsAre vs ns → ns.length ≤ n → (∀ x ∈ ns, Builtin.Int.intBits x ≤ 2 ^ 20) → s₁.gens = #[] →
      codeAny (model l.prog w) callerA (.call (.ref fa) ⟨[.ref a], []⟩) (fun r s' => r = .ok (.ret (.bool true)) ∧ OldK s₁.heap s'.heap ∧ s'.os = s₁.os ∧ AllBare s'.gens) s₁) :
    WalkO q loose XP YP l.row.toRowW d [] (fun f vs => PySem.call f vs) := by
  intro w s₀ s₁ mg mb G Y fa o pm cd doc dV kV ho hd hcd hD hmg hg args vals as hpre hlay hrd hwl hlo
  obtain rfl : dV = .none := Dflts.none hD hdf
  obtain rfl : kV = .none := Dflts.noKw hD
  obtain ⟨a, vs, ns, rfl, rfl, hobj, hints, hlen⟩ := script_of hn hpre hwl
  refine enter_call (codeAny_mono (call w s₀ s₁ mg mb fa o pm cd doc a vs ns G Y ho (fd_plain hd) hcd hmg hobj hints hlen (bits_of_lay hlay) hg) fun r s' hq => ?_)
  obtain ⟨rfl, h2, h3, h4⟩ := hq
  exact ⟨.inl ⟨.bool true, .bool true, [], rfl, fun _ => rfl, .bool true, post_true l _, fun _ => ⟨List.Pairwise.nil, fun _ hm => (nomatch hm)⟩⟩, h2, h3, h4⟩
end Att
namespace L2
open PySem PySem.Spec PyProof.Rows
theorem walk_ofB {l : PySem.W.OpenLaw} {n k : Nat} {q : Program} {loose : List Str} {XP : (Str → Option Value) → Heap → Prop} {YP : World → Heap → Prop} {d : DefRec} {K : Params → PySem.W.Frag} {CX : CXT} {sp : PySem.W.Frag → Sp} {x : Str}
    (hn : l.most = some n) (hn2 : n ≤ sizeLine) (hdf : d.params.defaults = []) (hr : Room k callerA)
    (hY : ∀ (w : World) (h : Heap), YP w h → (K w.params).In h)
    (F : ∀ (w : World) (mg : Str → Option Value) (fa : Addr) (h : Heap), (K w.params).In h → h.Ns mainGlobals mg → mg d.name = some (.ref fa) →
      ∃ fd : FuncData, (∀ (s : Shared) (u : Value), BindsTo s fd ⟨[u], []⟩ [(x, u)]) ∧
        ∀ base : Heap, (K w.params).In base → base.Ns mainGlobals mg → FnOk l.prog w (K w.params) mg base CX k fa fd [x] (sp (K w.params)))
    (hsp : ∀ (K : PySem.W.Frag) (H : Hp) (a : Addr) (ns : List Int), ns.length ≤ n → (∀ x ∈ ns, Builtin.Int.intBits x ≤ 2 ^ 20) → Only H → SqL K H a (ns.map V.int) → sp K [.ref a] H (fun v _ => v = .bl true) fun _ _ _ => False)
    (hCX : ∀ (H : Hp) (s : Shared) (e : Value) (s' : Shared), CX [] H s (fun _ _ _ => False) e s' → False) :
    PySem.W.WalkO q loose XP YP l.row.toRowW d [] (fun f vs => PySem.call f vs) := by
  refine Att.attach_callB hn hdf fun w s₀ s₁ mg mb fa o pm cd doc a vs ns G Y ho hd hcd hmg hobj hints hlen hbits hg => ?_
  have KX := hY w _ Y
  obtain ⟨fd, hb, hF⟩ := F w mg fa _ KX G.T.g hmg
  exact law_call KX G.T.g G.T.b G.T.builtins G.T.nolimit hg hobj hints (Nat.le_trans hlen hn2) hr hF hb (fun H hO hS => hsp (K w.params) H a ns hlen hbits hO hS) fun H e s' => hCX H s₁ e s'
end L2
set_option Elab.async false
set_option linter.all false
namespace L2
open PySem
theorem len0 {us : List Value} (h : us.length = 0) : us = [] := List.eq_nil_of_length_eq_zero h
theorem lenS {us : List Value} {n : Nat} (h : us.length = n + 1) : ∃ a r, us = a :: r ∧ r.length = n := by
  cases us with
  | nil => exact absurd h (Nat.succ_ne_zero n).symm
  | cons a r => exact ⟨a, r, rfl, Nat.succ.inj h⟩
theorem len1 {us : List Value} (h : us.length = 1) : ∃ a, us = [a] := by
  obtain ⟨a, r, rfl, h2⟩ := lenS h; cases len0 h2; exact ⟨a, rfl⟩
theorem len2 {us : List Value} (h : us.length = 2) : ∃ a b, us = [a, b] := by
  obtain ⟨a, r, rfl, h2⟩ := lenS h; obtain ⟨b, rfl⟩ := len1 h2; exact ⟨a, b, rfl⟩
theorem len3 {us : List Value} (h : us.length = 3) : ∃ a b c, us = [a, b, c] := by
  obtain ⟨a, r, rfl, h2⟩ := lenS h; obtain ⟨b, c, rfl⟩ := len2 h2; exact ⟨a, b, c, rfl⟩
end L2
set_option Elab.async false
set_option linter.all false
set_option maxRecDepth 100000
namespace L2
open PySem PySem.Spec PyProof.Rows
open Sem (wp)
noncomputable def NoCtx (h : Heap) (ea : Addr) : Prop := ∃ o vs, h.get? ea = some o ∧ o.data = .fields vs ∧ vs[2]? = some Value.none
theorem NoCtx.keeps {h h' : Heap} {ea : Addr} (c : NoCtx h ea) (k : ∀ o, h.get? ea = some o → h'.get? ea = some o) : NoCtx h' ea := by
  obtain ⟨o, vs, e, d, n⟩ := c
  exact ⟨o, vs, k o e, d, n⟩
noncomputable def Keeps {α : Type} (P : Heap → Prop) : Sem α → Prop
  | .pure _ => True
  | .raise _ => True
  | .unsupported _ => True
  | .finish _ => True
  | .rule _ k => Keeps P (k ())
  | .at _ k => Keeps P (k ())
  | .load _ _ k => ∀ o, Keeps P (k o)
  | .update a _ f k => (∀ h, P h → P (h.update a f)) ∧ Keeps P (k ())
  | .alloc o k => (∀ h, P h → P (h.push o)) ∧ ∀ a, Keeps P (k a)
  | .loadIfAlive _ k => ∀ o, Keeps P (k o)
  | .point _ k => Keeps P (k ())
  | .register _ _ => True
  | .fresh k => ∀ n, Keeps P (k n)
  | .ask k => ∀ x, Keeps P (k x)
  | .choose _ _ k => ∀ n, Keeps P (k n)
  | .os _ _ k => ∀ x, Keeps P (k x)
  | .call .. => False
  | .handled _ k => ∀ x, Keeps P (k x)
  | .newGen _ k => ∀ n, Keeps P (k n)
  | .genState _ k => ∀ x, Keeps P (k x)
  | .resume .. => False
  | .yield .. => True
  | .stack k => ∀ l, Keeps P (k l)
  | .fork .. => True
  | .thread k => ∀ n, Keeps P (k n)
  | .await .. => True
section
variable {α β : Type} {P : Heap → Prop} {M : Model} {Γ : PySem.Ctx} {A : Around}
theorem Keeps.wp {t : Sem α} {Q : α → Pos → Shared → Prop} {E : Value → Pos → Shared → Prop} {p : Pos} {s : Shared} (hk : Keeps P t) (h : wp M Γ t Q E p s) (hp : P s.heap) :
    Sem.wp M Γ t (fun a p' s' => Q a p' s' ∧ P s'.heap) (fun e p' s' => E e p' s' ∧ P s'.heap) p s := by
  induction t generalizing p s with
  | pure a => exact ⟨h, hp⟩
  | raise e => exact ⟨h, hp⟩
  | unsupported w => exact h
  | finish e => exact h
  | rule tag k ih => exact ih () hk h hp
  | «at» q k ih => exact ih () hk h hp
  | load a part k ih => obtain ⟨o, ho, h⟩ := h; exact ⟨o, ho, ih o (hk o) h hp⟩
  | update a part f k ih => exact ⟨h.1, ih () hk.2 h.2 (hk.1 _ hp)⟩
  | alloc o k ih => exact ih _ (hk.2 _) h (hk.1 _ hp)
  | loadIfAlive a k ih => exact ih _ (hk _) h hp
  | point l k ih => exact ih () hk h hp
  | register a k ih => exact h
  | fresh k ih => exact ih _ (hk _) h hp
  | ask k ih => exact ih _ (hk _) h hp
  | choose src n k ih => exact ⟨h.1, ih _ (hk _) h.2 hp⟩
  | os q l k ih => exact ih _ (hk _) h hp
  | call c hd g l k ih => exact hk.elim
  | handled own k ih => exact ih _ (hk _) h hp
  | newGen c k ih => exact ih _ (hk _) h hp
  | genState g k ih => obtain ⟨st, e, h⟩ := h; exact ⟨st, e, ih _ (hk _) h hp⟩
  | resume g r l k ih => exact hk.elim
  | yield v g l k ih => exact h
  | stack k ih => exact ih _ (hk _) h hp
  | fork c k ih => exact h
  | thread k ih => exact ih _ (hk _) h hp
  | await a t b l k ih => exact h
theorem Keeps.any {t : Sem α} {Q : α → Shared → Prop} {E : Value → Shared → Prop} {s : Shared} (hk : Keeps P t) (hp : P s.heap) (h : wpAny M A t Q E s) : wpAny M A t (fun a s' => Q a s' ∧ P s'.heap) (fun e s' => E e s' ∧ P s'.heap) s :=
  fun Γ p hΓ => hk.wp (h Γ p hΓ) hp
theorem Keeps.bind {m : Sem α} {f : α → Sem β} (hm : Keeps P m) (hf : ∀ a, Keeps P (f a)) : Keeps P (m >>= f) := by
  show Keeps P (Sem.bind m f)
  induction m with
  | pure a => exact hf a
  | raise e => trivial
  | unsupported w => trivial
  | finish e => trivial
  | rule tag k ih => exact ih () hm
  | «at» q k ih => exact ih () hm
  | load a part k ih => exact fun o => ih o (hm o)
  | update a part g k ih => exact ⟨hm.1, ih () hm.2⟩
  | alloc o k ih => exact ⟨hm.1, fun a => ih a (hm.2 a)⟩
  | loadIfAlive a k ih => exact fun o => ih o (hm o)
  | point l k ih => exact ih () hm
  | register a k ih => trivial
  | fresh k ih => exact fun o => ih o (hm o)
  | ask k ih => exact fun o => ih o (hm o)
  | choose src n k ih => exact fun o => ih o (hm o)
  | os q l k ih => exact fun o => ih o (hm o)
  | call c hd g l k ih => exact hm.elim
  | handled own k ih => exact fun o => ih o (hm o)
  | newGen c k ih => exact fun o => ih o (hm o)
  | genState g k ih => exact fun o => ih o (hm o)
  | resume g r l k ih => exact hm.elim
  | yield v g l k ih => trivial
  | stack k ih => exact fun o => ih o (hm o)
  | fork c k ih => trivial
  | thread k ih => exact fun o => ih o (hm o)
  | await a t b l k ih => trivial
end
section
variable {ea : Addr}
theorem noctx_update {h : Heap} {a : Addr} {f : Obj → Obj} (c : NoCtx h ea) (hf : ∀ o vs, o.data = .fields vs → ∃ ws, (f o).data = .fields ws ∧ ws[2]? = vs[2]?) : NoCtx (h.update a f) ea := by
  obtain ⟨o, vs, e, d, n⟩ := c
  by_cases q : a = ea
  · subst q
    obtain ⟨ws, d2, n2⟩ := hf o vs d
    exact ⟨f o, ws, Heap.get?_update_self _ e (Obj.isFreed_of_fields d2), d2, n2.trans n⟩
  · exact ⟨o, vs, (Heap.get?_update_other _ _ q).trans e, d, n⟩
theorem noctx_push {h : Heap} {o : Obj} (c : NoCtx h ea) : NoCtx (h.push o) ea := c.keeps fun _ e => Heap.get?_push_of_some _ e
theorem noctx_field {h : Heap} {a : Addr} {i : Nat} {v : Value} (hi : i ≠ 2) (c : NoCtx h ea) : NoCtx (h.update a (Obj.mapFields (·.setIfInBounds i v))) ea :=
  noctx_update c fun o vs d => ⟨_, Obj.data_mapFields d _, by rw [Array.getElem?_setIfInBounds_ne hi]⟩
theorem keep_load {P : Heap → Prop} {a : Addr} : Keeps P (load a) := fun _ => trivial
theorem keep_stack {P : Heap → Prop} : Keeps P (stack : Sem (List (Code × Pos))) := fun _ => trivial
theorem keep_ite {P : Heap → Prop} {α : Type} {c : Prop} [Decidable c] {x y : Sem α} (h1 : Keeps P x) (h2 : Keeps P y) : Keeps P (if c then x else y) := by
  by_cases h : c
  · rw [if_pos h]; exact h1
  · rw [if_neg h]; exact h2
theorem keep_field {v : Value} {i : Nat} : Keeps (NoCtx · ea) (field v i) := by
  unfold field fieldsOf
  repeat' first
    | exact trivial
    | exact keep_load
    | (refine Keeps.bind ?_ fun _ => ?_)
    | split
theorem keep_setField {v x : Value} {i : Nat} (hi : i ≠ 2) : Keeps (NoCtx · ea) (setField v i x) := by
  unfold setField updateField
  cases v with
  | ref a =>
    refine keep_load.bind fun o => ?_
    cases o.data with
    | fields vs => exact keep_ite ⟨fun h c => noctx_field hi c, trivial⟩ trivial
    | _ => trivial
  | _ => trivial
theorem keep_setFlight {e : Value} {f : Option Addr} : Keeps (NoCtx · ea) (setFlight e f) := by
  unfold setFlight
  exact keep_field.bind fun tb => keep_ite (keep_setField (by decide)) trivial
theorem keep_entry {a b c d e : Value} {l : List Value} : Keeps (NoCtx · ea) (EntryCells.newEntry a b c d e l) := by
  unfold EntryCells.newEntry newFields newObj
  dsimp only
  repeat' first
    | exact trivial
    | exact ⟨fun h c => noctx_push c, fun _ => trivial⟩
    | (refine Keeps.bind ?_ fun _ => ?_)
    | (refine keep_ite ?_ ?_)
    | split
theorem keep_place {f : Addr} {b : Bool} : Keeps (NoCtx · ea) (entryPlaceOf f b) := by
  unfold entryPlaceOf
  refine keep_stack.bind fun l => ?_
  split <;> trivial
theorem keep_ready : ∀ (l : List Env), Keeps (NoCtx · ea) (readyFrames l)
  | [] => trivial
  | env :: outer => by
    unfold readyFrames
    cases env.frame with
    | none => trivial
    | some f =>
      refine keep_load.bind fun o => keep_ite trivial ?_
      refine Keeps.bind ?_ fun im => Keeps.bind ?_ fun bk => Keeps.bind ⟨fun h c => noctx_update c fun o vs d => ⟨vs, d, rfl⟩, trivial⟩ fun _ => keep_ready outer
      · unfold behindIsImport
        repeat' first
          | exact trivial
          | exact keep_field
          | (refine Keeps.bind ?_ fun _ => ?_)
          | (refine keep_ite ?_ ?_)
      · unfold keptBack underTheClaimsCaller
        repeat' first
          | exact trivial
          | exact keep_stack
          | (refine Keeps.bind ?_ fun _ => ?_)
          | (refine keep_ite ?_ ?_)
          | split
theorem keep_frameOf {env : Env} : Keeps (NoCtx · ea) (PySem.frameOf env) := by
  unfold PySem.frameOf frameEnvs frameObject
  repeat' first
    | exact trivial
    | exact keep_stack
    | exact keep_ready _
    | (refine Keeps.bind ?_ fun _ => ?_)
    | split
theorem keep_note {e : Value} {env : Env} : Keeps (NoCtx · ea) (noteFrame e env) := by
  unfold noteFrame
  cases env.frame with
  | none => trivial
  | some f =>
    refine keep_field.bind fun hd => ?_
    have fin : Keeps (NoCtx · ea) (do setField e 1 (← EntryCells.newEntry hd (← PySem.frameOf env) .none (rawInt f) .none (← entryPlaceOf f (hd != .none)))) :=
      keep_frameOf.bind fun fr => keep_place.bind fun pl => keep_entry.bind fun en => keep_setField (by decide)
    exact keep_ite (keep_field.bind fun x => keep_ite trivial ((keep_setField (by decide)).bind fun _ => fin)) fin
theorem keep_leaving {e : Value} {env : Env} : Keeps (NoCtx · ea) (leaving env e) := keep_note.bind fun _ => keep_setFlight
end
section
variable {M : Model} {A : Around} {E : Value → Shared → Prop} {s : Shared} {base : Heap} {env : Env} {outer l : List Env} {L e : Addr} {cls a0 : Value} {Q : Unit → Shared → Prop}
theorem leaves_onC (hfr : A.frames = some (env :: outer)) (hf : env.frame = some L) (hfl : Heap.FlyingW base (env :: outer) e cls a0 s.heap) (nc : NoCtx s.heap e)
    (hQ : ∀ h', Heap.FlyingW base outer e cls a0 h' → NoCtx h' e → s.heap.UpToSlots h' → Q () { s with heap := h' }) : wpAny M A (leaving env (.ref e)) Q E s :=
  wpAny_mono (keep_leaving.any nc (wpAny_leaves_onW (Q := fun _ s' => ∃ h', s' = { s with heap := h' } ∧ Heap.FlyingW base outer e cls a0 h' ∧ s.heap.UpToSlots h') (E := fun _ _ => False) hfr hf hfl fun h' a b => ⟨h', rfl, a, b⟩))
    (fun _ s' ⟨⟨h', e', a, b⟩, n⟩ => by subst e'; exact hQ h' a n b) fun _ _ z => z.1.elim
theorem leaves_madeC {h : Heap} {args : List Value} (hfr : A.frames = some (env :: outer)) (hf : env.frame = some L) (hkb : base.StaysIn h) (hl : h.FunFrames base (env :: outer)) (hx : Heap.MadeExcOf h s.heap e cls args)
    (hQ : ∀ h' t, Heap.FlyingW base outer e cls (.ref t) h' → NoCtx h' e → h'.TupAt t args → base.get? t = none → s.heap.UpToSlots h' → Q () { s with heap := h' }) : wpAny M A (leaving env (.ref e)) Q E s := by
  have nc : NoCtx s.heap e := by
    obtain ⟨t, he, _⟩ := hx.there
    exact ⟨_, _, he, rfl, rfl⟩
  exact wpAny_mono (keep_leaving.any nc (wpAny_leaves_madeW (Q := fun _ s' => ∃ h' t, s' = { s with heap := h' } ∧ Heap.FlyingW base outer e cls (.ref t) h' ∧ h'.TupAt t args ∧ base.get? t = none ∧ s.heap.UpToSlots h') (E := fun _ _ => False) hfr hf hkb hl hx fun h' t a b c d => ⟨h', t, rfl, a, b, c, d⟩))
    (fun _ s' ⟨⟨h', t, e', a, b, c, d⟩, n⟩ => by subst e'; exact hQ h' t a n b c d) fun _ _ z => z.1.elim
theorem looks_onC (hfr : A.frames = some (env :: outer)) (hf : env.frame = some L) (hfl : Heap.FlyingW base (env :: outer) e cls a0 s.heap) (nc : NoCtx s.heap e)
    (hQ : ∀ h', Heap.HeldW base (env :: outer) e cls a0 L h' → NoCtx h' e → s.heap.UpToSlots h' → Q () { s with heap := h' }) : wpAny M A (noteFrame (.ref e) env) Q E s :=
  wpAny_mono (keep_note.any nc (wpAny_looks_onW (Q := fun _ s' => ∃ h', s' = { s with heap := h' } ∧ Heap.HeldW base (env :: outer) e cls a0 L h' ∧ s.heap.UpToSlots h') (E := fun _ _ => False) hfr hf hfl fun h' a b => ⟨h', rfl, a, b⟩))
    (fun _ s' ⟨⟨h', e', a, b⟩, n⟩ => by subst e'; exact hQ h' a n b) fun _ _ z => z.1.elim
theorem landsC (hh : Heap.HeldW base l e cls a0 L s.heap) (nc : NoCtx s.heap e)
    (hQ : ∀ h', Heap.FlyingW base l e cls a0 h' → NoCtx h' e → s.heap.UpToSlots h' → Q () { s with heap := h' }) : wpAny M A (setFlight (.ref e) none) Q E s :=
  wpAny_mono (keep_setFlight.any nc (wpAny_landsW (Q := fun _ s' => ∃ h', s' = { s with heap := h' } ∧ Heap.FlyingW base l e cls a0 h' ∧ s.heap.UpToSlots h') (E := fun _ _ => False) hh fun h' a b => ⟨h', rfl, a, b⟩))
    (fun _ s' ⟨⟨h', e', a, b⟩, n⟩ => by subst e'; exact hQ h' a n b) fun _ _ z => z.1.elim
theorem lands_againC (hh : Heap.FlyingW base l e cls a0 s.heap) (nc : NoCtx s.heap e)
    (hQ : ∀ h', Heap.FlyingW base l e cls a0 h' → NoCtx h' e → s.heap.UpToSlots h' → Q () { s with heap := h' }) : wpAny M A (setFlight (.ref e) none) Q E s :=
  wpAny_mono (keep_setFlight.any nc (lands_againW (Q := fun _ s' => ∃ h', s' = { s with heap := h' } ∧ Heap.FlyingW base l e cls a0 h' ∧ s.heap.UpToSlots h') (E := fun _ _ => False) hh fun h' a b => ⟨h', rfl, a, b⟩))
    (fun _ s' ⟨⟨h', e', a, b⟩, n⟩ => by subst e'; exact hQ h' a n b) fun _ _ z => z.1.elim
end
end L2
set_option Elab.async false
set_option linter.all false
set_option maxRecDepth 100000
namespace L2
open PySem PySem.Spec PyProof.Rows
structure Flew (P : Program) (w : World) (outer : List Env) (H H' : Hp) (h B h' : Heap) (ea : Addr) : Prop where
  hok : HOk P w H' B
  keep : ∀ b o, h.get? b = some o → H b = none → b ∉ frs outer → B.get? b = some o
  slot : ∀ b o, h.get? b = some o → b ∈ frs outer → ∃ sl, h'.get? b = some { o with slots := sl }
  free : ∀ b o, h.get? b = some o → H b = none → H' b = none
  there : ∀ b o, h.get? b = some o → b ∉ frs outer → ∃ o', B.get? b = some o'
  tups : ∀ b xs, H b = some (.tup xs) → H' b = some (.tup xs)
  frzs : ∀ b o u, H b = some (.frz o u) → H' b = some (.frz o u)
  tbls : ∀ b ps, H b = some (.tbl ps) → ∃ more, H' b = some (.tbl (ps ++ more))
  exc : H' ea = none
noncomputable def CX1 (P : Program) (w : World) : CXT := fun outer H s E e s' =>
  ∃ (ea : Addr) (cls a0 : Value) (H' : Hp) (B : Heap), e = .ref ea ∧ Heap.FlyingW B outer ea cls a0 s'.heap ∧ NoCtx s'.heap ea ∧ s'.os = s.os ∧ AllBare s'.gens ∧ Flew P w outer H H' s.heap B s'.heap ea ∧ E cls none H'
section
variable {P : Program} {w : World} {outer : List Env} {H H' : Hp} {h B h' h'' : Heap} {ea : Addr}
theorem Flew.up {cls a0 : Value} (f : Flew P w outer H H' h B h' ea) (fl : Heap.FlyingW B outer ea cls a0 h') (up : h'.UpToSlots h'') : Flew P w outer H H' h B h'' ea :=
  ⟨f.hok, f.keep, fun b o e hb => by
    obtain ⟨sl, e1⟩ := f.slot b o e hb
    obtain ⟨_, o1, e2, nf⟩ := fl.2.2.1.mem hb
    rw [e1] at e2
    cases e2
    obtain ⟨sl', e3⟩ := up b _ e1 nf
    exact ⟨sl', e3⟩, f.free, f.there, f.tups, f.frzs, f.tbls, f.exc⟩
theorem Flew.un (f : Flew P w outer H H' h B h' ea) (st : B.StaysIn h') : Un (frs outer) [] H H' h h' where
  keep := fun b o e n hb _ => st b o (f.keep b o e n hb)
  slot := fun b o e _ hb _ => f.slot b o e hb
  free := fun b o e n _ => f.free b o e n
  there := fun b o e _ => by
    by_cases hb : b ∈ frs outer
    · obtain ⟨sl, e1⟩ := f.slot b o e hb
      exact ⟨_, e1⟩
    · obtain ⟨o', e1⟩ := f.there b o e hb
      exact ⟨o', st b o' e1⟩
  tups := f.tups
  frzs := f.frzs
  tbls := f.tbls
theorem Flew.ok (f : Flew P w outer H H' h B h' ea) (st : B.StaysIn h') : HOk P w H' h' := f.hok.kept st
end
section
variable {P : Program} {w : World} {K : PySem.W.Frag} {mg : Str → Option Value} {base : Heap} {N : List Str} {qual : Str} {scope : Scope} {f : Addr} {cd : Value} {A : Around} {outer : List Env} {s₀ : Shared} {H₀ : Hp} {E : XK}
theorem passes1 : Passes (CX1 P w) (cxOf (CX1 P w) P w K mg base N qual scope f cd A outer s₀ H₀ E) E := by
  intro pins σ H s e s' I hc
  obtain ⟨ea, cls, a0, H', B, rfl, fl, nc, os, bare, fw, q⟩ := hc
  have fr : frs (envOfC qual scope s₀.heap.objs.size f cd :: outer) = s₀.heap.objs.size :: frs outer := rfl
  have neL : ∀ b o, s₀.heap.get? b = some o → b ∉ frs outer → b ∉ frs (envOfC qual scope s₀.heap.objs.size f cd :: outer) := fun b o e hb z => by
    rw [fr] at z
    rcases List.mem_cons.mp z with z | z
    · have := Heap.lt_size e
      rw [z] at this
      exact absurd this (Nat.lt_irrefl _)
    · exact hb z
  show wpAny (model P w) (A.deeper (envOfC qual scope s₀.heap.objs.size f cd)) (leaving (envOfC qual scope s₀.heap.objs.size f cd) (.ref ea)) (fun _ s'' => CX1 P w outer H₀ s₀ E (.ref ea) s'') (fun e' s'' => CX1 P w outer H₀ s₀ E e' s'') s'
  refine leaves_onC I.ok.frames rfl fl nc fun h'' fl'' nc'' up => ?_
  have fu := fw.up fl up
  have ub : Un (frs outer) [] H₀ H s₀.heap s.heap := I.base
  refine ⟨ea, cls, a0, H', B, rfl, fl'', nc'', os.trans I.os, bare, ⟨fw.hok, fun b o e n hb => ?_, fun b o e hb => ?_, fun b o e n => ?_, fun b o e hb => ?_, fun b xs e => fw.tups b xs (ub.tups b xs e), fun b o u e => fw.frzs b o u (ub.frzs b o u e), fun b ps e => ?_, fw.exc⟩, q⟩
  · exact fw.keep b o (ub.keep b o e n hb (by simp)) (ub.free b o e n (by simp)) (neL b o e hb)
  · obtain ⟨sl, e1⟩ := ub.slot b o e (I.ok.frf b hb) hb (by simp)
    obtain ⟨sl', e2⟩ := fu.slot b _ e1 (show b ∈ frs (envOfC qual scope s₀.heap.objs.size f cd :: outer) by rw [fr]; exact List.mem_cons_of_mem _ hb)
    exact ⟨sl', e2⟩
  · obtain ⟨o', e1⟩ := ub.there b o e (by simp)
    exact fw.free b o' e1 (ub.free b o e n (by simp))
  · obtain ⟨o', e1⟩ := ub.there b o e (by simp)
    exact fw.there b o' e1 (neL b o e hb)
  · obtain ⟨m1, e1⟩ := ub.tbls b ps e
    obtain ⟨m2, e2⟩ := fw.tbls b _ e1
    exact ⟨m1 ++ m2, by rw [e2, Array.append_assoc]⟩
noncomputable def Raises (X : Cx) (E : XK) (cls : Value) : Prop := ∀ (pins : List (Addr × Obj)) (σ : St) (H : Hp) (s : Shared) (ea : Addr) (h' : Heap) (vs : List Value), Inv X pins σ H s → Heap.MadeExcOf s.heap h' ea cls vs → E cls none H → X.xe (.ref ea) { s with heap := h' }
theorem raises1 {cls : Value} : Raises (cxOf (CX1 P w) P w K mg base N qual scope f cd A outer s₀ H₀ E) E cls := by
  intro pins σ H s ea h' vs I hx q
  have fr : frs (envOfC qual scope s₀.heap.objs.size f cd :: outer) = s₀.heap.objs.size :: frs outer := rfl
  have neL : ∀ b o, s₀.heap.get? b = some o → b ∉ frs outer → b ∉ frs (envOfC qual scope s₀.heap.objs.size f cd :: outer) := fun b o e hb z => by
    rw [fr] at z
    rcases List.mem_cons.mp z with z | z
    · have := Heap.lt_size e
      rw [z] at this
      exact absurd this (Nat.lt_irrefl _)
    · exact hb z
  have stk : s.heap.FunFrames base (envOfC qual scope s₀.heap.objs.size f cd :: outer) := I.stack
  have hin : ∀ env ∈ (envOfC qual scope s₀.heap.objs.size f cd :: outer), ∀ b, env.frame = some b → b ∈ frs (envOfC qual scope s₀.heap.objs.size f cd :: outer) := fun env he b hb => List.mem_filterMap.mpr ⟨env, he, hb⟩
  have sf : ∀ b u, H b = some u → b ∉ frs (envOfC qual scope s₀.heap.objs.size f cd :: outer) := fun b u e z => by
    have n := I.stkFree b z
    rw [e] at n; cases n
  show wpAny (model P w) (A.deeper (envOfC qual scope s₀.heap.objs.size f cd)) (leaving (envOfC qual scope s₀.heap.objs.size f cd) (.ref ea)) (fun _ s'' => CX1 P w outer H₀ s₀ E (.ref ea) s'') (fun e' s'' => CX1 P w outer H₀ s₀ E e' s'') { s with heap := h' }
  refine leaves_madeC (base := PySem.W.hideAll s.heap (frs (envOfC qual scope s₀.heap.objs.size f cd :: outer))) (h := s.heap) I.ok.frames rfl (fun b o e => PySem.W.of_hideAll _ e) (PySem.W.funFrames_hide stk hin) hx fun h'' t fl nc tup hbt up => ?_
  have ub : Un (frs outer) [] H₀ H s₀.heap s.heap := I.base
  have toB : ∀ b o, s.heap.get? b = some o → b ∉ frs (envOfC qual scope s₀.heap.objs.size f cd :: outer) → (PySem.W.hideAll s.heap (frs (envOfC qual scope s₀.heap.objs.size f cd :: outer))).get? b = some o := fun b o e hb => PySem.W.hideAll_get _ e hb
  refine ⟨ea, cls, .ref t, H, _, rfl, fl, nc, I.os, I.bare, ⟨fun a o e => ?_, fun b o e n hb => ?_, fun b o e hb => ?_, fun b o e n => ?_, fun b o e hb => ?_, ub.tups, ub.frzs, ub.tbls, ?_⟩, q⟩
  · refine (I.hok a o e).stay (fun b u hb g => toB b u g ?_) (fun _ g => g) fun _ _ g => g
    rcases hb with hb | hb
    · rw [hb]; exact sf a o e
    · exact sf b _ hb
  · exact toB b o (ub.keep b o e n hb (by simp)) (neL b o e hb)
  · obtain ⟨sl, e1⟩ := ub.slot b o e (I.ok.frf b hb) hb (by simp)
    obtain ⟨_, o1, e2, nf⟩ := I.funs.mem hb
    rw [e1] at e2
    cases e2
    obtain ⟨sl', e3⟩ := up b _ (hx.keeps b _ e1) nf
    exact ⟨sl', e3⟩
  · exact ub.free b o e n (by simp)
  · obtain ⟨o', e1⟩ := ub.there b o e (by simp)
    exact ⟨o', toB b o' e1 (neL b o e hb)⟩
  · cases g : H ea with
    | none => rfl
    | some u =>
      have z : ∃ o, s.heap.get? ea = some o := by
        have := (I.hok ea u g)
        cases u with
        | lst xs => obtain ⟨_, _, _, _, e⟩ := this; exact ⟨_, e⟩
        | tup xs => obtain ⟨_, _, _, o, e, _⟩ := this; exact ⟨o, e⟩
        | dK kvs => obtain ⟨_, _, _, _, o, _, _, e, _⟩ := this; exact ⟨o, e⟩
        | dT kvs => obtain ⟨_, _, _, _, o, _, _, e, _⟩ := this; exact ⟨o, e⟩
        | set S n => obtain ⟨o, _, _, _, e, _⟩ := this; exact ⟨o, e⟩
        | ins C dx fs => obtain ⟨_, _, _, e, _⟩ := this; exact ⟨_, e⟩
        | own y => exact this
        | xd fs => obtain ⟨_, ⟨o, _, _, e, _⟩, _⟩ := this; exact ⟨o, e⟩
        | rng lo hi => obtain ⟨_, _, _, e⟩ := this; exact ⟨_, e⟩
        | frz ob u => obtain ⟨e, _⟩ := this; exact ⟨_, e⟩
        | tbl ps => exact ⟨_, this⟩
        | met f y => exact ⟨_, this⟩
        | ext φ => obtain ⟨_, e, _⟩ := this; exact e
      obtain ⟨o, e⟩ := z
      rw [hx.new] at e; cases e
end
end L2
set_option Elab.async false
set_option linter.all false
set_option maxRecDepth 100000
namespace L2
open PySem PySem.Spec PyProof.Rows
theorem exc_obj {K : PySem.W.Frag} {h : Heap} {C : Addr} {bmB : List Value} {newId : String} (KX : K.In h) (q : PySem.W.excIn K C bmB newId = true) :
    ∃ bm nsA nm qn bs hd sn sub ab col dd k0 k1 k2 k3 k5 mN, h.get? C = some (excClassObj nm qn C nsA bs bm hd sn sub ab col dd k0 k1 k2 k3 k5 newId) ∧ h.Ns nsA mN ∧ mN "__init__" = none ∧ OwnTail h bmB bm := by
  unfold PySem.W.excIn at q
  split at q
  · rename_i dd cd sl look
    split at q
    · rename_i C2 bm k0 k1 k2 k3 n k5 hmro hsl
      simp only [Bool.and_eq_true, beq_iff_eq, Bool.not_eq_true'] at q
      obtain ⟨⟨⟨⟨⟨qC, qn'⟩, qdel⟩, qtail⟩, qok⟩, qinit⟩ := q
      cases qC
      cases qn'
      obtain ⟨nm, bs, mro, nsA, qn, hd, sn, sub, ab, col, del⟩ := cd
      have hmro' : mro = _ :: bm := hmro
      have qdel' : del = false := qdel
      cases hmro'
      cases qdel'
      have esl : sl = #[k0, k1, k2, k3, some (.builtin newId), k5] := by
        cases sl with
        | mk l => exact congrArg Array.mk hsl
      cases esl
      exact ⟨bm, nsA, nm, qn, bs, hd, sn, sub, ab, col, dd, k0, k1, k2, k3, k5, _, KX _ _ look, .of_isNs (PySem.W.isNs_of_in KX qok), PySem.W.nsMap_none_of_in KX qok qinit, PySem.W.tail_of_in KX qtail⟩
    · exact absurd q Bool.false_ne_true
  · exact absurd q Bool.false_ne_true
abbrev mroVE : List Value := [.type "ValueError", .type "Exception", .type "BaseException", .type "object"]
section
variable {X : Cx} {E : XK} {C : Addr} {x : Str}
noncomputable def tRaise (E : XK) (cls : Value) (t : TA) : TS := fun _ σ H => t σ H fun vs H1 => vs.length ≤ sizeLine ∧ E cls none H1
theorem ps_raise {e : Expr} {es : List Expr} {t : TA} {np cpos pos : Pos} (hc : X.calm = true) (hR : Raises X E (.ref C)) (hg : Gl X x) (hm : X.mg x = some (.ref C)) (hE : PySem.W.excIn X.K C mroVE "ValueError.__new__" = true)
    (ha : PA X (e :: es) t) (hdb : (x == ("__debug__" : Str)) = false := by decide) (he : starEach (e :: es) X.env = (false, eval e X.env) :: starEach es X.env := by rfl) (hpl : (backTo cpos (starEach es X.env)).any (·.1) = false := by rfl) :
    PS X (.Raise (some (.Call (.Name x np) (e :: es) [] cpos)) none pos) (tRaise E (.ref C) t) := by
  intro pins s σ H D I hq
  obtain ⟨bm, nsA, nm, qn, bs, hd, sn, sub, ab, col, dd, k0, k1, k2, k3, k5, mN, hC, hN, hni, T⟩ := exc_obj (h := X.base) I.ok.mod.kin hE
  refine wpAny_Raise_call_subU (C := C) (nm := nm) (q := qn) (N := nsA) (bs := bs) (bm := bm) (hdct := hd) (sn := sn) (sub := sub) (ab := ab) (col := col) (dd := dd) (k0 := k0) (k1 := k1) (k2 := k2) (k3 := k3) (k5 := k5)
    PySem.F.excBase_ValueError (by decide) PySem.F.excBase_ValueError (mN := mN) (T.hasType (by decide)) (I.ok.hd hc) (by rw [he]; show (false || (backTo cpos (starEach es X.env)).any (·.1)) = false; rw [hpl]; rfl) hni (ld_glob I hg hm ⟨rfl, ?_⟩ hdb)
  have h1 := ha cpos pins s σ H _ I hq
  rw [he] at h1 ⊢
  refine Calls.evalArgs_plain (thn h1 fun us s2 ⟨vs, H2, I2, r, hz, q⟩ => ⟨rfl, ?_, ?_⟩)
  · show us.length ≤ sizeLine
    rw [← r.length]; exact hz
  · exact ⟨I2.bk _ _ hC, hN.keeps I2.bk, T.keeps I2.bk, fun h' ea hx => hR pins σ H2 s2 ea h' us I2 hx q⟩
end
end L2
set_option Elab.async false
set_option linter.all false
set_option maxRecDepth 100000
namespace L2
open PySem PySem.Spec PyProof.Rows
noncomputable def ExcO (ea C : Addr) : HO := .ext fun h => ∃ o vs, h.get? ea = some o ∧ o.cls = .ref C ∧ o.data = .fields vs ∧ vs[2]? = some Value.none
noncomputable def Cx.marked (X : Cx) (ea : Addr) : Cx := { X with A := X.A.mark (some (.ref ea)), calm := false, xe := fun _ _ => False }
section
variable {X : Cx} {pins : List (Addr × Obj)} {σ : St} {H : Hp} {s : Shared} {ea : Addr}
theorem Cx.Ok.marked (ok : X.Ok) (ea : Addr) : (X.marked ea).Ok :=
  ⟨ok.mod, ok.kind, ok.glob, ok.blt, ok.above, ok.inj, ok.has, ok.cab, (fun z => absurd (show false = true from z) (by decide)), ok.frames, ok.stk, ok.exf, ok.bs, ok.bsz, ok.noex, ok.exfs, ok.funs, ok.frf⟩
theorem Inv.marked (I : Inv X pins σ H s) (ea : Addr) : Inv (X.marked ea) pins σ H s := ⟨I.ok.marked ea, I.os, I.bare, I.base, I.loc, I.cell, I.free, I.freeC, I.pin, I.hok, I.len⟩
theorem Inv.unmarked (ok : X.Ok) (I : Inv (X.marked ea) pins σ H s) : Inv X pins σ H s := ⟨ok, I.os, I.bare, I.base, I.loc, I.cell, I.free, I.freeC, I.pin, I.hok, I.len⟩
theorem Inv.gone {i : Nat} {n : Str} {h' : Heap} {v : Option Value} {m : Str → Option Value} {t : Nat} (I : Inv X pins σ H s) (hN : X.N.Nodup) (hi : X.N[i]? = some n) (hk : X.env.scope.names.lookup n = some .local)
    (hl : ∀ (j : Nat) (x : Str) (v : V), X.N[j]? = some x → σ[j]? = some (some v) → Vis X.env.scope x → ∃ u, RelV v u ∧ Look X.env s.heap m x u)
    (hn' : h'.Ns X.env.locals (fun x => if x = n then v else m x)) (hs : Heap.SameBut X.env.locals s.heap h') : Inv X pins (σ.set i none) H { s with heap := h', toks := t } := by
  have ltL : ∀ b o, X.s₀.heap.get? b = some o → b ≠ X.env.locals := fun b o e => Nat.ne_of_lt (Nat.lt_of_lt_of_le (Heap.lt_size e) I.ok.above)
  refine ⟨I.ok, I.os, I.bare, ⟨fun b o e q hb hx => ?_, fun b o e q hb hx => ?_, I.base.free, fun b o e hx => ?_, I.base.tups, I.base.frzs, I.base.tbls⟩, ⟨_, hn', fun j y v' e1 e2 e3 => ?_⟩, fun y c e => ?_, I.free, I.freeC, fun p hp => ?_, fun b u e => ?_, by rw [List.length_set]; exact I.len⟩
  · exact (hs.2 b (ltL b o e)).trans (I.base.keep b o e q hb hx)
  · obtain ⟨sl, e1⟩ := I.base.slot b o e q hb hx
    exact ⟨sl, (hs.2 b (ltL b o e)).trans e1⟩
  · obtain ⟨o', e1⟩ := I.base.there b o e hx
    exact ⟨o', (hs.2 b (ltL b o e)).trans e1⟩
  · by_cases hj : j = i
    · subst hj
      rw [List.getElem?_set] at e2
      simp at e2
    · rw [List.getElem?_set_ne (Ne.symm hj)] at e2
      obtain ⟨u, r, q⟩ := hl j y v' e1 e2 e3
      refine ⟨u, r, ?_⟩
      rcases q with ⟨k, e⟩ | ⟨k, c, e, z⟩
      · refine .inl ⟨k, ?_⟩
        have ne : y ≠ n := fun z => hj (nodup_ix hN e1 (z ▸ hi))
        simp [ne, e]
      · exact .inr ⟨k, c, e, z.sameBut hs (I.cne y c e)⟩
  · obtain ⟨w', z⟩ := I.cell y c e
    exact ⟨w', z.sameBut hs (I.cne y c e)⟩
  · obtain ⟨e, q, ne, nf, d⟩ := I.pin p hp
    exact ⟨(hs.2 p.1 ne).trans e, q, ne, nf, d⟩
  · refine (I.hok b u e).stay (fun c w' hc q => (hs.2 c ?_).trans q) (fun _ q => q) fun _ _ q => q
    intro z
    rcases hc with hc | hc
    · rw [← hc, z, I.free] at e; cases e
    · rw [z, I.free] at hc; cases hc
noncomputable def endsX (i : Nat) (D : Ends) : Ends := { nx := fun σ H => D.nx (σ.set i none) H, rt := D.rt, bk := fun σ H => D.bk (σ.set i none) H, ct := fun σ H => D.ct (σ.set i none) H }
end
end L2
set_option Elab.async false
set_option linter.all false
set_option maxRecDepth 100000
namespace L2
open PySem PySem.Spec PyProof.Rows
noncomputable def EqL (K : PySem.W.Frag) (H : Hp) (rec : V → V → Bool → Prop) (p q : Addr) (b : Bool) : Prop :=
  ∃ xs ys, (SqL K H p xs ∧ SqL K H q ys ∧ xs.length ≠ ys.length ∧ b = false) ∨
    (((SqL K H p xs ∧ SqL K H q ys) ∨ (SqT K H p xs ∧ SqT K H q ys)) ∧ xs.length = ys.length ∧ ∃ e : Nat → Bool, (∀ i x y, xs[i]? = some x → ys[i]? = some y → rec x y (e i)) ∧ b = (List.range xs.length).all e)
noncomputable def EqD (K : PySem.W.Frag) (H : Hp) : Nat → V → V → Bool → Prop
  | 0, x, y, b => (∃ a, x = .ref a ∧ y = .ref a ∧ b = true) ∨ (flatV x = true ∧ flatV y = true ∧ b = eqV x y)
  | n + 1, x, y, b => EqD K H n x y b ∨ ∃ p q, x = .ref p ∧ y = .ref q ∧ p ≠ q ∧ EqL K H (EqD K H n) p q b
section
variable {X : Cx} {pins : List (Addr × Obj)} {σ : St} {H : Hp} {s : Shared}
theorem eqL_at {A : Around} {rec : V → V → Bool → Prop} {p q : Addr} {b : Bool} (I : Inv X pins σ H s) (hu : A.units < cLine) (hr : ∀ x y b u v, rec x y b → RelV x u → RelV y v → SeqAt.EqAt A.in1 s u v b) (h : EqL X.K H rec p q b) :
    SeqAt.RcAt A s (.ref p) (.ref q) b ∧ SeqAt.RcNeAt A s (.ref p) (.ref q) (!b) := by
  obtain ⟨xs, ys, ⟨h1, h2, hl, rfl⟩ | ⟨hk, hl, e, he, rfl⟩⟩ := h
  · obtain ⟨its, r, pl, _⟩ := I.list h1
    obtain ⟨its2, r2, pl2, _⟩ := I.list h2
    have e1 := r.length
    have e2 := r2.length
    have hne : (its.toArray.size != its2.toArray.size) = true := by
      rw [bne_iff_ne]; simp only [List.size_toArray]; omega
    exact ⟨SeqAt.RcAt.lists_lengths pl.isList pl2.isList hne hu, SeqAt.RcNeAt.lists_lengths pl.isList pl2.isList hne hu⟩
  · have items : ∀ (its its2 : List Value), Vals xs its → Vals ys its2 → ∀ j (h1 : j < its.toArray.size) (h2 : j < its2.toArray.size), SeqAt.EqAt A.in1 s its.toArray[j] its2.toArray[j] (e j) := by
      intro its its2 r r2 j h1 h2
      have l1 := r.length
      have l2 := r2.length
      simp only [List.size_toArray] at h1 h2
      have g1 : j < xs.length := by omega
      have g2 : j < ys.length := by omega
      obtain ⟨u, hu1, ru⟩ := r.get (i := j) (x := xs[j]) (by simp [g1])
      obtain ⟨v, hv1, rv⟩ := r2.get (i := j) (x := ys[j]) (by simp [g2])
      have eu : its.toArray[j] = u := by
        have : its[j]? = some its[j] := by simp [h1]
        rw [this] at hu1
        simpa using hu1
      have ev : its2.toArray[j] = v := by
        have : its2[j]? = some its2[j] := by simp [h2]
        rw [this] at hv1
        simpa using hv1
      rw [eu, ev]
      exact hr _ _ _ _ _ (he j _ _ (by simp [g1]) (by simp [g2])) ru rv
    rcases hk with ⟨h1, h2⟩ | ⟨h1, h2⟩
    · obtain ⟨its, r, pl, _⟩ := I.list h1
      obtain ⟨its2, r2, pl2, _⟩ := I.list h2
      have l1 := r.length
      have l2 := r2.length
      have hsz : its.toArray.size = its2.toArray.size := by simp only [List.size_toArray]; omega
      have a1 := SeqAt.RcAt.lists pl.isList pl2.isList hsz hu (items its its2 r r2)
      have a2 := SeqAt.RcNeAt.lists pl.isList pl2.isList hsz hu (items its its2 r r2)
      have es : its.toArray.size = xs.length := by simp only [List.size_toArray]; omega
      rw [es] at a1 a2
      exact ⟨a1, a2⟩
    · obtain ⟨its, r, pl, _⟩ := I.tuple h1
      obtain ⟨its2, r2, pl2, _⟩ := I.tuple h2
      have l1 := r.length
      have l2 := r2.length
      have t1 : s.heap.IsTuple p its.toArray := pl
      have t2 : s.heap.IsTuple q its2.toArray := pl2
      have a1 := SeqAt.RcAt.tuples t1 t2 hu (items its its2 r r2)
      have a2 := SeqAt.RcNeAt.tuples t1 t2 hu (items its its2 r r2)
      have es : min its.toArray.size its2.toArray.size = xs.length := by simp only [List.size_toArray]; omega
      have ez : (its.toArray.size == its2.toArray.size) = true := by rw [beq_iff_eq]; simp only [List.size_toArray]; omega
      rw [es, ez, Bool.and_true] at a1 a2
      exact ⟨a1, a2⟩
theorem eqD_at (I : Inv X pins σ H s) : ∀ (n : Nat) (A : Around), A.units + n < cLine → ∀ x y b u v, EqD X.K H n x y b → RelV x u → RelV y v → SeqAt.EqAt A s u v b
  | 0, A, hu, x, y, b, u, v, h, rx, ry => by
    rcases h with ⟨a, rfl, rfl, rfl⟩ | ⟨f1, f2, rfl⟩
    · cases rx; cases ry; exact SeqAt.EqAt.same _
    · exact eqAt_V rx ry f1 f2
  | n + 1, A, hu, x, y, b, u, v, h, rx, ry => by
    rcases h with h | ⟨p, q, rfl, rfl, ne, h⟩
    · exact eqD_at I n A (by omega) x y b u v h rx ry
    · cases rx; cases ry
      refine SeqAt.EqAt.of_refs ne (eqL_at (A := A) I (by omega) (fun x y b u v h rx ry => eqD_at I n A.in1 ?_ x y b u v h rx ry) h).1
      show A.units + 1 + n < cLine
      omega
noncomputable def rEqD (K : PySem.W.Frag) (neg : Bool) : R2 := fun x y H Q => ∃ n p q b, n ≤ 8 ∧ x = .ref p ∧ y = .ref q ∧ EqL K H (EqD K H n) p q b ∧ Q (.bl (if neg then !b else b)) H
theorem op_eqD (hu : X.A.units + 64 < cLine) : OpR X (compareOp .Eq) (rEqD X.K false) := by
  intro pins s σ H x y v u Q I rx ry h
  obtain ⟨n, p, q, b, hn, rfl, rfl, he, k⟩ := h
  cases rx; cases ry
  refine (eqL_at (A := X.A) I (by omega) (fun x y b u v h rx ry => eqD_at I n X.A.in1 ?_ x y b u v h rx ry) he).1 _ _ _ _ ⟨.bl b, H, I, rfl, k⟩
  show X.A.units + 1 + n < cLine
  omega
theorem op_neD (hu : X.A.units + 64 < cLine) : OpR X (compareOp .NotEq) (rEqD X.K true) := by
  intro pins s σ H x y v u Q I rx ry h
  obtain ⟨n, p, q, b, hn, rfl, rfl, he, k⟩ := h
  cases rx; cases ry
  refine (eqL_at (A := X.A) I (by omega) (fun x y b u v h rx ry => eqD_at I n X.A.in1 ?_ x y b u v h rx ry) he).2 _ _ _ _ ⟨.bl (!b), H, I, rfl, k⟩
  show X.A.units + 1 + n < cLine
  omega
end
theorem EqL.ints {K : PySem.W.Frag} {H : Hp} {p q : Addr} {ns ms : List Int} (h1 : SqL K H p (ns.map V.int)) (h2 : SqL K H q (ms.map V.int)) : EqL K H (EqD K H 0) p q (decide (ns = ms)) := by
  by_cases hl : ns.length = ms.length
  · refine ⟨_, _, .inr ⟨.inl ⟨h1, h2⟩, by simp [hl], fun i => ns[i]? == ms[i]?, fun i x y e1 e2 => ?_, ?_⟩⟩
    · rw [List.getElem?_map] at e1 e2
      cases g1 : ns[i]? with
      | none => rw [g1] at e1; cases e1
      | some n =>
        cases g2 : ms[i]? with
        | none => rw [g2] at e2; cases e2
        | some m =>
          rw [g1] at e1; rw [g2] at e2
          cases e1; cases e2
          refine .inr ⟨rfl, rfl, ?_⟩
          show (ns[i]? == ms[i]?) = (n == m)
          rw [g1, g2, Bool.eq_iff_iff]; simp
    · rw [List.length_map, Bool.eq_iff_iff, decide_eq_true_iff, List.all_eq_true]
      constructor
      · rintro rfl i _; simp
      · intro h
        refine List.ext_getElem? fun i => ?_
        by_cases hi : i < ns.length
        · have := h i (List.mem_range.mpr hi)
          exact beq_iff_eq.mp this
        · rw [List.getElem?_eq_none (by omega), List.getElem?_eq_none (by omega)]
  · refine ⟨_, _, .inl ⟨h1, h2, by simpa using hl, ?_⟩⟩
    exact decide_eq_false fun e => hl (by rw [e])
section
variable {X : Cx}
end
end L2
set_option Elab.async false
set_option linter.all false
set_option maxRecDepth 100000
namespace L2
open PySem PySem.Spec PyProof.Rows
section
variable {X : Cx} {tg : Expr}
noncomputable def DictO (_ : Addr) : HO := .dK []
theorem Inv.big {pins : List (Addr × Obj)} {σ : St} {H : Hp} {s : Shared} (I : Inv X pins σ H s) : sysModules < s.heap.objs.size := by
  have h : mainGlobals < s.heap.objs.size := (I.mod.glob.keeps I.bk).lt
  exact Nat.lt_trans (by decide) h
noncomputable def tDict0 : TE := fun _ H Q => ∀ p, H p = none → Q (.ref p) (upd H p (DictO p))
theorem pe_dict0 {pos : Pos} : PE X (.Dict [] [] pos) tDict0 := fun pins s σ H Q I h =>
  wpAny_Dict_empty ⟨.ref s.heap.objs.size, _, I.laid (a := s.heap.objs.size) (o := DictO s.heap.objs.size) (t' := s.toks) (fun _ _ q => Heap.get?_push_of_some _ q) (Nat.le_refl _)
    ⟨Nat.zero_le _, beq_eq_false_iff_ne.mpr (Ne.symm (Nat.ne_of_lt I.big)), [], .nil, Heap.DictOf.new s.heap⟩, rfl, h _ (I.hok.fresh (Nat.le_refl _))⟩
end
noncomputable def PassesR (CX : CXT) (X : Cx) (R : St → XK) : Prop := ∀ (pins : List (Addr × Obj)) (σ : St) (H : Hp) (s : Shared) (e : Value) (s' : Shared), Inv X pins σ H s → CX X.stack H s (R σ) e s' → X.xe e s'
structure DefX (P : Program) (w : World) (K : PySem.W.Frag) (mg : Str → Option Value) (base : Heap) (k : Nat) (x : Str) (ps : List Str) (ds : List V) (sp : Sp) : Prop where
  ex : ∃ (f : Addr) (fd : FuncData) (dvs : List Value), FnOk P w K mg base (CX1 P w) k f fd ps sp ∧ mg x = some (.ref f) ∧ PySem.W.keepIn K (.ref f) = true ∧ Binds K fd ps dvs ∧ Vals ds dvs
noncomputable def tCallR (sp : Sp) (dvs : List V) (R : St → XK) (t : TA) : TE := fun σ H Q => t σ H fun vs H1 => sp (vs ++ dvs) H1 Q (R σ)
section
variable {X : Cx}
theorem pe_callX {k : Nat} {x : Str} {ps : List Str} {ds : List V} {sp : Sp} {e : Expr} {es : List Expr} {t : TA} {p pos : Pos} {R : St → XK} (D : DefX X.prog X.w X.K X.mg X.base k x ps ds sp) (hr : Room k X.A) (hx : PassesR (CX1 X.prog X.w) X R) (hg : Gl X x)
    (ha : PA X (e :: es) t) (hdb : (x == ("__debug__" : Str)) = false := by decide) (he : starEach (e :: es) X.env = (false, eval e X.env) :: starEach es X.env := by rfl) (hpl : (backTo pos (starEach es X.env)).any (·.1) = false := by rfl) :
    PE X (.Call (.Name x p) (e :: es) [] pos) (tCallR sp ds R t) := by
  obtain ⟨f, fd, dvs, F, hm, hk, hb, hd⟩ := D.ex
  intro pins s σ H Q I h
  refine wpAny_Call_Name_kw (ld_glob I hg hm ?_ hdb)
  refine PySem.W.callWith_K (h₀ := X.base) I.ok.mod.kin hk (thn (ha pos pins s σ H _ I h) fun us s1 ⟨vs, H1, I1, r, q⟩ => ⟨I1.kIn, ?_⟩) he hpl
  have r2 : Vals (vs ++ ds) (us ++ dvs) := r.append hd
  have hl : (us ++ dvs).length = ps.length := by rw [← r2.length]; exact F.len _ _ _ _ q
  refine wpAny_call (codeAny_mono (F.run X.A X.stack s1 H1 ⟨us, []⟩ (us ++ dvs) (vs ++ ds) Q (R σ) hr I1.env0 (hb s1 us I1.kIn hl) r2 q) fun res s' hq => ?_)
  cases res with
  | error er => exact hx pins σ H1 s1 er s' I1 hq
  | ok fl =>
    cases fl with
    | ret u => exact I1.after hq
    | next => exact False.elim hq
    | brk => exact False.elim hq
    | cont => exact False.elim hq
theorem passF {P : Program} {w : World} : PassesR (CX1 P w) X fun _ => E0 := fun _ _ _ _ _ _ _ h => by
  obtain ⟨_, _, _, _, _, _, _, _, _, _, _, q⟩ := h
  exact False.elim q
end
section
variable {P : Program} {w : World} {K : PySem.W.Frag} {mg : Str → Option Value} {base : Heap}
theorem passes1R {N : List Str} {qual : Str} {scope : Scope} {f : Addr} {cd : Value} {A : Around} {outer : List Env} {s₀ : Shared} {H₀ : Hp} {E : XK} :
    PassesR (CX1 P w) (cxOf (CX1 P w) P w K mg base N qual scope f cd A outer s₀ H₀ E) fun _ => E := fun pins σ H s e s' I h => passes1 pins σ H s e s' I h
theorem FunD.okX {x qual : Str} {st : Stmt} {dV : Value} {f : Addr} {fd : FuncData} {N ps : List Str} {k : Nat} {sp : Sp} (F : FunD K x qual st dV f fd) (S : FnScope N ps (defScope st)) (len : ∀ vs H Q E, sp vs H Q E → vs.length = ps.length)
    (hbody : ∀ (cdv : Value) (A : Around) (outer : List Env) (s : Shared) (H : Hp) (vs : List V) (Q : VK) (E : XK), Room k (A.deeper (envOfC qual (defScope st) s.heap.objs.size f cdv)) → sp vs H Q E →
      ∃ t, PSs (cxOf (CX1 P w) P w K mg base N qual (defScope st) f cdv A outer s H E) (defBody st) t ∧ t { nx := fun _ H' => Q .non H', rt := Q } (start N vs) H) : FnOk P w K mg base (CX1 P w) (k + 1) f fd ps sp := by
  obtain ⟨oc, od, kV, doc, pm, an, cdv, ct, osl, rfl, lk, hcd⟩ := F.ex
  exact fn_of lk hcd S len fun A outer s H vs Q E hr hsp => hbody cdv A outer s H vs Q E hr hsp
theorem FunD.defX {x qual : Str} {st : Stmt} {f : Addr} {fd : FuncData} {ps : List Str} {k : Nat} {sp : Sp} (F : FunD K x qual st .none f fd) (G : FnOk P w K mg base (CX1 P w) k f fd ps sp) (hm : mg x = some (.ref f))
    (h : ∀ (kV doc pm : Value) (an : Option Addr) (cdv ct : Value) (us : List Value), us.length = ps.length → bindArgs (PySem.W.fnOf x qual (defArgs st) (defBody st) (defScope st) .none kV doc pm an cdv ct) ⟨us, []⟩ = pure (ps.zip us)) : DefX P w K mg base k x ps [] sp := by
  obtain ⟨oc, od, kV, doc, pm, an, cdv, ct, osl, rfl, lk, hcd⟩ := F.ex
  exact ⟨f, _, [], G, hm, F.kp, .all (h kV doc pm an cdv ct), .nil⟩
end
section
variable {X : Cx} {pins pn : List (Addr × Obj)} {σ : St} {H : Hp} {s : Shared} {XE : Value → Shared → Prop}
noncomputable abbrev Cx.at (X : Cx) (pn : List (Addr × Obj)) (XE : Value → Shared → Prop) : Cx := { X with pn := pn, xe := XE }
theorem Cx.Ok.at (ok : X.Ok) : (X.at pn XE).Ok :=
  ⟨ok.mod, ok.kind, ok.glob, ok.blt, ok.above, ok.inj, ok.has, ok.cab, ok.hd, ok.frames, ok.stk, ok.exf, ok.bs, ok.bsz, ok.noex, ok.exfs, ok.funs, ok.frf⟩
theorem Cx.Ok.unat (ok : (X.at pn XE).Ok) : X.Ok :=
  ⟨ok.mod, ok.kind, ok.glob, ok.blt, ok.above, ok.inj, ok.has, ok.cab, ok.hd, ok.frames, ok.stk, ok.exf, ok.bs, ok.bsz, ok.noex, ok.exfs, ok.funs, ok.frf⟩
theorem Inv.at (I : Inv X pins σ H s) : Inv (X.at (X.pn ++ pins) XE) [] σ H s := ⟨I.ok.at, I.os, I.bare, I.base, I.loc, I.cell, I.free, I.freeC, fun p hp => I.pin p (by simpa using hp), I.hok, I.len⟩
theorem Inv.unat {pins' : List (Addr × Obj)} (I : Inv (X.at (X.pn ++ pins) XE) pins' σ H s) : Inv X pins σ H s := ⟨I.ok.unat, I.os, I.bare, I.base, I.loc, I.cell, I.free, I.freeC, fun p hp => I.pin p (List.mem_append_left _ hp), I.hok, I.len⟩
end
end L2
set_option Elab.async false
set_option linter.all false
set_option maxRecDepth 100000
namespace L2
open PySem PySem.Spec PyProof.Rows
structure XCls (K : PySem.W.Frag) (D : Addr) : Prop where
  ga : PySem.W.findIn K (.ref D) "__getattribute__" = some (some (.builtin "BaseException.__getattribute__"))
  gx : PySem.W.findIn K (.ref D) "__getattr__" = some none
  cl : PySem.W.findIn K (.ref D) "__class__" = some (some (.builtin "object.__class__"))
  mB : PySem.W.mroIn K D (.type "BaseException") = some true
  mo : PySem.W.mroIn K D (.type "object") = some true
  isc : (PySem.W.clsIn K D).isSome = true
noncomputable def ExcAt (x D : Addr) (h : Heap) : Prop := ∃ o vs, h.get? x = some o ∧ o.cls = .ref D ∧ o.data = .fields vs
section
variable {prog : Program} {w : World} {A : Around} {E : Value → Shared → Prop} {s : Shared} {K : PySem.W.Frag} {x D : Addr}
theorem ExcAt.ty {M : Model} {h : Heap} (e : ExcAt x D h) : PySem.W.Looks M h (typeOf (.ref x)) (.ref D) := by
  obtain ⟨o, vs, h1, h2, _⟩ := e
  exact h2 ▸ (PySem.W.Looks.ld h1).andThen .now
theorem exc_class_get {R : Result → Shared → Prop} (KX : K.In s.heap) (e : ExcAt x D s.heap) (c : XCls K D) (h : R (.ok (.ret (.ref D))) s) :
    codeAny (model prog w) A (.call (.builtin "getset_descriptor.__get__") ⟨[.builtin "object.__class__", .ref x, .ref D], []⟩) R s := by
  obtain ⟨hh, g, dr, t, os⟩ := s
  have L0 : PySem.W.Looks (model prog w) hh (typeOf (.ref x)) (.ref D) := e.ty
  have L1 : PySem.W.Looks (model prog w) hh (isSubtype (.ref D) (.type (".".intercalate ("object.__class__".cutAt '.').dropLast))) true := by rw [F.owner_object_class]; exact PySem.W.looks_mroIn KX c.mo
  have LI : PySem.W.Looks (model prog w) hh (isInstance (.ref x) (.type (".".intercalate ("object.__class__".cutAt '.').dropLast))) true := L0.andThen L1
  have hT5 : (⟨hh, g, dr, t, os⟩ : Shared).TypeIs (.builtin "object.__class__") "getset_descriptor" := F.typeOf_object_class
  refine codeAny_call_builtin F.slot_gs_get.plain F.entry_gs_get (F.slot_gs_get.check _ _ _ _ _ _ _ _ hT5 (F.args_gs_get _ _ _) ?_)
  repeat (any_goals (first | assumption | (with_reducible refine LI.at ?_) | (with_reducible refine L0.at ?_) | (with_reducible refine L1.at ?_) | wp_step))
  refine ⟨Code.quiet_builtin _ (by decide +kernel), codeAny_builtin F.entry_object_class ?_⟩
  repeat (any_goals (first | assumption | (with_reducible refine L0.at ?_) | wp_step))
theorem exc_entry {tk : Tok} {Q : Fin → Shared → Prop} (KX : K.In s.heap) (e : ExcAt x D s.heap) (c : XCls K D) (h : Q (.done (.ret (.ref D))) s) :
    wpAny (model prog w) A (Builtin.«object.__getattribute__» ⟨[.ref x, .str "__class__" tk], []⟩) Q E s := by
  obtain ⟨hh, g, dr, t, os⟩ := s
  have L0 : PySem.W.Looks (model prog w) hh (typeOf (.ref x)) (.ref D) := e.ty
  have L4 := PySem.W.looks_findIn (M := model prog w) KX c.cl
  have hT5 : (⟨hh, g, dr, t, os⟩ : Shared).TypeIs (.builtin "object.__class__") "getset_descriptor" := F.typeOf_object_class
  have f5 := F.typeOf_object_class
  have f6 := F.slot_gs_get.lookup
  have f7 := F.slot_gs_set.lookup
  repeat (any_goals (first | assumption | (with_reducible refine L0.at ?_) | (with_reducible refine L4.at ?_) | wp_step))
  refine exc_class_get KX e c ?_
  exact wpAny_pure h
theorem bega_split : splitId "BaseException.__getattribute__" = some ("BaseException", "__getattribute__") := by decide +kernel
theorem bega_kind : builtinKind "BaseException.__getattribute__" = some .slot := by decide +kernel
theorem exc_check {M : Model} {v : Value} {Q : Unit → Shared → Prop} (KX : K.In s.heap) (e : ExcAt x D s.heap) (c : XCls K D) (h : Q () s) :
    wpAny M A (checkBuiltinCall "BaseException.__getattribute__" ⟨[.ref x, v], []⟩) Q E s := by
  have L0 : PySem.W.Looks M s.heap (typeOf (.ref x)) (.ref D) := e.ty
  have LI : PySem.W.Looks M s.heap (isInstance (.ref x) (.type "BaseException")) true := L0.andThen (PySem.W.looks_mroIn KX c.mB)
  have hA := F.args_bexc_ga (.ref x) v
  simp only [checkBuiltinCall, bega_split, bega_kind]
  refine wpAny_bind (LI.at ?_)
  unfold argsOk at hA
  cases hsig : Manifest.signature? "BaseException.__getattribute__" with
  | none =>
    rw [hsig] at hA
    simp only [Bool.not_true, Bool.false_eq_true, if_false]
    exact wpAny_pure h
  | some sig =>
    rw [hsig] at hA
    simp only [Bool.not_true, Bool.false_eq_true, if_false]
    exact wpAny_of_eq hA h
theorem exc_class {Q : Option Value → Shared → Prop} (KX : K.In s.heap) (e : ExcAt x D s.heap) (c : XCls K D) (h : Q (some (.ref D)) { s with toks := s.toks + 1 }) :
    wpAny (model prog w) A (getAttr? (.ref x) "__class__") Q E s := by
  obtain ⟨hh, g, dr, t, os⟩ := s
  have L0 : PySem.W.Looks (model prog w) hh (typeOf (.ref x)) (.ref D) := e.ty
  have L1 := PySem.W.looks_findIn (M := model prog w) KX c.ga
  have L2 := PySem.W.looks_findIn (M := model prog w) KX c.gx
  have hbind := F.excAttr_ValueError.ga.bind (.ref x)
  unfold getAttr? getAttrBy?
  repeat (any_goals (first | assumption | (with_reducible refine L0.at ?_) | (with_reducible refine L1.at ?_) | (with_reducible refine L2.at ?_) | wp_step))
  refine codeAny_call_builtin F.excAttr_ValueError.ga.plain F.entry_bexc_ga (exc_check (s := ⟨hh, g, dr, t + 1, os⟩) KX e c (exc_entry (s := ⟨hh, g, dr, t + 1, os⟩) KX e c ?_))
  repeat (any_goals (first | assumption | wp_step))
theorem kitx_exc (c : XCls K D) : PySem.W.KitX K (.ref x) (.ref D) (ExcAt x D) where
  ty := fun _ _ _ e => e.ty
  it := fun M h KX _ => by
    have hc := c.isc
    unfold PySem.W.clsIn at hc
    split at hc
    · rename_i c' d' cd' sl' ho
      intro A' Q' E' s' k q
      unfold isType loadHead
      exact wpAny_bind (wpAny_loadPart (k _ _ (KX _ _ ho)) (wpAny_pure q))
    · cases hc
  ne := fun h tp dd its n sl KX htp => by
    have hc := c.isc
    refine Bool.eq_false_iff.mpr fun q => ?_
    have e : D = tp := Value.ref.inj (beq_iff_eq.mp q)
    subst e
    unfold PySem.W.clsIn at hc
    split at hc
    · rename_i c' d' cd' sl' ho
      have z := (KX _ _ ho).symm.trans htp
      cases z
    · cases hc
  ca := fun KX e k => exc_class KX e c k
end
inductive TyX (K : PySem.W.Frag) (H : Hp) : V → Value → Prop where
  | of {x : V} {t : Value} (h : TyOf K H x t) : TyX K H x t
  | exc {a C : Addr} (e : H a = some (ExcO a C)) (c : XCls K C) : TyX K H (.ref a) (.ref C)
  | dict {a : Addr} (e : H a = some (DictO a)) : TyX K H (.ref a) (.type "dict")
noncomputable def IsX (K : PySem.W.Frag) (H : Hp) (x : V) (c : Value) (b : Bool) : Prop := ∃ t, TyX K H x t ∧ PySem.W.kitOne K t c = some b
noncomputable def rIsX (K : PySem.W.Frag) : List V → Hp → VK → Prop := fun xs H Q => match xs with
  | [x, .ty n] => ∃ b, IsX K H x (.type n) b ∧ Q (.bl b) H
  | [x, .ref C] => ∃ b, IsX K H x (.ref C) b ∧ Q (.bl b) H
  | _ => False
section
variable {X : Cx}
theorem isX_ok {A : Around} {E : Value → Shared → Prop} {Q : Value → Shared → Prop} {pins : List (Addr × Obj)} {σ : St} {H : Hp} {s : Shared} {x : V} {u c : Value} {b : Bool} (I : Inv X pins σ H s) (rx : RelV x u) (h : IsX X.K H x c b) (k : ∀ tk, Q (.bool b) { s with toks := tk }) :
    wpAny (model X.prog X.w) A (call (.builtin "isinstance") [u, c]) Q E s := by
  obtain ⟨t, ty, e⟩ := h
  cases ty with
  | of ty => exact isinst_ok I rx ty e k
  | @exc a C ea cc =>
    cases (show u = Value.ref a from rx)
    obtain ⟨⟨ox, vx, p1, p2, p3, _⟩, _, _⟩ := (show ObjOk X.prog X.w H s.heap a (ExcO a C) from I.hok a _ ea)
    have p : ∃ o vs, s.heap.get? a = some o ∧ o.cls = Value.ref C ∧ o.data = Data.fields vs := ⟨ox, vx, p1, p2, p3⟩
    exact PySem.W.kia_one (kitx_exc cc) I.kIn p e (fun z => nomatch z) k
  | @dict a ea =>
    cases (show u = Value.ref a from rx)
    obtain ⟨_, _, vs, _, p⟩ := (show ObjOk X.prog X.w H s.heap a (.dK []) from I.hok a _ ea)
    obtain ⟨o, es, ep, h1, h2, _⟩ := p
    exact PySem.W.kia_one PySem.W.kitx_dict I.kIn ⟨o, h1, h2.1⟩ e (fun z => nomatch z) k
theorem call_isX : CallR X (.builtin "isinstance") (rIsX X.K) := by
  intro pins s σ H xs us Q I rs h
  unfold rIsX at h
  split at h
  · obtain ⟨u, w', rfl, r1, r2⟩ := vals2 rs
    cases r2
    obtain ⟨b, hb, q⟩ := h
    exact isX_ok I r1 hb fun tk => ⟨.bl b, H, I.tok tk, rfl, q⟩
  · obtain ⟨u, w', rfl, r1, r2⟩ := vals2 rs
    cases r2
    obtain ⟨b, hb, q⟩ := h
    exact isX_ok I r1 hb fun tk => ⟨.bl b, H, I.tok tk, rfl, q⟩
  · exact h.elim
theorem pe_isiX {e : Expr} {te : TE} {T : Str} {n : String} {p p2 pos : Pos} (he : PE X e te) (h1 : Gl X "isinstance") (h2 : X.mg "isinstance" = none) (h3 : Gl X T) (h4 : X.mg T = none) (h5 : bootBuiltins T = some (.type n)) (h6 : T ≠ "__name__" := by decide) (h7 : (T == ("__debug__" : Str)) = false := by decide)
    (s1 : starEach [e, .Name T p2] X.env = (false, eval e X.env) :: starEach [.Name T p2] X.env := by rfl) (s2 : starEach [.Name T p2] X.env = (false, eval (.Name T p2) X.env) :: starEach [] X.env := by rfl) (hpl : (backTo pos (starEach [.Name T p2] X.env)).any (·.1) = false := by rfl) :
    PE X (.Call (.Name "isinstance" p) [e, .Name T p2] [] pos) (tCB (rIsX X.K) (tCons te (tCons (tC (.ty n)) tNil))) :=
  pe_callB call_isX h1 h2 PyProof.Rows.boot_isinstance (pa_cons he (pa_cons (pe_bltn h3 h4 h5 rfl h6 h7) pa_nil s2) s1) (by decide) (by decide) s1 hpl
theorem pe_isiC {e : Expr} {te : TE} {T : Str} {C : Addr} {p p2 pos : Pos} (he : PE X e te) (h1 : Gl X "isinstance") (h2 : X.mg "isinstance" = none) (h3 : Gl X T) (h4 : X.mg T = some (.ref C)) (h7 : (T == ("__debug__" : Str)) = false := by decide)
    (s1 : starEach [e, .Name T p2] X.env = (false, eval e X.env) :: starEach [.Name T p2] X.env := by rfl) (s2 : starEach [.Name T p2] X.env = (false, eval (.Name T p2) X.env) :: starEach [] X.env := by rfl) (hpl : (backTo pos (starEach [.Name T p2] X.env)).any (·.1) = false := by rfl) :
    PE X (.Call (.Name "isinstance" p) [e, .Name T p2] [] pos) (tCB (rIsX X.K) (tCons te (tCons (tC (.ref C)) tNil))) :=
  pe_callB call_isX h1 h2 PyProof.Rows.boot_isinstance (pa_cons he (pa_cons (pe_glob h3 h4 rfl h7) pa_nil s2) s1) (by decide) (by decide) s1 hpl
end
end L2
set_option Elab.async false
set_option linter.all false
set_option maxRecDepth 100000
namespace L2
open PySem PySem.Spec PyProof.Rows
theorem same_upd {H H' : Hp} {D : Addr} {o : HO} (s : Same H H') (h : H D = none) : Same H (upd H' D o) := fun b u e => by rw [upd_ne (ne_of_none e h)]; exact s b u e
theorem same_new {H : Hp} {D : Addr} {o : HO} (h : H D = none) : Same H (upd H D o) := same_upd (Same.refl H) h
inductive Kd (K : PySem.W.Frag) (H : Hp) : V → Prop where
  | non : Kd K H .non
  | bl (b : Bool) : Kd K H (.bl b)
  | int (i : Int) : Kd K H (.int i)
  | str (x : Str) : Kd K H (.str x)
  | lst {a : Addr} {xs : List V} (e : H a = some (.lst xs)) : Kd K H (.ref a)
  | tup {a : Addr} {xs : List V} (e : H a = some (.tup xs)) : Kd K H (.ref a)
  | dict {a : Addr} (e : H a = some (DictO a)) : Kd K H (.ref a)
theorem Kd.mono {K : PySem.W.Frag} {H H' : Hp} {x : V} (k : Kd K H x) (s : Same H H') : Kd K H' x := by
  cases k with
  | non => exact .non
  | bl b => exact .bl b
  | int i => exact .int i
  | str y => exact .str y
  | lst e => exact .lst (s _ _ e)
  | tup e => exact .tup (s _ _ e)
  | dict e => exact .dict (s _ _ e)
noncomputable def isI : V → Bool
  | .int _ => true
  | .bl _ => true
  | _ => false
noncomputable def isB : V → Bool
  | .bl _ => true
  | _ => false
noncomputable def isL (H : Hp) : V → Bool
  | .ref a => match H a with
    | some (.lst _) => true
    | _ => false
  | _ => false
section
variable {K : PySem.W.Frag}
theorem k_ii : PySem.W.kitOne K (.type "int") (.type "int") = some true := by kernel_rfl
theorem k_ib : PySem.W.kitOne K (.type "int") (.type "bool") = some false := by kernel_rfl
theorem k_il : PySem.W.kitOne K (.type "int") (.type "list") = some false := by kernel_rfl
theorem k_bi : PySem.W.kitOne K (.type "bool") (.type "int") = some true := by kernel_rfl
theorem k_bb : PySem.W.kitOne K (.type "bool") (.type "bool") = some true := by kernel_rfl
theorem k_bL : PySem.W.kitOne K (.type "bool") (.type "list") = some false := by kernel_rfl
theorem k_ni : PySem.W.kitOne K (.type "NoneType") (.type "int") = some false := by kernel_rfl
theorem k_nb : PySem.W.kitOne K (.type "NoneType") (.type "bool") = some false := by kernel_rfl
theorem k_nl : PySem.W.kitOne K (.type "NoneType") (.type "list") = some false := by kernel_rfl
theorem k_si : PySem.W.kitOne K (.type "str") (.type "int") = some false := by kernel_rfl
theorem k_sb : PySem.W.kitOne K (.type "str") (.type "bool") = some false := by kernel_rfl
theorem k_sl : PySem.W.kitOne K (.type "str") (.type "list") = some false := by kernel_rfl
theorem k_li : PySem.W.kitOne K (.type "list") (.type "int") = some false := by kernel_rfl
theorem k_lb : PySem.W.kitOne K (.type "list") (.type "bool") = some false := by kernel_rfl
theorem k_ll : PySem.W.kitOne K (.type "list") (.type "list") = some true := by kernel_rfl
theorem k_ti : PySem.W.kitOne K (.type "tuple") (.type "int") = some false := by kernel_rfl
theorem k_tb : PySem.W.kitOne K (.type "tuple") (.type "bool") = some false := by kernel_rfl
theorem k_tl : PySem.W.kitOne K (.type "tuple") (.type "list") = some false := by kernel_rfl
theorem k_di : PySem.W.kitOne K (.type "dict") (.type "int") = some false := by kernel_rfl
theorem k_db : PySem.W.kitOne K (.type "dict") (.type "bool") = some false := by kernel_rfl
theorem k_dl : PySem.W.kitOne K (.type "dict") (.type "list") = some false := by kernel_rfl
variable {H : Hp} {x : V}
theorem Kd.isInt (k : Kd K H x) : IsX K H x (.type "int") (isI x) := by
  cases k with
  | non => exact ⟨_, .of .non, k_ni⟩
  | bl b => exact ⟨_, .of (.bl b), k_bi⟩
  | int i => exact ⟨_, .of (.int i), k_ii⟩
  | str y => exact ⟨_, .of (.str y), k_si⟩
  | lst e => exact ⟨_, .of (.lst e), k_li⟩
  | tup e => exact ⟨_, .of (.tup e), k_ti⟩
  | dict e => exact ⟨_, .dict e, k_di⟩
theorem Kd.isBool (k : Kd K H x) : IsX K H x (.type "bool") (isB x) := by
  cases k with
  | non => exact ⟨_, .of .non, k_nb⟩
  | bl b => exact ⟨_, .of (.bl b), k_bb⟩
  | int i => exact ⟨_, .of (.int i), k_ib⟩
  | str y => exact ⟨_, .of (.str y), k_sb⟩
  | lst e => exact ⟨_, .of (.lst e), k_lb⟩
  | tup e => exact ⟨_, .of (.tup e), k_tb⟩
  | dict e => exact ⟨_, .dict e, k_db⟩
theorem Kd.isList (k : Kd K H x) : IsX K H x (.type "list") (isL H x) := by
  cases k with
  | non => exact ⟨_, .of .non, k_nl⟩
  | bl b => exact ⟨_, .of (.bl b), k_bL⟩
  | int i => exact ⟨_, .of (.int i), k_il⟩
  | str y => exact ⟨_, .of (.str y), k_sl⟩
  | lst e => refine ⟨_, .of (.lst e), ?_⟩; simp only [isL, e]; exact k_ll
  | tup e => refine ⟨_, .of (.tup e), ?_⟩; simp only [isL, e]; exact k_tl
  | dict e => refine ⟨_, .dict e, ?_⟩; simp only [isL, e, DictO]; exact k_dl
theorem isList_lst {a : Addr} {xs : List V} (e : H a = some (.lst xs)) : IsX K H (.ref a) (.type "list") true := ⟨_, .of (.lst e), k_ll⟩
end
noncomputable def Src (J : It) (L : List V) (H : Hp) : Prop := ∀ H', Same H H' → (∀ i x, L[i]? = some x → J.go i H' ∧ ∀ y H2, J.yld i H' y H2 → y = x ∧ H2 = H') ∧ J.stop L.length H'
theorem src_list {K : PySem.W.Frag} {a : Addr} {xs : List V} {H : Hp} (h : SqL K H a xs) : Src (Itl K a) xs H := fun H' sm =>
  ⟨fun i x e => ⟨⟨xs, x, sm.seq h, e⟩, fun y H2 ⟨q1, q2⟩ => ⟨by have := q2 xs (sm.seq h); rw [e] at this; exact (Option.some.inj this).symm, q1⟩⟩, ⟨xs, sm.seq h, Nat.le_refl _⟩⟩
theorem src_range {lo : Int} {n : Nat} {H : Hp} : Src (Itr lo n) ((List.range n).map fun (i : Nat) => V.int (lo + i)) H := fun H' sm => by
  refine ⟨fun i x e => ?_, ?_⟩
  · have hi : i < n := by
      have := (List.getElem?_eq_some_iff.mp e).1
      simpa using this
    refine ⟨hi, fun y H2 ⟨q1, q2⟩ => ⟨?_, q1⟩⟩
    rw [List.getElem?_map, List.getElem?_range hi] at e
    rw [q2]
    exact Option.some.inj e
  · show n ≤ _
    simp
theorem comp_fm {J : It} {L : List V} {k : Nat} {tt : TT} {te : TE} {D : Addr} {σ0 : St} {H : Hp} {Fn : Hp → Prop} (f : V → V) (p : V → Bool) (S : Src J L H) (hn : L.length ≤ sizeLine) (hD : H D = none)
    (ht : ∀ x ∈ L, ∀ (H' : Hp) (Qb : Bool → Hp → Prop), Same H H' → (∀ H'', Same H' H'' → Qb (p x) H'') → tt (σ0.set k (some x)) H' Qb)
    (he : ∀ x ∈ L, p x = true → ∀ (H' : Hp) (Q : VK), Same H H' → (∀ H'', Same H' H'' → Q (f x) H'') → te (σ0.set k (some x)) H' Q)
    (hd : ∀ H', Same H H' → H' D = some (.lst ((L.filter p).map f)) → Fn H') :
    ∃ W : Nat → Nat → St → Hp → Prop, (∃ m, W 0 m σ0 (upd H D (.lst []))) ∧ ∀ i m σ' H', W i m σ' H' →
      (J.stop i H' ∧ Fn H') ∨ (J.go i H' ∧ ∃ N : St → Hp → Prop, (∀ σ2 H2, N σ2 H2 → ∃ m', m' < m ∧ W (i + 1) m' σ2 H2) ∧ ∀ x H2, J.yld i H' x H2 → gName k x σ' H2 fun σ3 H3 => tt σ3 H3 fun b H4 =>
        if b = true then te σ3 H4 fun v H5 => ∃ xs, H5 D = some (.lst xs) ∧ xs.length < sizeLine ∧ N σ3 (upd H5 D (.lst (xs ++ [v]))) else N σ3 H4) := by
  refine ⟨fun i m σ' H' => m = L.length - i ∧ i ≤ L.length ∧ (∀ y, σ'.set k y = σ0.set k y) ∧ Same H H' ∧ H' D = some (.lst (((L.take i).filter p).map f)), ⟨L.length, rfl, Nat.zero_le _, fun _ => rfl, same_new hD, by rw [upd_same]; rfl⟩, ?_⟩
  rintro i m σ' H' ⟨rfl, hi, hσ, sm, hH⟩
  by_cases hlt : i < L.length
  · have hx : L[i]? = some L[i] := by simp [hlt]
    obtain ⟨go, yl⟩ := (S H' sm).1 i _ hx
    refine .inr ⟨go, fun σ2 H2 => (∀ y, σ2.set k y = σ0.set k y) ∧ Same H H2 ∧ H2 D = some (.lst (((L.take (i + 1)).filter p).map f)), ?_, ?_⟩
    · rintro σ2 H2 ⟨q1, q2, q3⟩
      exact ⟨L.length - (i + 1), by omega, rfl, hlt, q1, q2, q3⟩
    · intro x H2 y
      obtain ⟨rfl, rfl⟩ := yl x H2 y
      show tt (σ'.set k (some L[i])) H2 _
      rw [hσ]
      have hm : L[i] ∈ L := List.getElem_mem hlt
      have tk : L.take (i + 1) = L.take i ++ [L[i]] := by rw [List.take_add_one, hx]; rfl
      refine ht _ hm H2 _ sm fun H4 s4 => ?_
      cases hp : p L[i] with
      | true =>
        refine iteT (he _ hm hp H4 _ (sm.trans s4) fun H5 s5 => ⟨_, s5 D _ (s4 D _ hH), ?_, fun y => by rw [List.set_set], same_upd (sm.trans (s4.trans s5)) hD, ?_⟩)
        · have h1 : (((L.take i).filter p).map f).length ≤ (L.take i).length := by rw [List.length_map]; exact List.length_filter_le _ _
          rw [List.length_take] at h1
          omega
        · rw [upd_same, tk, List.filter_append, List.map_append]
          simp [hp]
      | false =>
        refine iteF ⟨fun y => by rw [List.set_set], sm.trans s4, ?_⟩
        rw [tk, List.filter_append, List.filter_cons_of_neg (by simp [hp])]
        simpa using s4 D _ hH
  · have e : i = L.length := by omega
    subst e
    exact .inl ⟨(S H' sm).2, hd H' sm (by rw [hH, List.take_length])⟩
section
variable {H H' : Hp} {a : Addr} {ps : List Addr} {R : List (List V)}
end
end L2
set_option Elab.async false
set_option linter.all false
set_option maxRecDepth 100000
namespace L2
open PySem PySem.Spec PyProof.Rows
section
variable {X : Cx} (K : PySem.W.Frag)
theorem ixK (h : X.K = K) : IxR X (rIxL K) := by subst h; exact ix_list
theorem slK (h : X.K = K) : SlR X (rSlL K) := by subst h; exact sl_list
theorem lenK (h : X.K = K) : CallR X (.builtin "len") (fun xs H Q => ∃ p ys, xs = [.ref p] ∧ (SqL K H p ys ∨ SqT K H p ys) ∧ Q (.int ys.length) H) := by subst h; exact call_len_seq
theorem listK (h : X.K = K) : CallR X (.type "list") (fun xs H Q => ∃ p ys, xs = [.ref p] ∧ (SqL K H p ys ∨ SqT K H p ys) ∧ ∀ l, H l = none → Q (.ref l) (upd H l (.lst ys))) := by subst h; exact call_list_of
theorem allK (h : X.K = K) (hc : X.calm = true) : CallR X (.builtin "all") (rAll K) := by subst h; exact call_all hc
theorem eqDK (h : X.K = K) (hu : X.A.units + 64 < cLine) : OpR X (compareOp .Eq) (rEqD K false) := by subst h; exact op_eqD hu
theorem neDK (h : X.K = K) (hu : X.A.units + 64 < cLine) : OpR X (compareOp .NotEq) (rEqD K true) := by subst h; exact op_neD hu
theorem piK {tg l : Expr} {tl : TE} (h : X.K = K) (hl : PE X l tl) : PI X tg l (iList K tl) := by subst h; exact pi_list hl
theorem isiK {e : Expr} {te : TE} {T : Str} {n : String} {p p2 pos : Pos} (h : X.K = K) (he : PE X e te) (h1 : Gl X "isinstance") (h2 : X.mg "isinstance" = none) (h3 : Gl X T) (h4 : X.mg T = none) (h5 : bootBuiltins T = some (.type n)) (h6 : T ≠ "__name__" := by decide) (h7 : (T == ("__debug__" : Str)) = false := by decide)
    (s1 : starEach [e, .Name T p2] X.env = (false, eval e X.env) :: starEach [.Name T p2] X.env := by rfl) (s2 : starEach [.Name T p2] X.env = (false, eval (.Name T p2) X.env) :: starEach [] X.env := by rfl) (hpl : (backTo pos (starEach [.Name T p2] X.env)).any (·.1) = false := by rfl) :
    PE X (.Call (.Name "isinstance" p) [e, .Name T p2] [] pos) (tCB (rIsX K) (tCons te (tCons (tC (.ty n)) tNil))) := by
  subst h; exact pe_isiX he h1 h2 h3 h4 h5 h6 h7 s1 s2 hpl
theorem isiCK {e : Expr} {te : TE} {T : Str} {C : Addr} {p p2 pos : Pos} (h : X.K = K) (he : PE X e te) (h1 : Gl X "isinstance") (h2 : X.mg "isinstance" = none) (h3 : Gl X T) (h4 : X.mg T = some (.ref C)) (h7 : (T == ("__debug__" : Str)) = false := by decide)
    (s1 : starEach [e, .Name T p2] X.env = (false, eval e X.env) :: starEach [.Name T p2] X.env := by rfl) (s2 : starEach [.Name T p2] X.env = (false, eval (.Name T p2) X.env) :: starEach [] X.env := by rfl) (hpl : (backTo pos (starEach [.Name T p2] X.env)).any (·.1) = false := by rfl) :
    PE X (.Call (.Name "isinstance" p) [e, .Name T p2] [] pos) (tCB (rIsX K) (tCons te (tCons (tC (.ref C)) tNil))) := by
  subst h; exact pe_isiC he h1 h2 h3 h4 h7 s1 s2 hpl
end
open C5
section
variable {X : Cx} {sc : Scope} {N : List Str} {src : List (Option Nat)}
structure TurnG (Cp : Cx → Prop) (P : Program) (w : World) (K : PySem.W.Frag) (tg : Expr) (J : It) (fp : List Addr) (it : Addr) (tn : Nat → Heap → Prop) : Prop where
  mem : it ∈ fp
  obj : ∀ i h, tn i h → ∀ b ∈ fp, ∃ o, h.get? b = some o ∧ ∀ v, o.data ≠ .cell v
  keep : ∀ i h h', tn i h → (∀ b ∈ fp, ∀ o, h.get? b = some o → h'.get? b = some o) → tn i h'
  item : ∀ (X : Cx), X.prog = P → X.w = w → X.K = K → Cp X → ∀ (i : Nat) (pins : List (Addr × Obj)) (s : Shared) (σ : St) (H : Hp) (E : Value → Shared → Prop), Inv X pins σ H s → (∀ b ∈ fp, FpOk X pins H b) → tn i s.heap → J.go i H →
    wpAny (model P w) X.A (pyNext (.ref it)) (fun r s1 => ∃ u, r = some u ∧ wpAny (model P w) X.A (letOwnedTupleGo tg (.ref it) u) (fun _ s2 => ∃ x H', Inv X pins σ H' s2 ∧ RelV x u ∧ J.yld i H x H' ∧ tn (i + 1) s2.heap ∧ ∀ b ∈ fp, H' b = none) E s1) E s
  done : ∀ (X : Cx), X.prog = P → X.w = w → X.K = K → Cp X → ∀ (i : Nat) (pins : List (Addr × Obj)) (s : Shared) (σ : St) (H : Hp) (E : Value → Shared → Prop), Inv X pins σ H s → (∀ b ∈ fp, FpOk X pins H b) → tn i s.heap → J.stop i H →
    wpAny (model P w) X.A (pyNext (.ref it)) (fun r s1 => r = none ∧ Inv X pins σ H s1) E s
  self : ∀ (A : Around) (i : Nat) (s : Shared) (Q : Value → Shared → Prop) (E : Value → Shared → Prop), tn i s.heap → Q (.ref it) s → wpAny (model P w) A (pyIter (.ref it)) Q E s
noncomputable def PIG (Cp : Cx → Prop) (X : Cx) (tg iter : Expr) (wi : TI) : Prop :=
  ∀ (pins : List (Addr × Obj)) (s : Shared) (σ : St) (H : Hp) (R : It → Hp → Prop), Inv X pins σ H s → wi σ H R →
    wpAny (model X.prog X.w) X.A (eval iter X.env) (fun v s1 => wpAny (model X.prog X.w) X.A (pyIter v) (fun itv s2 => ∃ (it : Addr) (fp : List Addr) (tn : Nat → Heap → Prop) (J : It) (H' : Hp), itv = .ref it ∧ Inv X pins σ H' s2 ∧ TurnG Cp X.prog X.w X.K tg J fp it tn ∧ tn 0 s2.heap ∧ (∀ b ∈ fp, FpOk X pins H' b) ∧ R J H') X.xe s1) X.xe s
theorem ps_setCG (Cp : Cx → Prop) {x : Str} {ix : Nat} {p1 spos : Pos} {elt tgt iter : Expr} {ifs : List Expr} {wi : TI} {g : TG} {tt : TT} {te : TE} {pos : Pos} (hN : X.N.Nodup) (hix : X.N[ix]? = some x) (hxl : X.env.scope.names.lookup x = some .local) (hc : ∀ (s : Shared) (H : Hp) (C : Addr) (fp : List Addr), Cp (cxB X sc N fp C s H)) (B : BkScope X.env.scope sc X.N N src) (hi : PIG Cp X tgt iter wi)
    (hg : ∀ (s : Shared) (H : Hp) (C : Addr) (fp : List Addr), PG (cxB X sc N fp C s H) tgt g) (ht : ∀ (s : Shared) (H : Hp) (C : Addr) (fp : List Addr), PTs (cxB X sc N fp C s H) ifs tt)
    (he : ∀ (s : Shared) (H : Hp) (C : Addr) (fp : List Addr), PE (cxB X sc N fp C s H) elt te) (hs : ∀ x, foldedSetIterable iter X.env x = pure x := by intro _; rfl)
    (hsw : swapsWith (.ListComp elt [⟨tgt, iter, ifs, 0⟩] sc pos) (some (.Name x p1)) spos.line X.env = pure true := by rfl) :
    PS X (.Assign [.Name x p1] (.ListComp elt [⟨tgt, iter, ifs, 0⟩] sc pos) spos) (tAsg (tComp src wi g tt te) (gName ix)) := by
  intro pins s σ H D I h
  rw [exec_Assign_Name_used _ _ _ _ hsw]
  refine wpAny_bind (wpAny_standAt (wpAny_bind ?_))
  show wpAny _ X.A (do let _ ← comprehension (.ListComp elt [⟨tgt, iter, ifs, 0⟩] sc pos) sc X.env _ (newList []) false (eval iter X.env) (some (assign (.Name x p1) X.env))) _ _ s
  have has := B.has rfl I.ok
  refine wpAny_bind (wpAny_mono (wpAny_comprehension_free (use := some (assign (.Name x p1) X.env)) (Q := fun _ s' => SP X pins D .next s') rfl hs (clos_of has) B.kind (fun y hy hk => by have := B.look (x := y.1) (k := y.2) hy; rw [hk] at this; exact this)
    (thn (hi pins s σ H _ I h) fun v s1 h1 => thn h1 fun itv s2 h2 => ?_)) (fun _ s' hq => wpAny_pure (wpAny_pure hq)) fun _ _ z => z)
  obtain ⟨it, fp, tn, J, H2, e, I2, T, st2, f2, q⟩ := h2
  subst e
  refine wpAny_newObj_type (newBlock ?_)
  obtain ⟨W, ⟨m0, w0⟩, turn⟩ := q s2.heap.objs.size (I2.hok.fresh (Nat.le_refl _))
  have hlt : ∀ b ∈ fp, b < s2.heap.objs.size := fun b hb => by
    obtain ⟨o, ho, _⟩ := T.obj 0 _ st2 b hb
    exact Heap.lt_size ho
  have szL : (s2.heap.push { cls := .type "list", dict := none, data := .seq ([] : List Value).toArray } : Heap).objs.size = s2.heap.objs.size + 1 := Heap.size_push ..
  generalize hh1 : pushCells ((s2.heap.push { cls := .type "list", dict := none, data := .seq ([] : List Value).toArray } : Heap).push { cls := .type "dict", data := .dict #[] }) sc.names = hB
  have IB := I2.block (C := (s2.heap.push { cls := .type "list", dict := none, data := .seq ([] : List Value).toArray } : Heap).objs.size) (t := s2.toks) B f2 hlt szL hh1.symm
  generalize (s2.heap.push { cls := .type "list", dict := none, data := .seq ([] : List Value).toArray } : Heap).objs.size = C at IB szL ⊢
  have keepB : ∀ b o, s2.heap.get? b = some o → hB.get? b = some o := fun b o e => by
    rw [← hh1]
    exact pushCells_keeps _ _ b o (Heap.get?_push_of_some _ (Heap.get?_push_of_some _ e))
  have stB : tn 0 hB := T.keep 0 _ _ st2 fun b _ o e => keepB b o e
  have frB : ∀ b ∈ fp, upd H2 s2.heap.objs.size (.lst []) b = none := fun b hb => by
    rw [upd_ne (Nat.ne_of_lt (hlt b hb))]
    exact (f2 b hb).1
  have stat : ∀ {H' : Hp}, (∀ b ∈ fp, H' b = none) → ∀ b ∈ fp, FpOk (cxB X sc N fp C s2 H2) [] H' b := fun {H'} hn b hb => by
    obtain ⟨z1, z2⟩ := IB.ok.exf b hb
    exact ⟨hn b hb, z1, IB.ok.exfs b hb, .inl hb, z2, fun p hp => absurd (show p ∈ ([] : List (Addr × Obj)) from hp) (by simp)⟩
  show codeAny (model X.prog X.w) X.A (.compStart (.ListComp elt [⟨tgt, iter, ifs, 0⟩] sc pos) 0 (.ref it) (.ref s2.heap.objs.size) (bkEnv sc (clOf sc X.env) C X.env)) (compPost (model X.prog X.w) X.A X.xe (some (assign (.Name x p1) X.env)) (fun _ s' => SP X pins D .next s') (.ref s2.heap.objs.size) C) { s2 with heap := hB }
  have loop : codeAny (model X.prog X.w) X.A (.compLoop (.ListComp elt [⟨tgt, iter, ifs, 0⟩] sc pos) 0 (.ref it) (.ref s2.heap.objs.size) (bkEnv sc (clOf sc X.env) C X.env))
      (compPost (model X.prog X.w) X.A X.xe (some (assign (.Name x p1) X.env)) (fun _ s' => SP X pins D .next s') (.ref s2.heap.objs.size) C) { s2 with heap := hB } := by
    refine compLoop_go (fun n s' => ∃ i σ' H', Inv (cxB X sc N fp C s2 H2) [] σ' H' s' ∧ tn i s'.heap ∧ (∀ b ∈ fp, H' b = none) ∧ W i n σ' H') ?_ m0 ⟨0, _, _, IB, stB, frB, w0⟩
    rintro n s3 ⟨i, σ3, H3, I3, st3, fr3, w3⟩
    rcases turn i n σ3 H3 w3 with ⟨stop, qn⟩ | ⟨go, N', hN, step⟩
    · refine thn (T.done (cxB X sc N fp C s2 H2) rfl rfl rfl (hc _ _ _ _) i [] s3 σ3 H3 _ I3 (stat fr3) st3 stop) fun r s4 ⟨hr, I4⟩ => ?_
      subst hr
      obtain ⟨m, hn, _⟩ := I4.loc
      have ltC : ∀ b o, s2.heap.get? b = some o → b ≠ C := fun b o e => Nat.ne_of_lt (show @LT.lt Nat instLTNat b C by have : @LT.lt Nat instLTNat b s2.heap.objs.size := Heap.lt_size e; omega)
      have base := I4.base
      have freeC : H3 C = none := I4.free
      have J : Inv X pins σ H3 s4 := by
        refine I2.call' (s' := s4) (ch := fp) I4.os ⟨base.keep, base.slot, base.free, base.there, base.tups, base.frzs, base.tbls⟩ I4.hok I4.bare (fun b hb => ?_)
        obtain ⟨f0, f1, f2', f3, f4, f5⟩ := f2 b hb
        exact ⟨f3, f1, f4, f5⟩
      have neL : C ≠ X.env.locals := fun z => by
        obtain ⟨m', ⟨o, _, _, ho, _⟩, _⟩ := I2.loc
        exact ltC _ o ho z.symm
      have neCell : ∀ y c, X.env.cells.lookup y = some c → c ≠ C := fun y c e => by
        obtain ⟨v', o, ho, _⟩ := I2.cell y c e
        exact ltC c o ho
      show wpAny (model X.prog X.w) X.A (assign (.Name x p1) X.env (.ref s2.heap.objs.size)) _ _ s4
      refine wpAny_assign_Name (store_ok2 J hN hix (.inl hxl) (show RelV (.ref s2.heap.objs.size) (.ref s2.heap.objs.size) from rfl) (fun s5 J5 hsb => ?_) (.inr hxl))
      obtain ⟨a, sb, ha⟩ := hsb
      have neA : C ≠ a := by
        rcases ha with z | z
        · rw [z]; exact neL
        · exact fun q => neCell _ _ z q.symm
      refine ⟨m, hn.sameBut sb neA, fun h' hs' => ?_⟩
      refine ⟨_, H3, J5.turned (t' := s5.toks) (it := C) (fun b o hb e => (hs'.2 b hb).trans e) freeC neL (.inr ?_) neCell (fun p hp => ltC p.1 p.2 (I2.pin p hp).1), qn⟩
      exact Nat.le_trans I2.sz (show @LE.le Nat instLENat s2.heap.objs.size C by omega)
    · refine thn (T.item (cxB X sc N fp C s2 H2) rfl rfl rfl (hc _ _ _ _) i [] s3 σ3 H3 _ I3 (stat fr3) st3 go) fun r s4 ⟨u, hr, h4⟩ => ?_
      subst hr
      refine thn h4 fun _ s5 ⟨x, H5, I5, r5, y5, st5, fr5⟩ => ?_
      have I5' := I5.pinned (stat fr5) (T.obj _ _ st5)
      have again : ∀ {s7 : Shared} {σ7 : St} {H7 : Hp}, Inv (cxB X sc N fp C s2 H2) ([] ++ pinsAt fp s5.heap) σ7 H7 s7 → N' σ7 H7 → ∃ m, m < n ∧ ∃ i σ' H', Inv (cxB X sc N fp C s2 H2) [] σ' H' s7 ∧ tn i s7.heap ∧ (∀ b ∈ fp, H' b = none) ∧ W i m σ' H' := fun {s7 σ7 H7} I7 n7 => by
        obtain ⟨m', hm, w7⟩ := hN σ7 H7 n7
        refine ⟨m', hm, i + 1, σ7, H7, I7.unpinned, T.keep _ _ _ st5 fun b hb o e => (I7.pin (b, o) (List.mem_append_right _ (List.mem_append_right _ (mem_pinsAt hb e)))).1, fun b hb => ?_, w7⟩
        obtain ⟨o, e, d⟩ := T.obj _ _ st5 b hb
        exact (I7.pin (b, o) (List.mem_append_right _ (List.mem_append_right _ (mem_pinsAt hb e)))).2.1
      refine thn (hg s2 H2 C fp _ s5 σ3 H5 x u _ I5' r5 (step x H5 y5)) fun _ s6 ⟨σ6, H6, I6, q6⟩ => ?_
      refine thn (ht s2 H2 C fp _ s6 σ6 H6 _ I6 q6) fun b s7 ⟨H7, I7, q7⟩ => ?_
      cases b with
      | false =>
        rw [if_neg Bool.false_ne_true] at q7 ⊢
        exact again I7 q7
      | true =>
        rw [if_pos rfl] at q7 ⊢
        refine thn (he s2 H2 C fp _ s7 σ6 H7 _ I7 q7) fun u8 s8 ⟨v8, H8, I8, r8, xs, hD, hz, n8⟩ => ?_
        exact thn (mt_append (X := cxB X sc N fp C s2 H2) _ s8 σ6 H8 (.ref s2.heap.objs.size) [v8] (.ref s2.heap.objs.size) [u8] (fun _ H => N' σ6 H) I8 rfl (.cons r8 .nil) ⟨_, xs, v8, rfl, rfl, hD, hz, n8⟩) fun _ s9 ⟨_, H9, I9, _, n9⟩ => again I9 n9
  exact codeAny_compStart_list loop (T.self _ 0 _ _ _ stB loop)
end
end L2
namespace L2
open PySem
theorem exm_mk {K : PySem.W.Frag} {C F : Addr} (h1 : PySem.W.subIn K (.ref F) (.type "BaseException") = some true) (h2 : PySem.W.isClsIn K F = true) (h3 : PySem.W.typeIn K (.ref F) = some (.type "type")) (h4 : PySem.W.subIn K (.ref C) (.ref F) = some true) : PySem.W.exmOne K (.ref C) (.ref F) = some true := by
  unfold PySem.W.exmOne PySem.W.kitCls
  have h2' : (PySem.W.clsIn K F).isSome = true := h2
  rw [h1, if_pos (by decide)]
  dsimp only
  rw [h2', h3, if_pos (by simp), h4]
end L2
set_option Elab.async false
set_option linter.all false
set_option maxRecDepth 100000
namespace L2
open PySem PySem.Spec PyProof.Rows
section
variable {X : Cx}
end
end L2
set_option Elab.async false
set_option linter.all false
set_option maxRecDepth 100000
namespace L2
open PySem PySem.Spec PyProof.Rows
section
variable {X : Cx}
end
end L2
set_option Elab.async false
set_option linter.all false
set_option maxRecDepth 100000
namespace L2
open PySem PySem.Spec PyProof.Rows
section
variable {X : Cx} {tg : Expr}
end
end L2
namespace PySem
namespace F
end F
section
variable {prog : Program} {w : World} {A : Around} {E : Value → Shared → Prop} {s : Shared} {I l : Addr} {items : Array Value}
end
end PySem
namespace L2
open PySem PySem.Spec PyProof.Rows
section
variable {X : Cx}
end
end L2
set_option Elab.async false
set_option linter.all false
set_option maxRecDepth 100000
namespace L2
open PySem PySem.Spec PyProof.Rows
noncomputable def Sl (e : Expr) : Prop := ∀ es env, starEach (e :: es) env = (false, eval e env) :: starEach es env
end L2
set_option Elab.async false
set_option linter.all false
set_option maxRecDepth 100000
namespace L2
open PySem PySem.Spec PyProof.Rows
section
variable {X : Cx} {a b c e : Expr} {es : List Expr} {ta tb te : TE} {t : TA} {p pos : Pos}
end
end L2
set_option Elab.async false
set_option linter.all false
set_option maxRecDepth 100000
namespace L2
open PySem PySem.Spec PyProof.Rows
section
variable {prog : Program} {w : World} {A : Around} {E : Value → Shared → Prop} {s : Shared}
theorem entry_unchain : entryFor table "proto.unchain" = some Builtin.«proto.unchain» := entryFor_of_tree (by kernel_rfl)
theorem wp_unchain {e : Value} {ea : Addr} {Q : Value → Shared → Prop} (hc : NoCtx s.heap ea) (h : ∀ v, Q v s) : wpAny (model prog w) A (runValue (.builtin "proto.unchain" ⟨[e, .ref ea, .ref ea, .bool false], []⟩)) Q E s := by
  obtain ⟨o, vs, ho, hd, h2⟩ := hc
  refine wpAny_runValue (codeAny_builtin entry_unchain ?_)
  show wpAny _ _ (field (.ref ea) 2 >>= _) _ _ s
  refine wpAny_bind (wpAny_field ho hd h2 ?_)
  rw [if_pos (show (Value.none == Value.none) = true from rfl)]
  exact wpAny_pure (h _)
theorem wp_raiseMarked {α : Type} {x ea : Addr} {o : Obj} {vs : Array Value} {Q : α → Shared → Prop} (hh : A.handled = some (.ref ea)) (ne : x ≠ ea) (hc : NoCtx s.heap ea) (ho : s.heap.get? x = some o) (hd : o.data = .fields vs) (hz : 2 < vs.size)
    (h : E (.ref x) { s with heap := s.heap.update x (Obj.mapFields (·.setIfInBounds 2 (.ref ea))) }) : wpAny (model prog w) A (raiseNew (.ref x) : Sem α) Q E s := by
  unfold raiseNew
  refine wpAny_bind (wpAny_handled ?_)
  rw [hh]
  dsimp only
  rw [if_pos (show (Value.ref ea != Value.ref x) = true from by simp [bne, Ne.symm ne])]
  exact wpAny_bind (wpAny_holding (wp_unchain hc fun v => wpAny_bind (wpAny_setField (x := .ref ea) ho hd hz (wpAny_throw h))))
end
end L2
set_option Elab.async false
set_option linter.all false
set_option maxRecDepth 100000
namespace L2
open PySem PySem.Spec PyProof.Rows
section
variable {prog : Program} {w : World} {A : Around} {E : Value → Shared → Prop} {s : Shared}
theorem wp_stopM {α : Type} {ea : Addr} {Q : α → Shared → Prop} (hh : A.handled = some (.ref ea)) (hc : NoCtx s.heap ea)
    (h : ∀ x h', (∀ b o, s.heap.get? b = some o → h'.get? b = some o) → (∃ o, h'.get? x = some o ∧ o.cls = .type "StopIteration") → E (.ref x) { s with heap := h' }) :
    wpAny (model prog w) A (do raiseNew (← newExc (.type "StopIteration") []) : Sem α) Q E s := by
  refine wpAny_bind ?_
  simp only [newExc, newTuple]
  refine wpAny_bind (wpAny_newObj_type (wpAny_bind (m := firstArgMember _ _) (wpAny_of_eq (a := Value.none) (by first | rfl | (simp only [firstArgMember]; rfl)) (wpAny_newObj_type ?_ (by size_fits)))) (by size_fits))
  have k1 : ∀ b o, s.heap.get? b = some o → (s.heap.push { cls := Value.type "tuple", data := Data.seq #[] } : Heap).get? b = some o := fun b o e => Heap.get?_push_of_some _ e
  show wpAny _ _ (raiseNew (.ref (s.heap.push { cls := Value.type "tuple", data := Data.seq #[] } : Heap).objs.size)) Q E { s with heap := (s.heap.push { cls := Value.type "tuple", data := Data.seq #[] } : Heap).push _ }
  generalize (s.heap.push { cls := Value.type "tuple", data := Data.seq #[] } : Heap) = h1 at k1 ⊢
  obtain ⟨oe, vs, he, hd, h2⟩ := hc
  have lt : ∀ b o, s.heap.get? b = some o → b ≠ h1.objs.size := fun b o e => Nat.ne_of_lt (Heap.lt_size (k1 b o e))
  refine wp_raiseMarked hh (lt ea oe he).symm ⟨oe, vs, Heap.get?_push_of_some _ (k1 ea oe he), hd, h2⟩ (Heap.get?_push_size _ rfl) rfl (by simp only [Array.size_append]; exact Nat.lt_of_lt_of_le (by decide) (Nat.le_add_right 6 _)) (h _ _ (fun b o e => ?_) ?_)
  · rw [Heap.get?_update_other _ _ (lt b o e).symm]
    exact Heap.get?_push_of_some _ (k1 b o e)
  · exact ⟨_, Heap.get?_update_self _ (Heap.get?_push_size _ rfl) (Obj.isFreed_of_fields (Obj.data_mapFields rfl _)), rfl⟩
end
end L2
set_option Elab.async false
set_option linter.all false
set_option maxRecDepth 100000
namespace L2
open PySem PySem.Spec PyProof.Rows
section
variable {prog : Program} {w : World} {A : Around} {E : Value → Shared → Prop} {s : Shared}
theorem next_list_endM {it l ea : Addr} {i : Nat} {items : Array Value} {Q : Option Value → Shared → Prop} (hh : A.handled = some (.ref ea)) (hc : NoCtx s.heap ea) (ne : ea ≠ it)
    (hit : s.heap.IsListIter it l i) (hl : s.heap.IsList l items) (hx : items[i]? = none)
    (hQ : ∀ h', Heap.ExtBut it s.heap h' → Q none { s with heap := h' }) : wpAny (model prog w) A (pyNext (.ref it)) Q E s := by
  obtain ⟨oi, g1, _, g2⟩ := id hit
  obtain ⟨ol, g3, _, nl, g4⟩ := hl
  unfold pyNext
  refine wpAny_bind (wpAny_attempt (wpAny_callSpecial?_slot hit.typeIs (name := Str.ofString "__next__") slot_listiter_next (wpAny_call_entry slot_listiter_next hit.typeIs entry_listiter_next ?_ (args_listiter_next _))))
  refine wpAny_bind (m := field (.ref it) 0) (wpAny_field g1 g2 rfl (x := .ref l) ?_)
  rw [if_neg (show ¬ ((Value.ref l == Value.none) = true) from Bool.noConfusion)]
  refine wpAny_bind (m := field (.ref it) 1) (wpAny_field g1 g2 rfl (x := .int i 0) ?_)
  refine wpAny_bind (m := seqItems? (.ref l)) (wpAny_seqItems g3 g4 ?_)
  simp only [Int.toNat_natCast, hx]
  refine wpAny_bind (wpAny_rule (wpAny_bind (wpAny_setField g1 g2 (by simp) ?_)))
  have ob := Heap.SameBut.update (a := it) (h := s.heap) (f := Obj.mapFields (·.setIfInBounds 0 Value.none))
  show wpAny _ A.in1 (do raiseNew (← newExc (.type "StopIteration") []) : Sem _) _ _ _
  refine wp_stopM (show A.in1.handled = some (.ref ea) from hh) (hc.keeps fun o e => (ob.2 ea ne).trans e) fun x h' kp ⟨ox, ex, cx⟩ => ?_
  refine wpAny_bind (wpAny_isInstance ⟨ox, ex, cx⟩ isSubtype_stop (T := "StopIteration") (b := true) ?_)
  exact wpAny_pure (hQ h' fun b o hb e => kp b o ((ob.2 b hb).trans e))
end
end L2
set_option Elab.async false
set_option linter.all false
set_option maxRecDepth 100000
namespace L2
open PySem PySem.Spec PyProof.Rows
section
variable {prog : Program} {w : World} {A : Around} {E : Value → Shared → Prop} {s : Shared}
theorem next_tuple_endM {it t ea : Addr} {i : Nat} {items : Array Value} {Q : Option Value → Shared → Prop} (hh : A.handled = some (.ref ea)) (hc : NoCtx s.heap ea) (ne : ea ≠ it)
    (hit : IsTupIter s.heap it t i) (ht : IsTup s.heap t items) (hx : items[i]? = none)
    (hQ : ∀ h', Heap.ExtBut it s.heap h' → Q none { s with heap := h' }) : wpAny (model prog w) A (pyNext (.ref it)) Q E s := by
  obtain ⟨oi, g1, _, g2⟩ := id hit
  obtain ⟨ol, g3, _, nl, g4⟩ := ht
  unfold pyNext
  refine wpAny_bind (wpAny_attempt (wpAny_callSpecial?_slot hit.typeIs (name := Str.ofString "__next__") slot_tupleiter_next (wpAny_call_entry slot_tupleiter_next hit.typeIs entry_tupleiter_next ?_ (args_tupleiter_next _))))
  refine wpAny_bind (m := field (.ref it) 0) (wpAny_field g1 g2 rfl (x := .ref t) ?_)
  rw [if_neg (show ¬ ((Value.ref t == Value.none) = true) from Bool.noConfusion)]
  refine wpAny_bind (m := field (.ref it) 1) (wpAny_field g1 g2 rfl (x := .int i 0) ?_)
  refine wpAny_bind (m := seqItems? (.ref t)) (wpAny_seqItems g3 g4 ?_)
  simp only [Int.toNat_natCast, hx]
  refine wpAny_bind (wpAny_rule (wpAny_bind (wpAny_setField g1 g2 (by simp) ?_)))
  have ob := Heap.SameBut.update (a := it) (h := s.heap) (f := Obj.mapFields (·.setIfInBounds 0 Value.none))
  show wpAny _ A.in1 (do raiseNew (← newExc (.type "StopIteration") []) : Sem _) _ _ _
  refine wp_stopM (show A.in1.handled = some (.ref ea) from hh) (hc.keeps fun o e => (ob.2 ea ne).trans e) fun x h' kp ⟨ox, ex, cx⟩ => ?_
  refine wpAny_bind (wpAny_isInstance ⟨ox, ex, cx⟩ isSubtype_stop (T := "StopIteration") (b := true) ?_)
  exact wpAny_pure (hQ h' fun b o hb e => kp b o ((ob.2 b hb).trans e))
theorem assign_TupleM {env : Env} {elts : List Expr} {k : Nat} {pos : Pos} {t ea : Addr} {items : Array Value} {Q : Unit → Shared → Prop} (hh : A.handled = some (.ref ea)) (hc : NoCtx s.heap ea) (ht : IsTup s.heap t items)
    (hn : (assignEach elts env).length = items.size) (hstar : (assignEach elts env).findIdx? (·.1) = none)
    (h : ∀ h', Heap.ExtBut s.heap.objs.size s.heap h' → wpAny (model prog w) A (assignInOrder ((assignEach elts env).map (·.2)) items.toList) Q E { s with heap := h' }) :
    wpAny (model prog w) A (assign (.Tuple elts k pos) env (.ref t)) Q E s := by
  have lt : t ≠ s.heap.objs.size := by obtain ⟨o, ho, _⟩ := ht; exact Nat.ne_of_lt (Heap.lt_size ho)
  have lte : ea ≠ s.heap.objs.size := by obtain ⟨o, _, ho, _⟩ := hc; exact Nat.ne_of_lt (Heap.lt_size ho)
  rw [assign_Tuple]
  refine wpAny_bind (wpAny_standAt ?_)
  unfold unpack
  rw [hn, hstar]
  refine wpAny_bind (wpAny_holding ?_)
  unfold unpackItems notIterableAtAll
  refine wpAny_bind (wpAny_bind (wpAny_specialOf ht.typeIs slot_tuple_iter.lookup (wpAny_pure ?_)))
  simp only [Bool.false_eq_true, if_false]
  refine wpAny_bind (wpAny_holding (iter_tuple ht (wpAny_bind (wpAny_holding (draw_tuple lt items.size 0 _ _ ⟨_, Heap.get?_push_size _ rfl, rfl, rfl⟩ (ht.push _) (by omega) fun h1 it1 sb => ?_)))))
  rw [List.drop_zero, List.take_of_length_le (by simp), if_neg (by simp)]
  have c1 : NoCtx h1 ea := hc.keeps fun o e => (sb.2 ea lte).trans (Heap.get?_push_of_some _ e)
  refine wpAny_bind (wpAny_holding (next_tuple_endM hh c1 lte it1 ((ht.push _).extBut sb.extBut lt) (by simp) fun h2 e2 => ?_))
  simp only [Option.isSome_none, Bool.false_eq_true, if_false]
  exact wpAny_pure (h h2 fun b o hb e => e2 b o hb (sb.extBut b o hb (Heap.get?_push_of_some _ e)))
end
end L2
set_option Elab.async false
set_option linter.all false
set_option maxRecDepth 100000
namespace L2
open PySem PySem.Spec PyProof.Rows C5
section
variable {X : Cx} {Ec : XK}
end
section
variable {M : Model} {A : Around} {E : Value → Shared → Prop} {s : Shared} {B : Heap} {env : Env} {outer : List Env} {L ea : Addr} {cls a0 fl : Value} {Q : Unit → Shared → Prop}
end
section
variable {P : Program} {w : World} {K : PySem.W.Frag} {mg : Str → Option Value} {base : Heap} {N : List Str} {qual : Str} {scope : Scope} {f : Addr} {cd : Value} {A : Around} {outer : List Env} {s₀ : Shared} {H₀ : Hp} {E : XK}
theorem ownE1 : PassesOwn (model P w) (cxOf (CX1 P w) P w K mg base N qual scope f cd A outer s₀ H₀ E).A (cxOf (CX1 P w) P w K mg base N qual scope f cd A outer s₀ H₀ E).env (cxOf (CX1 P w) P w K mg base N qual scope f cd A outer s₀ H₀ E).xe :=
  fun e s' h => wpAny_leaving_again (SameStack.refl _) h
end
end L2
set_option Elab.async false
set_option linter.all false
set_option maxRecDepth 100000
namespace C5
open PySem
section
variable {prog : Program} {w : World} {A : Around} {R : Result → Shared → Prop} {s : Shared}
end
end C5
namespace L2
open PySem PySem.Spec PyProof.Rows C5
section
variable {X : Cx} {pins : List (Addr × Obj)} {σ : St} {H : Hp} {s : Shared} {sc : Scope} {N : List Str} {src : List (Option Nat)}
end
end L2
set_option Elab.async false
set_option linter.all false
set_option maxRecDepth 100000
namespace L2
open PySem PySem.Spec PyProof.Rows
noncomputable def g2 (K : PySem.W.Frag) (k1 k2 : Nat) : TG := gTup K 2 (gCons (gName k1) (gCons (gName k2) gNil))
section
variable {K : PySem.W.Frag} {H : Hp} {k1 k2 : Nat}
noncomputable def enumL (xs : List V) : List (V × V) := (List.range xs.length).map fun (i : Nat) => (V.int (i : Int), xs.getD i .non)
end
end L2
set_option Elab.async false
set_option linter.all false
set_option maxRecDepth 100000
namespace PySem
open Sem (wp)
open AutoSeq1 (wpAny_loadPart')
section
variable {prog : Program} {w : World} {A : Around} {E : Value → Shared → Prop} {s : Shared}
end
section
variable {prog : Program} {w : World} {A : Around} {E : Value → Shared → Prop} {s : Shared}
end
section
variable {prog : Program} {w : World} {A : Around} {E : Value → Shared → Prop} {s : Shared}
end
end PySem
namespace L2
open PySem PySem.Spec PyProof.Rows
section
variable {X : Cx}
end
section
variable {K : PySem.W.Frag} {H : Hp} {k1 k2 : Nat}
theorem Same.seqT {K : PySem.W.Frag} {H H' : Hp} {a : Addr} {xs : List V} (e : Same H H') (h : SqT K H a xs) : SqT K H' a xs := by
  rcases h with (h | ⟨o, h⟩) | h
  · exact .inl (.inl (e _ _ h))
  · exact .inl (.inr ⟨o, e _ _ h⟩)
  · exact .inr h
end
end L2
set_option Elab.async false
set_option linter.all false
set_option maxRecDepth 100000
namespace L2
open PySem PySem.Spec PyProof.Rows
noncomputable def Hd (H : Hp) (ea : Addr) : Prop := ∃ C, H ea = some (ExcO ea C)
theorem Hd.mono {H H' : Hp} {ea : Addr} (h : Hd H ea) (s : Same H H') : Hd H' ea := by
  obtain ⟨C, e⟩ := h
  exact ⟨C, s _ _ e⟩
theorem Inv.noctx {X : Cx} {pins : List (Addr × Obj)} {σ : St} {H : Hp} {s : Shared} {ea : Addr} (I : Inv X pins σ H s) (h : Hd H ea) : NoCtx s.heap ea := by
  obtain ⟨C, e⟩ := h
  obtain ⟨⟨o, vs, p1, _, p3, p4⟩, _⟩ := (show ObjOk X.prog X.w H s.heap ea (ExcO ea C) from I.hok ea _ e)
  exact ⟨o, vs, p1, p3, p4⟩
noncomputable abbrev Marked (ea : Addr) : Cx → Prop := fun X => X.A.handled = some (.ref ea)
noncomputable def ItlM (K : PySem.W.Frag) (a ea : Addr) : It := ⟨(Itl K a).go, (Itl K a).yld, fun i H => (Itl K a).stop i H ∧ Hd H ea⟩
theorem turn_listM {P : Program} {w : World} {K : PySem.W.Frag} {tg : Expr} {ea : Addr} (a it : Addr) : TurnG (Marked ea) P w K tg (ItlM K a ea) [it] it (fun i h => h.IsListIter it a i) where
  mem := List.mem_singleton.mpr rfl
  obj := fun i h st b hb => by
    rw [List.mem_singleton.mp hb]
    obtain ⟨o, e, _, d⟩ := st
    exact ⟨o, e, fun v z => by rw [d] at z; cases z⟩
  keep := fun i h h' st k => st.at fun o e => k it (List.mem_singleton.mpr rfl) o e
  item := by
    rintro X rfl rfl rfl hc i pins s σ H E I hf st ⟨xs, x, hq, hx⟩
    obtain ⟨its, rv, p, _⟩ := I.list hq
    obtain ⟨u, hu, ru⟩ := rv.get hx
    obtain ⟨f0, f1, f2, f3, f4, f5⟩ := hf it (List.mem_singleton.mpr rfl)
    refine wpAny_pyNext_list_item st p.isList (x := u) (by simpa using hu) fun h' st' sb => ⟨u, rfl, ?_⟩
    have J : Inv X pins σ H { s with heap := h' } := I.turned (t' := s.toks) (fun b o hb e => (sb.2 b hb).trans e) f0 f1 f3 f4 f5
    obtain ⟨o, e, c, d⟩ := id st'
    exact go_of (s := { s with heap := h' }) e c d (by decide) ⟨x, H, J, ru, ⟨rfl, fun ys hy => by rw [I.list_inj hy hq]; exact hx⟩, st', fun b hb => (hf b hb).1⟩
  done := by
    rintro X rfl rfl rfl hc i pins s σ H E I hf st ⟨⟨xs, hq, hx⟩, he⟩
    obtain ⟨its, rv, p, _⟩ := I.list hq
    obtain ⟨f0, f1, f2, f3, f4, f5⟩ := hf it (List.mem_singleton.mpr rfl)
    have hl := rv.length
    obtain ⟨C, e⟩ := id he
    exact next_list_endM hc (I.noctx he) (ne_of_none e f0) st p.isList (by simp; omega) fun h' eb => ⟨rfl, I.turned (t' := s.toks) (fun b o hb e => eb b o hb e) f0 f1 f3 f4 f5⟩
  self := fun _ _ _ _ _ st h => wpAny_pyIter_listiter st h
noncomputable def iListM (K : PySem.W.Frag) (ea : Addr) (tl : TE) : TI := fun σ H R => tl σ H fun x H1 => ∃ a, x = .ref a ∧ (∃ xs, SqL K H1 a xs) ∧ R (ItlM K a ea) H1
section
variable {X : Cx} {ea : Addr}
theorem pi_listM {tg l : Expr} {tl : TE} (K : PySem.W.Frag) (hK : X.K = K) (hl : PE X l tl) : PIG (Marked ea) X tg l (iListM K ea tl) := by
  subst hK
  intro pins s σ H R I h
  refine thn (hl pins s σ H _ I h) fun v s1 ⟨x, H1, J, r1, a, e, ⟨xs, hq⟩, q⟩ => ?_
  subst e
  cases r1
  obtain ⟨its, rv, p, _⟩ := J.list hq
  refine wpAny_pyIter_list p.isList ⟨s1.heap.objs.size, [s1.heap.objs.size], _, _, H1, rfl, J.kept (t' := s1.toks) fun b o e => Heap.get?_push_of_some _ e, turn_listM a _, ⟨_, Heap.get?_push_size _ rfl, rfl, rfl⟩, fun b hb => ?_, q⟩
  rw [List.mem_singleton.mp hb]
  exact J.fpOk (Nat.le_refl _) (J.hok.fresh (Nat.le_refl _))
noncomputable def gTupM (K : PySem.W.Frag) (ea : Addr) (n : Nat) (t : TGs) : TG := fun v σ H Q => Hd H ea ∧ gTup K n t v σ H Q
theorem pg_tupM {es : List Expr} {k n : Nat} {pos : Pos} {t : TGs} (K : PySem.W.Frag) (hK : X.K = K) (hc : Marked ea X) (h : PGs X es t) (hn : (assignEach es X.env).length = n := by rfl) (hst : (assignEach es X.env).findIdx? (·.1) = none := by rfl) : PG X (.Tuple es k pos) (gTupM K ea n t) := by
  subst hK
  intro pins s σ H v u Q I r ⟨he, a, xs, e1, hq, hl, hw⟩
  subst e1
  cases r
  obtain ⟨its, rv, ht, _⟩ := I.tuple hq
  refine assign_TupleM hc (I.noctx he) ht (by simp [hn, ← hl, rv.length]) hst fun h' hx => ?_
  exact h pins _ σ H xs _ Q (I.kept (t' := s.toks) fun b o e => hx b o (Nat.ne_of_lt (Heap.lt_size e)) e) (by simpa using rv) hw
end
theorem comp_word {K : PySem.W.Frag} {a ea D : Addr} {L : List (Addr × Str × Bool)} {σ0 : St} {H : Hp} {Fn : Hp → Prop} (hS : SqL K H a (L.map fun t => V.ref t.1)) (hT : ∀ t ∈ L, SqT K H t.1 [.str t.2.1, .bl t.2.2]) (hE : Hd H ea) (hn : L.length ≤ sizeLine) (h2 : σ0.length = 2) (hD : H D = none)
    (hd : ∀ H', Same H H' → H' D = some (.lst ((L.filter fun t => t.2.2).map fun t => V.str t.2.1)) → Fn H') :
    ∃ W : Nat → Nat → St → Hp → Prop, (∃ m, W 0 m σ0 (upd H D (.lst []))) ∧ ∀ i m σ' H', W i m σ' H' →
      ((ItlM K a ea).stop i H' ∧ Fn H') ∨ ((ItlM K a ea).go i H' ∧ ∃ N : St → Hp → Prop, (∀ σ2 H2, N σ2 H2 → ∃ m', m' < m ∧ W (i + 1) m' σ2 H2) ∧ ∀ x H2, (ItlM K a ea).yld i H' x H2 → gTupM K ea 2 (gCons (gName 0) (gCons (gName 1) gNil)) x σ' H2 fun σ3 H3 => tB (tVar 1) σ3 H3 fun b H4 =>
        if b = true then tVar 0 σ3 H4 fun v H5 => ∃ xs, H5 D = some (.lst xs) ∧ xs.length < sizeLine ∧ N σ3 (upd H5 D (.lst (xs ++ [v]))) else N σ3 H4) := by
  refine ⟨fun i m σ' H' => m = L.length - i ∧ i ≤ L.length ∧ σ'.length = 2 ∧ Same H H' ∧ H' D = some (.lst (((L.take i).filter fun t => t.2.2).map fun t => V.str t.2.1)), ⟨L.length, rfl, Nat.zero_le _, h2, same_new hD, by rw [upd_same]; rfl⟩, ?_⟩
  rintro i m σ' H' ⟨rfl, hi, hσ, sm, hH⟩
  by_cases hlt : i < L.length
  · have hx : L[i]? = some L[i] := List.getElem?_eq_getElem hlt
    have hx' : (L.map fun t => V.ref t.1)[i]? = some (.ref L[i].1) := by rw [List.getElem?_map, hx]; rfl
    have hS' := sm.seq hS
    refine .inr ⟨⟨_, _, hS', hx'⟩, fun σ2 H2 => σ2.length = 2 ∧ Same H H2 ∧ H2 D = some (.lst (((L.take (i + 1)).filter fun t => t.2.2).map fun t => V.str t.2.1)), fun σ2 H2 ⟨q1, q2, q3⟩ => ⟨L.length - (i + 1), by omega, rfl, hlt, q1, q2, q3⟩, ?_⟩
    rintro x H2 ⟨rfl, hy⟩
    have e := hy _ hS'
    rw [hx'] at e
    cases e
    have tk : (L.take (i + 1)).filter (fun t => t.2.2) = (L.take i).filter (fun t => t.2.2) ++ [L[i]].filter fun t => t.2.2 := by rw [List.take_succ_eq_append_getElem hlt, List.filter_append]
    obtain ⟨v0, v1, rfl⟩ : ∃ v0 v1, σ' = [v0, v1] := by
      match σ', hσ with
      | [a, b], _ => exact ⟨a, b, rfl⟩
    refine ⟨hE.mono sm, _, _, rfl, sm.seqT (hT _ (List.getElem_mem hlt)), rfl, _, _, rfl, _, _, rfl, rfl, _, rfl, _, rfl, ?_⟩
    have lf : ((L.take i).filter fun t => t.2.2).length ≤ i := Nat.le_trans (List.length_filter_le _ _) (by rw [List.length_take]; omega)
    cases hb : L[i].2.2 with
    | false =>
      refine iteF ?_
      refine ⟨rfl, sm, ?_⟩
      rw [tk, List.filter_cons_of_neg (by simp [hb]), List.filter_nil, List.append_nil]
      exact hH
    | true =>
      refine iteT ?_
      refine ⟨_, rfl, _, hH, by rw [List.length_map]; omega, rfl, same_upd sm hD, ?_⟩
      rw [upd_same, tk, List.filter_cons_of_pos (by simp [hb]), List.filter_nil, List.map_append]
      rfl
  · have e : i = L.length := by omega
    subst e
    rw [List.take_length] at hH
    exact .inl ⟨⟨⟨_, sm.seq hS, by rw [List.length_map]; exact Nat.le_refl _⟩, hE.mono sm⟩, hd H' sm hH⟩
end L2
set_option Elab.async false
set_option linter.all false
set_option maxRecDepth 100000
namespace L2
open PySem PySem.Spec PyProof.Rows
end L2
set_option Elab.async false
set_option linter.all false
set_option maxRecDepth 100000
namespace L2
open PySem PySem.Spec PyProof.Rows
noncomputable def signsOf (x : Str) : List V := x.cps.toList.map fun c => .str ⟨#[c]⟩
section
variable {X : Cx} {tg : Expr}
end
section
variable {X : Cx}
end
end L2
namespace L2
open PySem
end L2
namespace L2
open PySem PySem.Spec PyProof.Rows
end L2
set_option Elab.async false
set_option linter.all false
set_option maxRecDepth 100000
namespace L2
open PySem PySem.Spec PyProof.Rows
section
variable {X : Cx}
end
end L2
set_option Elab.async false
set_option linter.all false
set_option maxRecDepth 100000
namespace L2
open PySem PySem.Spec PyProof.Rows
noncomputable def isT (H : Hp) : V → Bool
  | .ref a => match H a with
    | some (.tup _) => true
    | _ => false
  | _ => false
section
variable {K : PySem.W.Frag}
variable {H : Hp} {x : V}
end
section
variable {X : Cx}
end
end L2
set_option Elab.async false
set_option linter.all false
set_option maxRecDepth 100000
namespace L2
open PySem PySem.Spec PyProof.Rows
structure DefA (P : Program) (w : World) (K : PySem.W.Frag) (mg : Str → Option Value) (base : Heap) (k : Nat) (f : Addr) (ps : List Str) (ds : List V) (sp : Sp) : Prop where
  ex : ∃ (fd : FuncData) (dvs : List Value), FnOk P w K mg base CX0 k f fd ps sp ∧ PySem.W.keepIn K (.ref f) = true ∧ Binds K fd ps dvs ∧ Vals ds dvs
section
variable {P : Program} {w : World} {K : PySem.W.Frag} {mg : Str → Option Value} {base : Heap}
theorem FunD.defA {x qual : Str} {st : Stmt} {f : Addr} {fd : FuncData} {ps : List Str} {k : Nat} {sp : Sp} (F : FunD K x qual st .none f fd) (G : FnOk P w K mg base CX0 k f fd ps sp)
    (h : ∀ (kV doc pm : Value) (an : Option Addr) (cdv ct : Value) (us : List Value), us.length = ps.length → bindArgs (PySem.W.fnOf x qual (defArgs st) (defBody st) (defScope st) .none kV doc pm an cdv ct) ⟨us, []⟩ = pure (ps.zip us)) : DefA P w K mg base k f ps [] sp := by
  obtain ⟨oc, od, kV, doc, pm, an, cdv, ct, osl, rfl, lk, hcd⟩ := F.ex
  exact ⟨_, [], G, F.kp, .all (h kV doc pm an cdv ct), .nil⟩
end
section
variable {X : Cx}
theorem ld_var {E : Value → Shared → Prop} {pins : List (Addr × Obj)} {s : Shared} {σ : St} {H : Hp} {i : Nat} {x : Str} {v : V} {pos : Pos} {Q : Value → Shared → Prop} (I : Inv X pins σ H s) (hN : X.N[i]? = some x) (hv : Vis X.env.scope x) (e : σ[i]? = some (some v)) (h : ∀ u, RelV v u → Q u s)
    (hd : (x == ("__debug__" : Str)) = false := by decide) (hcd : (x == ("__classdict__" : Str)) = false := by decide) : wpAny (model X.prog X.w) X.A (eval (.Name x pos) X.env) Q E s := by
  obtain ⟨m, hn, hl⟩ := I.loc
  obtain ⟨u, r, l⟩ := hl i x v hN e hv
  have fin := h u r
  rcases l with ⟨hk, hm⟩ | ⟨hk, c, hc, hcell⟩
  · exact wpAny_Name (wpAny_loadName_local I.ok.kind hk hn hm fin) hd
  · rcases hk with hk | hk
    · exact wpAny_Name (wpAny_loadName_cell I.ok.kind hk hc hcell fin) hd
    · exact wpAny_Name (wpAny_loadName_free I.ok.kind hk hc hcell fin hcd) hd
noncomputable def tCallV (i : Nat) (f : Addr) (sp : Sp) (dvs : List V) (E : XK) (t : TA) : TE := fun σ H Q => σ[i]? = some (some (.ref f)) ∧ tCall sp dvs E t σ H Q
theorem pe_callV (i : Nat) {k : Nat} {x : Str} {f : Addr} {ps : List Str} {ds : List V} {sp : Sp} {e : Expr} {es : List Expr} {t : TA} {p pos : Pos} (D : DefA X.prog X.w X.K X.mg X.base k f ps ds sp) (hr : Room k X.A) (ha : PA X (e :: es) t)
    (hN : X.N[i]? = some x := by rfl) (hv : Vis X.env.scope x := by first | exact Or.inl rfl | exact Or.inr (Or.inl rfl) | exact Or.inr (Or.inr rfl)) (hdb : (x == ("__debug__" : Str)) = false := by decide) (hcd : (x == ("__classdict__" : Str)) = false := by decide)
    (he : starEach (e :: es) X.env = (false, eval e X.env) :: starEach es X.env := by rfl) (hpl : (backTo pos (starEach es X.env)).any (·.1) = false := by rfl) :
    PE X (.Call (.Name x p) (e :: es) [] pos) (tCallV i f sp ds E0 t) := by
  obtain ⟨fd, dvs, F, hk, hb, hd⟩ := D.ex
  intro pins s σ H Q I ⟨hi, h⟩
  refine wpAny_Call_Name_kw (ld_var I hN hv hi (fun u r => ?_) hdb hcd)
  obtain rfl : u = Value.ref f := r
  refine PySem.W.callWith_K (h₀ := X.base) I.ok.mod.kin hk (thn (ha pos pins s σ H _ I h) fun us s1 ⟨vs, H1, I1, r, q⟩ => ⟨I1.kIn, ?_⟩) he hpl
  exact run_fn F hr hb hd pass0 I1 r q
end
end L2
set_option Elab.async false
set_option linter.all false
set_option maxRecDepth 100000
namespace L2
open PySem PySem.Spec PyProof.Rows
section
variable {X : Cx}
noncomputable def rIsXE (K : PySem.W.Frag) : List V → Hp → VK → Prop := fun xs H Q => ∃ (a C tp : Addr) (Cs : List Addr) (b : Bool), xs = [.ref a, .ref tp] ∧ H a = some (ExcO a C) ∧ XCls K C ∧ SqT K H tp (Cs.map V.ref) ∧ PySem.W.kitAny K (.ref C) (Cs.map Value.ref) = some b ∧ Q (.bl b) H
theorem vals_refs : ∀ {Cs : List Addr} {us : List Value}, Vals (Cs.map V.ref) us → us = Cs.map Value.ref
  | [], _, r => by cases r; rfl
  | C :: Cs, _, .cons r t => by rw [show _ = Value.ref C from r, vals_refs t]; rfl
theorem call_isXE (K : PySem.W.Frag) (hK : X.K = K) : CallR X (.builtin "isinstance") (rIsXE K) := by
  subst hK
  intro pins s σ H xs us Q I rs h
  obtain ⟨a, C, tp, Cs, b, rfl, ea, cc, ht, e, q⟩ := h
  obtain ⟨u, w', rfl, r1, r2⟩ := vals2 rs
  cases r1
  cases r2
  obtain ⟨its, r, p1, _⟩ := I.tuple ht
  have ei := vals_refs r
  subst ei
  obtain ⟨⟨oc, od, odt, osl⟩, e1, ec, n, ed⟩ := p1
  cases ec
  cases ed
  obtain ⟨⟨ox, vx, p1, p2, p3, _⟩, _, _⟩ := (show ObjOk X.prog X.w H s.heap a (ExcO a C) from I.hok a _ ea)
  have p : ∃ o vs, s.heap.get? a = some o ∧ o.cls = Value.ref C ∧ o.data = Data.fields vs := ⟨ox, vx, p1, p2, p3⟩
  exact PySem.W.kia_tup (kitx_exc cc) I.kIn p e1 e (fun z => nomatch z) fun tk => ⟨.bl b, H, I.tok tk, rfl, q⟩
theorem kitAny_none {K : PySem.W.Frag} {t : Value} : ∀ {Cs : List Addr}, (∀ c ∈ Cs, PySem.W.kitOne K t (.ref c) = some false) → PySem.W.kitAny K t (Cs.map Value.ref) = some false
  | [], _ => rfl
  | c :: r, h => by
    rw [List.map_cons]
    unfold PySem.W.kitAny
    rw [h c List.mem_cons_self]
    exact kitAny_none fun d hd => h d (List.mem_cons_of_mem _ hd)
end
end L2
set_option Elab.async false
set_option linter.all false
set_option maxRecDepth 100000
namespace L2
open PySem PySem.Spec PyProof.Rows
section
variable {X : Cx} {tg : Expr}
end
end L2
set_option Elab.async false
set_option linter.all false
set_option maxRecDepth 100000
namespace L2
open PySem PySem.Spec PyProof.Rows
section
variable {X : Cx}
end
end L2
set_option Elab.async false
set_option linter.all false
set_option maxRecDepth 100000
namespace L2
open PySem PySem.Spec PyProof.Rows
structure FnOkM (P : Program) (w : World) (K : PySem.W.Frag) (mg : Str → Option Value) (base : Heap) (k : Nat) (f : Addr) (fd : FuncData) (ps : List Str) (sp : Addr → Sp) : Prop where
  len : ∀ ea vs H Q E, sp ea vs H Q E → vs.length = ps.length
  run : ∀ (A : Around) (ea : Addr) (outer : List Env) (s : Shared) (H : Hp) (args : Args) (us : List Value) (vs : List V) (Q : VK) (E : XK), Room k A → Env0 P w K mg base (A.mark (some (.ref ea))) outer s H → BindsTo s fd args (ps.zip us) → Vals vs us → sp ea vs H Q E →
    codeAny (model P w) (A.mark (some (.ref ea))) (.call (.ref f) args) (CR CX0 outer P w H s Q E) s
structure DefM (P : Program) (w : World) (K : PySem.W.Frag) (mg : Str → Option Value) (base : Heap) (k : Nat) (x : Str) (ps : List Str) (ds : List V) (sp : Addr → Sp) : Prop where
  ex : ∃ (f : Addr) (fd : FuncData) (dvs : List Value), FnOkM P w K mg base k f fd ps sp ∧ mg x = some (.ref f) ∧ PySem.W.keepIn K (.ref f) = true ∧ Binds K fd ps dvs ∧ Vals ds dvs
section
variable {P : Program} {w : World} {K : PySem.W.Frag} {mg : Str → Option Value} {base : Heap}
theorem Env0.unmark {A : Around} {ea : Addr} {outer : List Env} {s : Shared} {H : Hp} (e : Env0 P w K mg base (A.mark (some (.ref ea))) outer s H) : Env0 P w K mg base A outer s H := ⟨e.frames, e.mod, e.bs, e.bsz, e.funs, e.frf, e.hok, e.bare⟩
theorem FunD.okM {x qual : Str} {st : Stmt} {dV : Value} {f : Addr} {fd : FuncData} {N ps : List Str} {k : Nat} {sp : Addr → Sp} (F : FunD K x qual st dV f fd) (S : FnScope N ps (defScope st)) (len : ∀ ea vs H Q E, sp ea vs H Q E → vs.length = ps.length)
    (hbody : ∀ (cdv : Value) (A : Around) (ea : Addr) (outer : List Env) (s : Shared) (H : Hp) (vs : List V) (Q : VK) (E : XK), Room k (A.deeper (envOfC qual (defScope st) s.heap.objs.size f cdv)) → sp ea vs H Q E →
      ∃ t, PSs ((cxOf CX0 P w K mg base N qual (defScope st) f cdv A outer s H E).marked ea) (defBody st) t ∧ t { nx := fun _ H' => Q .non H', rt := Q } (start N vs) H) : FnOkM P w K mg base (k + 1) f fd ps sp := by
  obtain ⟨oc, od, kV, doc, pm, an, cdv, ct, osl, rfl, lk, hcd⟩ := F.ex
  refine ⟨len, fun A ea outer s H args us vs Q E hr e0 hb r hsp => ?_⟩
  have hl := len _ _ _ _ _ hsp
  have KX : K.In s.heap := e0.mod.kin.keeps fun b o e => (e0.bs b o e).1
  have lim : s.heap.NoLimit := e0.mod.nolimit.keeps fun b o e => (e0.bs b o e).1
  have hkind : ∀ y ∈ ps.zip us, (defScope st).names.lookup y.1 = some .local ∨ ((defScope st).names.lookup y.1 = some .cell ∧ ((cellsFrom (s.heap.objs.size + 1) (defScope st).names []).lookup y.1).isSome = true) := fun ⟨n, v⟩ hy => by
    rcases S.par n (List.of_mem_zip hy).1 with q | q
    · exact .inl q
    · exact .inr ⟨q, PySem.W.cellsFrom_some _ _ _ (.inl q)⟩
  refine codeAny_call_function (A := A.mark (some (.ref ea))) hr.depth (KX _ _ lk) rfl S.co S.gen rfl (PySem.W.codeRec_of KX hcd) (hb _ _ _ _ ?_)
  refine wpAny_newFunctionEnv_cells S.kind hkind fun env he s1 x => ?_
  subst he
  refine ⟨lim.keeps x.toInCall.keep, codeAny_func ?_⟩
  obtain ⟨t, ht, hq⟩ := hbody cdv A ea outer s H vs Q E (hr.deeper _) hsp
  have I : Inv ((cxOf CX0 P w K mg base N qual (defScope st) f cdv A outer s H E).marked ea) [] (start N vs) H s1 := (inv_start S hr.hd e0.unmark hl r x).marked ea
  refine wpAny_mono (ht [] s1 (start N vs) H _ I hq) (fun fl s' hs => ?_) fun e s' hs => False.elim hs
  have fin : ∀ {σ' : St} {H' : Hp} {v : V} {u : Value}, Inv ((cxOf CX0 P w K mg base N qual (defScope st) f cdv A outer s H E).marked ea) [] σ' H' s' → RelV v u → Q v H' → CE outer P w H s Q u s' :=
    fun {σ' H' v u} J rv q => ⟨v, H', J.os, J.bare, J.base, J.hok, rv, q⟩
  cases fl with
  | ret u =>
    obtain ⟨v, σ', H', J, rv, q⟩ := hs
    exact fin J rv q
  | next =>
    obtain ⟨σ', H', J, q⟩ := hs
    exact fin (v := V.non) (u := Value.none) J rfl q
  | brk =>
    obtain ⟨_, _, _, q⟩ := hs
    exact False.elim q
  | cont =>
    obtain ⟨_, _, _, q⟩ := hs
    exact False.elim q
theorem FunD.defM {x qual : Str} {st : Stmt} {f : Addr} {fd : FuncData} {ps : List Str} {k : Nat} {sp : Addr → Sp} (F : FunD K x qual st .none f fd) (G : FnOkM P w K mg base k f fd ps sp) (hm : mg x = some (.ref f))
    (h : ∀ (kV doc pm : Value) (an : Option Addr) (cdv ct : Value) (us : List Value), us.length = ps.length → bindArgs (PySem.W.fnOf x qual (defArgs st) (defBody st) (defScope st) .none kV doc pm an cdv ct) ⟨us, []⟩ = pure (ps.zip us)) : DefM P w K mg base k x ps [] sp := by
  obtain ⟨oc, od, kV, doc, pm, an, cdv, ct, osl, rfl, lk, hcd⟩ := F.ex
  exact ⟨f, _, [], G, hm, F.kp, .all (h kV doc pm an cdv ct), .nil⟩
end
section
variable {X : Cx}
theorem pe_callM {k : Nat} {x : Str} {ps : List Str} {ds : List V} {sp : Addr → Sp} {e : Expr} {es : List Expr} {t : TA} {p pos : Pos} {ea : Addr} (D : DefM X.prog X.w X.K X.mg X.base k x ps ds sp) (hr : Room k X.A) (hg : Gl (X.marked ea) x)
    (ha : PA (X.marked ea) (e :: es) t) (hdb : (x == ("__debug__" : Str)) = false := by decide) (he : starEach (e :: es) X.env = (false, eval e X.env) :: starEach es X.env := by rfl) (hpl : (backTo pos (starEach es X.env)).any (·.1) = false := by rfl) :
    PE (X.marked ea) (.Call (.Name x p) (e :: es) [] pos) (tCall (sp ea) ds E0 t) := by
  obtain ⟨f, fd, dvs, F, hm, hk, hb, hd⟩ := D.ex
  intro pins s σ H Q I h
  refine wpAny_Call_Name_kw (ld_glob I hg hm ?_ hdb)
  refine PySem.W.callWith_K (h₀ := X.base) I.ok.mod.kin hk (thn (ha pos pins s σ H _ I h) fun us s1 ⟨vs, H1, I1, r, q⟩ => ⟨I1.kIn, ?_⟩) he hpl
  have r2 : Vals (vs ++ ds) (us ++ dvs) := r.append hd
  have hl : (us ++ dvs).length = ps.length := by rw [← r2.length]; exact F.len _ _ _ _ _ q
  refine wpAny_call (codeAny_mono (F.run X.A ea X.stack s1 H1 ⟨us, []⟩ (us ++ dvs) (vs ++ ds) Q E0 hr I1.env0 (hb s1 us I1.kIn hl) r2 q) fun r s' hq => ?_)
  cases r with
  | error e => exact False.elim hq
  | ok fl =>
    cases fl with
    | ret u => exact I1.after hq
    | next => exact False.elim hq
    | brk => exact False.elim hq
    | cont => exact False.elim hq
end
end L2
set_option Elab.async false
set_option linter.all false
set_option maxRecDepth 100000
namespace L2
open PySem PySem.Spec PyProof.Rows
set_option maxHeartbeats 1600000
section
variable {X : Cx}
end
end L2
set_option Elab.async false
set_option linter.all false
set_option maxRecDepth 100000
namespace L2
open PySem PySem.Spec PyProof.Rows
section
variable {X : Cx}
end
end L2
namespace M4
end M4
set_option Elab.async false
set_option linter.all false
set_option maxRecDepth 100000
namespace L2
open PySem PySem.Spec PyProof.Rows
section
variable {X : Cx}
end
end L2
set_option Elab.async false
set_option linter.all false
set_option maxRecDepth 100000
namespace L2
open PySem PySem.Spec PyProof.Rows
section
variable {X : Cx} {pins pn : List (Addr × Obj)} {σ : St} {H : Hp} {s : Shared} {XE : Value → Shared → Prop}
noncomputable def catchXG (K : PySem.W.Frag) (CF : Addr) (i : Nat) (ts : Addr → TS) (D : Ends) (σ : St) : XK := fun cls _ H1 =>
  ∃ C, cls = .ref C ∧ PySem.W.exmOne K (.ref C) (.ref CF) = some true ∧ ∀ ea, H1 ea = none → ts ea (endsX i D) (σ.set i (some (.ref ea))) (upd H1 ea (ExcO ea C))
noncomputable def tTryG (K : PySem.W.Frag) (CF : Addr) (i : Nat) (tb : (St → XK) → TS) (ts : Addr → TS) : TS := fun D σ H => tb (fun σ' => catchXG K CF i ts D σ') D σ H
theorem ps_tryG {body : List Stmt} {cx n : Str} {CF : Addr} {i : Nat} {b0 : Stmt} {suite : List Stmt} {np hpos pos : Pos} {tb : (St → XK) → TS} {ts : Addr → TS}
    (hN : X.N.Nodup) (hi : X.N[i]? = some n) (hl : X.env.scope.names.lookup n = some .local) (hg : Gl X cx) (hm : X.mg cx = some (.ref CF)) (hst : X.stack = X.env :: X.outer) (hf : X.env.frame = some X.env.locals)
    (hb : ∀ (pn : List (Addr × Obj)) (XE : Value → Shared → Prop) (R : St → XK), PassesR (CX1 X.prog X.w) (X.at pn XE) R → PSs (X.at pn XE) body (tb R))
    (hs : ∀ ea, PSs (X.marked ea) (b0 :: suite) (ts ea)) (hdb : (cx == ("__debug__" : Str)) = false := by decide) :
    PS X (.Try body [.ExceptHandler (some (.Name cx np)) (some n) (b0 :: suite) hpos] [] [] pos) (tTryG X.K CF i tb ts) := by
  intro pins s σ H D I hq
  refine wpAny_Try_except (wpAny_mono (hb (X.pn ++ pins) _ (fun σ' => catchXG X.K CF i ts D σ') ?_ [] s σ H D I.at hq) (fun f s1 q => ?_) fun e s1 q => q)
  · intro pins0 σ0 H0 s0 e s' I0' hc
    have I0 : Inv X pins σ0 H0 s0 := I0'.unat
    obtain ⟨ea, cls, a0, H', B, rfl, fl, nc, os, bare, fw, C, rfl, hex, q⟩ := hc
    replace fl : Heap.FlyingW B (X.env :: X.outer) ea (.ref C) a0 s'.heap := by rw [← hst]; exact fl
    replace fw : Flew X.prog X.w (X.env :: X.outer) H0 H' s0.heap B s'.heap ea := by rw [← hst]; exact fw
    have fr0 : X.A.frames = some (X.env :: X.outer) := by rw [I0.ok.frames, hst]
    have new0 : s0.heap.get? ea = none := by
      cases g : s0.heap.get? ea with
      | none => rfl
      | some o =>
        by_cases hb : ea ∈ frs (X.env :: X.outer)
        · obtain ⟨_, o1, e1, nf⟩ := fl.2.2.1.mem hb
          obtain ⟨oe, vs, e2, _, d2, _⟩ := fl.first
          rw [e1] at e2; cases e2
          exact absurd d2 (nf vs)
        · obtain ⟨o', e1⟩ := fw.there ea o g hb
          rw [fl.2.1] at e1; cases e1
    refine looks_onC fr0 hf fl nc fun h4 held4 nc4 up4 => ?_
    refine landsC held4 nc4 fun h5 fl5 nc5 up5 => ?_
    have inv : ∀ {h6 : Heap} {tk : Nat}, Heap.FlyingW B (X.env :: X.outer) ea (.ref C) a0 h6 → NoCtx h6 ea → s'.heap.UpToSlots h6 → Inv X pins σ0 (upd H' ea (ExcO ea C)) { s' with heap := h6, toks := tk } := fun {h6 tk} fl6 nc6 up6 => by
      have f6 := fw.up fl up6
      have u6 := f6.un fl6.1
      obtain ⟨oe, vs, e6, c6, d6, _⟩ := fl6.first
      obtain ⟨on, wn, en, dn, nn⟩ := nc6
      rw [e6] at en; cases en
      rw [d6] at dn; cases dn
      refine I0.call' (s' := { s' with heap := h6, toks := tk }) (ch := []) os (by
        rw [hst]
        exact ⟨u6.keep, u6.slot, fun b o e n hx => by
          rw [upd_ne (fun z => by rw [z, new0] at e; cases e)]
          exact u6.free b o e n hx, u6.there, fun b xs e => by
          have z := u6.tups b xs e
          rw [upd_ne (ne_of_none z fw.exc)]; exact z, fun b o u e => by
          have z := u6.frzs b o u e
          rw [upd_ne (ne_of_none z fw.exc)]; exact z, fun b ps e => by
          obtain ⟨more, z⟩ := u6.tbls b ps e
          exact ⟨more, by rw [upd_ne (ne_of_none z fw.exc)]; exact z⟩⟩) (fun b u e => ?_) bare (fun b hb => absurd hb (by simp))
      by_cases hbe : b = ea
      · subst hbe
        rw [upd_same] at e
        cases e
        refine ⟨⟨oe, vs, e6, c6, d6, nn⟩, ⟨oe, e6⟩, fun h1 h2 p k => ?_⟩
        obtain ⟨o, ws, p1, p2, p3, p4⟩ := p
        exact ⟨o, ws, k o p1, p2, p3, p4⟩
      · rw [upd_ne hbe] at e
        refine (f6.ok fl6.1 b u e).stay (fun _ _ _ g => g) (fun c g => ?_) fun c xs g => ?_
        · rw [upd_ne (ne_of_none g fw.exc)]; exact g
        · rw [upd_ne (ne_of_none g fw.exc)]; exact g
    have I5 := inv (tk := s'.toks) fl5 nc5 (up4.trans up5)
    refine wpAny_handleBy_cons (codeAny_handlers_test (ld_glob (X := X.marked ea) (I5.marked ea) hg hm ?_ hdb)) (by intro z; cases z)
    obtain ⟨ob, hob, hobc⟩ := fl5.there
    have LT : PySem.W.Looks (model X.prog X.w) h5 (typeOf (.ref ea)) (.ref C) := by
      rw [← hobc]
      exact (PySem.W.Looks.ld hob).andThen .now
    refine (PySem.W.exm_one (h := h5) I5.kIn LT hex).here ?_
    refine codeAny_handlers_suite_as ?_
    refine lands_againC fl5 nc5 fun h6 fl6 nc6 up6 => ?_
    have I6 := inv (tk := s'.toks) fl6 nc6 ((up4.trans up5).trans up6)
    refine store_ok I6 hN hi (Or.inl hl) (show RelV (.ref ea) (.ref ea) from rfl) (fun s7 I7 => ?_) (.inr hl)
    refine wpAny_mono (hs ea pins s7 _ _ _ (I7.marked ea) (q ea fw.exc)) (fun f s8 sp => ?_) fun _ _ z => z.elim
    have fin : ∀ {σ8 : St} {H8 : Hp} {Q8 : Shared → Prop}, Inv (X.marked ea) pins σ8 H8 s8 → (∀ s9, Inv X pins (σ8.set i none) H8 s9 → Q8 s9) →
        wpAny (model X.prog X.w) X.A (do bindName X.env n .none; unbindBehindTheSuite X.env n hpos) (fun _ s9 => Q8 s9) X.xe s8 := fun {σ8 H8 Q8} J k => by
      have J' := J.unmarked I0.ok
      obtain ⟨m, hn, hlk⟩ := J'.loc
      refine wpAny_nameGoes_keeps hl hn (by rw [I0.ok.kind]; rfl) fun h9 v hn9 sb9 => k _ ?_
      exact J'.gone hN hi hl hlk hn9 sb9
    cases f with
    | next =>
      obtain ⟨σ8, H8, J, z⟩ := sp
      exact fin J fun s9 I9 => ⟨_, H8, I9, z⟩
    | brk =>
      obtain ⟨σ8, H8, J, z⟩ := sp
      exact fin J fun s9 I9 => ⟨_, H8, I9, z⟩
    | cont =>
      obtain ⟨σ8, H8, J, z⟩ := sp
      exact fin J fun s9 I9 => ⟨_, H8, I9, z⟩
    | ret u =>
      obtain ⟨v, σ8, H8, J, r, z⟩ := sp
      exact fin J fun s9 I9 => ⟨v, _, H8, I9, r, z⟩
  · cases f with
    | next => obtain ⟨σ1, H1, J, z⟩ := q; exact wpAny_execs_nil ⟨σ1, H1, J.unat, z⟩
    | brk => obtain ⟨σ1, H1, J, z⟩ := q; exact ⟨σ1, H1, J.unat, z⟩
    | cont => obtain ⟨σ1, H1, J, z⟩ := q; exact ⟨σ1, H1, J.unat, z⟩
    | ret u => obtain ⟨v, σ1, H1, J, r, z⟩ := q; exact ⟨v, σ1, H1, J.unat, r, z⟩
end
end L2
set_option Elab.async false
set_option linter.all false
set_option maxRecDepth 100000
namespace L2
open PySem PySem.Spec PyProof.Rows
noncomputable def MnE (t : TE) : Prop := ∀ σ H (Q Q' : VK), (∀ v H1, Q v H1 → Q' v H1) → t σ H Q → t σ H Q'
noncomputable def MnT (t : TT) : Prop := ∀ σ H (Q Q' : Bool → Hp → Prop), (∀ b H1, Q b H1 → Q' b H1) → t σ H Q → t σ H Q'
noncomputable def MnA (t : TA) : Prop := ∀ σ H (Q Q' : List V → Hp → Prop), (∀ v H1, Q v H1 → Q' v H1) → t σ H Q → t σ H Q'
noncomputable def Mn2 (r : R2) : Prop := ∀ x y H (Q Q' : VK), (∀ v H1, Q v H1 → Q' v H1) → r x y H Q → r x y H Q'
theorem mn_var (i : Nat) : MnE (tVar i) := fun σ H Q Q' h q => by obtain ⟨v, e, k⟩ := q; exact ⟨v, e, h _ _ k⟩
theorem mn_op {r : R2} {a b : TE} (hr : Mn2 r) (ha : MnE a) (hb : MnE b) : MnE (tOp r a b) := fun σ H Q Q' h q =>
  ha σ H _ _ (fun x H1 q1 => hb σ H1 _ _ (fun y H2 q2 => hr x y H2 Q Q' h q2) q1) q
theorem mn_i0 (g : Int → Int → V) : Mn2 (rI0 g) := fun x y H Q Q' h q => by obtain ⟨i, j, e1, e2, k⟩ := q; exact ⟨i, j, e1, e2, h _ _ k⟩
theorem mn_nil : MnA tNil := fun σ H Q Q' h q => h _ _ q
theorem mn_cons {a : TE} {t : TA} (ha : MnE a) (ht : MnA t) : MnA (tCons a t) := fun σ H Q Q' h q => ha σ H _ _ (fun x H1 q1 => ht σ H1 _ _ (fun xs H2 q2 => h _ _ q2) q1) q
theorem mn_call {r : List V → Hp → VK → Prop} {t : TA} (hr : ∀ xs H (Q Q' : VK), (∀ v H1, Q v H1 → Q' v H1) → r xs H Q → r xs H Q') (ht : MnA t) : MnE (tCB r t) := fun σ H Q Q' h q => ht σ H _ _ (fun xs H1 q1 => hr xs H1 Q Q' h q1) q
theorem mn_test {t : TE} (h : MnE t) : MnT (tTest t) := fun σ H Q Q' hq q => h σ H _ _ (fun x H1 q1 => by obtain ⟨k, e, z⟩ := q1; exact ⟨k, e, hq _ _ z⟩) q
end L2
set_option Elab.async false
set_option linter.all false
set_option maxRecDepth 100000
namespace L2
open PySem PySem.Spec PyProof.Rows
mutual
inductive ShV (H : Hp) : Nat → V → PyData → Prop
  | non {n : Nat} : ShV H n .non .none
  | bl {n : Nat} (b : Bool) : ShV H n (.bl b) (.bool b)
  | int {n : Nat} (i : Int) : i.natAbs.log2 < 1920 → ShV H n (.int i) (.int i)
  | str {n : Nat} (x : Str) : ShV H n (.str x) (.str x)
  | lst {n : Nat} {a : Addr} {xs : List V} {ds : List PyData} : H a = some (.lst xs) → ShVs H n xs ds → ShV H (n + 1) (.ref a) (.list ds)
  | tup {n : Nat} {a : Addr} {xs : List V} {ds : List PyData} : H a = some (.tup xs) → ShVs H n xs ds → ShV H (n + 1) (.ref a) (.tuple ds)
inductive ShVs (H : Hp) : Nat → List V → List PyData → Prop
  | nil {n : Nat} : ShVs H n [] []
  | cons {n : Nat} {x : V} {xs : List V} {d : PyData} {ds : List PyData} : ShV H n x d → ShVs H n xs ds → ShVs H n (x :: xs) (d :: ds)
end
mutual
theorem ShV.mono {H H' : Hp} (s : Same H H') : ∀ {n : Nat} {v : V} {d : PyData}, ShV H n v d → ShV H' n v d
  | _, _, _, .non => .non
  | _, _, _, .bl b => .bl b
  | _, _, _, .int i h => .int i h
  | _, _, _, .str x => .str x
  | _, _, _, .lst e h => .lst (s _ _ e) (h.mono s)
  | _, _, _, .tup e h => .tup (s _ _ e) (h.mono s)
theorem ShVs.mono {H H' : Hp} (s : Same H H') : ∀ {n : Nat} {v : List V} {d : List PyData}, ShVs H n v d → ShVs H' n v d
  | _, _, _, .nil => .nil
  | _, _, _, .cons h t => .cons (h.mono s) (t.mono s)
end
mutual
theorem ShV.deep {H : Hp} : ∀ {n : Nat} {v : V} {d : PyData}, ShV H n v d → d.depth ≤ n ∧ d.showable = true ∧ d.hasDict = false
  | _, _, _, .non => ⟨Nat.zero_le _, rfl, rfl⟩
  | _, _, _, .bl b => ⟨Nat.zero_le _, rfl, rfl⟩
  | _, _, _, .int i h => ⟨Nat.zero_le _, by simpa [PyData.showable] using h, rfl⟩
  | _, _, _, .str x => ⟨Nat.zero_le _, rfl, rfl⟩
  | _, _, _, .lst e h => by
    have := h.deep
    refine ⟨?_, by simpa [PyData.showable] using this.2.1, by simpa [PyData.hasDict] using this.2.2⟩
    simp only [PyData.depth]; omega
  | _, _, _, .tup e h => by
    have := h.deep
    refine ⟨?_, by simpa [PyData.showable] using this.2.1, by simpa [PyData.hasDict] using this.2.2⟩
    simp only [PyData.depth]; omega
theorem ShVs.deep {H : Hp} : ∀ {n : Nat} {v : List V} {d : List PyData}, ShVs H n v d → PyData.depthAll d ≤ n ∧ PyData.showableAll d = true ∧ PyData.hasDictAll d = false
  | _, _, _, .nil => ⟨Nat.zero_le _, rfl, rfl⟩
  | _, _, _, .cons h t => by
    have h1 := h.deep
    have h2 := t.deep
    refine ⟨?_, ?_, ?_⟩
    · simp only [PyData.depthAll]; omega
    · simp only [PyData.showableAll, h1.2.1, h2.2.1, Bool.and_self]
    · simp only [PyData.hasDictAll, h1.2.2, h2.2.2, Bool.or_self]
end
mutual
theorem ShV.reads {X : Cx} {pins : List (Addr × Obj)} {σ : St} {H : Hp} {s : Shared} (I : Inv X pins σ H s) : ∀ {n : Nat} {v : V} {d : PyData}, ShV H n v d → ∀ {u : Value}, RelV v u → ∃ as, Reads s.heap u d as
  | _, _, _, .non, u, r => by cases r; exact ⟨_, .none⟩
  | _, _, _, .bl b, u, r => by cases r; exact ⟨_, .bool b⟩
  | _, _, _, .int i h, u, r => by obtain ⟨t, rfl⟩ := r; exact ⟨_, .int i t⟩
  | _, _, _, .str x, u, r => by obtain ⟨t, rfl⟩ := r; exact ⟨_, .str x t⟩
  | _, _, _, .lst e h, u, r => by
    cases r
    obtain ⟨_, its, n, rv, eh⟩ := I.hok _ _ e
    obtain ⟨as, ra⟩ := h.reads I rv
    exact ⟨_, .list eh rfl rfl ra⟩
  | _, _, _, .tup e h, u, r => by
    cases r
    obtain ⟨_, its, rv, o, eh, ec, n, ed⟩ := I.hok _ _ e
    obtain ⟨as, ra⟩ := h.reads I rv
    exact ⟨_, .tuple eh ec ed ra⟩
theorem ShVs.reads {X : Cx} {pins : List (Addr × Obj)} {σ : St} {H : Hp} {s : Shared} (I : Inv X pins σ H s) : ∀ {n : Nat} {v : List V} {d : List PyData}, ShVs H n v d → ∀ {u : List Value}, Vals v u → ∃ as, ReadsAll s.heap u d as
  | _, _, _, .nil, u, r => by cases r; exact ⟨_, .nil⟩
  | _, _, _, .cons h t, u, r => by
    cases r with
    | cons r1 r2 =>
      obtain ⟨a1, q1⟩ := h.reads I r1
      obtain ⟨a2, q2⟩ := t.reads I r2
      exact ⟨_, .cons q1 q2⟩
end
inductive StrV (H : Hp) : V → Str → Prop
  | non : StrV H .non "None"
  | int (i : Int) : i.natAbs.log2 < 1920 → StrV H (.int i) (toString i)
  | str (x : Str) : StrV H (.str x) x
  | dict {a : Addr} : H a = some (DictO a) → StrV H (.ref a) (dictText [])
  | dat {a : Addr} {n : Nat} {d : PyData} : n ≤ 8 → ShV H n (.ref a) d → d.shown.length ≤ sizeLine → StrV H (.ref a) d.shown
theorem StrV.mono {H H' : Hp} {v : V} {t : Str} (s : Same H H') (h : StrV H v t) : StrV H' v t := by
  cases h with
  | non => exact .non
  | int i h => exact .int i h
  | str => exact .str _
  | dict e => exact .dict (s _ _ e)
  | dat hn h hz => exact .dat hn (h.mono s) hz
theorem call_strV {X : Cx} (hu : X.A.units + 64 < cLine) (hg : X.A.guards = some []) : CallR X (.type "str") (fun xs H Q => ∃ v t, xs = [v] ∧ StrV H v t ∧ Q (.str t) H) := by
  intro pins s σ H xs us Q I r h
  obtain ⟨v, t, rfl, hv, q⟩ := h
  obtain ⟨u, rfl, ru⟩ := vals1 r
  cases hv with
  | non => cases ru; exact PySem.P.str_of_none ⟨.str _, H, I.tok _, ⟨_, rfl⟩, q⟩
  | int i hz => obtain ⟨t, rfl⟩ := ru; exact PySem.P.str_of_int hz ⟨.str _, H, I.tok _, ⟨_, rfl⟩, q⟩
  | str x => obtain ⟨t, rfl⟩ := ru; exact PySem.P.str_of_str ⟨.str _, H, I, ⟨_, rfl⟩, q⟩
  | dict e =>
    cases ru
    rename_i a
    obtain ⟨_, hs, vs, kv, o, es, ep, eh, ex, ed, _, ps, _⟩ := I.hok _ _ e
    cases kv
    have e0 : es.toList = [] := by
      generalize es.toList = el at ps ⊢
      cases ps; rfl
    have rd : Reads s.heap (.ref a) (.dict []) (a :: [] ++ []) := .dict eh ex.1 ed (by rw [e0]; exact .nil) (by rw [e0]; exact .nil)
    exact str_of_reads rd rfl (fun _ => by simp; exact fun z => by rw [z] at hs; simp at hs) hg (by show X.A.units + (1 + 3) < cLine; omega) (fun _ _ e => e) (fun h' u tk k => ⟨.str _, H, I.kept k, ⟨_, rfl⟩, q⟩) (by show _ ≤ sizeLine; decide)
  | dat hn hd hz =>
    have dd := hd.deep
    obtain ⟨as, rd⟩ := hd.reads I ru
    cases ru
    exact str_of_reads rd dd.2.1 (fun z => by rw [dd.2.2] at z; cases z) hg (by omega) (fun _ _ e => e) (fun h' u tk k => ⟨.str _, H, I.kept k, ⟨_, rfl⟩, q⟩) hz
end L2
set_option Elab.async false
set_option linter.all false
set_option maxRecDepth 100000
set_option maxHeartbeats 4000000
namespace K21
open PySem L2 M4
noncomputable def top (i : Nat) : Stmt := PySem.Challenge.pw_cellfolio_k21_packs_read.main.body.getD i (.Pass ⟨0, 0, 0, 0⟩)
noncomputable abbrev s_is_whole_from : Stmt := top 27
noncomputable abbrev s_is_whole_within : Stmt := top 28
noncomputable abbrev s_is_cell : Stmt := top 29
noncomputable abbrev s_is_list_of : Stmt := top 30
noncomputable abbrev s_is_list_of_cells : Stmt := top 31
noncomputable abbrev s_cells_by_head : Stmt := top 36
noncomputable abbrev s_cells_behind : Stmt := top 37
noncomputable abbrev s_need_of_pack : Stmt := top 38
noncomputable abbrev s_unpacked : Stmt := top 39
noncomputable abbrev s_law_draw : Stmt := top 41
noncomputable abbrev s_law_whole : Stmt := top 42
noncomputable abbrev s_law_word : Stmt := top 43
noncomputable abbrev s_law_pack : Stmt := top 44
noncomputable abbrev s_law_full : Stmt := top 45
noncomputable abbrev s_law_cells : Stmt := top 46
noncomputable abbrev s_law_spoilt : Stmt := top 47
noncomputable abbrev s_law_told : Stmt := top 48
noncomputable abbrev s_law_good : Stmt := top 49
noncomputable abbrev s_law : Stmt := top 50
theorem iteB {b : Bool} {A B : Prop} (h1 : b = true → A) (h2 : b = false → B) : if b = true then A else B := by
  cases b with
  | true => exact iteT (h1 rfl)
  | false => exact iteF (h2 rfl)
theorem iteN {b : Bool} {A B : Prop} (h1 : b = false → A) (h2 : b = true → B) : if (!b) = true then A else B := by
  cases b with
  | true => exact iteF (h2 rfl)
  | false => exact iteT (h1 rfl)
noncomputable def isWh (lo hi : Int) : V → Bool
  | .int i => decide (lo ≤ i) && decide (i ≤ hi)
  | _ => false
noncomputable def isWf (lo : Int) : V → Bool
  | .int i => decide (lo ≤ i)
  | _ => false
noncomputable def spWf (K : PySem.W.Frag) : Sp := fun vs H Q _ => ∃ x lo, vs = [x, .int lo] ∧ Kd K H x ∧ Q (.bl (isWf lo x)) H
noncomputable def spWh (K : PySem.W.Frag) : Sp := fun vs H Q _ => ∃ x lo hi, vs = [x, .int lo, .int hi] ∧ Kd K H x ∧ Q (.bl (isWh lo hi x)) H
noncomputable def spInQ (K : PySem.W.Frag) (lo hi : Int) : Sp := fun vs H Q _ => ∃ x, vs = [x] ∧ Kd K H x ∧ Q (.bl (isWh lo hi x)) H
noncomputable abbrev spCellQ (K : PySem.W.Frag) : Sp := spInQ K 0 15
noncomputable def spLocG (K : PySem.W.Frag) (lo hi : Int) : Sp := fun vs H Q _ => ∃ x, vs = [x] ∧ ((∃ a xs, x = .ref a ∧ H a = some (.lst xs) ∧ xs.length ≤ 1000000 ∧ (∀ y ∈ xs, Kd K H y) ∧ ∀ H', Same H H' → Q (.bl (xs.all (isWh lo hi))) H') ∨ (Kd K H x ∧ isL H x = false ∧ Q (.bl false) H))
noncomputable abbrev spLoc (K : PySem.W.Frag) : Sp := spLocG K 0 15
noncomputable def spLocFG (K : PySem.W.Frag) (fC : Addr) (lo hi : Int) : Sp := fun vs H Q E => ∃ x, vs = [x, .ref fC] ∧ spLocG K lo hi [x] H Q E
noncomputable abbrev spLocF (K : PySem.W.Frag) (fC : Addr) : Sp := spLocFG K fC 0 15
structure Txt (K : PySem.W.Frag) (mg : Str → Option Value) (cFE cC : Addr) (tC tL tH tF : Tok) : Prop where
  len : mg "len" = none
  range : mg "range" = none
  isinstance : mg "isinstance" = none
  int : mg "int" = none
  bool : mg "bool" = none
  list : mg "list" = none
  all : mg "all" = none
  tuple : mg "tuple" = none
  str : mg "str" = none
  ValueError : mg "ValueError" = none
  MOST_CELL : mg "MOST_CELL" = some (.int 15 tC)
  MOST_LISTED : mg "MOST_LISTED" = some (.int 576 tL)
  MOST_HEAD : mg "MOST_HEAD" = some (.int 31 tH)
  FIRST_REPEAT : mg "FIRST_REPEAT" = some (.int 16 tF)
  FolioError : mg "FolioError" = some (.ref cFE)
  BadPack : mg "BadPack" = some (.ref cC)
  xBadPack : PySem.W.excIn K cC mroVE "ValueError.__new__" = true
  kC : XCls K cC
  eC : PySem.W.exmOne K (.ref cC) (.ref cFE) = some true
theorem boot_VE : bootBuiltins "ValueError" = some (.type "ValueError") := by decide +kernel
section
variable {P : Program} {w : World} {K : PySem.W.Frag} {mg : Str → Option Value} {base : Heap} {cFE cC : Addr} {tC tL tH tF : Tok}
theorem sc_is_whole_from : FnScope ["thing", "least"] ["thing", "least"] (defScope s_is_whole_from) := ⟨rfl, rfl, rfl, by decide +kernel, rfl, by decide +kernel, by decide +kernel⟩
theorem ok_is_whole_from {f : Addr} {fd : FuncData} (F : FunD K "is_whole_from" "is_whole_from" s_is_whole_from .none f fd) (T : Txt K mg cFE cC tC tL tH tF) : FnOk P w K mg base CX0 1 f fd ["thing", "least"] (spWf K) := by
  refine F.ok sc_is_whole_from (fun vs H Q E h => ?_) (fun cdv A outer s H vs Q E hr h => ?_)
  · obtain ⟨x, lo, rfl, _⟩ := h; rfl
  · obtain ⟨x, lo, rfl, kd, k⟩ := h
    refine ⟨_, (pss_cons (ps_if (PW.pt (pw_or (pt_not (pt_val (isiK K rfl (pv 0) rfl T.isinstance rfl T.int PyProof.Rows.boot_int))) (pw_or1 (pt_val (isiK K rfl (pv 0) rfl T.isinstance rfl T.bool PyProof.Rows.boot_bool))))) (pss_one (ps_ret pe_bl)) pss_nil)
        (pss_one (ps_ret (pe_cmpR op_le (pv 1) (pv 0) (nomark _))))), ?_⟩
    have fl : isWf lo x = false → Q (.bl false) H := fun e => by rw [e] at k; exact k
    refine ⟨_, rfl, _, kd.isInt, _, rfl, iteN (fun hI => (fl ?_)) (fun hI => ⟨_, rfl, _, kd.isBool, _, rfl, iteB (fun hB => (fl ?_)) (fun hB => ?_)⟩)⟩
    · cases x <;> first | rfl | cases hI
    · cases x <;> first | rfl | cases hB
    · cases x with
      | int i => exact ⟨_, rfl, _, rfl, _, _, rfl, rfl, k⟩
      | bl b => cases hB
      | _ => cases hI
theorem sc_is_whole_within : FnScope ["thing", "least", "most"] ["thing", "least", "most"] (defScope s_is_whole_within) := ⟨rfl, rfl, rfl, by decide +kernel, rfl, by decide +kernel, by decide +kernel⟩
theorem ok_is_whole_within {f : Addr} {fd : FuncData} (F : FunD K "is_whole_within" "is_whole_within" s_is_whole_within .none f fd) (g_is_whole_from : Def P w K mg base 1 "is_whole_from" ["thing", "least"] [] (spWf K)) : FnOk P w K mg base CX0 2 f fd ["thing", "least", "most"] (spWh K) := by
  refine F.ok sc_is_whole_within (fun vs H Q E h => ?_) (fun cdv A outer s H vs Q E hr h => ?_)
  · obtain ⟨x, lo, hi, rfl, _⟩ := h; rfl
  · obtain ⟨x, lo, hi, rfl, kd, k⟩ := h
    refine ⟨_, (pss_one (ps_ret (pe_and (pe_callD g_is_whole_from (hr.mono (by decide)) rfl (pa_cons (pv 0) (pa_cons (pv 1) pa_nil))) (pe_one (pe_cmpR op_le (pv 0) (pv 2) (nomark _)))))), ?_⟩
    refine ⟨_, rfl, _, rfl, x, lo, rfl, kd, _, rfl, iteB (fun h1 => ?_) (fun h1 => ?_)⟩
    · cases x with
      | int i =>
        refine ⟨_, rfl, _, rfl, _, _, rfl, rfl, ?_⟩
        have h2 : decide (lo ≤ i) = true := h1
        simpa only [isWh, h2, Bool.true_and] using k
      | _ => cases h1
    · have e : isWh lo hi x = false := by
        cases x with
        | int i =>
          have h2 : decide (lo ≤ i) = false := h1
          simp only [isWh, h2, Bool.false_and]
        | _ => rfl
      rw [e] at k
      exact k
theorem sc_is_cell : FnScope ["thing"] ["thing"] (defScope s_is_cell) := ⟨rfl, rfl, rfl, by decide +kernel, rfl, by decide +kernel, by decide +kernel⟩
theorem ok_is_cell {f : Addr} {fd : FuncData} (F : FunD K "is_cell" "is_cell" s_is_cell .none f fd) (T : Txt K mg cFE cC tC tL tH tF) (g_is_whole_within : Def P w K mg base 2 "is_whole_within" ["thing", "least", "most"] [] (spWh K)) : FnOk P w K mg base CX0 3 f fd ["thing"] (spCellQ K) := by
  refine F.ok sc_is_cell (fun vs H Q E h => ?_) (fun cdv A outer s H vs Q E hr h => ?_)
  · obtain ⟨x, rfl, _⟩ := h; rfl
  · obtain ⟨x, rfl, kd, k⟩ := h
    refine ⟨_, (pss_one (ps_ret (pe_callD g_is_whole_within (hr.mono (by decide)) rfl (pa_cons (pv 0) (pa_cons pe_int (pa_cons (pe_glob (v := .int 15) rfl T.MOST_CELL ⟨_, rfl⟩) pa_nil)))))), ?_⟩
    exact ⟨_, rfl, x, 0, 15, rfl, kd, k⟩
theorem all_map_id {α : Type} (f : α → Bool) (xs : List α) : (xs.map f).all id = xs.all f := by
  induction xs with
  | nil => rfl
  | cons x r ih => rw [List.map_cons, List.all_cons, List.all_cons, ih]; rfl
theorem filter_t {α : Type} (xs : List α) : xs.filter (fun _ => true) = xs := List.filter_eq_self.mpr fun _ _ => rfl
theorem sc_is_list_of : FnScope ["thing", "is_one"] ["thing", "is_one"] (defScope s_is_list_of) := ⟨rfl, rfl, rfl, by decide +kernel, rfl, by decide +kernel, by decide +kernel⟩
theorem ok_is_list_of {lo hi : Int} {fC f : Addr} {fd : FuncData} (F : FunD K "is_list_of" "is_list_of" s_is_list_of .none f fd) (T : Txt K mg cFE cC tC tL tH tF) (g_is_one : DefA P w K mg base 3 fC ["thing"] [] (spInQ K lo hi)) : FnOk P w K mg base CX0 4 f fd ["thing", "is_one"] (spLocFG K fC lo hi) := by
  refine F.ok sc_is_list_of (fun vs H Q E h => ?_) (fun cdv A outer s H vs Q E hr h => ?_)
  · obtain ⟨x, rfl, _⟩ := h; rfl
  · obtain ⟨x, rfl, x', ex, h⟩ := h
    cases ex
    refine ⟨_, (pss_one (ps_ret (pe_and (isiK K rfl (pv 0) rfl T.isinstance rfl T.list PyProof.Rows.boot_list) (pe_one (pe_callB (allK K rfl rfl) rfl T.all PyProof.Rows.boot_all (pa_cons (pe_comp (N := ["part", "is_one"]) (src := [none, some 1]) rfl ⟨rfl, rfl, rfl, rfl, rfl, by decide +kernel⟩ (piK K rfl (pv 0)) (fun s H C fp => pg_name (i := 0) (show (["part", "is_one"] : List Str).Nodup by decide +kernel) rfl (by first | exact Or.inl rfl | exact Or.inr rfl)) (fun s H C fp => pts_nil) (fun s H C fp => (pe_callV 1 g_is_one (hr.mono (by decide)) (pa_cons (pv 0) pa_nil)))) pa_nil)))))), ?_⟩
    rcases h with ⟨a, xs, rfl, hH, hl, kds, k⟩ | ⟨kd, hL, k⟩
    · refine ⟨_, rfl, true, isList_lst hH, _, rfl, ⟨_, rfl, a, rfl, ⟨_, SqL.of hH⟩, fun D hD => ?_⟩⟩
      refine comp_fm (k := 0) (fun x => .bl (isWh lo hi x)) (fun _ => true) (src_list (SqL.of hH)) (Nat.le_trans hl (by decide)) hD (fun x _ H' Qb _ kk => kk H' (Same.refl _)) (fun x hx _ H' Q sm kk => ⟨rfl, _, rfl, x, rfl, (kds x hx).mono sm, kk H' (Same.refl _)⟩) fun H' sm hD' => ?_
      refine ⟨D, xs.map (isWh lo hi), rfl, SqL.of (by rw [hD', filter_t, List.map_map]; rfl), ?_⟩
      rw [all_map_id]
      exact k H' sm
    · refine ⟨_, rfl, _, kd.isList, _, rfl, iteB (fun z => ?_) (fun _ => k)⟩
      rw [hL] at z; cases z
theorem sc_is_list_of_cells : FnScope ["thing"] ["thing"] (defScope s_is_list_of_cells) := ⟨rfl, rfl, rfl, by decide +kernel, rfl, by decide +kernel, by decide +kernel⟩
theorem ok_is_list_of_cells {fC f : Addr} {fd : FuncData} (F : FunD K "is_list_of_cells" "is_list_of_cells" s_is_list_of_cells .none f fd) (hC : mg "is_cell" = some (.ref fC)) (g_is_list_of : Def P w K mg base 4 "is_list_of" ["thing", "is_one"] [] (spLocF K fC)) : FnOk P w K mg base CX0 5 f fd ["thing"] (spLoc K) := by
  refine F.ok sc_is_list_of_cells (fun vs H Q E h => ?_) (fun cdv A outer s H vs Q E hr h => ?_)
  · obtain ⟨x, rfl, _⟩ := h; rfl
  · obtain ⟨x, rfl, h⟩ := h
    refine ⟨_, (pss_one (ps_ret (pe_callD g_is_list_of (hr.mono (by decide)) rfl (pa_cons (pv 0) (pa_cons (pe_glob (v := .ref fC) rfl hC rfl) pa_nil))))), ?_⟩
    exact ⟨_, rfl, x, rfl, x, rfl, h⟩
end
end K21
set_option Elab.async false
set_option linter.all false
set_option maxRecDepth 100000
set_option maxHeartbeats 1600000
namespace K21
open PySem L2 M4
noncomputable def rowOf (H : Hp) : V → Option (List V)
  | .ref b => match H b with
    | some (.lst ys) => some ys
    | _ => none
  | _ => none
section
variable {K : PySem.W.Frag} {H H' : Hp} {x : V}
theorem rowOf_lst {a : Addr} {ys : List V} (e : H a = some (.lst ys)) : rowOf H (.ref a) = some ys := by simp only [rowOf, e]
theorem rowOf_ref {ys : List V} (h : rowOf H x = some ys) : ∃ a, x = .ref a ∧ H a = some (.lst ys) := by
  cases x with
  | ref a =>
    refine ⟨a, rfl, ?_⟩
    unfold rowOf at h
    dsimp only at h
    split at h
    · rename_i zs e; cases h; exact e
    · cases h
  | _ => cases h
theorem rowOf_mono (k : Kd K H x) (s : Same H H') : rowOf H' x = rowOf H x := by
  cases k with
  | lst e => rw [rowOf_lst e, rowOf_lst (s _ _ e)]
  | tup e => simp only [rowOf, e, s _ _ e]
  | dict e => simp only [rowOf, e, s _ _ e, DictO]
  | _ => rfl
theorem isL_row (k : Kd K H x) : isL H x = (rowOf H x).isSome := by
  cases k with
  | lst e => simp only [isL, rowOf, e]; rfl
  | tup e => simp only [isL, rowOf, e]; rfl
  | dict e => simp only [isL, rowOf, e, DictO]; rfl
  | _ => rfl
end
noncomputable def Cl (K : PySem.W.Frag) (mg : Str → Option Value) (cC : Addr) (n : Str) : Prop := ∃ c : Addr, mg n = some (.ref c) ∧ PySem.W.kitOne K (.ref cC) (.ref c) = some false
structure TxtC (K : PySem.W.Frag) (mg : Str → Option Value) (cC : Addr) : Prop where
  iCC : PySem.W.kitOne K (.ref cC) (.ref cC) = some true
  iCV : PySem.W.kitOne K (.ref cC) (.type "ValueError") = some true
  BadCell : Cl K mg cC "BadCell"
  BadCheck : Cl K mg cC "BadCheck"
  BadDeed : Cl K mg cC "BadDeed"
  BadEdge : Cl K mg cC "BadEdge"
  BadHead : Cl K mg cC "BadHead"
  BadMask : Cl K mg cC "BadMask"
  BadName : Cl K mg cC "BadName"
  BadColour : Cl K mg cC "BadColour"
  BadPalette : Cl K mg cC "BadPalette"
  BadPart : Cl K mg cC "BadPart"
  BadPicture : Cl K mg cC "BadPicture"
  BadRule : Cl K mg cC "BadRule"
  BadRuns : Cl K mg cC "BadRuns"
  BadSize : Cl K mg cC "BadSize"
  BadText : Cl K mg cC "BadText"
  NoColour : Cl K mg cC "NoColour"
  NoPart : Cl K mg cC "NoPart"
  NoPicture : Cl K mg cC "NoPicture"
  NothingDone : Cl K mg cC "NothingDone"
  OutOfPlace : Cl K mg cC "OutOfPlace"
  TooMany : Cl K mg cC "TooMany"
  Twice : Cl K mg cC "Twice"
noncomputable def spDraw (K : PySem.W.Frag) : Sp := fun vs H Q _ => ∃ (a : Addr) (ns : List Int) (k : Nat), vs = [.ref a, .int (k : Int)] ∧ SqL K H a (ns.map V.int) ∧ k ≤ 1000 ∧ ∀ (n : Nat) H', n < 2147483647 → Same H H' → Q (.int (n : Int)) H'
noncomputable def spWord (cC ea : Addr) : Sp := fun vs H Q _ => vs = [.ref ea] ∧ H ea = some (ExcO ea cC) ∧ ∀ t H', Same H H' → H t = none → H' t = some (.tup [.str "pack"]) → Q (.ref t) H'
theorem EqL.nil {K : PySem.W.Frag} {H : Hp} {a p : Addr} {xs : List V} {rec : V → V → Bool → Prop} (ha : SqL K H a xs) (hp : SqL K H p []) : EqL K H rec a p (decide (xs = [])) := by
  cases xs with
  | nil => exact ⟨[], [], .inr ⟨.inl ⟨ha, hp⟩, rfl, fun _ => true, (fun i x y e => by simp at e), rfl⟩⟩
  | cons x r => exact ⟨_, [], .inl ⟨ha, hp, by simp, rfl⟩⟩
section
variable {P : Program} {w : World} {K : PySem.W.Frag} {mg : Str → Option Value} {base : Heap} {cFE cC : Addr} {tC tL tH tF : Tok}
theorem sc_law_draw : FnScope ["_law_script", "_law_k", "_law_cell", "_law_base"] ["_law_script", "_law_k"] (defScope s_law_draw) := ⟨rfl, rfl, rfl, by decide +kernel, rfl, by decide +kernel, by decide +kernel⟩
theorem ok_law_draw {f : Addr} {fd : FuncData} (F : FunD K "_law_draw" "_law_draw" s_law_draw .none f fd) (T : Txt K mg cFE cC tC tL tH tF) : FnOk P w K mg base CX0 1 f fd ["_law_script", "_law_k"] (spDraw K) := by
  refine F.ok sc_law_draw (fun vs H Q E h => ?_) (fun cdv A outer s H vs Q E hr h => ?_)
  · obtain ⟨a, ns, k, rfl, _⟩ := h; rfl
  · obtain ⟨a, ns, k, rfl, hS, hk, kk⟩ := h
    have hu : _ + 64 < cLine := hr.units
    obtain ⟨t2, r2, k2⟩ : ∃ tr, PSs ((cxOf CX0 P w K mg base ["_law_script", "_law_k", "_law_cell", "_law_base"] "_law_draw" (defScope s_law_draw) f cdv A outer s H E).nox) ((defBody s_law_draw).drop 2) tr ∧
        ∀ (c : Int) (H1 : Hp), Same H H1 → tr { nx := fun _ H' => Q .non H', rt := Q } [some (.ref a), some (.int (k : Int)), some (.int c), none] H1 := by
      refine ⟨_, (pss_cons (ps_set (i := 3) sc_law_draw.nd rfl (by first | exact Or.inl rfl | exact Or.inr rfl) (pe_op op_mod (pe_op op_mul (pe_op op_add (pe_op op_add (pe_op op_add (pv 2) (pe_op op_mul (pe_op op_mul pe_int (pv 1)) (pv 1))) (pe_op op_mul pe_int (pv 1))) pe_int) pe_int) pe_int))
        (pss_one (ps_ret (pe_op op_mod (pe_op op_mul (pv 3) (pe_op op_add pe_int (pe_op op_mul (pv 1) (pv 1)))) pe_int)))), ?_⟩
      intro c H1 s1
      refine ⟨_, rfl, _, rfl, _, _, rfl, rfl, .inl ⟨by decide, by decide⟩, _, rfl, _, _, rfl, rfl, .inr ⟨by omega, by omega⟩, _, _, rfl, rfl, _, rfl, _, _, rfl, rfl, .inl ⟨by decide, by decide⟩, _, _, rfl, rfl, _, _, rfl, rfl, _, _, rfl, rfl, .inr ⟨by decide, by decide⟩, _, _, rfl, rfl, (by show (0 : Int) < 2147483647; decide), ?_⟩
      have f0 := Int.emod_nonneg ((c + 1009 * (k : Int) * (k : Int) + 31 * (k : Int) + 11) * 1103515245) (show (2147483647 : Int) ≠ 0 by decide)
      have f1 := Int.emod_lt_of_pos ((c + 1009 * (k : Int) * (k : Int) + 31 * (k : Int) + 11) * 1103515245) (show (0 : Int) < 2147483647 by decide)
      show gName 3 (.int ((c + 1009 * (k : Int) * (k : Int) + 31 * (k : Int) + 11) * 1103515245 % 2147483647)) _ H1 _
      generalize (c + 1009 * (k : Int) * (k : Int) + 31 * (k : Int) + 11) * 1103515245 % 2147483647 = bs at f0 f1 ⊢
      refine ⟨_, rfl, _, rfl, _, rfl, _, _, rfl, rfl, .inl ⟨by omega, by omega⟩, _, _, rfl, rfl, _, _, rfl, rfl, .inl ⟨by omega, by omega⟩, _, _, rfl, rfl, (by show (0 : Int) < 2147483647; decide), ?_⟩
      have g0 := Int.emod_nonneg (bs * (48271 + (k : Int) * (k : Int))) (show (2147483647 : Int) ≠ 0 by decide)
      have g1 := Int.emod_lt_of_pos (bs * (48271 + (k : Int) * (k : Int))) (show (0 : Int) < 2147483647 by decide)
      show Q (.int (bs * (48271 + (k : Int) * (k : Int)) % 2147483647)) H1
      obtain ⟨n, en, hn⟩ : ∃ n : Nat, bs * (48271 + (k : Int) * (k : Int)) % 2147483647 = (n : Int) ∧ n < 2147483647 := ⟨(bs * (48271 + (k : Int) * (k : Int)) % 2147483647).toNat, by omega, by omega⟩
      rw [en]
      exact kk n H1 hn s1
    refine ⟨_, (pss_cons (ps_set (i := 2) sc_law_draw.nd rfl (by first | exact Or.inl rfl | exact Or.inr rfl) pe_int)
        (pss_cons (ps_if (pt_cmpR (neDK K rfl hu) (pv 0) (pe_lst pa_nil) (nomark _)) (pss_one (ps_set (i := 2) sc_law_draw.nd rfl (by first | exact Or.inl rfl | exact Or.inr rfl) (pe_ix (ixK K rfl) (pv 0) (pe_op op_mod (pv 1) (pe_callB (lenK K rfl) rfl T.len PySem.boot_len (pa_cons (pv 0) pa_nil))) (fun _ _ => rfl)))) pss_nil)
        (@r2))), ?_⟩
    refine ⟨_, rfl, Nat.zero_le _, fun p hp => ?_⟩
    have z := same_new (o := HO.lst []) hp
    refine ⟨1, a, p, _, by decide, rfl, rfl, EqL.nil (z.seq hS) (SqL.of upd_same), _, rfl, ?_⟩
    cases ns with
    | nil => exact k2 0 _ z
    | cons x r =>
      refine ⟨_, rfl, _, rfl, _, rfl, a, _, rfl, .inl (z.seq hS), _, _, rfl, rfl, (by show (0 : Int) < (((x :: r).map V.int).length : Int); rw [List.length_map, List.length_cons]; omega), ?_⟩
      have f0 := Int.emod_nonneg (k : Int) (show (((x :: r).map V.int).length : Int) ≠ 0 by rw [List.length_map, List.length_cons]; omega)
      have f1 := Int.emod_lt_of_pos (k : Int) (show (0 : Int) < (((x :: r).map V.int).length : Int) by rw [List.length_map, List.length_cons]; omega)
      obtain ⟨v, hv, hvm⟩ : ∃ v, atI ((x :: r).map V.int) ((k : Int) % (((x :: r).map V.int).length : Int)) = some v ∧ v ∈ (x :: r).map V.int := by
        obtain ⟨j, ej⟩ : ∃ j : Nat, (k : Int) % (((x :: r).map V.int).length : Int) = (j : Int) := ⟨((k : Int) % (((x :: r).map V.int).length : Int)).toNat, by omega⟩
        rw [ej] at f1 ⊢
        have hj : j < ((x :: r).map V.int).length := by omega
        exact ⟨_, atI_nat (List.getElem?_eq_getElem hj), List.getElem_mem hj⟩
      obtain ⟨c, _, rfl⟩ := List.mem_map.mp hvm
      exact ⟨a, _, _, _, rfl, rfl, z.seq hS, hv, k2 c _ z⟩
structure TCs (K : PySem.W.Frag) (H : Hp) (v : V) : Prop where
  kd : Kd K H v
  len : ∀ xs, rowOf H v = some xs → xs.length ≤ 1000000
  it : ∀ xs, rowOf H v = some xs → ∀ x ∈ xs, Kd K H x
end
theorem TCs.mono {K : PySem.W.Frag} {H H' : Hp} {v : V} (t : TCs K H v) (s : Same H H') : TCs K H' v := by
  have e := rowOf_mono t.kd s
  exact ⟨t.kd.mono s, fun xs h => t.len xs (by rw [← e]; exact h), fun xs h x hx => (t.it xs (by rw [← e]; exact h) x hx).mono s⟩
end K21
set_option Elab.async false
set_option linter.all false
set_option maxRecDepth 100000
set_option maxHeartbeats 1600000
namespace K21
open PySem L2 M4
theorem tupleK {X : Cx} (K : PySem.W.Frag) (hK : X.K = K) : CallR X (.type "tuple") (fun xs H Q => ∃ p ys, xs = [V.ref p] ∧ ((SqL K H p ys ∧ ∀ (l : Addr), H l = none → Q (V.ref l) (upd H l (HO.tup ys))) ∨ SqT K H p ys ∧ Q (V.ref p) H)) := by
  subst hK
  exact call_tuple_of
section
variable {P : Program} {w : World} {K : PySem.W.Frag} {mg : Str → Option Value} {base : Heap} {cFE cC : Addr} {tC tL tH tF : Tok}
theorem sc_law_word : FnScope ["_law_e", "_law_some", "_law_found"] ["_law_e"] (defScope s_law_word) := ⟨rfl, rfl, rfl, by decide +kernel, rfl, by decide +kernel, by decide +kernel⟩
theorem ok_law_word {f : Addr} {fd : FuncData} (F : FunD K "_law_word" "_law_word" s_law_word .none f fd) (T : Txt K mg cFE cC tC tL tH tF) (TC : TxtC K mg cC) : FnOkM P w K mg base 2 f fd ["_law_e"] (spWord cC) := by
  refine F.okM sc_law_word (fun ea vs H Q E h => ?_) (fun cdv A ea outer s H vs Q E hr h => ?_)
  · obtain ⟨rfl, _⟩ := h; rfl
  · obtain ⟨rfl, ex, k⟩ := h
    obtain ⟨cBadCell, mBadCell, nBadCell⟩ := TC.BadCell
    obtain ⟨cBadCheck, mBadCheck, nBadCheck⟩ := TC.BadCheck
    obtain ⟨cBadDeed, mBadDeed, nBadDeed⟩ := TC.BadDeed
    obtain ⟨cBadEdge, mBadEdge, nBadEdge⟩ := TC.BadEdge
    obtain ⟨cBadHead, mBadHead, nBadHead⟩ := TC.BadHead
    obtain ⟨cBadMask, mBadMask, nBadMask⟩ := TC.BadMask
    obtain ⟨cBadName, mBadName, nBadName⟩ := TC.BadName
    obtain ⟨cBadColour, mBadColour, nBadColour⟩ := TC.BadColour
    obtain ⟨cBadPalette, mBadPalette, nBadPalette⟩ := TC.BadPalette
    obtain ⟨cBadPart, mBadPart, nBadPart⟩ := TC.BadPart
    obtain ⟨cBadPicture, mBadPicture, nBadPicture⟩ := TC.BadPicture
    obtain ⟨cBadRule, mBadRule, nBadRule⟩ := TC.BadRule
    obtain ⟨cBadRuns, mBadRuns, nBadRuns⟩ := TC.BadRuns
    obtain ⟨cBadSize, mBadSize, nBadSize⟩ := TC.BadSize
    obtain ⟨cBadText, mBadText, nBadText⟩ := TC.BadText
    obtain ⟨cNoColour, mNoColour, nNoColour⟩ := TC.NoColour
    obtain ⟨cNoPart, mNoPart, nNoPart⟩ := TC.NoPart
    obtain ⟨cNoPicture, mNoPicture, nNoPicture⟩ := TC.NoPicture
    obtain ⟨cNothingDone, mNothingDone, nNothingDone⟩ := TC.NothingDone
    obtain ⟨cOutOfPlace, mOutOfPlace, nOutOfPlace⟩ := TC.OutOfPlace
    obtain ⟨cTooMany, mTooMany, nTooMany⟩ := TC.TooMany
    obtain ⟨cTwice, mTwice, nTwice⟩ := TC.Twice
    refine ⟨_, (pss_cons (ps_set (i := 1) sc_law_word.nd rfl (by first | exact Or.inl rfl | exact Or.inr rfl) (pe_lst (pa_cons (pe_tup (pa_cons pe_str (pa_cons (isiCK K rfl (pv 0) rfl T.isinstance rfl mBadCell) pa_nil))) (pa_cons (pe_tup (pa_cons pe_str (pa_cons (isiCK K rfl (pv 0) rfl T.isinstance rfl mBadColour) pa_nil))) (pa_cons (pe_tup (pa_cons pe_str (pa_cons (isiCK K rfl (pv 0) rfl T.isinstance rfl T.BadPack) pa_nil))) pa_nil)))))
        (pss_cons (ps_set (i := 1) sc_law_word.nd rfl (by first | exact Or.inl rfl | exact Or.inr rfl) (pe_op op_cat (pv 1) (pe_lst (pa_cons (pe_tup (pa_cons pe_str (pa_cons (isiCK K rfl (pv 0) rfl T.isinstance rfl mBadPalette) pa_nil))) (pa_cons (pe_tup (pa_cons pe_str (pa_cons (isiCK K rfl (pv 0) rfl T.isinstance rfl mBadPicture) pa_nil))) pa_nil)))))
        (pss_cons (ps_set (i := 1) sc_law_word.nd rfl (by first | exact Or.inl rfl | exact Or.inr rfl) (pe_op op_cat (pv 1) (pe_lst (pa_cons (pe_tup (pa_cons pe_str (pa_cons (isiCK K rfl (pv 0) rfl T.isinstance rfl mBadSize) pa_nil))) (pa_cons (pe_tup (pa_cons pe_str (pa_cons (isiCK K rfl (pv 0) rfl T.isinstance rfl mNoColour) pa_nil))) pa_nil)))))
        (pss_cons (ps_set (i := 1) sc_law_word.nd rfl (by first | exact Or.inl rfl | exact Or.inr rfl) (pe_op op_cat (pv 1) (pe_lst (pa_cons (pe_tup (pa_cons pe_str (pa_cons (isiCK K rfl (pv 0) rfl T.isinstance rfl mTooMany) pa_nil))) (pa_cons (pe_tup (pa_cons pe_str (pa_cons (isiCK K rfl (pv 0) rfl T.isinstance rfl mBadRuns) pa_nil))) pa_nil)))))
        (pss_cons (ps_setCG (Marked ea) (ix := 2) (N := ["_law_word_here", "_law_fits"]) (src := [none, none]) sc_law_word.nd rfl rfl (fun _ _ _ _ => rfl) ⟨rfl, rfl, rfl, rfl, rfl, by decide +kernel⟩ (pi_listM K rfl (pv 1)) (fun s H C fp => pg_tupM (n := 2) K rfl rfl (pgs_cons (pg_name (i := 0) (show (["_law_word_here", "_law_fits"] : List Str).Nodup by decide +kernel) rfl (by first | exact Or.inl rfl | exact Or.inr rfl)) (pgs_cons (pg_name (i := 1) (show (["_law_word_here", "_law_fits"] : List Str).Nodup by decide +kernel) rfl (by first | exact Or.inl rfl | exact Or.inr rfl)) pgs_nil))) (fun s H C fp => (pts_one (pt_val (pv 1)))) (fun s H C fp => (pv 0)))
        (pss_cons (ps_if (pt_val (pe_callB (call_isXE K rfl) rfl T.isinstance PyProof.Rows.boot_isinstance (pa_cons (pv 0) (pa_cons (pe_tup (pa_cons (pe_glob (v := .ref cBadCheck) rfl mBadCheck rfl) (pa_cons (pe_glob (v := .ref cBadDeed) rfl mBadDeed rfl) (pa_cons (pe_glob (v := .ref cBadEdge) rfl mBadEdge rfl) (pa_cons (pe_glob (v := .ref cBadHead) rfl mBadHead rfl) (pa_cons (pe_glob (v := .ref cBadMask) rfl mBadMask rfl) (pa_cons (pe_glob (v := .ref cBadName) rfl mBadName rfl) (pa_cons (pe_glob (v := .ref cBadPart) rfl mBadPart rfl) (pa_cons (pe_glob (v := .ref cBadRule) rfl mBadRule rfl) (pa_cons (pe_glob (v := .ref cBadText) rfl mBadText rfl) pa_nil)))))))))) pa_nil)))) (pss_one (ps_expr (pe_bm PySem.F.plainAttrs_list PySem.F.slot_list_append PySem.F.type_list_append mt_append (pv 2) (pa_cons pe_str pa_nil)))) pss_nil)
        (pss_cons (ps_if (PW.pt (pw_or (pt_val (pe_callB (call_isXE K rfl) rfl T.isinstance PyProof.Rows.boot_isinstance (pa_cons (pv 0) (pa_cons (pe_tup (pa_cons (pe_glob (v := .ref cNoPart) rfl mNoPart rfl) (pa_cons (pe_glob (v := .ref cNoPicture) rfl mNoPicture rfl) (pa_cons (pe_glob (v := .ref cNothingDone) rfl mNothingDone rfl) (pa_cons (pe_glob (v := .ref cOutOfPlace) rfl mOutOfPlace rfl) (pa_cons (pe_glob (v := .ref cTwice) rfl mTwice rfl) pa_nil)))))) pa_nil)))) (pw_or1 (pt_not (pt_val (isiK K rfl (pv 0) rfl T.isinstance rfl T.ValueError boot_VE)))))) (pss_one (ps_expr (pe_bm PySem.F.plainAttrs_list PySem.F.slot_list_append PySem.F.type_list_append mt_append (pv 2) (pa_cons pe_str pa_nil)))) pss_nil)
        (pss_one (ps_ret (pe_callTy (tupleK K rfl) rfl T.tuple PyProof.Rows.boot_tuple (pa_cons (pv 2) pa_nil))))))))))), ?_⟩
    have sm := Same.refl H
    refine ⟨_, rfl, false, ⟨_, .exc ex T.kC, nBadCell⟩, (by show 2 ≤ sizeLine; decide), fun t1 h_ => ?_⟩
    have z_ := same_new (o := HO.tup [V.str "cell", .bl false]) h_
    have ft1 : H t1 = none := sm.free h_
    have sm := sm.trans z_
    have ex := z_ _ _ ex
    have et1 : upd H t1 (HO.tup [V.str "cell", .bl false]) t1 = some (HO.tup [V.str "cell", .bl false]) := upd_same
    clear z_
    generalize upd H t1 (HO.tup [V.str "cell", .bl false]) = G1 at sm ex et1 h_ ⊢
    clear h_
    refine ⟨_, rfl, false, ⟨_, .exc ex T.kC, nBadColour⟩, (by show 2 ≤ sizeLine; decide), fun t2 h_ => ?_⟩
    have z_ := same_new (o := HO.tup [V.str "colour", .bl false]) h_
    have ft2 : H t2 = none := sm.free h_
    have sm := sm.trans z_
    have ex := z_ _ _ ex
    have et1 := z_ _ _ et1
    have et2 : upd G1 t2 (HO.tup [V.str "colour", .bl false]) t2 = some (HO.tup [V.str "colour", .bl false]) := upd_same
    clear z_
    generalize upd G1 t2 (HO.tup [V.str "colour", .bl false]) = G2 at sm ex et1 et2 h_ ⊢
    clear h_
    refine ⟨_, rfl, true, ⟨_, .exc ex T.kC, TC.iCC⟩, (by show 2 ≤ sizeLine; decide), fun t3 h_ => ?_⟩
    have z_ := same_new (o := HO.tup [V.str "pack", .bl true]) h_
    have ft3 : H t3 = none := sm.free h_
    have sm := sm.trans z_
    have ex := z_ _ _ ex
    have et1 := z_ _ _ et1
    have et2 := z_ _ _ et2
    have et3 : upd G2 t3 (HO.tup [V.str "pack", .bl true]) t3 = some (HO.tup [V.str "pack", .bl true]) := upd_same
    clear z_
    generalize upd G2 t3 (HO.tup [V.str "pack", .bl true]) = G3 at sm ex et1 et2 et3 h_ ⊢
    clear h_
    refine ⟨(by show 3 ≤ sizeLine; decide), fun l1 h_ => ?_⟩
    have z_ := same_new (o := HO.lst [V.ref t1, .ref t2, .ref t3]) h_
    have fl1 : H l1 = none := sm.free h_
    have sm := sm.trans z_
    have ex := z_ _ _ ex
    have et1 := z_ _ _ et1
    have et2 := z_ _ _ et2
    have et3 := z_ _ _ et3
    have el1 : upd G3 l1 (HO.lst [V.ref t1, .ref t2, .ref t3]) l1 = some (HO.lst [V.ref t1, .ref t2, .ref t3]) := upd_same
    clear z_
    generalize upd G3 l1 (HO.lst [V.ref t1, .ref t2, .ref t3]) = G4 at sm ex et1 et2 et3 el1 h_ ⊢
    clear h_
    refine ⟨_, rfl, ?_⟩
    refine ⟨_, rfl, false, ⟨_, .exc ex T.kC, nBadPalette⟩, (by show 2 ≤ sizeLine; decide), fun t4 h_ => ?_⟩
    have z_ := same_new (o := HO.tup [V.str "palette", .bl false]) h_
    have ft4 : H t4 = none := sm.free h_
    have sm := sm.trans z_
    have ex := z_ _ _ ex
    have et1 := z_ _ _ et1
    have et2 := z_ _ _ et2
    have et3 := z_ _ _ et3
    have el1 := z_ _ _ el1
    have et4 : upd G4 t4 (HO.tup [V.str "palette", .bl false]) t4 = some (HO.tup [V.str "palette", .bl false]) := upd_same
    clear z_
    generalize upd G4 t4 (HO.tup [V.str "palette", .bl false]) = G5 at sm ex et1 et2 et3 el1 et4 h_ ⊢
    clear h_
    refine ⟨_, rfl, false, ⟨_, .exc ex T.kC, nBadPicture⟩, (by show 2 ≤ sizeLine; decide), fun t5 h_ => ?_⟩
    have z_ := same_new (o := HO.tup [V.str "picture", .bl false]) h_
    have ft5 : H t5 = none := sm.free h_
    have sm := sm.trans z_
    have ex := z_ _ _ ex
    have et1 := z_ _ _ et1
    have et2 := z_ _ _ et2
    have et3 := z_ _ _ et3
    have el1 := z_ _ _ el1
    have et4 := z_ _ _ et4
    have et5 : upd G5 t5 (HO.tup [V.str "picture", .bl false]) t5 = some (HO.tup [V.str "picture", .bl false]) := upd_same
    clear z_
    generalize upd G5 t5 (HO.tup [V.str "picture", .bl false]) = G6 at sm ex et1 et2 et3 el1 et4 et5 h_ ⊢
    clear h_
    refine ⟨(by show 2 ≤ sizeLine; decide), fun m2 h_ => ?_⟩
    have z_ := same_new (o := HO.lst [V.ref t4, .ref t5]) h_
    have fm2 : H m2 = none := sm.free h_
    have sm := sm.trans z_
    have ex := z_ _ _ ex
    have et1 := z_ _ _ et1
    have et2 := z_ _ _ et2
    have et3 := z_ _ _ et3
    have el1 := z_ _ _ el1
    have et4 := z_ _ _ et4
    have et5 := z_ _ _ et5
    have em2 : upd G6 m2 (HO.lst [V.ref t4, .ref t5]) m2 = some (HO.lst [V.ref t4, .ref t5]) := upd_same
    clear z_
    generalize upd G6 m2 (HO.lst [V.ref t4, .ref t5]) = G7 at sm ex et1 et2 et3 el1 et4 et5 em2 h_ ⊢
    clear h_
    refine ⟨l1, m2, _, _, rfl, rfl, el1, em2, (by show 3 + 2 ≤ sizeLine; decide), fun l2 h_ => ?_⟩
    have z_ := same_new (o := HO.lst ([V.ref t1, .ref t2, .ref t3] ++ [V.ref t4, .ref t5])) h_
    have fl2 : H l2 = none := sm.free h_
    have sm := sm.trans z_
    have ex := z_ _ _ ex
    have et1 := z_ _ _ et1
    have et2 := z_ _ _ et2
    have et3 := z_ _ _ et3
    have el1 := z_ _ _ el1
    have et4 := z_ _ _ et4
    have et5 := z_ _ _ et5
    have em2 := z_ _ _ em2
    have el2 : upd G7 l2 (HO.lst ([V.ref t1, .ref t2, .ref t3] ++ [V.ref t4, .ref t5])) l2 = some (HO.lst ([V.ref t1, .ref t2, .ref t3] ++ [V.ref t4, .ref t5])) := upd_same
    clear z_
    generalize upd G7 l2 (HO.lst ([V.ref t1, .ref t2, .ref t3] ++ [V.ref t4, .ref t5])) = G8 at sm ex et1 et2 et3 el1 et4 et5 em2 el2 h_ ⊢
    clear h_
    have el2 : G8 l2 = some (.lst [V.ref t1, .ref t2, .ref t3, .ref t4, .ref t5]) := el2
    refine ⟨_, rfl, ?_⟩
    refine ⟨_, rfl, false, ⟨_, .exc ex T.kC, nBadSize⟩, (by show 2 ≤ sizeLine; decide), fun t6 h_ => ?_⟩
    have z_ := same_new (o := HO.tup [V.str "size", .bl false]) h_
    have ft6 : H t6 = none := sm.free h_
    have sm := sm.trans z_
    have ex := z_ _ _ ex
    have et1 := z_ _ _ et1
    have et2 := z_ _ _ et2
    have et3 := z_ _ _ et3
    have et4 := z_ _ _ et4
    have et5 := z_ _ _ et5
    have el2 := z_ _ _ el2
    have et6 : upd G8 t6 (HO.tup [V.str "size", .bl false]) t6 = some (HO.tup [V.str "size", .bl false]) := upd_same
    clear z_
    generalize upd G8 t6 (HO.tup [V.str "size", .bl false]) = G9 at sm ex et1 et2 et3 et4 et5 el2 et6 h_ ⊢
    clear h_
    refine ⟨_, rfl, false, ⟨_, .exc ex T.kC, nNoColour⟩, (by show 2 ≤ sizeLine; decide), fun t7 h_ => ?_⟩
    have z_ := same_new (o := HO.tup [V.str "none", .bl false]) h_
    have ft7 : H t7 = none := sm.free h_
    have sm := sm.trans z_
    have ex := z_ _ _ ex
    have et1 := z_ _ _ et1
    have et2 := z_ _ _ et2
    have et3 := z_ _ _ et3
    have et4 := z_ _ _ et4
    have et5 := z_ _ _ et5
    have el2 := z_ _ _ el2
    have et6 := z_ _ _ et6
    have et7 : upd G9 t7 (HO.tup [V.str "none", .bl false]) t7 = some (HO.tup [V.str "none", .bl false]) := upd_same
    clear z_
    generalize upd G9 t7 (HO.tup [V.str "none", .bl false]) = G10 at sm ex et1 et2 et3 et4 et5 el2 et6 et7 h_ ⊢
    clear h_
    refine ⟨(by show 2 ≤ sizeLine; decide), fun m3 h_ => ?_⟩
    have z_ := same_new (o := HO.lst [V.ref t6, .ref t7]) h_
    have fm3 : H m3 = none := sm.free h_
    have sm := sm.trans z_
    have ex := z_ _ _ ex
    have et1 := z_ _ _ et1
    have et2 := z_ _ _ et2
    have et3 := z_ _ _ et3
    have et4 := z_ _ _ et4
    have et5 := z_ _ _ et5
    have el2 := z_ _ _ el2
    have et6 := z_ _ _ et6
    have et7 := z_ _ _ et7
    have em3 : upd G10 m3 (HO.lst [V.ref t6, .ref t7]) m3 = some (HO.lst [V.ref t6, .ref t7]) := upd_same
    clear z_
    generalize upd G10 m3 (HO.lst [V.ref t6, .ref t7]) = G11 at sm ex et1 et2 et3 et4 et5 el2 et6 et7 em3 h_ ⊢
    clear h_
    refine ⟨l2, m3, _, _, rfl, rfl, el2, em3, (by show 5 + 2 ≤ sizeLine; decide), fun l3 h_ => ?_⟩
    have z_ := same_new (o := HO.lst ([V.ref t1, .ref t2, .ref t3, .ref t4, .ref t5] ++ [V.ref t6, .ref t7])) h_
    have fl3 : H l3 = none := sm.free h_
    have sm := sm.trans z_
    have ex := z_ _ _ ex
    have et1 := z_ _ _ et1
    have et2 := z_ _ _ et2
    have et3 := z_ _ _ et3
    have et4 := z_ _ _ et4
    have et5 := z_ _ _ et5
    have el2 := z_ _ _ el2
    have et6 := z_ _ _ et6
    have et7 := z_ _ _ et7
    have em3 := z_ _ _ em3
    have el3 : upd G11 l3 (HO.lst ([V.ref t1, .ref t2, .ref t3, .ref t4, .ref t5] ++ [V.ref t6, .ref t7])) l3 = some (HO.lst ([V.ref t1, .ref t2, .ref t3, .ref t4, .ref t5] ++ [V.ref t6, .ref t7])) := upd_same
    clear z_
    generalize upd G11 l3 (HO.lst ([V.ref t1, .ref t2, .ref t3, .ref t4, .ref t5] ++ [V.ref t6, .ref t7])) = G12 at sm ex et1 et2 et3 et4 et5 el2 et6 et7 em3 el3 h_ ⊢
    clear h_
    have el3 : G12 l3 = some (.lst [V.ref t1, .ref t2, .ref t3, .ref t4, .ref t5, .ref t6, .ref t7]) := el3
    refine ⟨_, rfl, ?_⟩
    refine ⟨_, rfl, false, ⟨_, .exc ex T.kC, nTooMany⟩, (by show 2 ≤ sizeLine; decide), fun t8 h_ => ?_⟩
    have z_ := same_new (o := HO.tup [V.str "many", .bl false]) h_
    have ft8 : H t8 = none := sm.free h_
    have sm := sm.trans z_
    have ex := z_ _ _ ex
    have et1 := z_ _ _ et1
    have et2 := z_ _ _ et2
    have et3 := z_ _ _ et3
    have et4 := z_ _ _ et4
    have et5 := z_ _ _ et5
    have et6 := z_ _ _ et6
    have et7 := z_ _ _ et7
    have el3 := z_ _ _ el3
    have et8 : upd G12 t8 (HO.tup [V.str "many", .bl false]) t8 = some (HO.tup [V.str "many", .bl false]) := upd_same
    clear z_
    generalize upd G12 t8 (HO.tup [V.str "many", .bl false]) = G13 at sm ex et1 et2 et3 et4 et5 et6 et7 el3 et8 h_ ⊢
    clear h_
    refine ⟨_, rfl, false, ⟨_, .exc ex T.kC, nBadRuns⟩, (by show 2 ≤ sizeLine; decide), fun t9 h_ => ?_⟩
    have z_ := same_new (o := HO.tup [V.str "runs", .bl false]) h_
    have ft9 : H t9 = none := sm.free h_
    have sm := sm.trans z_
    have ex := z_ _ _ ex
    have et1 := z_ _ _ et1
    have et2 := z_ _ _ et2
    have et3 := z_ _ _ et3
    have et4 := z_ _ _ et4
    have et5 := z_ _ _ et5
    have et6 := z_ _ _ et6
    have et7 := z_ _ _ et7
    have el3 := z_ _ _ el3
    have et8 := z_ _ _ et8
    have et9 : upd G13 t9 (HO.tup [V.str "runs", .bl false]) t9 = some (HO.tup [V.str "runs", .bl false]) := upd_same
    clear z_
    generalize upd G13 t9 (HO.tup [V.str "runs", .bl false]) = G14 at sm ex et1 et2 et3 et4 et5 et6 et7 el3 et8 et9 h_ ⊢
    clear h_
    refine ⟨(by show 2 ≤ sizeLine; decide), fun m4 h_ => ?_⟩
    have z_ := same_new (o := HO.lst [V.ref t8, .ref t9]) h_
    have fm4 : H m4 = none := sm.free h_
    have sm := sm.trans z_
    have ex := z_ _ _ ex
    have et1 := z_ _ _ et1
    have et2 := z_ _ _ et2
    have et3 := z_ _ _ et3
    have et4 := z_ _ _ et4
    have et5 := z_ _ _ et5
    have et6 := z_ _ _ et6
    have et7 := z_ _ _ et7
    have el3 := z_ _ _ el3
    have et8 := z_ _ _ et8
    have et9 := z_ _ _ et9
    have em4 : upd G14 m4 (HO.lst [V.ref t8, .ref t9]) m4 = some (HO.lst [V.ref t8, .ref t9]) := upd_same
    clear z_
    generalize upd G14 m4 (HO.lst [V.ref t8, .ref t9]) = G15 at sm ex et1 et2 et3 et4 et5 et6 et7 el3 et8 et9 em4 h_ ⊢
    clear h_
    refine ⟨l3, m4, _, _, rfl, rfl, el3, em4, (by show 7 + 2 ≤ sizeLine; decide), fun l4 h_ => ?_⟩
    have z_ := same_new (o := HO.lst ([V.ref t1, .ref t2, .ref t3, .ref t4, .ref t5, .ref t6, .ref t7] ++ [V.ref t8, .ref t9])) h_
    have fl4 : H l4 = none := sm.free h_
    have sm := sm.trans z_
    have ex := z_ _ _ ex
    have et1 := z_ _ _ et1
    have et2 := z_ _ _ et2
    have et3 := z_ _ _ et3
    have et4 := z_ _ _ et4
    have et5 := z_ _ _ et5
    have et6 := z_ _ _ et6
    have et7 := z_ _ _ et7
    have el3 := z_ _ _ el3
    have et8 := z_ _ _ et8
    have et9 := z_ _ _ et9
    have em4 := z_ _ _ em4
    have el4 : upd G15 l4 (HO.lst ([V.ref t1, .ref t2, .ref t3, .ref t4, .ref t5, .ref t6, .ref t7] ++ [V.ref t8, .ref t9])) l4 = some (HO.lst ([V.ref t1, .ref t2, .ref t3, .ref t4, .ref t5, .ref t6, .ref t7] ++ [V.ref t8, .ref t9])) := upd_same
    clear z_
    generalize upd G15 l4 (HO.lst ([V.ref t1, .ref t2, .ref t3, .ref t4, .ref t5, .ref t6, .ref t7] ++ [V.ref t8, .ref t9])) = G16 at sm ex et1 et2 et3 et4 et5 et6 et7 el3 et8 et9 em4 el4 h_ ⊢
    clear h_
    have el4 : G16 l4 = some (.lst [V.ref t1, .ref t2, .ref t3, .ref t4, .ref t5, .ref t6, .ref t7, .ref t8, .ref t9]) := el4
    refine ⟨_, rfl, l4, rfl, ⟨_, SqL.of el4⟩, fun D h_ => ?_⟩
    have hT : ∀ t ∈ ([(t1, ("cell" : Str), false), (t2, ("colour" : Str), false), (t3, ("pack" : Str), true), (t4, ("palette" : Str), false), (t5, ("picture" : Str), false), (t6, ("size" : Str), false), (t7, ("none" : Str), false), (t8, ("many" : Str), false), (t9, ("runs" : Str), false)] : List (Addr × Str × Bool)), SqT K G16 t.1 [.str t.2.1, .bl t.2.2] := fun t ht => by
      simp only [List.mem_cons, List.not_mem_nil, or_false] at ht
      rcases ht with rfl | rfl | rfl | rfl | rfl | rfl | rfl | rfl | rfl
      · exact SqT.of et1
      · exact SqT.of et2
      · exact SqT.of et3
      · exact SqT.of et4
      · exact SqT.of et5
      · exact SqT.of et6
      · exact SqT.of et7
      · exact SqT.of et8
      · exact SqT.of et9
    refine comp_word (L := [(t1, ("cell" : Str), false), (t2, ("colour" : Str), false), (t3, ("pack" : Str), true), (t4, ("palette" : Str), false), (t5, ("picture" : Str), false), (t6, ("size" : Str), false), (t7, ("none" : Str), false), (t8, ("many" : Str), false), (t9, ("runs" : Str), false)]) (SqL.of el4) hT ⟨cC, ex⟩ (by show 9 ≤ sizeLine; decide) rfl h_ fun H5 s5 eD => ?_
    have fD : H D = none := sm.free h_
    have eD : H5 D = some (.lst [.str "pack"]) := eD
    have ex := s5 _ _ ex
    have sm := sm.trans s5
    refine ⟨_, rfl, (by show 9 ≤ sizeLine; decide), fun p1 hp1 => ?_⟩
    have y1 := same_new (o := HO.tup [V.ref cBadCheck, V.ref cBadDeed, V.ref cBadEdge, V.ref cBadHead, V.ref cBadMask, V.ref cBadName, V.ref cBadPart, V.ref cBadRule, V.ref cBadText]) hp1
    refine ⟨ea, cC, p1, [cBadCheck, cBadDeed, cBadEdge, cBadHead, cBadMask, cBadName, cBadPart, cBadRule, cBadText], false, rfl, y1 _ _ ex, T.kC, SqT.of upd_same, kitAny_none (fun c hc => ?_), ?_⟩
    · simp only [List.mem_cons, List.not_mem_nil, or_false] at hc
      rcases hc with rfl | rfl | rfl | rfl | rfl | rfl | rfl | rfl | rfl <;> assumption
    have ex := y1 _ _ ex
    have eD := y1 _ _ eD
    have sm := sm.trans y1
    generalize upd H5 p1 (HO.tup [V.ref cBadCheck, V.ref cBadDeed, V.ref cBadEdge, V.ref cBadHead, V.ref cBadMask, V.ref cBadName, V.ref cBadPart, V.ref cBadRule, V.ref cBadText]) = Y1 at ex eD sm y1 ⊢
    refine ⟨_, rfl, ?_⟩
    refine ⟨_, rfl, (by show 5 ≤ sizeLine; decide), fun p2 hp2 => ?_⟩
    have y2 := same_new (o := HO.tup [V.ref cNoPart, V.ref cNoPicture, V.ref cNothingDone, V.ref cOutOfPlace, V.ref cTwice]) hp2
    refine ⟨ea, cC, p2, [cNoPart, cNoPicture, cNothingDone, cOutOfPlace, cTwice], false, rfl, y2 _ _ ex, T.kC, SqT.of upd_same, kitAny_none (fun c hc => ?_), ?_⟩
    · simp only [List.mem_cons, List.not_mem_nil, or_false] at hc
      rcases hc with rfl | rfl | rfl | rfl | rfl <;> assumption
    have ex := y2 _ _ ex
    have eD := y2 _ _ eD
    have sm := sm.trans y2
    generalize upd Y1 p2 (HO.tup [V.ref cNoPart, V.ref cNoPicture, V.ref cNothingDone, V.ref cOutOfPlace, V.ref cTwice]) = Y2 at ex eD sm y2 ⊢
    refine ⟨_, rfl, _, rfl, true, ⟨_, .exc ex T.kC, TC.iCV⟩, _, rfl, ?_⟩
    exact ⟨_, rfl, D, _, rfl, .inl ⟨SqL.of eD, fun t ht => k t _ (sm.trans (same_new ht)) (sm.free ht) upd_same⟩⟩
end
end K21
set_option Elab.async false
set_option linter.all false
set_option maxRecDepth 100000
set_option maxHeartbeats 1600000
namespace K21
open PySem L2 M4
noncomputable def cbh (h : Nat) : Nat := if h < 16 then h + 1 else h - 14
noncomputable def cbe (h : Nat) : Nat := if h < 16 then h + 1 else 1
theorem cbe_le (h : Nat) : cbe h ≤ cbh h ∧ 1 ≤ cbe h := by unfold cbe cbh; split <;> omega
noncomputable def Cells (cs : List Int) : Prop := ∀ c ∈ cs, 0 ≤ c ∧ c ≤ 15
theorem lenMn {K : PySem.W.Frag} : ∀ xs H (Q Q' : VK), (∀ v H1, Q v H1 → Q' v H1) → (∃ p ys, xs = [V.ref p] ∧ (SqL K H p ys ∨ SqT K H p ys) ∧ Q (.int (ys.length : Int)) H) → (∃ p ys, xs = [V.ref p] ∧ (SqL K H p ys ∨ SqT K H p ys) ∧ Q' (.int (ys.length : Int)) H) := fun xs H Q Q' h ⟨p, ys, e, s, q⟩ => ⟨p, ys, e, s, h _ _ q⟩
noncomputable def spCbh : Sp := fun vs H Q _ => ∃ h : Nat, vs = [.int (h : Int)] ∧ Q (.int (cbh h : Int)) H
noncomputable def spCbe : Sp := fun vs H Q _ => ∃ h : Nat, vs = [.int (h : Int)] ∧ Q (.int (cbe h : Int)) H
noncomputable def spNeedP (cP : Addr) : Sp := fun vs H Q E => ∃ b, vs = [.bl b] ∧ (b = true → Q .non H) ∧ (b = false → E (.ref cP) none H)
theorem ints_of : ∀ {xs : List V}, xs.all (isWh 0 15) = true → ∃ cs : List Int, xs = cs.map V.int ∧ ∀ c ∈ cs, 0 ≤ c ∧ c ≤ 15
  | [], _ => ⟨[], rfl, fun c hc => nomatch hc⟩
  | x :: r, h1 => by
    rw [List.all_cons, Bool.and_eq_true] at h1
    obtain ⟨cs, rfl, hc⟩ := ints_of h1.2
    cases x with
    | int i =>
      have hi : 0 ≤ i ∧ i ≤ 15 := by have := h1.1; simp only [isWh, Bool.and_eq_true, decide_eq_true_eq] at this; exact this
      refine ⟨i :: cs, rfl, fun c hm => ?_⟩
      rcases List.mem_cons.mp hm with rfl | hm
      · exact hi
      · exact hc c hm
    | _ => cases h1.1
theorem cut_mid (xs : List V) (i k : Nat) : cutV xs (some (i : Int)) (some ((i + k : Nat) : Int)) = (xs.drop i).take k := by
  unfold cutV
  rw [HT.sIx_nat, HT.sIx_nat]
  by_cases h : i ≤ xs.length
  · rw [Nat.min_eq_left h]
    refine List.take_eq_take_iff.mpr ?_
    rw [List.length_drop]; omega
  · rw [List.drop_eq_nil_of_le (by omega), List.drop_eq_nil_of_le (by omega), List.take_nil, List.take_nil]
noncomputable def hN : V → Nat
  | .int i => i.toNat
  | _ => 0
noncomputable def bhd (x : V) (r : List V) : List V := r.take (cbe (hN x))
noncomputable def xpd (h : Nat) (b : List V) : List V := if h < 16 then b else (List.replicate (cbh h) b).flatten
noncomputable def okP (x : V) (r acc : List V) : Bool := isWh 0 31 x && (decide ((bhd x r).length = cbe (hN x)) && ((bhd x r).all (isWh 0 15) && decide ((acc ++ xpd (hN x) (bhd x r)).length ≤ 576)))
noncomputable def unp (xs acc : List V) : Option (List V) := match xs with
  | [] => some acc
  | x :: r => if okP x r acc = true then unp (r.drop (cbe (hN x))) (acc ++ xpd (hN x) (bhd x r)) else none
termination_by xs.length
decreasing_by rw [List.length_drop, List.length_cons]; omega
theorem unp_nil (acc : List V) : unp [] acc = some acc := by rw [unp]
theorem unp_yes {x : V} {r acc : List V} (h : okP x r acc = true) : unp (x :: r) acc = unp (r.drop (cbe (hN x))) (acc ++ xpd (hN x) (bhd x r)) := by rw [unp, if_pos h]
theorem unp_no {x : V} {r acc : List V} (h : okP x r acc = false) : unp (x :: r) acc = none := by rw [unp, if_neg (by rw [h]; decide)]
theorem all_flat {b : List V} {p : V → Bool} (h : b.all p = true) (n : Nat) : ((List.replicate n b).flatten).all p = true := by
  induction n with
  | zero => rfl
  | succ n ih => rw [List.replicate_succ, List.flatten_cons, List.all_append, h, ih]; rfl
theorem unp_all : ∀ (n : Nat) (xs acc ys : List V), xs.length ≤ n → acc.all (isWh 0 15) = true → acc.length ≤ 576 → unp xs acc = some ys → ys.all (isWh 0 15) = true ∧ ys.length ≤ 576
  | n, [], acc, ys, _, ha, hl, e => by
    rw [unp_nil] at e; cases e; exact ⟨ha, hl⟩
  | 0, x :: r, acc, ys, hn, _, _, _ => by simp at hn
  | n + 1, x :: r, acc, ys, hn, ha, hl, e => by
    cases h : okP x r acc with
    | false => rw [unp_no h] at e; cases e
    | true =>
      rw [unp_yes h] at e
      unfold okP at h
      simp only [Bool.and_eq_true, decide_eq_true_eq] at h
      refine unp_all n _ _ ys ?_ ?_ h.2.2.2 e
      · rw [List.length_drop]; rw [List.length_cons] at hn; omega
      · rw [List.all_append, ha, Bool.true_and]
        unfold xpd
        split
        · exact h.2.2.1
        · exact all_flat h.2.2.1 _
theorem unp_ints {xs ys : List V} (e : unp xs [] = some ys) : ∃ cs : List Int, ys = cs.map V.int ∧ Cells cs ∧ cs.length ≤ 576 := by
  obtain ⟨h1, h2⟩ := unp_all _ xs [] ys (Nat.le_refl _) rfl (Nat.zero_le _) e
  obtain ⟨cs, rfl, hc⟩ := ints_of h1
  exact ⟨cs, rfl, hc, by rw [List.length_map] at h2; exact h2⟩
theorem unp_at {xs acc : List V} {q : Nat} {w : Option (List V)} (e : unp (xs.drop q) acc = w) (hq : q < xs.length) : ∃ x, xs[q]? = some x ∧ bhd x (xs.drop (q + 1)) = (xs.drop (q + 1)).take (cbe (hN x)) ∧ (okP x (xs.drop (q + 1)) acc = false → w = none) ∧ (okP x (xs.drop (q + 1)) acc = true → unp (xs.drop (q + 1 + cbe (hN x))) (acc ++ xpd (hN x) (bhd x (xs.drop (q + 1)))) = w) := by
  have hd : xs.drop q = xs[q] :: xs.drop (q + 1) := List.drop_eq_getElem_cons hq
  rw [hd] at e
  refine ⟨xs[q], List.getElem?_eq_getElem hq, rfl, fun h => ?_, fun h => ?_⟩
  · rw [unp_no h] at e; exact e.symm
  · rw [unp_yes h, List.drop_drop] at e; exact e
theorem tif_merge {ta tb : TE} {σ : St} {H : Hp} {Q : VK} {b : Bool} (P : V → Hp → Prop) (h1 : b = true → ∀ Q' : VK, (∀ v H', P v H' → Q' v H') → ta σ H Q') (h2 : b = false → ∀ Q' : VK, (∀ v H', P v H' → Q' v H') → tb σ H Q') (hk : ∀ v H', P v H' → Q v H') :
    if b = true then ta σ H Q else tb σ H Q := by
  cases b with
  | true => exact iteT (h1 rfl Q hk)
  | false => exact iteF (h2 rfl Q hk)
noncomputable def isN : V → Bool
  | .int _ => true
  | _ => false
noncomputable def spWhN (K : PySem.W.Frag) : Sp := fun vs H Q _ => ∃ x, vs = [x] ∧ Kd K H x ∧ Q (.bl (isN x)) H
noncomputable def spUnG (K : PySem.W.Frag) (cC : Addr) : Sp := fun vs H Q E => ∃ v, vs = [v] ∧ TCs K H v ∧ (∀ (a : Addr) (xs : List V) (cs : List Int), v = .ref a → H a = some (.lst xs) → unp xs [] = some (cs.map V.int) → ∀ l H', Same H H' → H l = none → H' l = some (.lst (cs.map V.int)) → Q (.ref l) H') ∧ ((∀ xs, rowOf H v = some xs → unp xs [] = none) → ∀ H', Same H H' → E (.ref cC) none H')
noncomputable def spLC (K : PySem.W.Frag) : Sp := fun vs H Q _ => ∃ v, vs = [v] ∧ TCs K H v ∧ (∀ (a : Addr) (xs : List V) (cs : List Int), v = .ref a → H a = some (.lst xs) → unp xs [] = some (cs.map V.int) → ∀ l H', Same H H' → H l = none → H' l = some (.lst (cs.map V.int)) → Q (.ref l) H') ∧ ((∀ xs, rowOf H v = some xs → unp xs [] = none) → ∀ H', Same H H' → Q .non H')
theorem isWh_int {lo hi : Int} {x : V} (h : isWh lo hi x = true) : ∃ i : Int, x = .int i ∧ lo ≤ i ∧ i ≤ hi := by
  cases x with
  | int i => exact ⟨i, rfl, by simp only [isWh, Bool.and_eq_true, decide_eq_true_eq] at h; exact h⟩
  | _ => cases h
theorem head_mul (h : Nat) : (h : Int) * (if decide ((h : Int) < 16) = true then 1 else 0) = (cbe h : Int) - 1 := by
  unfold cbe
  by_cases z : h < 16
  · rw [if_pos (decide_eq_true (by omega)), if_pos z]; omega
  · rw [if_neg (by rw [decide_eq_true_eq]; omega), if_neg z]; omega
theorem okP_false {x : V} {r acc : List V} : isWh 0 31 x = false ∨ (bhd x r).length ≠ cbe (hN x) ∨ (bhd x r).all (isWh 0 15) = false ∨ ¬ (acc ++ xpd (hN x) (bhd x r)).length ≤ 576 → okP x r acc = false := by
  intro h
  unfold okP
  rcases h with h | h | h | h
  · rw [h, Bool.false_and]
  · rw [decide_eq_false h, Bool.false_and, Bool.and_false]
  · rw [h, Bool.false_and, Bool.and_false, Bool.and_false]
  · rw [decide_eq_false h, Bool.and_false, Bool.and_false, Bool.and_false]
theorem okP_true {x : V} {r acc : List V} (h1 : isWh 0 31 x = true) (h2 : (bhd x r).length = cbe (hN x)) (h3 : (bhd x r).all (isWh 0 15) = true) (h4 : (acc ++ xpd (hN x) (bhd x r)).length ≤ 576) : okP x r acc = true := by
  unfold okP
  rw [h1, decide_eq_true h2, h3, decide_eq_true h4]; rfl
theorem xpd_lo {h : Nat} {b : List V} (hl : h < 16) : xpd h b = b := if_pos hl
theorem xpd_hi {h : Nat} {b : List V} (hl : ¬ h < 16) : xpd h b = (List.replicate (cbh h) b).flatten := if_neg hl
theorem xpd_le {h : Nat} {b : List V} (hh : h ≤ 31) (hb : b.length = cbe h) : (xpd h b).length ≤ 17 := by
  by_cases hl : h < 16
  · rw [xpd_lo hl, hb]; unfold cbe; rw [if_pos hl]; omega
  · rw [xpd_hi hl, len_rep, hb]
    unfold cbe cbh
    rw [if_neg hl, if_neg hl]; omega
theorem row_no {H : Hp} {a : Addr} {xs : List V} (e : H a = some (.lst xs)) (h : unp xs [] = none) : ∀ ys, rowOf H (.ref a) = some ys → unp ys [] = none := fun ys hy => by
  rw [rowOf_lst e] at hy; cases hy; exact h
section
variable {P : Program} {w : World} {K : PySem.W.Frag} {mg : Str → Option Value} {base : Heap} {cFE cC : Addr} {tC tL tH tF : Tok}
theorem sc_cells_by_head : FnScope ["head"] ["head"] (defScope s_cells_by_head) := ⟨rfl, rfl, rfl, by decide +kernel, rfl, by decide +kernel, by decide +kernel⟩
theorem ok_cells_by_head {f : Addr} {fd : FuncData} (F : FunD K "cells_by_head" "cells_by_head" s_cells_by_head .none f fd) (T : Txt K mg cFE cC tC tL tH tF) : FnOk P w K mg base CX0 1 f fd ["head"] (spCbh) := by
  refine F.ok sc_cells_by_head (fun vs H Q E h => ?_) (fun cdv A outer s H vs Q E hr h => ?_)
  · obtain ⟨h, rfl, _⟩ := h; rfl
  · obtain ⟨h, rfl, k⟩ := h
    refine ⟨_, (pss_one (ps_ret (pe_ifExp (pt_cmpR op_lt (pv 0) (pe_glob (v := .int 16) rfl T.FIRST_REPEAT ⟨_, rfl⟩) (nomark _)) (pe_op op_add (pv 0) pe_int) (pe_op op_sub (pv 0) pe_int)))), ?_⟩
    refine ⟨_, rfl, _, _, rfl, rfl, _, rfl, iteB (fun hc => ?_) (fun hc => ?_)⟩
    · have hc := of_decide_eq_true hc
      refine ⟨_, rfl, _, _, rfl, rfl, ?_⟩
      have e : (cbh h : Int) = (h : Int) + 1 := by unfold cbh; rw [if_pos (by omega)]; omega
      rw [e] at k; exact k
    · have hc := of_decide_eq_false hc
      refine ⟨_, rfl, _, _, rfl, rfl, ?_⟩
      have e : (cbh h : Int) = (h : Int) - 14 := by unfold cbh; rw [if_neg (by omega)]; omega
      rw [e] at k; exact k
theorem sc_cells_behind : FnScope ["head"] ["head"] (defScope s_cells_behind) := ⟨rfl, rfl, rfl, by decide +kernel, rfl, by decide +kernel, by decide +kernel⟩
theorem ok_cells_behind {f : Addr} {fd : FuncData} (F : FunD K "cells_behind" "cells_behind" s_cells_behind .none f fd) (T : Txt K mg cFE cC tC tL tH tF) : FnOk P w K mg base CX0 1 f fd ["head"] (spCbe) := by
  refine F.ok sc_cells_behind (fun vs H Q E h => ?_) (fun cdv A outer s H vs Q E hr h => ?_)
  · obtain ⟨h, rfl, _⟩ := h; rfl
  · obtain ⟨h, rfl, k⟩ := h
    refine ⟨_, (pss_one (ps_ret (pe_ifExp (pt_cmpR op_lt (pv 0) (pe_glob (v := .int 16) rfl T.FIRST_REPEAT ⟨_, rfl⟩) (nomark _)) (pe_op op_add (pv 0) pe_int) pe_int))), ?_⟩
    refine ⟨_, rfl, _, _, rfl, rfl, _, rfl, iteB (fun hc => ?_) (fun hc => ?_)⟩
    · have hc := of_decide_eq_true hc
      refine ⟨_, rfl, _, _, rfl, rfl, ?_⟩
      have e : (cbe h : Int) = (h : Int) + 1 := by unfold cbe; rw [if_pos (by omega)]; omega
      rw [e] at k; exact k
    · have hc := of_decide_eq_false hc
      have e : (cbe h : Int) = 1 := by unfold cbe; rw [if_neg (by omega)]; rfl
      rw [e] at k; exact k
theorem sc_need_of_pack : FnScope ["good"] ["good"] (defScope s_need_of_pack) := ⟨rfl, rfl, rfl, by decide +kernel, rfl, by decide +kernel, by decide +kernel⟩
theorem ok_need_of_pack {f : Addr} {fd : FuncData} (F : FunD K "need_of_pack" "need_of_pack" s_need_of_pack .none f fd) (T : Txt K mg cFE cC tC tL tH tF) : FnOk P w K mg base (CX1 P w) 1 f fd ["good"] (spNeedP cC) := by
  refine F.okX sc_need_of_pack (fun vs H Q E h => ?_) (fun cdv A outer s H vs Q E hr h => ?_)
  · obtain ⟨b, rfl, _⟩ := h; rfl
  · obtain ⟨b, rfl, kY, kN⟩ := h
    refine ⟨_, (pss_one (ps_if (pt_not (pt_val (pv 0))) (pss_one (ps_raise rfl raises1 rfl T.BadPack T.xBadPack (pa_cons pe_str pa_nil))) pss_nil)), ?_⟩
    exact ⟨_, rfl, _, rfl, iteN (fun h => ⟨by show 1 ≤ sizeLine; decide, kN h⟩) (fun h => kY h)⟩
theorem sc_law_whole : FnScope ["_law_found"] ["_law_found"] (defScope s_law_whole) := ⟨rfl, rfl, rfl, by decide +kernel, rfl, by decide +kernel, by decide +kernel⟩
theorem ok_law_whole {f : Addr} {fd : FuncData} (F : FunD K "_law_whole" "_law_whole" s_law_whole .none f fd) (T : Txt K mg cFE cC tC tL tH tF) : FnOk P w K mg base CX0 1 f fd ["_law_found"] (spWhN K) := by
  refine F.ok sc_law_whole (fun vs H Q E h => ?_) (fun cdv A outer s H vs Q E hr h => ?_)
  · obtain ⟨x, rfl, _⟩ := h; rfl
  · obtain ⟨x, rfl, kd, k⟩ := h
    refine ⟨_, (pss_one (ps_ret (pe_and (isiK K rfl (pv 0) rfl T.isinstance rfl T.int PyProof.Rows.boot_int) (pe_one (pe_not (isiK K rfl (pv 0) rfl T.isinstance rfl T.bool PyProof.Rows.boot_bool)))))), ?_⟩
    refine ⟨_, rfl, _, kd.isInt, _, rfl, ?_⟩
    cases x with
    | int i => exact iteT ⟨_, rfl, _, kd.isBool, _, rfl, k⟩
    | bl b => exact iteT ⟨_, rfl, _, kd.isBool, _, rfl, k⟩
    | _ => exact iteF k
theorem sc_unpacked : FnScope ["numbers", "cells", "place", "head", "behind"] ["numbers"] (defScope s_unpacked) := ⟨rfl, rfl, rfl, by decide +kernel, rfl, by decide +kernel, by decide +kernel⟩
theorem ok_unpacked {f : Addr} {fd : FuncData} (F : FunD K "unpacked" "unpacked" s_unpacked .none f fd) (T : Txt K mg cFE cC tC tL tH tF) (g_need_of_pack : DefX P w K mg base 1 "need_of_pack" ["good"] [] (spNeedP cC)) (g_is_whole_within : Def P w K mg base 2 "is_whole_within" ["thing", "least", "most"] [] (spWh K)) (g_cells_behind : Def P w K mg base 1 "cells_behind" ["head"] [] (spCbe)) (g_cells_by_head : Def P w K mg base 1 "cells_by_head" ["head"] [] (spCbh)) (g_is_list_of_cells : Def P w K mg base 5 "is_list_of_cells" ["thing"] [] (spLoc K)) : FnOk P w K mg base (CX1 P w) 6 f fd ["numbers"] (spUnG K cC) := by
  refine F.okX sc_unpacked (fun vs H Q E h => ?_) (fun cdv A outer s H vs Q E hr h => ?_)
  · obtain ⟨v, rfl, _⟩ := h; rfl
  · obtain ⟨v, rfl, t, kY, kN⟩ := h
    refine ⟨_, (pss_cons (ps_expr (pe_callX g_need_of_pack (hr.mono (by decide)) passes1R rfl (pa_cons (isiK K rfl (pv 0) rfl T.isinstance rfl T.list PyProof.Rows.boot_list) pa_nil)))
        (pss_cons (ps_set (i := 1) sc_unpacked.nd rfl (by first | exact Or.inl rfl | exact Or.inr rfl) (pe_lst pa_nil))
        (pss_cons (ps_set (i := 2) sc_unpacked.nd rfl (by first | exact Or.inl rfl | exact Or.inr rfl) pe_int)
        (pss_cons (ps_while ownE1 (pt_cmpR op_lt (pv 2) (pe_callB (lenK K rfl) rfl T.len PySem.boot_len (pa_cons (pv 0) pa_nil)) (nomark _)) (pss_cons (ps_set (i := 3) sc_unpacked.nd rfl (by first | exact Or.inl rfl | exact Or.inr rfl) (pe_ix (ixK K rfl) (pv 0) (pv 2) (fun _ _ => rfl)))
        (pss_cons (ps_expr (pe_callX g_need_of_pack (hr.mono (by decide)) passes1R rfl (pa_cons (pe_callD g_is_whole_within (hr.mono (by decide)) rfl (pa_cons (pv 3) (pa_cons pe_int (pa_cons (pe_glob (v := .int 31) rfl T.MOST_HEAD ⟨_, rfl⟩) pa_nil)))) pa_nil)))
        (pss_cons (ps_set (i := 4) sc_unpacked.nd rfl (by first | exact Or.inl rfl | exact Or.inr rfl) (pe_slice (slK K rfl) (pv 0) (po_some (pe_op op_add (pv 2) pe_int)) (po_some (pe_op op_add (pe_op op_add (pv 2) pe_int) (pe_callD g_cells_behind (hr.mono (by decide)) rfl (pa_cons (pv 3) pa_nil))))))
        (pss_cons (ps_expr (pe_callX g_need_of_pack (hr.mono (by decide)) passes1R rfl (pa_cons (pe_and (pe_cmpR op_eq (pe_callB (lenK K rfl) rfl T.len PySem.boot_len (pa_cons (pv 4) pa_nil)) (pe_callD g_cells_behind (hr.mono (by decide)) rfl (pa_cons (pv 3) pa_nil)) (nomark _)) (pe_one (pe_callD g_is_list_of_cells (hr.mono (by decide)) rfl (pa_cons (pv 4) pa_nil)))) pa_nil)))
        (pss_cons (ps_expr (pe_bm PySem.F.plainAttrs_list PySem.F.slot_list_extend PySem.F.type_list_extend mt_extend (pv 1) (pa_cons (pe_ifExp (pt_cmpR op_lt (pv 3) (pe_glob (v := .int 16) rfl T.FIRST_REPEAT ⟨_, rfl⟩) (nomark _)) (pv 4) (pe_op op_rep (pv 4) (pe_callD g_cells_by_head (hr.mono (by decide)) rfl (pa_cons (pv 3) pa_nil)))) pa_nil)))
        (pss_cons (ps_expr (pe_callX g_need_of_pack (hr.mono (by decide)) passes1R rfl (pa_cons (pe_cmpR op_le (pe_callB (lenK K rfl) rfl T.len PySem.boot_len (pa_cons (pv 1) pa_nil)) (pe_glob (v := .int 576) rfl T.MOST_LISTED ⟨_, rfl⟩) (nomark _)) pa_nil)))
        (pss_one (ps_aug (i := 2) sc_unpacked.nd rfl (by first | exact Or.inl rfl | exact Or.inr rfl) (pe_op op_add pe_int (pe_callB (lenK K rfl) rfl T.len PySem.boot_len (pa_cons (pv 4) pa_nil))) ip_add)))))))))
        (pss_one (ps_ret (pv 1))))))), ?_⟩
    refine ⟨_, rfl, _, t.kd.isList, _, rfl, fun hL => ?_, fun hL => kN (fun xs hx => by rw [isL_row t.kd, hx] at hL; cases hL) H (Same.refl H)⟩
    rw [isL_row t.kd] at hL
    obtain ⟨xs, hx⟩ := Option.isSome_iff_exists.mp hL
    obtain ⟨a, rfl, ea⟩ := rowOf_ref hx
    have kY := kY a xs
    have lx := t.len xs hx
    have it := t.it xs hx
    refine ⟨Nat.zero_le _, fun N0 hN0 => ?_⟩
    have z1 := same_new (o := HO.lst []) hN0
    refine while_by (fun σ H3 => Same H H3 ∧ ∃ (q : Nat) (acc : List V) (v3 v4 : Option V), σ = [some (.ref a), some (.ref N0), some (.int (q : Int)), v3, v4] ∧ H3 N0 = some (.lst acc) ∧ acc.length ≤ 576 ∧ unp (xs.drop q) acc = unp xs []) (fun σ _ => match σ with | [_, _, some (.int q), _, _] => ((xs.length : Int) - q).toNat | _ => 0) ⟨z1, 0, [], none, none, rfl, upd_same, Nat.zero_le _, rfl⟩ ?_ ?_
    · rintro σ H3 ⟨s3, q, acc, v3, v4, rfl, en, hl, ed⟩
      refine ⟨_, rfl, _, rfl, a, _, rfl, .inl (SqL.of (s3 _ _ ea)), _, _, rfl, rfl, _, rfl, iteB (fun hlt => ?_) (fun hlt => ?_)⟩
      · have hlt := of_decide_eq_true hlt
        have hlt : q < xs.length := by omega
        obtain ⟨x, ex, eb0, no, yes⟩ := unp_at ed hlt
        have no := fun h H' s' => kN (row_no ea (no h)) H' s'
        have kx : Kd K H x := it x (List.mem_of_getElem? ex)
        refine ⟨_, rfl, _, rfl, a, _, _, _, rfl, rfl, SqL.of (s3 _ _ ea), atI_nat (j := q) ex, ?_⟩
        refine ⟨_, rfl, x, 0, 31, rfl, kx.mono s3, _, rfl, fun hw => ?_, fun hw => no (okP_false (.inl hw)) H3 s3⟩
        obtain ⟨i, rfl, i0, i1⟩ := isWh_int hw
        obtain ⟨h, rfl⟩ : ∃ h : Nat, i = (h : Int) := ⟨i.toNat, by omega⟩
        have eN : hN (.int (h : Int)) = h := rfl
        have he := cbe_le h
        have hc31 : cbh h ≤ 17 := by unfold cbh; split <;> omega
        rw [eN] at eb0 yes
        refine ⟨_, rfl, _, rfl, _, _, rfl, rfl, _, rfl, _, rfl, _, _, rfl, rfl, _, rfl, h, rfl, _, _, rfl, rfl, _, rfl, a, _, rfl, SqL.of (s3 _ _ ea), fun b gb => ?_⟩
        have ez : cutV xs (some ((q : Int) + 1)) (some ((q : Int) + 1 + (cbe h : Int))) = bhd (.int (h : Int)) (xs.drop (q + 1)) := by
          rw [eb0, show (q : Int) + 1 = ((q + 1 : Nat) : Int) by omega, show ((q + 1 : Nat) : Int) + (cbe h : Int) = ((q + 1 + cbe h : Nat) : Int) by omega, cut_mid]
        rw [ez]
        have hm : ∀ y ∈ bhd (.int (h : Int)) (xs.drop (q + 1)), Kd K H y := fun y hy => it y (List.mem_of_mem_drop (List.mem_of_mem_take hy))
        have lb0 : (bhd (.int (h : Int)) (xs.drop (q + 1))).length ≤ 17 := by rw [eb0]; exact Nat.le_trans (List.length_take_le _ _) (by unfold cbe; split <;> omega)
        have no1 := fun z => no (okP_false (.inr (.inl z)))
        have no2 := fun z => no (okP_false (.inr (.inr (.inl z))))
        have no3 := fun z => no (okP_false (.inr (.inr (.inr z))))
        have yes := fun h2 h3 h4 => yes (okP_true hw h2 h3 h4)
        rw [eN] at no1 no3 yes
        clear no
        generalize bhd (.int (h : Int)) (xs.drop (q + 1)) = B at hm lb0 no1 no2 no3 yes
        have zb := same_new (o := HO.lst B) gb
        have s4 := s3.trans zb
        have en4 := zb _ _ en
        have eb : upd H3 b (.lst B) b = some (.lst B) := upd_same
        show tSeq _ _ _ _ (upd H3 b (.lst B))
        generalize upd H3 b (.lst B) = H4 at s4 en4 eb ⊢
        refine ⟨_, rfl, b, _, rfl, .inl (SqL.of eb), _, rfl, h, rfl, rfl, _, rfl, iteB (fun hb => ?_) (fun hb => ⟨_, rfl, fun z => (by cases z), fun _ => no1 (fun z => of_decide_eq_false hb (by rw [z])) H4 s4⟩)⟩
        have lb : B.length = cbe h := by have := of_decide_eq_true hb; injection this with this; omega
        refine ⟨_, rfl, _, rfl, .inl ⟨b, _, rfl, eb, (by omega), (fun y hy => (hm y hy).mono s4), fun H5 s5 => ?_⟩⟩
        have s45 := s4.trans s5
        refine ⟨_, rfl, fun ha => ?_, fun ha => no2 ha H5 s45⟩
        have en5 := s5 _ _ en4
        have eb5 := s5 _ _ eb
        have xl := xpd_le (b := B) (show h ≤ 31 by omega) lb
        refine ⟨_, rfl, .inl ⟨rfl, _, SqL.of en5⟩, _, rfl, _, _, rfl, rfl, _, rfl, tif_merge (fun v H7 => ∃ q2, v = .ref q2 ∧ Same H5 H7 ∧ H7 q2 = some (.lst (xpd h B))) (fun hl Q' kk => ?_) (fun hl Q' kk => ?_) ?_⟩
        · have hl := of_decide_eq_true hl
          exact ⟨_, rfl, kk _ _ ⟨b, rfl, Same.refl _, by rw [xpd_lo (by omega)]; exact eb5⟩⟩
        · have hl := of_decide_eq_false hl
          refine ⟨_, rfl, _, rfl, h, rfl, b, (cbh h : Int), _, rfl, rfl, eb5, by omega, by omega, Nat.le_trans (Nat.mul_le_mul lb0 (show ((cbh h : Int)).toNat ≤ 17 by omega)) (by decide), fun q2 g2 => kk _ _ ⟨q2, rfl, same_new g2, ?_⟩⟩
          rw [upd_same, xpd_hi (by omega)]; rfl
        · rintro v H7 ⟨q2, rfl, s7, e7⟩
          refine ⟨N0, q2, _, _, rfl, rfl, s7 _ _ en5, e7, Nat.le_trans (by omega : _ ≤ 2000) (by decide), ?_⟩
          have eb7 := s7 _ _ eb5
          have s8 := same_upd (o := HO.lst (acc ++ xpd h B)) (s45.trans s7) hN0
          have e8 : upd H7 N0 (.lst (acc ++ xpd h B)) N0 = some (.lst (acc ++ xpd h B)) := upd_same
          have nb : b ≠ N0 := fun z => by subst z; rw [en] at gb; cases gb
          have eb8 : upd H7 N0 (.lst (acc ++ xpd h B)) b = some (.lst B) := by rw [upd_ne nb]; exact eb7
          show tSeq _ _ _ _ (upd H7 N0 (.lst (acc ++ xpd h B)))
          generalize upd H7 N0 (.lst (acc ++ xpd h B)) = H8 at s8 e8 eb8 ⊢
          refine ⟨_, rfl, N0, _, rfl, .inl (SqL.of e8), _, _, rfl, rfl, _, rfl, fun h4 => ?_, fun h4 => no3 (fun z => of_decide_eq_false h4 (by show (((acc ++ xpd h B).length : Nat) : Int) ≤ 576; omega)) H8 s8⟩
          have h4 : (acc ++ xpd h B).length ≤ 576 := by have := of_decide_eq_true h4; omega
          refine ⟨_, rfl, _, rfl, b, _, rfl, .inl (SqL.of eb8), _, _, rfl, rfl, _, _, rfl, rfl, ⟨s8, q + 1 + cbe h, acc ++ xpd h B, some (.int (h : Int)), some (.ref b), ?_, e8, h4, yes lb ha h4⟩, ?_⟩
          · rw [lb, show ((q + 1 + cbe h : Nat) : Int) = (q : Int) + (1 + (cbe h : Int)) by omega]; rfl
          · rw [lb]
            show ((xs.length : Int) - ((q : Int) + (1 + (cbe h : Int)))).toNat < ((xs.length : Int) - (q : Int)).toNat
            omega
      · have hlt := of_decide_eq_false hlt
        rw [List.drop_eq_nil_of_le (by omega), unp_nil] at ed
        obtain ⟨cs, rfl, _, _⟩ := unp_ints ed.symm
        exact ⟨_, rfl, kY cs rfl ea ed.symm N0 H3 s3 hN0 en⟩
    · exact mn_test (mn_op (mn_i0 _) (mn_var _) (mn_call lenMn (mn_cons (mn_var _) mn_nil)))
end
end K21
set_option Elab.async false
set_option linter.all false
set_option maxRecDepth 100000
set_option maxHeartbeats 1600000
namespace K21
open PySem L2 M4
theorem all_to {B : List V} {i : Nat} {y : V} (h : (B.take i).all (isWh 0 15) = true) (e : B[i]? = some y) (hy : isWh 0 15 y = true) : (B.take (i + 1)).all (isWh 0 15) = true := by
  rw [List.take_succ, e, List.all_append, h]
  show (true && ([y].all (isWh 0 15))) = true
  rw [List.all_cons, hy]; rfl
theorem all_no {B : List V} {i : Nat} {y : V} (e : B[i]? = some y) (hy : isWh 0 15 y = false) : B.all (isWh 0 15) = false := by
  cases h : B.all (isWh 0 15) with
  | false => rfl
  | true => rw [List.all_eq_true.mp h y (List.mem_of_getElem? e)] at hy; cases hy
section
variable {P : Program} {w : World} {K : PySem.W.Frag} {mg : Str → Option Value} {base : Heap} {cFE cC : Addr} {tC tL tH tF : Tok}
theorem sc_law_cells : FnScope ["_law_numbers", "_law_found", "_law_at", "_law_head", "_law_behind", "_law_cell"] ["_law_numbers"] (defScope s_law_cells) := ⟨rfl, rfl, rfl, by decide +kernel, rfl, by decide +kernel, by decide +kernel⟩
theorem ok_law_cells {f : Addr} {fd : FuncData} (F : FunD K "_law_cells" "_law_cells" s_law_cells .none f fd) (T : Txt K mg cFE cC tC tL tH tF) (g__law_whole : Def P w K mg base 1 "_law_whole" ["_law_found"] [] (spWhN K)) : FnOk P w K mg base CX0 2 f fd ["_law_numbers"] (spLC K) := by
  refine F.ok sc_law_cells (fun vs H Q E h => ?_) (fun cdv A outer s H vs Q E hr h => ?_)
  · obtain ⟨v, rfl, _⟩ := h; rfl
  · obtain ⟨v, rfl, t, kY, kN⟩ := h
    refine ⟨_, (pss_cons (ps_if (pt_not (pt_val (isiK K rfl (pv 0) rfl T.isinstance rfl T.list PyProof.Rows.boot_list))) (pss_one (ps_ret pe_non)) pss_nil)
        (pss_cons (ps_set (i := 1) sc_law_cells.nd rfl (by first | exact Or.inl rfl | exact Or.inr rfl) (pe_lst pa_nil))
        (pss_cons (ps_set (i := 2) sc_law_cells.nd rfl (by first | exact Or.inl rfl | exact Or.inr rfl) pe_int)
        (pss_cons (ps_while PassesOwn.never (pt_cmpR op_lt (pv 2) (pe_callB (lenK K rfl) rfl T.len PySem.boot_len (pa_cons (pv 0) pa_nil)) (nomark _)) (pss_cons (ps_set (i := 3) sc_law_cells.nd rfl (by first | exact Or.inl rfl | exact Or.inr rfl) (pe_ix (ixK K rfl) (pv 0) (pv 2) (fun _ _ => rfl)))
        (pss_cons (ps_if (PW.pt (pw_or (pt_not (pt_val (pe_callD g__law_whole (hr.mono (by decide)) rfl (pa_cons (pv 3) pa_nil)))) (pw_or (pt_cmpR op_lt (pv 3) pe_int (nomark _)) (pw_or1 (pt_cmpR op_gt (pv 3) pe_int (nomark _)))))) (pss_one (ps_ret pe_non)) pss_nil)
        (pss_cons (ps_set (i := 4) sc_law_cells.nd rfl (by first | exact Or.inl rfl | exact Or.inr rfl) (pe_slice (slK K rfl) (pv 0) (po_some (pe_op op_add (pv 2) pe_int)) (po_some (pe_op op_add (pe_op op_add (pv 2) pe_int) (pe_op op_mul (pv 3) (pe_callTy call_int1 rfl T.int PyProof.Rows.boot_int (pa_cons (pe_cmpR op_lt (pv 3) pe_int (nomark _)) pa_nil)))))))
        (pss_cons (ps_if (pt_cmpR op_lt (pe_callB (lenK K rfl) rfl T.len PySem.boot_len (pa_cons (pv 4) pa_nil)) (pe_op op_add pe_int (pe_op op_mul (pv 3) (pe_callTy call_int1 rfl T.int PyProof.Rows.boot_int (pa_cons (pe_cmpR op_lt (pv 3) pe_int (nomark _)) pa_nil)))) (nomark _)) (pss_one (ps_ret pe_non)) pss_nil)
        (pss_cons (ps_for PassesOwn.never rfl (piK K rfl (pv 4)) (pg_name (i := 5) sc_law_cells.nd rfl (by first | exact Or.inl rfl | exact Or.inr rfl)) (pss_one (ps_if (PW.pt (pw_or (pt_not (pt_val (pe_callD g__law_whole (hr.mono (by decide)) rfl (pa_cons (pv 5) pa_nil)))) (pw_or (pt_cmpR op_lt (pv 5) pe_int (nomark _)) (pw_or1 (pt_cmpR op_gt (pv 5) pe_int (nomark _)))))) (pss_one (ps_ret pe_non)) pss_nil)))
        (pss_cons (ps_set (i := 2) sc_law_cells.nd rfl (by first | exact Or.inl rfl | exact Or.inr rfl) (pe_op op_add (pe_op op_add (pv 2) pe_int) (pe_callB (lenK K rfl) rfl T.len PySem.boot_len (pa_cons (pv 4) pa_nil))))
        (pss_cons (ps_if (pt_cmpR op_gt (pv 3) pe_int (nomark _)) (pss_one (ps_set (i := 4) sc_law_cells.nd rfl (by first | exact Or.inl rfl | exact Or.inr rfl) (pe_op op_rep (pv 4) (pe_op op_sub (pv 3) pe_int)))) pss_nil)
        (pss_cons (ps_set (i := 1) sc_law_cells.nd rfl (by first | exact Or.inl rfl | exact Or.inr rfl) (pe_op op_cat (pv 1) (pv 4)))
        (pss_one (ps_if (pt_cmpR op_gt (pe_callB (lenK K rfl) rfl T.len PySem.boot_len (pa_cons (pv 1) pa_nil)) pe_int (nomark _)) (pss_one (ps_ret pe_non)) pss_nil)))))))))))
        (pss_one (ps_ret (pv 1))))))), ?_⟩
    refine ⟨_, rfl, _, t.kd.isList, _, rfl, iteN (fun hL => ?_) (fun hL => ?_)⟩
    · exact kN (fun xs hx => by rw [isL_row t.kd, hx] at hL; cases hL) H (Same.refl H)
    rw [isL_row t.kd] at hL
    obtain ⟨xs, hx⟩ := Option.isSome_iff_exists.mp hL
    obtain ⟨a, rfl, ea⟩ := rowOf_ref hx
    have kY := kY a xs
    have lx := t.len xs hx
    have it := t.it xs hx
    refine ⟨Nat.zero_le _, fun N0 hN0 => ?_⟩
    have z1 := same_new (o := HO.lst []) hN0
    refine while_by (fun σ H3 => Same H H3 ∧ ∃ (q : Nat) (acc : List V) (L : Addr) (v3 v4 v5 : Option V), σ = [some (.ref a), some (.ref L), some (.int (q : Int)), v3, v4, v5] ∧ H L = none ∧ H3 L = some (.lst acc) ∧ acc.length ≤ 576 ∧ unp (xs.drop q) acc = unp xs []) (fun σ _ => match σ with | [_, _, some (.int q), _, _, _] => ((xs.length : Int) - q).toNat | _ => 0) ⟨z1, 0, [], N0, none, none, none, rfl, hN0, upd_same, Nat.zero_le _, rfl⟩ ?_ ?_
    · rintro σ H3 ⟨s3, q, acc, L, v3, v4, v5, rfl, gL, en, hl, ed⟩
      refine ⟨_, rfl, _, rfl, a, _, rfl, .inl (SqL.of (s3 _ _ ea)), _, _, rfl, rfl, _, rfl, iteB (fun hlt => ?_) (fun hlt => ?_)⟩
      · have hlt := of_decide_eq_true hlt
        have hlt : q < xs.length := by omega
        obtain ⟨x, ex, eb0, no, yes⟩ := unp_at ed hlt
        have no := fun h H' s' => kN (row_no ea (no h)) H' s'
        have kx : Kd K H x := it x (List.mem_of_getElem? ex)
        refine ⟨_, rfl, _, rfl, a, _, _, _, rfl, rfl, SqL.of (s3 _ _ ea), atI_nat (j := q) ex, ?_⟩
        refine ⟨_, rfl, x, rfl, kx.mono s3, _, rfl, iteN (fun hw => ?_) (fun hw => ?_)⟩
        · refine no (okP_false (.inl ?_)) H3 s3
          cases x with
          | int i => cases hw
          | _ => rfl
        obtain ⟨i, rfl⟩ : ∃ i : Int, x = .int i := by
          cases x with
          | int i => exact ⟨i, rfl⟩
          | _ => cases hw
        refine ⟨_, rfl, _, _, rfl, rfl, _, rfl, iteB (fun i0 => ?_) (fun i0 => ?_)⟩
        · have i0 := of_decide_eq_true i0
          exact no (okP_false (.inl (by show (decide (0 ≤ i) && decide (i ≤ 31)) = false; rw [decide_eq_false (show ¬ 0 ≤ i by omega)]; rfl))) H3 s3
        have i0 := of_decide_eq_false i0
        refine ⟨_, rfl, _, _, rfl, rfl, _, rfl, iteB (fun i1 => ?_) (fun i1 => ?_)⟩
        · have i1 := of_decide_eq_true i1
          exact no (okP_false (.inl (by show (decide (0 ≤ i) && decide (i ≤ 31)) = false; rw [decide_eq_false (show ¬ i ≤ 31 by omega), Bool.and_false]))) H3 s3
        have i1 := of_decide_eq_false i1
        obtain ⟨h, rfl⟩ : ∃ h : Nat, i = (h : Int) := ⟨i.toNat, by omega⟩
        have hw : isWh 0 31 (.int (h : Int)) = true := by simp only [isWh, Bool.and_eq_true, decide_eq_true_eq]; omega
        have eN : hN (.int (h : Int)) = h := rfl
        have he := cbe_le h
        have hc31 : cbh h ≤ 17 := by unfold cbh; split <;> omega
        have em := head_mul h
        rw [eN] at eb0 yes
        refine ⟨_, rfl, _, rfl, _, _, rfl, rfl, _, rfl, _, rfl, _, _, rfl, rfl, _, rfl, _, rfl, _, _, rfl, rfl, .inr ⟨_, rfl, _, _, rfl, rfl, .inl ⟨by omega, by omega⟩, _, _, rfl, rfl, _, rfl, a, _, rfl, SqL.of (s3 _ _ ea), fun b gb => ?_⟩⟩
        have ez : cutV xs (some ((q : Int) + 1)) (some ((q : Int) + 2 + (h : Int) * (if decide ((h : Int) < 16) = true then 1 else 0))) = bhd (.int (h : Int)) (xs.drop (q + 1)) := by
          rw [eb0, em, show (q : Int) + 1 = ((q + 1 : Nat) : Int) by omega, show (q : Int) + 2 + ((cbe h : Int) - 1) = ((q + 1 + cbe h : Nat) : Int) by omega, cut_mid]
        rw [ez]
        have hm : ∀ y ∈ bhd (.int (h : Int)) (xs.drop (q + 1)), Kd K H y := fun y hy => it y (List.mem_of_mem_drop (List.mem_of_mem_take hy))
        have lb0 : (bhd (.int (h : Int)) (xs.drop (q + 1))).length ≤ cbe h := by rw [eb0]; exact List.length_take_le _ _
        have no1 := fun z => no (okP_false (.inr (.inl z)))
        have no2 := fun z => no (okP_false (.inr (.inr (.inl z))))
        have no3 := fun z => no (okP_false (.inr (.inr (.inr z))))
        have yes := fun h2 h3 h4 => yes (okP_true hw h2 h3 h4)
        rw [eN] at no1 no3 yes
        clear no
        generalize bhd (.int (h : Int)) (xs.drop (q + 1)) = B at hm lb0 no1 no2 no3 yes
        have zb := same_new (o := HO.lst B) gb
        have s4 := s3.trans zb
        have en4 := zb _ _ en
        have eb : upd H3 b (.lst B) b = some (.lst B) := upd_same
        show tSeq _ _ _ _ (upd H3 b (.lst B))
        generalize upd H3 b (.lst B) = H4 at s4 en4 eb ⊢
        refine ⟨_, rfl, b, _, rfl, .inl (SqL.of eb), _, rfl, _, rfl, _, _, rfl, rfl, .inr ⟨_, rfl, _, _, rfl, rfl, .inl ⟨by omega, by omega⟩, _, _, rfl, rfl, _, _, rfl, rfl, _, rfl, iteB (fun hn => ?_) (fun hn => ?_)⟩⟩
        · have hn : (B.length : Int) < 1 + (h : Int) * (if decide ((h : Int) < 16) = true then 1 else 0) := of_decide_eq_true hn
          rw [em] at hn
          exact no1 (by omega) H4 s4
        have lb : B.length = cbe h := by
          have hn : ¬ (B.length : Int) < 1 + (h : Int) * (if decide ((h : Int) < 16) = true then 1 else 0) := of_decide_eq_false hn
          rw [em] at hn
          omega
        refine ⟨_, rfl, b, rfl, ⟨_, SqL.of eb⟩, ?_⟩
        refine for_list (xs := B) (fun i σ H5 => Same H4 H5 ∧ (B.take i).all (isWh 0 15) = true ∧ ∃ v5 : Option V, σ = [some (.ref a), some (.ref L), some (.int (q : Int)), some (.int (h : Int)), some (.ref b), v5]) ⟨Same.refl _, rfl, _, rfl⟩ (fun i σ H5 _ p => SqL.of (p.1 _ _ eb)) ?_ ?_
        · rintro i y σ H5 ey ⟨s5, hall, v5, rfl⟩
          have ky := (hm y (List.mem_of_getElem? ey)).mono (s4.trans s5)
          have nn : isWh 0 15 y = false → Q .non H5 := fun z => no2 (all_no ey z) H5 (s4.trans s5)
          refine ⟨_, rfl, y, rfl, ky, _, rfl, iteN (fun hy => ?_) (fun hy => ?_)⟩
          · refine nn ?_
            cases y with
            | int i => cases hy
            | _ => rfl
          obtain ⟨j, rfl⟩ : ∃ j : Int, y = .int j := by
            cases y with
            | int j => exact ⟨j, rfl⟩
            | _ => cases hy
          refine ⟨_, rfl, _, _, rfl, rfl, _, rfl, iteB (fun j0 => ?_) (fun j0 => ?_)⟩
          · have j0 := of_decide_eq_true j0
            exact nn (by show (decide (0 ≤ j) && decide (j ≤ 15)) = false; rw [decide_eq_false (show ¬ 0 ≤ j by omega)]; rfl)
          have j0 := of_decide_eq_false j0
          refine ⟨_, rfl, _, _, rfl, rfl, _, rfl, iteB (fun j1 => ?_) (fun j1 => ?_)⟩
          · have j1 := of_decide_eq_true j1
            exact nn (by show (decide (0 ≤ j) && decide (j ≤ 15)) = false; rw [decide_eq_false (show ¬ j ≤ 15 by omega), Bool.and_false])
          have j1 := of_decide_eq_false j1
          exact ⟨s5, all_to hall ey (by simp only [isWh, Bool.and_eq_true, decide_eq_true_eq]; omega), _, rfl⟩
        rintro σ H5 ⟨s5, hall, v5, rfl⟩
        rw [List.take_of_length_le (Nat.le_refl _)] at hall
        have s45 := s4.trans s5
        have en5 := s5 _ _ en4
        have eb5 := s5 _ _ eb
        have xl := xpd_le (b := B) (show h ≤ 31 by omega) lb
        refine ⟨_, rfl, _, _, rfl, rfl, _, rfl, b, _, rfl, .inl (SqL.of eb5), _, _, rfl, rfl, ?_⟩
        have fin : ∀ (b2 : Addr) (H7 : Hp), Same H5 H7 → H7 b2 = some (.lst (xpd h B)) → ∀ q3, H7 q3 = none → (acc ++ xpd h B).length ≤ 576 → Same H (upd H7 q3 (.lst (acc ++ xpd h B))) ∧ H q3 = none ∧ upd H7 q3 (.lst (acc ++ xpd h B)) q3 = some (.lst (acc ++ xpd h B)) := fun b2 H7 s7 _ q3 g3 _ => ⟨(s45.trans s7).trans (same_new g3), (s45.trans s7).free g3, upd_same⟩
        refine ⟨_, rfl, _, _, rfl, rfl, _, rfl, iteB (fun hg => ?_) (fun hg => ?_)⟩
        · have hg := of_decide_eq_true hg
          refine ⟨_, rfl, _, rfl, _, _, rfl, rfl, b, (h : Int) - 14, _, rfl, rfl, eb5, by omega, by omega, Nat.le_trans (Nat.mul_le_mul (show B.length ≤ 17 by omega) (show ((h : Int) - 14).toNat ≤ 17 by omega)) (by decide), fun q2 g2 => ?_⟩
          have ch : cbh h = h - 14 := by unfold cbh; rw [if_neg (by omega)]
          have er : (List.replicate ((h : Int) - 14).toNat B).flatten = xpd h B := by rw [xpd_hi (by omega), show ((h : Int) - 14).toNat = cbh h by omega]
          rw [er]
          have z7 := same_new (o := HO.lst (xpd h B)) g2
          refine ⟨_, rfl, _, rfl, L, q2, _, _, rfl, rfl, z7 _ _ en5, upd_same, Nat.le_trans (by omega : _ ≤ 2000) (by decide), fun q3 g3 => ?_⟩
          refine ⟨_, rfl, q3, _, rfl, .inl (SqL.of upd_same), _, _, rfl, rfl, _, rfl, iteB (fun h4 => ?_) (fun h4 => ?_)⟩
          · have h4 : (((acc ++ xpd h B).length : Nat) : Int) > 576 := of_decide_eq_true h4
            exact no3 (by omega) _ ((s45.trans z7).trans (same_new g3))
          · have h4 : ¬ (((acc ++ xpd h B).length : Nat) : Int) > 576 := of_decide_eq_false h4
            obtain ⟨f1, f2, f3⟩ := fin q2 _ z7 upd_same q3 g3 (by omega)
            refine ⟨⟨f1, q + 1 + cbe h, acc ++ xpd h B, q3, some (.int (h : Int)), some (.ref q2), v5, ?_, f2, f3, by omega, yes lb hall (by omega)⟩, ?_⟩
            · rw [lb, show ((q + 1 + cbe h : Nat) : Int) = (q : Int) + 1 + (cbe h : Int) by omega]; rfl
            · rw [lb]
              show ((xs.length : Int) - ((q : Int) + 1 + (cbe h : Int))).toNat < ((xs.length : Int) - (q : Int)).toNat
              omega
        · have hg := of_decide_eq_false hg
          have ex0 : xpd h B = B := xpd_lo (by omega)
          rw [ex0] at fin no3 yes
          refine ⟨_, rfl, _, rfl, L, b, _, _, rfl, rfl, en5, eb5, Nat.le_trans (by omega : _ ≤ 2000) (by decide), fun q3 g3 => ?_⟩
          refine ⟨_, rfl, q3, _, rfl, .inl (SqL.of upd_same), _, _, rfl, rfl, _, rfl, iteB (fun h4 => ?_) (fun h4 => ?_)⟩
          · have h4 : (((acc ++ B).length : Nat) : Int) > 576 := of_decide_eq_true h4
            exact no3 (by omega) _ (s45.trans (same_new g3))
          · have h4 : ¬ (((acc ++ B).length : Nat) : Int) > 576 := of_decide_eq_false h4
            obtain ⟨f1, f2, f3⟩ := fin b _ (Same.refl _) eb5 q3 g3 (by omega)
            refine ⟨⟨f1, q + 1 + cbe h, acc ++ B, q3, some (.int (h : Int)), some (.ref b), v5, ?_, f2, f3, by omega, yes lb hall (by omega)⟩, ?_⟩
            · rw [lb, show ((q + 1 + cbe h : Nat) : Int) = (q : Int) + 1 + (cbe h : Int) by omega]; rfl
            · rw [lb]
              show ((xs.length : Int) - ((q : Int) + 1 + (cbe h : Int))).toNat < ((xs.length : Int) - (q : Int)).toNat
              omega
      · have hlt := of_decide_eq_false hlt
        rw [List.drop_eq_nil_of_le (by omega), unp_nil] at ed
        obtain ⟨cs, rfl, _, _⟩ := unp_ints ed.symm
        exact ⟨_, rfl, kY cs rfl ea ed.symm L H3 s3 gL en⟩
    · exact mn_test (mn_op (mn_i0 _) (mn_var _) (mn_call lenMn (mn_cons (mn_var _) mn_nil)))
end
end K21
set_option Elab.async false
set_option linter.all false
set_option maxRecDepth 100000
set_option maxHeartbeats 1600000
namespace K21
open PySem L2 M4
noncomputable def Elt (H : Hp) (x : V) : Prop := ∃ d, ShV H 1 x d ∧ d.shown.length ≤ 100
theorem Elt.mono {H H' : Hp} {x : V} (s : Same H H') (e : Elt H x) : Elt H' x := let ⟨d, h, l⟩ := e; ⟨d, h.mono s, l⟩
theorem Elt.kd {K : PySem.W.Frag} {H : Hp} {x : V} (e : Elt H x) : Kd K H x := by
  obtain ⟨d, h, _⟩ := e
  cases h with
  | non => exact .non
  | bl b => exact .bl b
  | int i _ => exact .int i
  | str x => exact .str x
  | lst e _ => exact .lst e
  | tup e _ => exact .tup e
theorem elts_sh {H : Hp} : ∀ {xs : List V}, (∀ x ∈ xs, Elt H x) → ∃ ds, ShVs H 1 xs ds ∧ ((PyData.shownAll ds).map (·.length)).sum ≤ 100 * xs.length ∧ (PyData.shownAll ds).length = xs.length
  | [], _ => ⟨[], .nil, Nat.le_refl _, rfl⟩
  | x :: xs, h => by
    obtain ⟨d, hd, ld⟩ := h x List.mem_cons_self
    obtain ⟨ds, hs, l1, l2⟩ := elts_sh (xs := xs) fun y hy => h y (List.mem_cons_of_mem _ hy)
    refine ⟨d :: ds, .cons hd hs, ?_, ?_⟩
    · simp only [PyData.shownAll, List.map_cons, List.sum_cons, List.length_cons]; omega
    · simp only [PyData.shownAll, List.length_cons]; omega
theorem str_list {H : Hp} {a : Addr} {xs : List V} (e : H a = some (.lst xs)) (h : ∀ x ∈ xs, Elt H x) (hl : xs.length ≤ 5000) : ∃ t, StrV H (.ref a) t := by
  obtain ⟨ds, hs, l1, l2⟩ := elts_sh h
  refine ⟨_, .dat (n := 2) (by decide) (.lst e hs) ?_⟩
  have := listText_len_le (PyData.shownAll ds)
  simp only [PyData.shown]
  refine Nat.le_trans (by omega : _ ≤ 1000000) (by decide)
theorem str_tup {H : Hp} {a : Addr} {xs : List V} (e : H a = some (.tup xs)) (h : ∀ x ∈ xs, Elt H x) (hl : xs.length ≤ 5000) : ∃ t, StrV H (.ref a) t := by
  obtain ⟨ds, hs, l1, l2⟩ := elts_sh h
  refine ⟨_, .dat (n := 2) (by decide) (.tup e hs) ?_⟩
  have := tupleText_len_le (PyData.shownAll ds)
  simp only [PyData.shown]
  refine Nat.le_trans (by omega : _ ≤ 1000000) (by decide)
theorem log_small {n : Nat} (h : n < 10 ^ 30) : n.log2 < 1920 := by
  by_cases h0 : n = 0
  · subst h0; decide
  · exact (Nat.log2_lt h0).mpr (Nat.lt_of_lt_of_le h (by decide))
theorem elt_int {H : Hp} {i : Int} (h : i.natAbs < 10 ^ 30) : Elt H (.int i) := by
  refine ⟨.int i, .int i (log_small h), ?_⟩
  have := int_text_length_le10 (k := 30) (by decide) h
  simp only [PyData.shown]
  rw [ofString_length]; omega
theorem elt_non {H : Hp} : Elt H .non := ⟨.none, .non, by simp only [PyData.shown]; decide⟩
theorem elt_bl {H : Hp} (b : Bool) : Elt H (.bl b) := ⟨.bool b, .bl b, by cases b <;> simp only [PyData.shown] <;> decide⟩
theorem elt_0 {H : Hp} : Elt H (.str "0") := ⟨.str "0", .str "0", by simp only [PyData.shown]; decide +kernel⟩
theorem elt_l0 {H : Hp} {p : Addr} (e : H p = some (.lst [.int 0])) : Elt H (.ref p) := ⟨.list [.int 0], .lst e (.cons (.int 0 (by decide)) .nil), by simp only [PyData.shown, PyData.shownAll]; decide +kernel⟩
noncomputable def TG (K : PySem.W.Frag) (H : Hp) (v : V) : Prop := TCs K H v ∧ ∃ t, StrV H v t
theorem tg_list {K : PySem.W.Frag} {H : Hp} {a : Addr} {xs : List V} (e : H a = some (.lst xs)) (h : ∀ x ∈ xs, Elt H x) (hl : xs.length ≤ 5000) : TG K H (.ref a) := by
  refine ⟨⟨.lst e, fun ys hy => ?_, fun ys hy y hm => ?_⟩, str_list e h hl⟩
  · rw [rowOf_lst e] at hy; cases hy; omega
  · rw [rowOf_lst e] at hy; cases hy; exact (h y hm).kd
theorem tg_none {K : PySem.W.Frag} {H : Hp} {v : V} (k : Kd K H v) (h : rowOf H v = none) (s : ∃ t, StrV H v t) : TG K H v := by
  refine ⟨⟨k, fun ys hy => ?_, fun ys hy => ?_⟩, s⟩
  · rw [h] at hy; cases hy
  · rw [h] at hy; cases hy
noncomputable def Sm (ns : List Int) : Prop := ∀ n ∈ ns, 0 ≤ n ∧ n ≤ 31
theorem elts_ints {H : Hp} {ns : List Int} (h : Sm ns) : ∀ x ∈ ns.map V.int, Elt H x := fun x hx => by
  obtain ⟨i, hi, rfl⟩ := List.mem_map.mp hx
  have := h i hi
  exact elt_int (Nat.lt_of_lt_of_le (by omega : i.natAbs < 32) (by decide))
theorem tg_ints {K : PySem.W.Frag} {H : Hp} {a : Addr} {ns : List Int} (e : H a = some (.lst (ns.map V.int))) (h : Sm ns) (hl : ns.length ≤ 5000) : TG K H (.ref a) := tg_list e (elts_ints h) (by rw [List.length_map]; exact hl)
theorem at_mod {xs : List V} {m : Int} (n : Nat) (h : xs.length = n) (hn : 0 < n) : ∃ x ∈ xs, atI xs (m % (n : Int)) = some x := by
  have f0 := Int.emod_nonneg m (show (n : Int) ≠ 0 by omega)
  have f1 := Int.emod_lt_of_pos m (show (0 : Int) < (n : Int) by omega)
  obtain ⟨j, ej⟩ : ∃ j : Nat, m % (n : Int) = (j : Int) := ⟨(m % (n : Int)).toNat, by omega⟩
  rw [ej] at f1 ⊢
  have hj : j < xs.length := by omega
  exact ⟨_, List.getElem_mem hj, atI_nat (List.getElem?_eq_getElem hj)⟩
theorem rep_map (n : Nat) (c : Int) : (List.replicate n c).map V.int = (List.replicate n [V.int c]).flatten := by
  induction n with
  | zero => rfl
  | succ n ih => rw [List.replicate_succ, List.map_cons, ih, List.replicate_succ, List.flatten_cons]; rfl
theorem cut_hi (xs : List V) (k : Nat) : cutV xs none (some (k : Int)) = xs.take k := by
  unfold cutV
  rw [HT.sIx_none, HT.sIx_nat, List.drop_zero, Nat.sub_zero]
  exact List.take_eq_take_iff.mpr (by omega)
theorem cut_lo (xs : List V) (k : Nat) : cutV xs (some (k : Int)) none = xs.drop k := by
  unfold cutV
  rw [HT.sIx_none, HT.sIx_nat]
  by_cases h : k ≤ xs.length
  · rw [Nat.min_eq_left h]
    exact List.take_of_length_le (by rw [List.length_drop]; omega)
  · rw [List.drop_eq_nil_of_le (by omega), List.drop_eq_nil_of_le (by omega), List.take_nil]
noncomputable def spPackL (K : PySem.W.Frag) : Sp := fun vs H Q _ => ∃ (a : Addr) (ns : List Int) (f : Nat), vs = [.ref a, .int (f : Int)] ∧ SqL K H a (ns.map V.int) ∧ f ≤ 100 ∧ ∀ p cs H', Same H H' → H p = none → H' p = some (.lst (cs.map V.int)) → Sm cs → cs.length ≤ 1100 → Q (.ref p) H'
noncomputable def spFull : Sp := fun vs H Q _ => ∃ n : Nat, vs = [.int (n : Int)] ∧ ∀ p cs H', Same H H' → H p = none → H' p = some (.lst (cs.map V.int)) → Sm cs → cs.length ≤ 1100 → Q (.ref p) H'
theorem Sm.app {a b : List Int} (ha : Sm a) (hb : Sm b) : Sm (a ++ b) := fun n hn => (List.mem_append.mp hn).elim (ha n) (hb n)
theorem sm_one {c : Int} (h0 : 0 ≤ c) (h1 : c ≤ 31) : Sm [c] := fun n hn => by rw [List.mem_singleton.mp hn]; exact ⟨h0, h1⟩
noncomputable def drawn (m : Nat) (j : Nat) : Int := ((m : Int) / 512 + 7 * (j : Int) * (j : Int)) * ((j : Int) + 3) % 16
section
variable {P : Program} {w : World} {K : PySem.W.Frag} {mg : Str → Option Value} {base : Heap} {cFE cC : Addr} {tC tL tH tF : Tok}
theorem sc_law_pack : FnScope ["_law_script", "_law_first", "_law_number", "_law_many", "_law_numbers", "_law_k", "_law_more", "_law_head"] ["_law_script", "_law_first"] (defScope s_law_pack) := ⟨rfl, rfl, rfl, by decide +kernel, rfl, by decide +kernel, by decide +kernel⟩
theorem ok_law_pack {f : Addr} {fd : FuncData} (F : FunD K "_law_pack" "_law_pack" s_law_pack .none f fd) (T : Txt K mg cFE cC tC tL tH tF) (g__law_draw : Def P w K mg base 1 "_law_draw" ["_law_script", "_law_k"] [] (spDraw K)) : FnOk P w K mg base CX0 2 f fd ["_law_script", "_law_first"] (spPackL K) := by
  refine F.ok sc_law_pack (fun vs H Q E h => ?_) (fun cdv A outer s H vs Q E hr h => ?_)
  · obtain ⟨a, ns, f, rfl, _⟩ := h; rfl
  · obtain ⟨a, ns, f', rfl, hS, hf, k⟩ := h
    obtain ⟨t3, r3, k3⟩ : ∃ tr, PSs ((cxOf CX0 P w K mg base ["_law_script", "_law_first", "_law_number", "_law_many", "_law_numbers", "_law_k", "_law_more", "_law_head"] "_law_pack" (defScope s_law_pack) f cdv A outer s H E).nox) ((defBody s_law_pack).drop 3) tr ∧
        ∀ (n m : Nat) (H1 : Hp), Same H H1 → m ≤ 60 → tr { nx := fun _ H' => Q .non H', rt := Q } [some (.ref a), some (.int (f' : Int)), some (.int (n : Int)), some (.int (m : Int)), none, none, none, none] H1 := by
      refine ⟨_, (pss_cons (ps_set (i := 4) sc_law_pack.nd rfl (by first | exact Or.inl rfl | exact Or.inr rfl) (pe_lst pa_nil))
        (pss_cons (ps_for PassesOwn.never rfl (pi_range1 rfl T.range (pa_cons (pv 3) pa_nil)) (pg_name (i := 5) sc_law_pack.nd rfl (by first | exact Or.inl rfl | exact Or.inr rfl)) (pss_cons (ps_set (i := 6) sc_law_pack.nd rfl (by first | exact Or.inl rfl | exact Or.inr rfl) (pe_callD g__law_draw (hr.mono (by decide)) rfl (pa_cons (pv 0) (pa_cons (pe_op op_add (pe_op op_add (pv 1) pe_int) (pv 5)) pa_nil))))
        (pss_cons (ps_set (i := 7) sc_law_pack.nd rfl (by first | exact Or.inl rfl | exact Or.inr rfl) (pe_op op_mod (pv 6) pe_int))
        (pss_cons (ps_expr (pe_bm PySem.F.plainAttrs_list PySem.F.slot_list_append PySem.F.type_list_append mt_append (pv 4) (pa_cons (pv 7) pa_nil)))
        (pss_one (ps_if (pt_cmpR op_gt (pv 7) pe_int (nomark _)) (pss_one (ps_expr (pe_bm PySem.F.plainAttrs_list PySem.F.slot_list_append PySem.F.type_list_append mt_append (pv 4) (pa_cons (pe_op op_mod (pe_op op_fdiv (pv 6) pe_int) pe_int) pa_nil)))) (pss_one (ps_set (i := 4) sc_law_pack.nd rfl (by first | exact Or.inl rfl | exact Or.inr rfl) (pe_op op_cat (pv 4) (pe_comp (N := ["_law_j", "_law_more"]) (src := [none, some 6]) rfl ⟨rfl, rfl, rfl, rfl, rfl, by decide +kernel⟩ (pi_range1 rfl T.range (pa_cons (pe_op op_add (pv 7) pe_int) pa_nil)) (fun s H C fp => pg_name (i := 0) (show (["_law_j", "_law_more"] : List Str).Nodup by decide +kernel) rfl (by first | exact Or.inl rfl | exact Or.inr rfl)) (fun s H C fp => pts_nil) (fun s H C fp => (pe_op op_mod (pe_op op_mul (pe_op op_add (pe_op op_fdiv (pv 1) pe_int) (pe_op op_mul (pe_op op_mul pe_int (pv 0)) (pv 0))) (pe_op op_add (pv 0) pe_int)) pe_int))))))))))))
        (pss_one (ps_ret (pv 4))))), ?_⟩
      intro n m H1 s1 hm
      refine ⟨Nat.zero_le _, fun L0 gL => ?_⟩
      have zL := same_new (o := HO.lst []) gL
      refine ⟨_, rfl, _, rfl, by omega, by omega, ?_⟩
      rw [show ((m : Int)).toNat = m from rfl]
      refine for_range (lo := 0) (n := m) (fun i σ H3 => Same H H3 ∧ ∃ (L : Addr) (cs : List Int) (v5 v6 v7 : Option V), σ = [some (.ref a), some (.int (f' : Int)), some (.int (n : Int)), some (.int (m : Int)), some (.ref L), v5, v6, v7] ∧ H L = none ∧ H3 L = some (.lst (cs.map V.int)) ∧ Sm cs ∧ cs.length ≤ 17 * i) ⟨s1.trans zL, L0, [], none, none, none, rfl, s1.free gL, upd_same, (fun _ h => nomatch h), Nat.le_refl _⟩ ?_ ?_
      · rintro i σ H3 hi ⟨s3, L, cs, v5, v6, v7, rfl, gH, eL, hc, hl⟩
        rw [Int.zero_add]
        refine ⟨_, rfl, _, rfl, _, _, rfl, rfl, _, rfl, _, _, rfl, rfl, a, ns, f' + 1 + i, (by show [V.ref a, V.int ((f' : Int) + 1 + (i : Int))] = _; rw [show (f' : Int) + 1 + (i : Int) = ((f' + 1 + i : Nat) : Int) by omega]), s3.seq hS, by omega, fun mo H4 hmo s4 => ?_⟩
        have s34 := s3.trans s4
        have eL4 := s4 _ _ eL
        refine ⟨_, rfl, _, _, rfl, rfl, (by show (0 : Int) < 32; decide), ?_⟩
        obtain ⟨hd, ehd, hd31⟩ : ∃ hd : Nat, (mo : Int) % 32 = (hd : Int) ∧ hd ≤ 31 := ⟨mo % 32, by omega, by omega⟩
        show gName 7 (.int ((mo : Int) % 32)) _ _ _
        rw [ehd]
        refine ⟨_, rfl, .inl ⟨rfl, _, SqL.of eL4⟩, _, rfl, L, _, _, rfl, rfl, eL4, Nat.lt_of_lt_of_le (by rw [List.length_map]; omega : _ < 5000) (by decide), ?_⟩
        have s5 := same_upd (o := HO.lst (cs.map V.int ++ [.int (hd : Int)])) s34 gH
        have e5 : upd H4 L (HO.lst (cs.map V.int ++ [.int (hd : Int)])) L = some (.lst ((cs ++ [(hd : Int)]).map V.int)) := by rw [upd_same, List.map_append]; rfl
        show tSeq _ _ _ _ (upd H4 L (HO.lst (cs.map V.int ++ [.int (hd : Int)])))
        generalize upd H4 L (HO.lst (cs.map V.int ++ [.int (hd : Int)])) = H5 at s5 e5 ⊢
        have hc5 : Sm (cs ++ [(hd : Int)]) := hc.app (sm_one (by omega) (by omega))
        have l5 : (cs ++ [(hd : Int)]).length = cs.length + 1 := by rw [List.length_append, List.length_singleton]
        refine ⟨_, rfl, _, _, rfl, rfl, _, rfl, iteB (fun hg => ?_) (fun hg => ?_)⟩
        · have f0 := Int.emod_nonneg ((mo : Int) / 32) (show (16 : Int) ≠ 0 by decide)
          have f1 := Int.emod_lt_of_pos ((mo : Int) / 32) (show (0 : Int) < 16 by decide)
          refine ⟨_, rfl, .inl ⟨rfl, _, SqL.of e5⟩, _, rfl, _, _, rfl, rfl, ⟨by decide, by decide⟩, _, _, rfl, rfl, (by show (0 : Int) < 16; decide), L, _, _, rfl, rfl, e5, Nat.lt_of_lt_of_le (by rw [List.length_map]; omega : _ < 5000) (by decide), ?_⟩
          refine ⟨same_upd s5 gH, L, (cs ++ [(hd : Int)]) ++ [(mo : Int) / 32 % 16], _, _, _, rfl, gH, ?_, hc5.app (sm_one (by omega) (by omega)), ?_⟩
          · rw [upd_same, List.map_append (l₂ := [(mo : Int) / 32 % 16])]; rfl
          · rw [List.length_append, l5, List.length_singleton]; omega
        · have hg := of_decide_eq_false hg
          refine ⟨_, rfl, _, rfl, _, _, rfl, rfl, _, rfl, by omega, by omega, fun D hD => ?_⟩
          have S := src_range (lo := 0) (n := hd + 1) (H := H5)
          have rng0 : ((List.range (hd + 1)).map fun (i : Nat) => V.int (0 + (i : Int))) = (List.range (hd + 1)).map fun i : Nat => V.int (i : Int) := List.map_congr_left fun i _ => by rw [Int.zero_add]
          rw [rng0] at S
          rw [show ((hd : Int) + 1).toNat = hd + 1 by omega]
          refine comp_fm (k := 0) (fun v => match v with | .int j => .int (drawn mo j.toNat) | _ => .non) (fun _ => true) S (by rw [List.length_map, List.length_range]; exact Nat.le_trans (by omega : _ ≤ 2000) (by decide)) hD (fun x _ H' Qb _ kk => kk H' (Same.refl _)) (fun x hx _ H' Q' sm kk => ?_) fun H6 s6 hD6 => ?_
          · obtain ⟨j, hj, rfl⟩ := List.mem_map.mp hx
            have hj := List.mem_range.mp hj
            have tt : Q' (.int (drawn mo j)) H' := kk H' (Same.refl _)
            exact ⟨_, rfl, _, _, rfl, rfl, ⟨by decide, by decide⟩, _, rfl, _, _, rfl, rfl, .inl ⟨by decide, by decide⟩, _, rfl, _, _, rfl, rfl, .inr ⟨by omega, by omega⟩, _, _, rfl, rfl, _, rfl, _, _, rfl, rfl, _, _, rfl, rfl, .inr ⟨by omega, by omega⟩, _, _, rfl, rfl, (by show (0 : Int) < 16; decide), tt⟩
          have e6 : H6 D = some (.lst (((List.range (hd + 1)).map (drawn mo)).map V.int)) := by
            rw [hD6, filter_t, List.map_map, List.map_map]; rfl
          have l6 : ((List.range (hd + 1)).map (drawn mo)).length = hd + 1 := by rw [List.length_map, List.length_range]
          have c6 : Sm ((List.range (hd + 1)).map (drawn mo)) := fun n hn => by
            obtain ⟨j, _, rfl⟩ := List.mem_map.mp hn
            unfold drawn
            have f0 := Int.emod_nonneg (((mo : Int) / 512 + 7 * (j : Int) * (j : Int)) * ((j : Int) + 3)) (show (16 : Int) ≠ 0 by decide)
            have f1 := Int.emod_lt_of_pos (((mo : Int) / 512 + 7 * (j : Int) * (j : Int)) * ((j : Int) + 3)) (show (0 : Int) < 16 by decide)
            generalize ((mo : Int) / 512 + 7 * (j : Int) * (j : Int)) * ((j : Int) + 3) % 16 = z at f0 f1
            omega
          refine ⟨L, D, _, _, rfl, rfl, s6 _ _ e5, e6, Nat.le_trans (by rw [List.length_map, List.length_map, l5, l6]; omega : _ ≤ 5000) (by decide), fun q gq => ?_⟩
          have s56 := s5.trans s6
          refine ⟨s56.trans (same_new gq), q, (cs ++ [(hd : Int)]) ++ (List.range (hd + 1)).map (drawn mo), _, _, _, rfl, s56.free gq, ?_, hc5.app c6, ?_⟩
          · rw [upd_same, ← List.map_append]
          · rw [List.length_append, l5, l6]; omega
      · rintro σ H3 ⟨s3, L, cs, v5, v6, v7, rfl, gH, eL, hc, hl⟩
        exact ⟨_, rfl, k L cs H3 s3 gH eL hc (by omega)⟩
    refine ⟨_, (pss_cons (ps_set (i := 2) sc_law_pack.nd rfl (by first | exact Or.inl rfl | exact Or.inr rfl) (pe_callD g__law_draw (hr.mono (by decide)) rfl (pa_cons (pv 0) (pa_cons (pv 1) pa_nil))))
        (pss_cons (ps_set (i := 3) sc_law_pack.nd rfl (by first | exact Or.inl rfl | exact Or.inr rfl) (pe_op op_mod (pe_op op_fdiv (pv 2) pe_int) pe_int))
        (pss_cons (ps_if (pt_cmpR op_eq (pe_op op_mod (pv 2) pe_int) pe_int (nomark _)) (pss_one (ps_set (i := 3) sc_law_pack.nd rfl (by first | exact Or.inl rfl | exact Or.inr rfl) (pe_op op_mod (pe_op op_fdiv (pv 2) pe_int) pe_int))) pss_nil)
        (@r3)))), ?_⟩
    refine ⟨_, rfl, _, rfl, a, ns, f', rfl, hS, by omega, fun n H1 hn s1 => ?_⟩
    refine ⟨_, rfl, _, _, rfl, rfl, ⟨by decide, by decide⟩, _, _, rfl, rfl, (by show (0 : Int) < 21; decide), ?_⟩
    refine ⟨_, rfl, _, _, rfl, rfl, (by show (0 : Int) < 16; decide), rfl, _, rfl, iteB (fun _ => ?_) (fun _ => ?_)⟩
    · refine ⟨_, rfl, _, _, rfl, rfl, ⟨by decide, by decide⟩, _, _, rfl, rfl, (by show (0 : Int) < 61; decide), ?_⟩
      have := k3 n (n / 16 % 61) H1 s1 (by omega)
      rw [show ((n / 16 % 61 : Nat) : Int) = (n : Int) / 16 % 61 by omega] at this
      exact this
    · have := k3 n (n / 16 % 21) H1 s1 (by omega)
      rw [show ((n / 16 % 21 : Nat) : Int) = (n : Int) / 16 % 21 by omega] at this
      exact this
theorem sc_law_full : FnScope ["_law_number", "_law_like", "_law_rest"] ["_law_number"] (defScope s_law_full) := ⟨rfl, rfl, rfl, by decide +kernel, rfl, by decide +kernel, by decide +kernel⟩
theorem ok_law_full {f : Addr} {fd : FuncData} (F : FunD K "_law_full" "_law_full" s_law_full .none f fd) (T : Txt K mg cFE cC tC tL tH tF) : FnOk P w K mg base CX0 1 f fd ["_law_number"] (spFull) := by
  refine F.ok sc_law_full (fun vs H Q E h => ?_) (fun cdv A outer s H vs Q E hr h => ?_)
  · obtain ⟨n, rfl, _⟩ := h; rfl
  · obtain ⟨n, rfl, k⟩ := h
    refine ⟨_, (pss_cons (ps_set (i := 1) sc_law_full.nd rfl (by first | exact Or.inl rfl | exact Or.inr rfl) (pe_op op_add pe_int (pe_op op_mod (pv 0) pe_int)))
        (pss_cons (ps_set (i := 2) sc_law_full.nd rfl (by first | exact Or.inl rfl | exact Or.inr rfl) (pe_ix (ixK K rfl) (pe_lst (pa_cons pe_int (pa_cons pe_int (pa_cons pe_int (pa_cons (pe_op op_mod (pe_op op_fdiv (pv 0) pe_int) pe_int) pa_nil))))) (pe_op op_mod (pe_op op_fdiv (pv 0) pe_int) pe_int) (fun _ _ => rfl)))
        (pss_one (ps_ret (pe_op op_cat (pe_op op_cat (pe_op op_rep (pe_lst (pa_cons pe_int (pa_cons (pe_op op_mod (pe_op op_fdiv (pv 0) pe_int) pe_int) pa_nil))) (pv 1)) (pe_lst (pa_cons (pv 2) pa_nil))) (pe_op op_rep (pe_lst (pa_cons pe_int pa_nil)) (pe_op op_add (pv 2) pe_int))))))), ?_⟩
    refine ⟨_, rfl, _, _, rfl, rfl, (by show (0 : Int) < 2; decide), _, _, rfl, rfl, ?_⟩
    obtain ⟨lk, elk, hlk⟩ : ∃ lk : Nat, 33 + (n : Int) % 2 = (lk : Int) ∧ lk ≤ 34 := ⟨33 + n % 2, by omega, by omega⟩
    show gName 1 (.int (33 + (n : Int) % 2)) _ _ _
    rw [elk]
    refine ⟨_, rfl, _, _, rfl, rfl, ⟨by decide, by decide⟩, _, _, rfl, rfl, (by show (0 : Int) < 16; decide), (by show 4 ≤ sizeLine; decide), fun q1 g1 => ?_⟩
    have z1 := same_new (o := HO.lst [V.int 14, .int 15, .int 14, .int ((n : Int) / 2 % 16)]) g1
    obtain ⟨x, hx, ax⟩ := at_mod (xs := [V.int 14, .int 15, .int 14, .int ((n : Int) / 2 % 16)]) (m := (n : Int) / 512) 4 rfl (by decide)
    obtain ⟨r, rfl, r15⟩ : ∃ r : Nat, x = .int (r : Int) ∧ r ≤ 15 := by
      simp only [List.mem_cons, List.not_mem_nil, or_false] at hx
      rcases hx with rfl | rfl | rfl | rfl
      · exact ⟨14, rfl, by decide⟩
      · exact ⟨15, rfl, by decide⟩
      · exact ⟨14, rfl, by decide⟩
      · exact ⟨n / 2 % 16, by congr 1, by omega⟩
    refine ⟨_, rfl, _, _, rfl, rfl, ⟨by decide, by decide⟩, _, _, rfl, rfl, (by show (0 : Int) < 4; decide), q1, _, _, _, rfl, rfl, SqL.of upd_same, ax, ?_⟩
    show gName 2 (.int (r : Int)) _ (upd H q1 (HO.lst [V.int 14, .int 15, .int 14, .int ((n : Int) / 2 % 16)])) _
    generalize upd H q1 (HO.lst [V.int 14, .int 15, .int 14, .int ((n : Int) / 2 % 16)]) = H1 at z1 ⊢
    have f0 := Int.emod_nonneg ((n : Int) / 32) (show (16 : Int) ≠ 0 by decide)
    have f1 := Int.emod_lt_of_pos ((n : Int) / 32) (show (0 : Int) < 16 by decide)
    refine ⟨_, rfl, _, _, rfl, rfl, ⟨by decide, by decide⟩, _, _, rfl, rfl, (by show (0 : Int) < 16; decide), (by show 2 ≤ sizeLine; decide), fun q2 g2 => ?_⟩
    show tVar 1 _ (upd H1 q2 (.lst [.int 31, .int ((n : Int) / 32 % 16)])) _
    generalize (n : Int) / 32 % 16 = c at f0 f1 ⊢
    have z2 := same_new (o := HO.lst [V.int 31, .int c]) g2
    refine ⟨_, rfl, q2, (lk : Int), _, rfl, rfl, upd_same, by omega, by omega, (by show 2 * lk ≤ _; exact Nat.le_trans (by omega : _ ≤ 600) (by decide)), fun q3 g3 => ?_⟩
    have e3 : (List.replicate ((lk : Int)).toNat [V.int 31, .int c]).flatten = ((List.replicate lk [(31 : Int), c]).flatten).map V.int := by
      rw [List.map_flatten, List.map_replicate]; rfl
    rw [e3]
    have z3 := same_new (o := HO.lst (((List.replicate lk [(31 : Int), c]).flatten).map V.int)) g3
    refine ⟨_, rfl, (by show 1 ≤ sizeLine; decide), fun q4 g4 => ?_⟩
    have z4 := same_new (o := HO.lst [V.int (r : Int)]) g4
    have l3 : ((List.replicate lk [(31 : Int), c]).flatten).length = lk * 2 := len_rep _ _
    refine ⟨q3, q4, _, _, rfl, rfl, z4 _ _ upd_same, upd_same, Nat.le_trans (by rw [List.length_map, l3]; show _ + 1 ≤ 600; omega) (by decide), fun q5 g5 => ?_⟩
    have z5 := same_new (o := HO.lst (((List.replicate lk [(31 : Int), c]).flatten).map V.int ++ [.int (r : Int)])) g5
    refine ⟨(by show 1 ≤ sizeLine; decide), fun q6 g6 => ?_⟩
    have z6 := same_new (o := HO.lst [V.int 3]) g6
    refine ⟨_, rfl, _, _, rfl, rfl, q6, (r : Int) + 1, _, rfl, rfl, upd_same, by omega, by omega, (by show 1 * _ ≤ _; exact Nat.le_trans (by omega : _ ≤ 600) (by decide)), fun q7 g7 => ?_⟩
    have e7 : (List.replicate ((r : Int) + 1).toNat [V.int 3]).flatten = (List.replicate (r + 1) (3 : Int)).map V.int := by rw [rep_map]; rfl
    rw [e7]
    have z7 := same_new (o := HO.lst ((List.replicate (r + 1) (3 : Int)).map V.int)) g7
    refine ⟨q5, q7, _, _, rfl, rfl, (z6.trans z7) _ _ upd_same, upd_same, Nat.le_trans (by rw [List.length_append, List.length_map, List.length_map, l3, List.length_replicate, List.length_singleton]; omega : _ ≤ 2000) (by decide), fun q8 g8 => ?_⟩
    have ss := z1.trans (z2.trans (z3.trans (z4.trans (z5.trans (z6.trans z7)))))
    refine k q8 (((List.replicate lk [(31 : Int), c]).flatten ++ [(r : Int)]) ++ List.replicate (r + 1) 3) _ (ss.trans (same_new g8)) (ss.free g8) ?_ ?_ ?_
    · rw [upd_same, List.map_append, List.map_append]; rfl
    · refine Sm.app (Sm.app (fun n hn => ?_) (sm_one (by omega) (by omega))) (fun n hn => by rw [(List.mem_replicate.mp hn).2]; decide)
      obtain ⟨l, hl, hn⟩ := List.mem_flatten.mp hn
      rw [(List.mem_replicate.mp hl).2] at hn
      simp only [List.mem_cons, List.not_mem_nil, or_false] at hn
      rcases hn with rfl | rfl <;> omega
    · rw [List.length_append, List.length_append, l3, List.length_replicate, List.length_singleton]; omega
end
end K21
set_option Elab.async false
set_option linter.all false
set_option maxRecDepth 100000
set_option maxHeartbeats 1600000
namespace K21
open PySem L2 M4
theorem elts_app {H : Hp} {xs ys : List V} (h : ∀ x ∈ xs, Elt H x) (h' : ∀ x ∈ ys, Elt H x) : ∀ x ∈ xs ++ ys, Elt H x := fun x hx => (List.mem_append.mp hx).elim (h x) (h' x)
theorem elts_one {H : Hp} {z : V} (h : Elt H z) : ∀ x ∈ [z], Elt H x := fun x hx => by rw [List.mem_singleton.mp hx]; exact h
theorem elts_take {H : Hp} {ns : List Int} {k : Nat} (h : Sm ns) : ∀ x ∈ (ns.map V.int).take k, Elt H x := fun x hx => elts_ints h x (List.mem_of_mem_take hx)
theorem elts_drop {H : Hp} {ns : List Int} {k : Nat} (h : Sm ns) : ∀ x ∈ (ns.map V.int).drop k, Elt H x := fun x hx => elts_ints h x (List.mem_of_mem_drop hx)
theorem tg_mid {K : PySem.W.Frag} {H : Hp} {p : Addr} {ns : List Int} {k e : Nat} {z : V} (ep : H p = some (.lst (((ns.map V.int).take k ++ [z]) ++ (ns.map V.int).drop e))) (hs : Sm ns) (hl : ns.length ≤ 1200) (hz : Elt H z) : TG K H (.ref p) :=
  tg_list ep (elts_app (elts_app (elts_take hs) (elts_one hz)) (elts_drop hs)) (by
    rw [List.length_append, List.length_append, List.length_take, List.length_drop, List.length_map, List.length_singleton]; omega)
theorem small_elt {H : Hp} {i : Int} (h0 : -100 ≤ i) (h1 : i ≤ 1000000000) : Elt H (.int i) := elt_int (Nat.lt_of_lt_of_le (by omega : i.natAbs < 1000000001) (by decide))
theorem odd_elt {H : Hp} {p : Addr} {v : V} (ep : H p = some (.lst [.int 0])) (hm : v ∈ [V.int 32, .int (-1), .bl true, .non, .str "0", .ref p, .int (10 ^ 20), .bl false, .int 16, .int 31, .int 15, .int 0]) : Elt H v := by
  simp only [List.mem_cons, List.not_mem_nil, or_false] at hm
  rcases hm with rfl | rfl | rfl | rfl | rfl | rfl | rfl | rfl | rfl | rfl | rfl | rfl
  · exact small_elt (by decide) (by decide)
  · exact small_elt (by decide) (by decide)
  · exact elt_bl _
  · exact elt_non
  · exact elt_0
  · exact elt_l0 ep
  · exact elt_int (by decide)
  · exact elt_bl _
  · exact small_elt (by decide) (by decide)
  · exact small_elt (by decide) (by decide)
  · exact small_elt (by decide) (by decide)
  · exact small_elt (by decide) (by decide)
theorem six_tg {K : PySem.W.Frag} {H : Hp} {p d e : Addr} {ns : List Int} {v : V} (ep : H p = some (.tup (ns.map V.int))) (hs : Sm ns) (hl : ns.length ≤ 1200) (ed : H d = some (DictO d)) (ee : H e = some (.tup [.int 0, .int 0])) (hm : v ∈ [V.ref p, .non, .ref d, .str "0", .int 5, .ref e]) : TG K H v := by
  simp only [List.mem_cons, List.not_mem_nil, or_false] at hm
  rcases hm with rfl | rfl | rfl | rfl | rfl | rfl
  · exact tg_none (.tup ep) (by simp only [rowOf, ep]) (str_tup ep (elts_ints hs) (by rw [List.length_map]; omega))
  · exact tg_none .non rfl ⟨_, .non⟩
  · exact tg_none (.dict ed) (by simp only [rowOf, ed, DictO]) ⟨_, .dict ed⟩
  · exact tg_none (.str _) rfl ⟨_, .str _⟩
  · exact tg_none (.int _) rfl ⟨_, .int 5 (by decide)⟩
  · exact tg_none (.tup ee) (by simp only [rowOf, ee]) (str_tup ee (elts_ints (ns := [0, 0]) (by intro n hn; simp only [List.mem_cons, List.not_mem_nil, or_false] at hn; rcases hn with rfl | rfl <;> decide)) (by decide))
noncomputable def spSpoilt (K : PySem.W.Frag) : Sp := fun vs H Q _ => ∃ (a : Addr) (ns : List Int) (n : Nat), vs = [.ref a, .int (n : Int)] ∧ H a = some (.lst (ns.map V.int)) ∧ Sm ns ∧ ns.length ≤ 1200 ∧ n < 2147483647 ∧ ∀ v H', Same H H' → TG K H' v → Q v H'
section
variable {P : Program} {w : World} {K : PySem.W.Frag} {mg : Str → Option Value} {base : Heap} {cFE cC : Addr} {tC tL tH tF : Tok}
theorem sc_law_spoilt : FnScope ["_law_numbers", "_law_number", "_law_at", "_law_more", "_law_odd", "_law_way"] ["_law_numbers", "_law_number"] (defScope s_law_spoilt) := ⟨rfl, rfl, rfl, by decide +kernel, rfl, by decide +kernel, by decide +kernel⟩
theorem ok_law_spoilt {f : Addr} {fd : FuncData} (F : FunD K "_law_spoilt" "_law_spoilt" s_law_spoilt .none f fd) (T : Txt K mg cFE cC tC tL tH tF) : FnOk P w K mg base CX0 1 f fd ["_law_numbers", "_law_number"] (spSpoilt K) := by
  refine F.ok sc_law_spoilt (fun vs H Q E h => ?_) (fun cdv A outer s H vs Q E hr h => ?_)
  · obtain ⟨a, ns, n, rfl, _⟩ := h; rfl
  · obtain ⟨a, ns, n, rfl, ea, hs, hl, hn, k⟩ := h
    obtain ⟨t8, r8, k8⟩ : ∃ tr, PSs ((cxOf CX0 P w K mg base ["_law_numbers", "_law_number", "_law_at", "_law_more", "_law_odd", "_law_way"] "_law_spoilt" (defScope s_law_spoilt) f cdv A outer s H E).nox) ((defBody s_law_spoilt).drop 8) tr ∧
        ∀ (m mo w : Nat) (x : V) (H1 : Hp), Same H H1 → m ≤ ns.length → mo < 2147483647 → Elt H1 x → tr { nx := fun _ H' => Q .non H', rt := Q } [some (.ref a), some (.int (n : Int)), some (.int (m : Int)), some (.int (mo : Int)), some x, some (.int (w : Int))] H1 := by
      refine ⟨_, (pss_cons (ps_if (pt_cmpR op_lt (pv 5) pe_int (nomark _)) (pss_one (ps_ret (pe_op op_cat (pe_op op_cat (pe_slice (slK K rfl) (pv 0) po_none (po_some (pv 2))) (pe_lst (pa_cons (pe_op op_mod (pv 3) pe_int) pa_nil))) (pe_slice (slK K rfl) (pv 0) (po_some (pe_op op_add (pv 2) pe_int)) po_none)))) pss_nil)
        (pss_cons (ps_if (pt_cmpR op_eq (pv 5) pe_int (nomark _)) (pss_one (ps_ret (pe_op op_cat (pv 0) (pe_lst (pa_cons (pe_ix (ixK K rfl) (pe_lst (pa_cons pe_int (pa_cons pe_int (pa_cons (pe_un un_neg pe_int) (pa_cons (pe_op op_pow pe_int pe_int) pa_nil))))) (pe_op op_mod (pv 3) pe_int) (fun _ _ => rfl)) (pa_cons (pe_op op_mod (pe_op op_fdiv (pv 3) pe_int) pe_int) pa_nil)))))) pss_nil)
        (pss_one (ps_ret (pe_op op_cat (pe_op op_cat (pe_slice (slK K rfl) (pv 0) po_none (po_some (pv 2))) (pe_lst (pa_cons (pv 4) pa_nil))) (pe_slice (slK K rfl) (pv 0) (po_some (pe_op op_add (pv 2) pe_int)) po_none)))))), ?_⟩
      intro m mo w x H1 s1 hm hmo hx
      have e0 := s1 _ _ ea
      have f0 := Int.emod_nonneg (mo : Int) (show (34 : Int) ≠ 0 by decide)
      have f1 := Int.emod_lt_of_pos (mo : Int) (show (0 : Int) < 34 by decide)
      refine ⟨_, rfl, _, _, rfl, rfl, _, rfl, iteB (fun _ => ?_) (fun _ => ?_)⟩
      · refine ⟨_, rfl, _, rfl, _, rfl, a, _, rfl, SqL.of e0, fun q1 g1 => ?_⟩
        rw [cut_hi]
        have z1 := same_new (o := HO.lst ((ns.map V.int).take m)) g1
        refine ⟨_, rfl, _, _, rfl, rfl, (by show (0 : Int) < 34; decide), (by show 1 ≤ sizeLine; decide), fun q2 g2 => ?_⟩
        have z2 := same_new (o := HO.lst [V.int ((mo : Int) % 34)]) g2
        refine ⟨q1, q2, _, _, rfl, rfl, z2 _ _ upd_same, upd_same, Nat.le_trans (by rw [List.length_take, List.length_map, List.length_singleton]; omega : _ ≤ 2000) (by decide), fun q3 g3 => ?_⟩
        have z3 := same_new (o := HO.lst ((ns.map V.int).take m ++ [V.int ((mo : Int) % 34)])) g3
        have z13 := z1.trans (z2.trans z3)
        refine ⟨_, rfl, _, rfl, _, _, rfl, rfl, _, rfl, a, _, rfl, SqL.of (z13 _ _ e0), fun q4 g4 => ?_⟩
        rw [show (m : Int) + 1 = ((m + 1 : Nat) : Int) by omega]
        rw [cut_lo]
        have z4 := same_new (o := HO.lst ((ns.map V.int).drop (m + 1))) g4
        refine ⟨q3, q4, _, _, rfl, rfl, z4 _ _ upd_same, upd_same, Nat.le_trans (by rw [List.length_append, List.length_take, List.length_drop, List.length_map, List.length_singleton]; omega : _ ≤ 5000) (by decide), fun q5 g5 => ?_⟩
        have zz := z13.trans (z4.trans (same_new (o := HO.lst (((ns.map V.int).take m ++ [V.int ((mo : Int) % 34)]) ++ (ns.map V.int).drop (m + 1))) g5))
        exact k (.ref q5) _ (s1.trans zz) (tg_mid upd_same hs hl (small_elt (by omega) (by omega)))
      refine ⟨_, rfl, rfl, _, rfl, iteB (fun _ => ?_) (fun _ => ?_)⟩
      · refine ⟨_, rfl, _, rfl, _, _, rfl, rfl, ⟨by decide, by decide, by decide⟩, (by show 4 ≤ sizeLine; decide), fun L hL => ?_⟩
        have z1 := same_new (o := HO.lst [V.int 32, .int 33, .int (-1), .int (10 ^ 9)]) hL
        obtain ⟨v, hv, av⟩ := at_mod (xs := [V.int 32, .int 33, .int (-1), .int (10 ^ 9)]) (m := (mo : Int)) 4 rfl (by decide)
        obtain ⟨i, rfl, i0, i1⟩ : ∃ i : Int, v = .int i ∧ -100 ≤ i ∧ i ≤ 1000000000 := by
          simp only [List.mem_cons, List.not_mem_nil, or_false] at hv
          rcases hv with rfl | rfl | rfl | rfl
          · exact ⟨_, rfl, by decide, by decide⟩
          · exact ⟨_, rfl, by decide, by decide⟩
          · exact ⟨_, rfl, by decide, by decide⟩
          · exact ⟨_, rfl, by decide, by decide⟩
        refine ⟨_, rfl, _, _, rfl, rfl, (by show (0 : Int) < 4; decide), L, _, _, _, rfl, rfl, SqL.of upd_same, av, ?_⟩
        refine ⟨_, rfl, _, _, rfl, rfl, ⟨by decide, by decide⟩, _, _, rfl, rfl, (by show (0 : Int) < 16; decide), (by show 2 ≤ sizeLine; decide), fun q2 g2 => ?_⟩
        have h0 := Int.emod_nonneg ((mo : Int) / 4) (show (16 : Int) ≠ 0 by decide)
        have h1 := Int.emod_lt_of_pos ((mo : Int) / 4) (show (0 : Int) < 16 by decide)
        have z2 := same_new (o := HO.lst [V.int i, .int ((mo : Int) / 4 % 16)]) g2
        refine ⟨a, q2, _, _, rfl, rfl, (z1.trans z2) _ _ e0, upd_same, Nat.le_trans (by rw [List.length_map]; show _ + 2 ≤ 2000; omega) (by decide), fun q5 g5 => ?_⟩
        refine k (.ref q5) _ (s1.trans (z1.trans (z2.trans (same_new g5)))) (tg_list upd_same (elts_app (elts_ints hs) (fun y hy => ?_)) (by rw [List.length_append, List.length_map]; show _ + 2 ≤ 5000; omega))
        simp only [List.mem_cons, List.not_mem_nil, or_false] at hy
        rcases hy with rfl | rfl
        · exact small_elt i0 i1
        · exact small_elt (by omega) (by omega)
      refine ⟨_, rfl, _, rfl, _, rfl, a, _, rfl, SqL.of e0, fun q1 g1 => ?_⟩
      rw [cut_hi]
      have z1 := same_new (o := HO.lst ((ns.map V.int).take m)) g1
      refine ⟨_, rfl, (by show 1 ≤ sizeLine; decide), fun q2 g2 => ?_⟩
      have z2 := same_new (o := HO.lst [x]) g2
      refine ⟨q1, q2, _, _, rfl, rfl, z2 _ _ upd_same, upd_same, Nat.le_trans (by rw [List.length_take, List.length_map, List.length_singleton]; omega : _ ≤ 2000) (by decide), fun q3 g3 => ?_⟩
      have z3 := same_new (o := HO.lst ((ns.map V.int).take m ++ [x])) g3
      have z13 := z1.trans (z2.trans z3)
      refine ⟨_, rfl, _, rfl, _, _, rfl, rfl, _, rfl, a, _, rfl, SqL.of (z13 _ _ e0), fun q4 g4 => ?_⟩
      rw [show (m : Int) + 1 = ((m + 1 : Nat) : Int) by omega]
      rw [cut_lo]
      have z4 := same_new (o := HO.lst ((ns.map V.int).drop (m + 1))) g4
      refine ⟨q3, q4, _, _, rfl, rfl, z4 _ _ upd_same, upd_same, Nat.le_trans (by rw [List.length_append, List.length_take, List.length_drop, List.length_map, List.length_singleton]; omega : _ ≤ 5000) (by decide), fun q5 g5 => ?_⟩
      have zz := z13.trans (z4.trans (same_new (o := HO.lst (((ns.map V.int).take m ++ [x]) ++ (ns.map V.int).drop (m + 1))) g5))
      exact k (.ref q5) _ (s1.trans zz) (tg_mid upd_same hs hl (hx.mono zz))
    obtain ⟨t4, r4, k4⟩ : ∃ tr, PSs ((cxOf CX0 P w K mg base ["_law_numbers", "_law_number", "_law_at", "_law_more", "_law_odd", "_law_way"] "_law_spoilt" (defScope s_law_spoilt) f cdv A outer s H E).nox) ((defBody s_law_spoilt).drop 4) tr ∧
        ∀ (m mo w : Nat) (x : V) (H1 : Hp), Same H H1 → m ≤ ns.length → mo < 2147483647 → Elt H1 x → tr { nx := fun _ H' => Q .non H', rt := Q } [some (.ref a), some (.int (n : Int)), some (.int (m : Int)), some (.int (mo : Int)), some x, some (.int (w : Int))] H1 := by
      refine ⟨_, (pss_cons (ps_if (pt_cmpR op_eq (pv 5) pe_int (nomark _)) (pss_one (ps_ret (pe_slice (slK K rfl) (pv 0) po_none (po_some (pv 2))))) pss_nil)
        (pss_cons (ps_if (pt_cmpR op_eq (pv 5) pe_int (nomark _)) (pss_one (ps_ret (pe_op op_cat (pe_slice (slK K rfl) (pv 0) po_none (po_some (pv 2))) (pe_slice (slK K rfl) (pv 0) (po_some (pe_op op_add (pv 2) pe_int)) po_none)))) pss_nil)
        (pss_cons (ps_if (pt_cmpR op_eq (pv 5) pe_int (nomark _)) (pss_one (ps_ret (pe_op op_cat (pe_op op_cat (pe_slice (slK K rfl) (pv 0) po_none (po_some (pv 2))) (pe_lst (pa_cons (pe_op op_mod (pv 3) pe_int) pa_nil))) (pe_slice (slK K rfl) (pv 0) (po_some (pv 2)) po_none)))) pss_nil)
        (pss_cons (ps_if (pt_cmpR op_eq (pv 5) pe_int (nomark _)) (pss_one (ps_ret (pe_ix (ixK K rfl) (pe_lst (pa_cons (pe_callTy (tupleK K rfl) rfl T.tuple PyProof.Rows.boot_tuple (pa_cons (pv 0) pa_nil)) (pa_cons pe_non (pa_cons pe_dict0 (pa_cons pe_str (pa_cons pe_int (pa_cons (pe_tup (pa_cons pe_int (pa_cons pe_int pa_nil))) pa_nil))))))) (pe_op op_mod (pv 3) pe_int) (fun _ _ => rfl)))) pss_nil)
        (@r8))))), ?_⟩
      intro m mo w x H1 s1 hm hmo hx
      have e0 := s1 _ _ ea
      have f0 := Int.emod_nonneg (mo : Int) (show (34 : Int) ≠ 0 by decide)
      have f1 := Int.emod_lt_of_pos (mo : Int) (show (0 : Int) < 34 by decide)
      refine ⟨_, rfl, rfl, _, rfl, iteB (fun _ => ?_) (fun _ => ?_)⟩
      · refine ⟨_, rfl, _, rfl, _, rfl, a, _, rfl, SqL.of e0, fun q1 g1 => ?_⟩
        rw [cut_hi]
        exact k (.ref q1) _ (s1.trans (same_new g1)) (tg_list upd_same (elts_take hs) (by rw [List.length_take, List.length_map]; omega))
      refine ⟨_, rfl, rfl, _, rfl, iteB (fun _ => ?_) (fun _ => ?_)⟩
      · refine ⟨_, rfl, _, rfl, _, rfl, a, _, rfl, SqL.of e0, fun q1 g1 => ?_⟩
        rw [cut_hi]
        have z1 := same_new (o := HO.lst ((ns.map V.int).take m)) g1
        refine ⟨_, rfl, _, rfl, _, _, rfl, rfl, _, rfl, a, _, rfl, SqL.of (z1 _ _ e0), fun q4 g4 => ?_⟩
        rw [show (m : Int) + 1 = ((m + 1 : Nat) : Int) by omega]
        rw [cut_lo]
        have z4 := same_new (o := HO.lst ((ns.map V.int).drop (m + 1))) g4
        refine ⟨q1, q4, _, _, rfl, rfl, z4 _ _ upd_same, upd_same, Nat.le_trans (by rw [List.length_take, List.length_drop, List.length_map]; omega : _ ≤ 5000) (by decide), fun q5 g5 => ?_⟩
        exact k (.ref q5) _ (s1.trans (z1.trans (z4.trans (same_new g5)))) (tg_list upd_same (elts_app (elts_take hs) (elts_drop hs)) (by rw [List.length_append, List.length_take, List.length_drop, List.length_map]; omega))
      refine ⟨_, rfl, rfl, _, rfl, iteB (fun _ => ?_) (fun _ => ?_)⟩
      · refine ⟨_, rfl, _, rfl, _, rfl, a, _, rfl, SqL.of e0, fun q1 g1 => ?_⟩
        rw [cut_hi]
        have z1 := same_new (o := HO.lst ((ns.map V.int).take m)) g1
        refine ⟨_, rfl, _, _, rfl, rfl, (by show (0 : Int) < 34; decide), (by show 1 ≤ sizeLine; decide), fun q2 g2 => ?_⟩
        have z2 := same_new (o := HO.lst [V.int ((mo : Int) % 34)]) g2
        refine ⟨q1, q2, _, _, rfl, rfl, z2 _ _ upd_same, upd_same, Nat.le_trans (by rw [List.length_take, List.length_map, List.length_singleton]; omega : _ ≤ 2000) (by decide), fun q3 g3 => ?_⟩
        have z3 := same_new (o := HO.lst ((ns.map V.int).take m ++ [V.int ((mo : Int) % 34)])) g3
        have z13 := z1.trans (z2.trans z3)
        refine ⟨_, rfl, _, rfl, _, rfl, a, _, rfl, SqL.of (z13 _ _ e0), fun q4 g4 => ?_⟩
        rw [cut_lo]
        have z4 := same_new (o := HO.lst ((ns.map V.int).drop (m))) g4
        refine ⟨q3, q4, _, _, rfl, rfl, z4 _ _ upd_same, upd_same, Nat.le_trans (by rw [List.length_append, List.length_take, List.length_drop, List.length_map, List.length_singleton]; omega : _ ≤ 5000) (by decide), fun q5 g5 => ?_⟩
        have zz := z13.trans (z4.trans (same_new (o := HO.lst (((ns.map V.int).take m ++ [V.int ((mo : Int) % 34)]) ++ (ns.map V.int).drop (m))) g5))
        exact k (.ref q5) _ (s1.trans zz) (tg_mid upd_same hs hl (small_elt (by omega) (by omega)))
      refine ⟨_, rfl, rfl, _, rfl, iteB (fun _ => ?_) (fun _ => ?_)⟩
      · refine ⟨_, rfl, a, _, rfl, .inl ⟨SqL.of e0, fun q1 g1 => ?_⟩⟩
        have z1 := same_new (o := HO.tup (ns.map V.int)) g1
        refine fun d hd => ?_
        have z2 := same_new (o := DictO d) hd
        refine ⟨(by show 2 ≤ sizeLine; decide), fun q3 g3 => ?_⟩
        have z3 := same_new (o := HO.tup [V.int 0, .int 0]) g3
        refine ⟨(by show 6 ≤ sizeLine; decide), fun L hL => ?_⟩
        have z4 := same_new (o := HO.lst [V.ref q1, .non, .ref d, .str "0", .int 5, .ref q3]) hL
        obtain ⟨v, hv, av⟩ := at_mod (xs := [V.ref q1, .non, .ref d, .str "0", .int 5, .ref q3]) (m := (mo : Int)) 6 rfl (by decide)
        have z34 := z3.trans z4
        have z24 := z2.trans z34
        refine ⟨_, rfl, _, _, rfl, rfl, (by show (0 : Int) < 6; decide), L, _, _, v, rfl, rfl, SqL.of upd_same, av, ?_⟩
        exact k v _ (s1.trans (z1.trans z24)) (six_tg (z24 _ _ upd_same) hs hl (z34 _ _ upd_same) (z4 _ _ upd_same) hv)
      exact k8 m mo w x H1 s1 hm hmo hx
    obtain ⟨t2, r2, k2⟩ : ∃ tr, PSs ((cxOf CX0 P w K mg base ["_law_numbers", "_law_number", "_law_at", "_law_more", "_law_odd", "_law_way"] "_law_spoilt" (defScope s_law_spoilt) f cdv A outer s H E).nox) ((defBody s_law_spoilt).drop 2) tr ∧
        ∀ (m mo : Nat) (H1 : Hp), Same H H1 → m ≤ ns.length → mo < 2147483647 → tr { nx := fun _ H' => Q .non H', rt := Q } [some (.ref a), some (.int (n : Int)), some (.int (m : Int)), some (.int (mo : Int)), none, none] H1 := by
      refine ⟨_, (pss_cons (ps_set (i := 4) sc_law_spoilt.nd rfl (by first | exact Or.inl rfl | exact Or.inr rfl) (pe_ix (ixK K rfl) (pe_lst (pa_cons pe_int (pa_cons (pe_un un_neg pe_int) (pa_cons pe_bl (pa_cons pe_non (pa_cons pe_str (pa_cons (pe_lst (pa_cons pe_int pa_nil)) (pa_cons (pe_op op_pow pe_int pe_int) (pa_cons pe_bl (pa_cons pe_int (pa_cons pe_int (pa_cons pe_int (pa_cons pe_int pa_nil))))))))))))) (pe_op op_mod (pv 3) pe_int) (fun _ _ => rfl)))
        (pss_cons (ps_set (i := 5) sc_law_spoilt.nd rfl (by first | exact Or.inl rfl | exact Or.inr rfl) (pe_op op_mod (pv 1) pe_int))
        (@r4))), ?_⟩
      intro m mo H1 s1 hm hmo
      refine ⟨_, rfl, (by show 1 ≤ sizeLine; decide), fun p hp => ?_⟩
      have z1 := same_new (o := HO.lst [V.int 0]) hp
      refine ⟨_, _, rfl, rfl, ⟨by decide, by decide, by decide⟩, (by show 12 ≤ sizeLine; decide), fun L hL => ?_⟩
      obtain ⟨x, hx, ax⟩ := at_mod (xs := [V.int 32, .int (-1), .bl true, .non, .str "0", .ref p, .int (10 ^ 20), .bl false, .int 16, .int 31, .int 15, .int 0]) (m := (mo : Int)) 12 rfl (by decide)
      have z2 := same_new (o := HO.lst [V.int 32, .int (-1), .bl true, .non, .str "0", .ref p, .int (10 ^ 20), .bl false, .int 16, .int 31, .int 15, .int 0]) hL
      refine ⟨_, rfl, _, _, rfl, rfl, (by show (0 : Int) < 12; decide), L, _, _, x, rfl, rfl, SqL.of upd_same, ax, ?_⟩
      refine ⟨_, rfl, _, _, rfl, rfl, (by show (0 : Int) < 8; decide), ?_⟩
      have ep := z2 p (.lst [.int 0]) upd_same
      have := k4 m mo (n % 8) x _ (s1.trans (z1.trans z2)) hm hmo (odd_elt ep hx)
      rw [show ((n % 8 : Nat) : Int) = (n : Int) % 8 by omega] at this
      exact this
    refine ⟨_, (pss_cons (ps_set (i := 2) sc_law_spoilt.nd rfl (by first | exact Or.inl rfl | exact Or.inr rfl) (pe_op op_mod (pe_op op_fdiv (pv 1) pe_int) (pe_op op_add (pe_callB (lenK K rfl) rfl T.len PySem.boot_len (pa_cons (pv 0) pa_nil)) pe_int)))
        (pss_cons (ps_set (i := 3) sc_law_spoilt.nd rfl (by first | exact Or.inl rfl | exact Or.inr rfl) (pe_op op_fdiv (pv 1) pe_int))
        (@r2))), ?_⟩
    refine ⟨_, rfl, _, _, rfl, rfl, ⟨by decide, by decide⟩, _, rfl, a, _, rfl, .inl (SqL.of ea), _, _, rfl, rfl, _, _, rfl, rfl, (by show (0 : Int) < (((ns.map V.int).length : Nat) : Int) + 1; omega), ?_⟩
    obtain ⟨m, em, hm⟩ : ∃ m : Nat, (n : Int) / 8 % ((((ns.map V.int).length : Nat) : Int) + 1) = (m : Int) ∧ m ≤ ns.length := by
      have f0 := Int.emod_nonneg ((n : Int) / 8) (show (((ns.map V.int).length : Nat) : Int) + 1 ≠ 0 by omega)
      have f1 := Int.emod_lt_of_pos ((n : Int) / 8) (show (0 : Int) < (((ns.map V.int).length : Nat) : Int) + 1 by omega)
      rw [List.length_map] at f0 f1 ⊢
      exact ⟨((n : Int) / 8 % ((ns.length : Int) + 1)).toNat, by omega, by omega⟩
    show gName 2 (.int ((n : Int) / 8 % ((((ns.map V.int).length : Nat) : Int) + 1))) _ _ _
    rw [em]
    refine ⟨_, rfl, _, _, rfl, rfl, ⟨by decide, by decide⟩, ?_⟩
    have := k2 m (n / 4096) H (Same.refl _) hm (by omega)
    rw [show ((n / 4096 : Nat) : Int) = (n : Int) / 4096 by omega] at this
    exact this
end
end K21
set_option Elab.async false
set_option linter.all false
set_option maxRecDepth 100000
set_option maxHeartbeats 1600000
namespace K21
open PySem L2 M4
theorem vmap_inj : ∀ {cs ds : List Int}, cs.map V.int = ds.map V.int → cs = ds
  | [], [], _ => rfl
  | [], _ :: _, h => nomatch h
  | _ :: _, [], h => nomatch h
  | c :: cs, d :: ds, h => by
    rw [List.map_cons, List.map_cons] at h
    injection h with h1 h2
    injection h1 with h1
    rw [h1, vmap_inj h2]
theorem eqI {K : PySem.W.Frag} {H : Hp} {p q : Addr} {ns : List Int} (h1 : SqL K H p (ns.map V.int)) (h2 : SqL K H q (ns.map V.int)) : EqL K H (EqD K H 0) p q true := by
  have := EqL.ints h1 h2
  rw [decide_eq_true rfl] at this
  exact this
theorem eqW {K : PySem.W.Frag} {H : Hp} {a a' : Addr} (c : H a = some (.tup [.str "pack"])) (c' : H a' = some (.tup [.str "pack"])) : EqL K H (EqD K H 0) a a' true := by
  refine ⟨_, _, .inr ⟨.inr ⟨SqT.of c, SqT.of c'⟩, rfl, fun _ => true, fun i x y hx hy => ?_, rfl⟩⟩
  rw [hx] at hy; cases hy
  have := List.mem_of_getElem? hx
  simp only [List.mem_cons, List.not_mem_nil, or_false] at this
  subst this
  exact .inr ⟨rfl, rfl, (by simp [eqV])⟩
noncomputable def spTold (K : PySem.W.Frag) : Sp := fun vs H Q _ => ∃ v, vs = [v] ∧ TCs K H v ∧ (∀ (a : Addr) (xs : List V) (cs : List Int), v = .ref a → H a = some (.lst xs) → unp xs [] = some (cs.map V.int) → ∀ l H', Same H H' → H l = none → H' l = some (.lst (cs.map V.int)) → Q (.ref l) H') ∧ ((∀ xs, rowOf H v = some xs → unp xs [] = none) → ∀ t H', Same H H' → H' t = some (.tup [.str "pack"]) → Q (.ref t) H')
noncomputable def spGood (K : PySem.W.Frag) : Sp := fun vs H Q _ => ∃ v, vs = [v] ∧ TG K H v ∧ ∀ H', Same H H' → Q (.bl true) H'
theorem row_mono {K : PySem.W.Frag} {H H' : Hp} {v : V} (t : TCs K H v) (s : Same H H') (h : ∀ xs, rowOf H v = some xs → unp xs [] = none) : ∀ xs, rowOf H' v = some xs → unp xs [] = none := fun xs hx => h xs (by rw [← rowOf_mono t.kd s]; exact hx)
section
variable {P : Program} {w : World} {K : PySem.W.Frag} {mg : Str → Option Value} {base : Heap} {cFE cC : Addr} {tC tL tH tF : Tok}
theorem sc_law_told : FnScope ["_law_thing", "_law_e"] ["_law_thing"] (defScope s_law_told) := ⟨rfl, rfl, rfl, by decide +kernel, rfl, by decide +kernel, by decide +kernel⟩
theorem ok_law_told {f : Addr} {fd : FuncData} (F : FunD K "_law_told" "_law_told" s_law_told .none f fd) (T : Txt K mg cFE cC tC tL tH tF) (g_unpacked : DefX P w K mg base 6 "unpacked" ["numbers"] [] (spUnG K cC)) (g__law_word : DefM P w K mg base 2 "_law_word" ["_law_e"] [] (spWord cC)) : FnOk P w K mg base CX0 7 f fd ["_law_thing"] (spTold K) := by
  refine F.ok sc_law_told (fun vs H Q E h => ?_) (fun cdv A outer s H vs Q E hr h => ?_)
  · obtain ⟨v, rfl, _⟩ := h; rfl
  · obtain ⟨v, rfl, tc, kY, kN⟩ := h
    have hu : _ + 64 < cLine := hr.units
    have hr1 : Room 2 _ := hr.mono (by decide)
    refine ⟨_, (pss_one (ps_tryG (i := 1) sc_law_told.nd rfl rfl rfl T.FolioError rfl rfl (fun pn XE R hx => (pss_one (ps_ret (pe_callX g_unpacked (hr.mono (by decide)) hx rfl (pa_cons (pv 0) pa_nil))))) (fun ea => (pss_one (ps_ret (pe_callM g__law_word hr1 rfl (pa_cons (pv 1) pa_nil))))))), ?_⟩
    refine ⟨_, rfl, v, rfl, tc, kY, fun hb H3 s3 => ⟨cC, rfl, T.eC, fun ea hea => ?_⟩⟩
    have ex : upd H3 ea (ExcO ea cC) ea = some (ExcO ea cC) := upd_same
    have s4 := s3.trans (same_new (o := ExcO ea cC) hea)
    exact ⟨_, rfl, rfl, ex, fun t H5 s5 ht et => kN hb t H5 (s4.trans s5) et⟩
theorem sc_law_good : FnScope ["_law_handed", "_law_due", "_law_kept", "_law_turn", "_law_found"] ["_law_handed"] (defScope s_law_good) := ⟨rfl, rfl, rfl, by decide +kernel, rfl, by decide +kernel, by decide +kernel⟩
theorem ok_law_good {f : Addr} {fd : FuncData} (F : FunD K "_law_good" "_law_good" s_law_good .none f fd) (T : Txt K mg cFE cC tC tL tH tF) (g__law_cells : Def P w K mg base 2 "_law_cells" ["_law_numbers"] [] (spLC K)) (g__law_told : Def P w K mg base 7 "_law_told" ["_law_thing"] [] (spTold K)) (g__law_whole : Def P w K mg base 1 "_law_whole" ["_law_found"] [] (spWhN K)) : FnOk P w K mg base CX0 8 f fd ["_law_handed"] (spGood K) := by
  refine F.ok sc_law_good (fun vs H Q E h => ?_) (fun cdv A outer s H vs Q E hr h => ?_)
  · obtain ⟨v, rfl, _⟩ := h; rfl
  · obtain ⟨v, rfl, ⟨tc, tx, st⟩, k⟩ := h
    have hu : _ + 64 < cLine := hr.units
    have hgd := hr.gd
    refine ⟨_, (pss_cons (ps_set (i := 1) sc_law_good.nd rfl (by first | exact Or.inl rfl | exact Or.inr rfl) (pe_callD g__law_cells (hr.mono (by decide)) rfl (pa_cons (pv 0) pa_nil)))
        (pss_cons (ps_set (i := 2) sc_law_good.nd rfl (by first | exact Or.inl rfl | exact Or.inr rfl) (pe_callTy (call_strV hu hgd) rfl T.str PyProof.Rows.boot_str (pa_cons (pv 0) pa_nil)))
        (pss_cons (ps_if (pt_cmp (pc_isN (pv 1))) (pss_one (ps_ret (pe_and (pe_cmpR (eqDK K rfl hu) (pe_callD g__law_told (hr.mono (by decide)) rfl (pa_cons (pv 0) pa_nil)) (pe_tup (pa_cons pe_str pa_nil)) (nomark _)) (pe_one (pe_cmpR op_eq (pe_callTy (call_strV hu hgd) rfl T.str PyProof.Rows.boot_str (pa_cons (pv 0) pa_nil)) (pv 2) (nomark _)))))) pss_nil)
        (pss_cons (ps_for PassesOwn.never rfl (pi_range1 rfl T.range (pa_cons pe_int pa_nil)) (pg_name (i := 3) sc_law_good.nd rfl (by first | exact Or.inl rfl | exact Or.inr rfl)) (pss_cons (ps_set (i := 4) sc_law_good.nd rfl (by first | exact Or.inl rfl | exact Or.inr rfl) (pe_callD g__law_told (hr.mono (by decide)) rfl (pa_cons (pv 0) pa_nil)))
        (pss_cons (ps_if (PW.pt (pw_or (pt_not (pt_val (isiK K rfl (pv 4) rfl T.isinstance rfl T.list PyProof.Rows.boot_list))) (pw_or (pt_cmpR (neDK K rfl hu) (pv 4) (pv 1) (nomark _)) (pw_or1 (pt_not (pt_val (pe_callB (allK K rfl rfl) rfl T.all PyProof.Rows.boot_all (pa_cons (pe_comp (N := ["_law_cell"]) (src := [none]) rfl ⟨rfl, rfl, rfl, rfl, rfl, by decide +kernel⟩ (piK K rfl (pv 4)) (fun s H C fp => pg_name (i := 0) (show (["_law_cell"] : List Str).Nodup by decide +kernel) rfl (by first | exact Or.inl rfl | exact Or.inr rfl)) (fun s H C fp => pts_nil) (fun s H C fp => (pe_callD g__law_whole (hr.mono (by decide)) rfl (pa_cons (pv 0) pa_nil)))) pa_nil)))))))) (pss_one (ps_ret pe_bl)) pss_nil)
        (pss_one (ps_expr (pe_bm PySem.F.plainAttrs_list PySem.F.slot_list_append PySem.F.type_list_append mt_append (pv 4) (pa_cons (pv 3) pa_nil)))))))
        (pss_one (ps_ret (pe_cmpR op_eq (pe_callTy (call_strV hu hgd) rfl T.str PyProof.Rows.boot_str (pa_cons (pv 0) pa_nil)) (pv 2) (nomark _)))))))), ?_⟩
    refine ⟨_, rfl, v, rfl, tc, fun a xs cs ev ea hun D H1 s1 hD eD => ?_, fun hno H1 s1 => ?_⟩
    · subst ev
      obtain ⟨cs', ecs, hcc, hcl⟩ := unp_ints hun
      have ecs := vmap_inj ecs
      subst ecs
      have ea1 := s1 _ _ ea
      refine ⟨_, rfl, .ref a, tx, rfl, st.mono s1, ?_⟩
      refine ⟨_, rfl, _, rfl, ?_⟩
      refine ⟨_, rfl, by decide, by decide, ?_⟩
      refine for_range (lo := 0) (n := 2) (fun i σ H3 => Same H1 H3 ∧ ∃ v3 v4 : Option V, σ = [some (.ref a), some (.ref D), some (.str tx), v3, v4]) ⟨Same.refl _, none, none, rfl⟩ ?_ ?_
      · rintro i σ H3 hi ⟨s3, v3, v4, rfl⟩
        have s13 := s1.trans s3
        refine ⟨_, rfl, .ref a, rfl, tc.mono s13, fun a4 xs4 cs4 ev ea4 hun4 F0 H4 s4 hF eF => ?_, fun hno => ?_⟩
        · cases ev
          have ex4 : xs4 = xs := by
            have e1 := s13 _ _ ea
            rw [e1] at ea4; cases ea4; rfl
          subst ex4
          have ecs : cs4 = cs := vmap_inj (Option.some.inj (hun4.symm.trans hun))
          subst ecs
          refine ⟨_, rfl, true, isList_lst eF, _, rfl, ?_⟩
          refine ⟨_, rfl, _, rfl, 0, F0, D, true, by decide, rfl, rfl, eqI (SqL.of eF) (SqL.of ((s3.trans s4) _ _ eD)), _, rfl, ?_⟩
          refine ⟨_, rfl, F0, rfl, ⟨_, SqL.of eF⟩, fun D2 hD2 => ?_⟩
          refine comp_fm (k := 0) (fun _ => .bl true) (fun _ => true) (src_list (SqL.of eF)) (by rw [List.length_map]; exact Nat.le_trans (by omega : _ ≤ 2000) (by decide)) hD2 (fun x _ H' Qb _ kk => kk H' (Same.refl _)) (fun x hx _ H' Q' sm kk => ?_) fun H6 s6 hD6 => ?_
          · obtain ⟨i, _, rfl⟩ := List.mem_map.mp hx
            exact ⟨_, rfl, .int i, rfl, .int i, kk H' (Same.refl _)⟩
          have e6 : H6 D2 = some (.lst ((List.replicate cs4.length true).map V.bl)) := by
            rw [hD6, filter_t, List.map_const', List.length_map, List.map_replicate]
          refine ⟨D2, _, rfl, SqL.of e6, _, rfl, ?_⟩
          rw [show (List.replicate cs4.length true).all id = true from by rw [List.all_eq_true]; intro x hx; exact (List.mem_replicate.mp hx).2]
          have eF6 := s6 _ _ eF
          have s36 := s3.trans (s4.trans s6)
          exact ⟨_, rfl, .inl ⟨rfl, _, SqL.of eF6⟩, _, rfl, F0, _, _, rfl, rfl, eF6, Nat.lt_of_lt_of_le (by rw [List.length_map]; omega : _ < 5000) (by decide), same_upd s36 (s3.free hF), _, _, rfl⟩
        · have := hno xs (rowOf_lst (s13 _ _ ea))
          rw [hun] at this; cases this
      · rintro σ H3 ⟨s3, v3, v4, rfl⟩
        have s13 := s1.trans s3
        refine ⟨_, rfl, .ref a, tx, rfl, st.mono s13, _, rfl, rfl, ?_⟩
        rw [decide_eq_true rfl]
        exact k H3 s13
    · refine ⟨_, rfl, v, tx, rfl, st.mono s1, ?_⟩
      refine ⟨_, rfl, _, rfl, ?_⟩
      refine ⟨_, rfl, v, rfl, tc.mono s1, fun a4 xs4 cs4 ev ea4 hun4 => ?_, fun _ t H2 s2 et => ?_⟩
      · subst ev
        have := row_mono tc s1 hno xs4 (rowOf_lst ea4)
        rw [hun4] at this; cases this
      · refine ⟨(by show 1 ≤ sizeLine; decide), fun p hp => ?_⟩
        have z3 := same_new (o := HO.tup [V.str "pack"]) hp
        refine ⟨0, t, p, true, by decide, rfl, rfl, eqW (z3 _ _ et) upd_same, _, rfl, ?_⟩
        have s3 := s1.trans (s2.trans z3)
        refine ⟨_, rfl, v, tx, rfl, st.mono s3, _, rfl, rfl, ?_⟩
        rw [decide_eq_true rfl]
        exact k _ s3
end
end K21
set_option Elab.async false
set_option linter.all false
set_option maxRecDepth 100000
set_option maxHeartbeats 1600000
namespace K21
open PySem L2 M4
noncomputable def spLaw (K : PySem.W.Frag) : Sp := fun vs H Q _ => ∃ (a : Addr) (ns : List Int), vs = [.ref a] ∧ SqL K H a (ns.map V.int) ∧ ∀ H', Q (.bl true) H'
section
variable {P : Program} {w : World} {K : PySem.W.Frag} {mg : Str → Option Value} {base : Heap} {cFE cC : Addr} {tC tL tH tF : Tok}
theorem sc_law : FnScope ["_law_script", "_law_number", "_law_numbers", "_law_handed"] ["_law_script"] (defScope s_law) := ⟨rfl, rfl, rfl, by decide +kernel, rfl, by decide +kernel, by decide +kernel⟩
theorem ok_law {f : Addr} {fd : FuncData} (F : FunD K "law" "law" s_law .none f fd) (T : Txt K mg cFE cC tC tL tH tF) (g_unpacked : DefX P w K mg base 6 "unpacked" ["numbers"] [] (spUnG K cC)) (g__law_draw : Def P w K mg base 1 "_law_draw" ["_law_script", "_law_k"] [] (spDraw K)) (g__law_pack : Def P w K mg base 2 "_law_pack" ["_law_script", "_law_first"] [] (spPackL K)) (g__law_full : Def P w K mg base 1 "_law_full" ["_law_number"] [] (spFull)) (g__law_spoilt : Def P w K mg base 1 "_law_spoilt" ["_law_numbers", "_law_number"] [] (spSpoilt K)) (g__law_good : Def P w K mg base 8 "_law_good" ["_law_handed"] [] (spGood K)) : FnOk P w K mg base CX0 9 f fd ["_law_script"] (spLaw K) := by
  refine F.ok sc_law (fun vs H Q E h => ?_) (fun cdv A outer s H vs Q E hr h => ?_)
  · obtain ⟨a, ns, rfl, _⟩ := h; rfl
  · obtain ⟨a, ns, rfl, hS, k⟩ := h
    have hu : _ + 64 < cLine := hr.units
    obtain ⟨t4, r4, k4⟩ : ∃ tr, PSs ((cxOf CX0 P w K mg base ["_law_script", "_law_number", "_law_numbers", "_law_handed"] "law" (defScope s_law) f cdv A outer s H E).nox) ((defBody s_law).drop 4) tr ∧
        ∀ (n : Nat) (L : Addr) (cs : List Int) (H1 : Hp), Same H H1 → H1 L = some (.lst (cs.map V.int)) → Sm cs → cs.length ≤ 1200 → tr { nx := fun _ H' => Q .non H', rt := Q } [some (.ref a), some (.int (n : Int)), some (.ref L), none] H1 := by
      refine ⟨_, (pss_cons (ps_set (i := 3) sc_law.nd rfl (by first | exact Or.inl rfl | exact Or.inr rfl) (pe_callTy (listK K rfl) rfl T.list PyProof.Rows.boot_list (pa_cons (pv 2) pa_nil)))
        (pss_cons (ps_if (pt_not (pt_val (pe_callD g__law_good (hr.mono (by decide)) rfl (pa_cons (pv 3) pa_nil)))) (pss_one (ps_ret pe_bl)) pss_nil)
        (pss_cons (ps_if (pt_not (pt_val (pe_callD g__law_good (hr.mono (by decide)) rfl (pa_cons (pe_callD g__law_spoilt (hr.mono (by decide)) rfl (pa_cons (pv 2) (pa_cons (pe_callD g__law_draw (hr.mono (by decide)) rfl (pa_cons (pv 0) (pa_cons pe_int pa_nil))) pa_nil))) pa_nil)))) (pss_one (ps_ret pe_bl)) pss_nil)
        (pss_cons (ps_expr (pe_bm PySem.F.plainAttrs_list PySem.F.slot_list_extend PySem.F.type_list_extend mt_extend (pv 3) (pa_cons (pe_lst (pa_cons (pe_op op_add (pe_op op_mod (pe_op op_fdiv (pv 1) pe_int) pe_int) pe_int) (pa_cons (pe_op op_mod (pe_op op_fdiv (pv 1) pe_int) pe_int) pa_nil))) pa_nil)))
        (pss_cons (ps_if (pt_not (pt_val (pe_callD g__law_good (hr.mono (by decide)) rfl (pa_cons (pv 3) pa_nil)))) (pss_one (ps_ret pe_bl)) pss_nil)
        (pss_cons (ps_expr (pe_bm0 PySem.F.plainAttrs_list PySem.F.slot_list_reverse PySem.F.type_list_reverse mt_reverse (pv 3)))
        (pss_one (ps_ret (pe_and (pe_callD g__law_good (hr.mono (by decide)) rfl (pa_cons (pv 3) pa_nil)) (pe_one (pe_cmpR (eqDK K rfl hu) (pe_callX g_unpacked (hr.mono (by decide)) passF rfl (pa_cons (pe_lst pa_nil) pa_nil)) (pe_lst pa_nil) (nomark _)))))))))))), ?_⟩
      intro n L cs H1 s1 eL hc hl
      refine ⟨_, rfl, L, _, rfl, .inl (SqL.of eL), fun G hG => ?_⟩
      have z2 := same_new (o := HO.lst (cs.map V.int)) hG
      have s2 := s1.trans z2
      have eL2 := z2 _ _ eL
      have eG2 : upd H1 G (.lst (cs.map V.int)) G = some (.lst (cs.map V.int)) := upd_same
      show tSeq _ _ _ _ (upd H1 G (.lst (cs.map V.int)))
      generalize upd H1 G (.lst (cs.map V.int)) = H2 at s2 eL2 eG2 ⊢
      refine ⟨_, rfl, .ref G, rfl, tg_ints eG2 hc (by omega), fun H3 s3 => ⟨_, rfl, ?_⟩⟩
      refine ⟨_, rfl, _, rfl, a, ns, 1, rfl, (s2.trans s3).seq hS, by decide, fun n1 H4 hn1 s4 => ?_⟩
      have s24 := s3.trans s4
      refine ⟨L, cs, n1, rfl, s24 _ _ eL2, hc, hl, hn1, fun v H5 s5 tg => ?_⟩
      refine ⟨v, rfl, tg, fun H6 s6 => ⟨_, rfl, ?_⟩⟩
      have s26 := s24.trans (s5.trans s6)
      have eG6 := s26 _ _ eG2
      refine ⟨_, rfl, .inl ⟨rfl, _, SqL.of eG6⟩, _, rfl, _, _, rfl, rfl, ⟨by decide, by decide⟩, _, _, rfl, rfl, (by show (0 : Int) < 16; decide), _, _, rfl, rfl, _, rfl, _, _, rfl, rfl, ⟨by decide, by decide⟩, _, _, rfl, rfl, (by show (0 : Int) < 16; decide), (by show 2 ≤ sizeLine; decide), fun q gq => ?_⟩
      have zq := same_new (o := HO.lst [V.int ((n : Int) / 64 % 16 + 16), .int ((n : Int) / 1024 % 16)]) gq
      refine ⟨G, q, _, _, rfl, rfl, zq _ _ eG6, upd_same, Nat.le_trans (by rw [List.length_map]; show _ + 2 ≤ 5000; omega) (by decide), ?_⟩
      have hc2 : Sm (cs ++ [(n : Int) / 64 % 16 + 16, (n : Int) / 1024 % 16]) := hc.app fun m hm => by
        simp only [List.mem_cons, List.not_mem_nil, or_false] at hm
        rcases hm with rfl | rfl <;> omega
      have hl2 : (cs ++ [(n : Int) / 64 % 16 + 16, (n : Int) / 1024 % 16]).length ≤ 1202 := by rw [List.length_append]; show _ + 2 ≤ _; omega
      have e7 : upd (upd H6 q (.lst [V.int ((n : Int) / 64 % 16 + 16), .int ((n : Int) / 1024 % 16)])) G (.lst (cs.map V.int ++ [V.int ((n : Int) / 64 % 16 + 16), .int ((n : Int) / 1024 % 16)])) G = some (.lst ((cs ++ [(n : Int) / 64 % 16 + 16, (n : Int) / 1024 % 16]).map V.int)) := by rw [upd_same, List.map_append]; rfl
      show tSeq _ _ _ _ (upd (upd H6 q (.lst [V.int ((n : Int) / 64 % 16 + 16), .int ((n : Int) / 1024 % 16)])) G (.lst (cs.map V.int ++ [V.int ((n : Int) / 64 % 16 + 16), .int ((n : Int) / 1024 % 16)])))
      generalize upd (upd H6 q (.lst [V.int ((n : Int) / 64 % 16 + 16), .int ((n : Int) / 1024 % 16)])) G (.lst (cs.map V.int ++ [V.int ((n : Int) / 64 % 16 + 16), .int ((n : Int) / 1024 % 16)])) = H7 at e7 ⊢
      generalize cs ++ [(n : Int) / 64 % 16 + 16, (n : Int) / 1024 % 16] = ds at hc2 hl2 e7
      refine ⟨_, rfl, .ref G, rfl, tg_ints e7 hc2 (by omega), fun H8 s8 => ⟨_, rfl, ?_⟩⟩
      have e8 := s8 _ _ e7
      refine ⟨_, rfl, .inl ⟨rfl, _, SqL.of e8⟩, G, _, rfl, rfl, e8, ?_⟩
      have e9 : upd H8 G (.lst (ds.map V.int).reverse) G = some (.lst (ds.reverse.map V.int)) := by rw [upd_same, List.map_reverse]
      show tSeq _ _ _ _ (upd H8 G (.lst (ds.map V.int).reverse))
      generalize upd H8 G (.lst (ds.map V.int).reverse) = H9 at e9 ⊢
      refine ⟨_, rfl, .ref G, rfl, tg_ints e9 (fun m hm => hc2 m (List.mem_reverse.mp hm)) (by rw [List.length_reverse]; omega), fun H10 s10 => ⟨_, rfl, ?_⟩⟩
      refine ⟨Nat.zero_le _, fun q2 g2 => ?_⟩
      have e2 : upd H10 q2 (.lst []) q2 = some (.lst (([] : List Int).map V.int)) := upd_same
      refine ⟨.ref q2, rfl, (tg_ints (ns := []) e2 (fun _ h => nomatch h) (Nat.zero_le _)).1, fun a3 xs3 cs3 ev e3 hun l H11 s11 _ el => ?_, fun hno => ?_⟩
      · cases ev
        rw [e2] at e3
        cases e3
        have hun : some [] = some (cs3.map V.int) := by rw [← hun]; exact (unp_nil []).symm
        have ec : cs3.map V.int = [] := (Option.some.inj hun).symm
        rw [ec] at el
        refine ⟨Nat.zero_le _, fun w0 hw => ?_⟩
        have zw := same_new (o := HO.lst []) hw
        exact ⟨0, l, w0, true, by decide, rfl, rfl, EqL.nil (SqL.of (zw _ _ el)) (SqL.of upd_same), k _⟩
      · have := hno [] (rowOf_lst e2)
        rw [unp_nil] at this; cases this
    obtain ⟨t3, r3, k3⟩ : ∃ tr, PSs ((cxOf CX0 P w K mg base ["_law_script", "_law_number", "_law_numbers", "_law_handed"] "law" (defScope s_law) f cdv A outer s H E).nox) ((defBody s_law).drop 3) tr ∧
        ∀ (n : Nat) (L : Addr) (cs : List Int) (H1 : Hp), Same H H1 → H1 L = some (.lst (cs.map V.int)) → Sm cs → cs.length ≤ 1200 → tr { nx := fun _ H' => Q .non H', rt := Q } [some (.ref a), some (.int (n : Int)), some (.ref L), none] H1 := by
      refine ⟨_, (pss_cons (ps_if (pt_cmpR op_eq (pe_op op_mod (pv 1) pe_int) pe_int (nomark _)) (pss_one (ps_set (i := 2) sc_law.nd rfl (by first | exact Or.inl rfl | exact Or.inr rfl) (pe_op op_rep (pe_lst (pa_cons pe_int (pa_cons (pe_op op_mod (pe_op op_fdiv (pv 1) pe_int) pe_int) pa_nil))) pe_int))) pss_nil)
        (@r4)), ?_⟩
      intro n L cs H1 s1 eL hc hl
      refine ⟨_, rfl, _, _, rfl, rfl, (by show (0 : Int) < 16; decide), rfl, _, rfl, iteB (fun _ => ?_) (fun _ => k4 n L cs H1 s1 eL hc hl)⟩
      have f0 := Int.emod_nonneg ((n : Int) / 16) (show (16 : Int) ≠ 0 by decide)
      have f1 := Int.emod_lt_of_pos ((n : Int) / 16) (show (0 : Int) < 16 by decide)
      refine ⟨_, rfl, _, _, rfl, rfl, ⟨by decide, by decide⟩, _, _, rfl, rfl, (by show (0 : Int) < 16; decide), (by show 2 ≤ sizeLine; decide), fun q2 g2 => ?_⟩
      show L2.tC _ _ (upd H1 q2 (.lst [.int 0, .int ((n : Int) / 16 % 16)])) _
      generalize (n : Int) / 16 % 16 = c at f0 f1 ⊢
      have z2 := same_new (o := HO.lst [V.int 0, .int c]) g2
      refine ⟨q2, 576, _, rfl, rfl, upd_same, by decide, by decide, (by show 2 * 576 ≤ sizeLine; decide), fun q3 g3 => ?_⟩
      have e3 : (List.replicate (576 : Int).toNat [V.int 0, .int c]).flatten = ((List.replicate 576 [(0 : Int), c]).flatten).map V.int := by
        rw [List.map_flatten, List.map_replicate]; rfl
      rw [e3]
      refine k4 n q3 ((List.replicate 576 [(0 : Int), c]).flatten) _ (s1.trans (z2.trans (same_new g3))) upd_same (fun m hm => ?_) ?_
      · obtain ⟨l, hl, hn⟩ := List.mem_flatten.mp hm
        rw [(List.mem_replicate.mp hl).2] at hn
        simp only [List.mem_cons, List.not_mem_nil, or_false] at hn
        rcases hn with rfl | rfl <;> omega
      · rw [len_rep]; show 576 * 2 ≤ 1200; decide
    refine ⟨_, (pss_cons (ps_set (i := 1) sc_law.nd rfl (by first | exact Or.inl rfl | exact Or.inr rfl) (pe_callD g__law_draw (hr.mono (by decide)) rfl (pa_cons (pv 0) (pa_cons pe_int pa_nil))))
        (pss_cons (ps_set (i := 2) sc_law.nd rfl (by first | exact Or.inl rfl | exact Or.inr rfl) (pe_callD g__law_pack (hr.mono (by decide)) rfl (pa_cons (pv 0) (pa_cons pe_int pa_nil))))
        (pss_cons (ps_if (pt_cmpR op_eq (pe_op op_mod (pv 1) pe_int) pe_int (nomark _)) (pss_one (ps_set (i := 2) sc_law.nd rfl (by first | exact Or.inl rfl | exact Or.inr rfl) (pe_callD g__law_full (hr.mono (by decide)) rfl (pa_cons (pe_op op_fdiv (pv 1) pe_int) pa_nil)))) pss_nil)
        (@r3)))), ?_⟩
    refine ⟨_, rfl, a, ns, 0, rfl, hS, by decide, fun n H1 hn s1 => ?_⟩
    refine ⟨_, rfl, a, ns, 2, rfl, s1.seq hS, by decide, fun L cs H2 s2 gL eL hc hl => ?_⟩
    have s12 := s1.trans s2
    refine ⟨_, rfl, _, _, rfl, rfl, (by show (0 : Int) < 16; decide), rfl, _, rfl, iteB (fun _ => ?_) (fun _ => k3 n L cs H2 s12 eL hc (by omega))⟩
    refine ⟨_, rfl, _, _, rfl, rfl, ⟨by decide, by decide⟩, n / 16, (by show [V.int ((n : Int) / 16)] = _; rw [show ((n / 16 : Nat) : Int) = (n : Int) / 16 by omega]), fun p ds H3 s3 gp ep hd hld => ?_⟩
    exact k3 n p ds H3 (s12.trans s3) ep hd (by omega)
end
end K21
set_option Elab.async false
set_option linter.all false
set_option maxRecDepth 100000
set_option maxHeartbeats 8000000
namespace K21
open PySem L2
theorem all_mk {l : PySem.W.OpenLaw} {w : World} {K : PySem.W.Frag} {h : Heap} {mg : Str → Option Value} {fa : Addr} (X : K.In h) (G : h.Ns mainGlobals mg) (hfa : mg "law" = some (.ref fa))
    {f1 f2 f3 f4 f5 f6 f7 f8 f9 f10 f11 f12 f13 f14 f15 f16 f17 f18 f19 cFE cC cBadCell cBadCheck cBadDeed cBadEdge cBadHead cBadMask cBadName cBadColour cBadPalette cBadPart cBadPicture cBadRule cBadRuns cBadSize cBadText cNoColour cNoPart cNoPicture cNothingDone cOutOfPlace cTooMany cTwice : Addr} {tC tL tH tF : Tok} {od1 an1 od2 an2 od3 an3 od4 an4 od5 an5 od6 an6 od7 an7 od8 an8 od9 an9 od10 an10 od11 an11 od12 an12 od13 an13 od14 an14 od15 an15 od16 an16 od17 an17 od18 an18 od19 an19 : Option Addr} {sl1 sl2 sl3 sl4 sl5 sl6 sl7 sl8 sl9 sl10 sl11 sl12 sl13 sl14 sl15 sl16 sl17 sl18 sl19 : Array (Option Value)} {oc1 kV1 dc1 pm1 cd1 ct1 oc2 kV2 dc2 pm2 cd2 ct2 oc3 kV3 dc3 pm3 cd3 ct3 oc4 kV4 dc4 pm4 cd4 ct4 oc5 kV5 dc5 pm5 cd5 ct5 oc6 kV6 dc6 pm6 cd6 ct6 oc7 kV7 dc7 pm7 cd7 ct7 oc8 kV8 dc8 pm8 cd8 ct8 oc9 kV9 dc9 pm9 cd9 ct9 oc10 kV10 dc10 pm10 cd10 ct10 oc11 kV11 dc11 pm11 cd11 ct11 oc12 kV12 dc12 pm12 cd12 ct12 oc13 kV13 dc13 pm13 cd13 ct13 oc14 kV14 dc14 pm14 cd14 ct14 oc15 kV15 dc15 pm15 cd15 ct15 oc16 kV16 dc16 pm16 cd16 ct16 oc17 kV17 dc17 pm17 cd17 ct17 oc18 kV18 dc18 pm18 cd18 ct18 oc19 kV19 dc19 pm19 cd19 ct19 : Value}
    (a1 : PySem.W.nsIn K mainGlobals "is_whole_from" = some (some (.ref f1))) (l1 : K.lookup f1 = some ⟨oc1, od1, .func (PySem.W.fnOf "is_whole_from" "is_whole_from" (defArgs s_is_whole_from) (defBody s_is_whole_from) (defScope s_is_whole_from) .none kV1 dc1 pm1 an1 cd1 ct1), sl1⟩) (c1 : PySem.W.codeIn K cd1 "is_whole_from" = true) (k1 : PySem.W.keepIn K (.ref f1) = true)
    (a2 : PySem.W.nsIn K mainGlobals "is_whole_within" = some (some (.ref f2))) (l2 : K.lookup f2 = some ⟨oc2, od2, .func (PySem.W.fnOf "is_whole_within" "is_whole_within" (defArgs s_is_whole_within) (defBody s_is_whole_within) (defScope s_is_whole_within) .none kV2 dc2 pm2 an2 cd2 ct2), sl2⟩) (c2 : PySem.W.codeIn K cd2 "is_whole_within" = true) (k2 : PySem.W.keepIn K (.ref f2) = true)
    (a3 : PySem.W.nsIn K mainGlobals "is_cell" = some (some (.ref f3))) (l3 : K.lookup f3 = some ⟨oc3, od3, .func (PySem.W.fnOf "is_cell" "is_cell" (defArgs s_is_cell) (defBody s_is_cell) (defScope s_is_cell) .none kV3 dc3 pm3 an3 cd3 ct3), sl3⟩) (c3 : PySem.W.codeIn K cd3 "is_cell" = true) (k3 : PySem.W.keepIn K (.ref f3) = true)
    (a4 : PySem.W.nsIn K mainGlobals "is_list_of" = some (some (.ref f4))) (l4 : K.lookup f4 = some ⟨oc4, od4, .func (PySem.W.fnOf "is_list_of" "is_list_of" (defArgs s_is_list_of) (defBody s_is_list_of) (defScope s_is_list_of) .none kV4 dc4 pm4 an4 cd4 ct4), sl4⟩) (c4 : PySem.W.codeIn K cd4 "is_list_of" = true) (k4 : PySem.W.keepIn K (.ref f4) = true)
    (a5 : PySem.W.nsIn K mainGlobals "is_list_of_cells" = some (some (.ref f5))) (l5 : K.lookup f5 = some ⟨oc5, od5, .func (PySem.W.fnOf "is_list_of_cells" "is_list_of_cells" (defArgs s_is_list_of_cells) (defBody s_is_list_of_cells) (defScope s_is_list_of_cells) .none kV5 dc5 pm5 an5 cd5 ct5), sl5⟩) (c5 : PySem.W.codeIn K cd5 "is_list_of_cells" = true) (k5 : PySem.W.keepIn K (.ref f5) = true)
    (a6 : PySem.W.nsIn K mainGlobals "cells_by_head" = some (some (.ref f6))) (l6 : K.lookup f6 = some ⟨oc6, od6, .func (PySem.W.fnOf "cells_by_head" "cells_by_head" (defArgs s_cells_by_head) (defBody s_cells_by_head) (defScope s_cells_by_head) .none kV6 dc6 pm6 an6 cd6 ct6), sl6⟩) (c6 : PySem.W.codeIn K cd6 "cells_by_head" = true) (k6 : PySem.W.keepIn K (.ref f6) = true)
    (a7 : PySem.W.nsIn K mainGlobals "cells_behind" = some (some (.ref f7))) (l7 : K.lookup f7 = some ⟨oc7, od7, .func (PySem.W.fnOf "cells_behind" "cells_behind" (defArgs s_cells_behind) (defBody s_cells_behind) (defScope s_cells_behind) .none kV7 dc7 pm7 an7 cd7 ct7), sl7⟩) (c7 : PySem.W.codeIn K cd7 "cells_behind" = true) (k7 : PySem.W.keepIn K (.ref f7) = true)
    (a8 : PySem.W.nsIn K mainGlobals "need_of_pack" = some (some (.ref f8))) (l8 : K.lookup f8 = some ⟨oc8, od8, .func (PySem.W.fnOf "need_of_pack" "need_of_pack" (defArgs s_need_of_pack) (defBody s_need_of_pack) (defScope s_need_of_pack) .none kV8 dc8 pm8 an8 cd8 ct8), sl8⟩) (c8 : PySem.W.codeIn K cd8 "need_of_pack" = true) (k8 : PySem.W.keepIn K (.ref f8) = true)
    (a9 : PySem.W.nsIn K mainGlobals "unpacked" = some (some (.ref f9))) (l9 : K.lookup f9 = some ⟨oc9, od9, .func (PySem.W.fnOf "unpacked" "unpacked" (defArgs s_unpacked) (defBody s_unpacked) (defScope s_unpacked) .none kV9 dc9 pm9 an9 cd9 ct9), sl9⟩) (c9 : PySem.W.codeIn K cd9 "unpacked" = true) (k9 : PySem.W.keepIn K (.ref f9) = true)
    (a10 : PySem.W.nsIn K mainGlobals "_law_draw" = some (some (.ref f10))) (l10 : K.lookup f10 = some ⟨oc10, od10, .func (PySem.W.fnOf "_law_draw" "_law_draw" (defArgs s_law_draw) (defBody s_law_draw) (defScope s_law_draw) .none kV10 dc10 pm10 an10 cd10 ct10), sl10⟩) (c10 : PySem.W.codeIn K cd10 "_law_draw" = true) (k10 : PySem.W.keepIn K (.ref f10) = true)
    (a11 : PySem.W.nsIn K mainGlobals "_law_whole" = some (some (.ref f11))) (l11 : K.lookup f11 = some ⟨oc11, od11, .func (PySem.W.fnOf "_law_whole" "_law_whole" (defArgs s_law_whole) (defBody s_law_whole) (defScope s_law_whole) .none kV11 dc11 pm11 an11 cd11 ct11), sl11⟩) (c11 : PySem.W.codeIn K cd11 "_law_whole" = true) (k11 : PySem.W.keepIn K (.ref f11) = true)
    (a12 : PySem.W.nsIn K mainGlobals "_law_word" = some (some (.ref f12))) (l12 : K.lookup f12 = some ⟨oc12, od12, .func (PySem.W.fnOf "_law_word" "_law_word" (defArgs s_law_word) (defBody s_law_word) (defScope s_law_word) .none kV12 dc12 pm12 an12 cd12 ct12), sl12⟩) (c12 : PySem.W.codeIn K cd12 "_law_word" = true) (k12 : PySem.W.keepIn K (.ref f12) = true)
    (a13 : PySem.W.nsIn K mainGlobals "_law_pack" = some (some (.ref f13))) (l13 : K.lookup f13 = some ⟨oc13, od13, .func (PySem.W.fnOf "_law_pack" "_law_pack" (defArgs s_law_pack) (defBody s_law_pack) (defScope s_law_pack) .none kV13 dc13 pm13 an13 cd13 ct13), sl13⟩) (c13 : PySem.W.codeIn K cd13 "_law_pack" = true) (k13 : PySem.W.keepIn K (.ref f13) = true)
    (a14 : PySem.W.nsIn K mainGlobals "_law_full" = some (some (.ref f14))) (l14 : K.lookup f14 = some ⟨oc14, od14, .func (PySem.W.fnOf "_law_full" "_law_full" (defArgs s_law_full) (defBody s_law_full) (defScope s_law_full) .none kV14 dc14 pm14 an14 cd14 ct14), sl14⟩) (c14 : PySem.W.codeIn K cd14 "_law_full" = true) (k14 : PySem.W.keepIn K (.ref f14) = true)
    (a15 : PySem.W.nsIn K mainGlobals "_law_cells" = some (some (.ref f15))) (l15 : K.lookup f15 = some ⟨oc15, od15, .func (PySem.W.fnOf "_law_cells" "_law_cells" (defArgs s_law_cells) (defBody s_law_cells) (defScope s_law_cells) .none kV15 dc15 pm15 an15 cd15 ct15), sl15⟩) (c15 : PySem.W.codeIn K cd15 "_law_cells" = true) (k15 : PySem.W.keepIn K (.ref f15) = true)
    (a16 : PySem.W.nsIn K mainGlobals "_law_spoilt" = some (some (.ref f16))) (l16 : K.lookup f16 = some ⟨oc16, od16, .func (PySem.W.fnOf "_law_spoilt" "_law_spoilt" (defArgs s_law_spoilt) (defBody s_law_spoilt) (defScope s_law_spoilt) .none kV16 dc16 pm16 an16 cd16 ct16), sl16⟩) (c16 : PySem.W.codeIn K cd16 "_law_spoilt" = true) (k16 : PySem.W.keepIn K (.ref f16) = true)
    (a17 : PySem.W.nsIn K mainGlobals "_law_told" = some (some (.ref f17))) (l17 : K.lookup f17 = some ⟨oc17, od17, .func (PySem.W.fnOf "_law_told" "_law_told" (defArgs s_law_told) (defBody s_law_told) (defScope s_law_told) .none kV17 dc17 pm17 an17 cd17 ct17), sl17⟩) (c17 : PySem.W.codeIn K cd17 "_law_told" = true) (k17 : PySem.W.keepIn K (.ref f17) = true)
    (a18 : PySem.W.nsIn K mainGlobals "_law_good" = some (some (.ref f18))) (l18 : K.lookup f18 = some ⟨oc18, od18, .func (PySem.W.fnOf "_law_good" "_law_good" (defArgs s_law_good) (defBody s_law_good) (defScope s_law_good) .none kV18 dc18 pm18 an18 cd18 ct18), sl18⟩) (c18 : PySem.W.codeIn K cd18 "_law_good" = true) (k18 : PySem.W.keepIn K (.ref f18) = true)
    (a19 : PySem.W.nsIn K mainGlobals "law" = some (some (.ref f19))) (l19 : K.lookup f19 = some ⟨oc19, od19, .func (PySem.W.fnOf "law" "law" (defArgs s_law) (defBody s_law) (defScope s_law) .none kV19 dc19 pm19 an19 cd19 ct19), sl19⟩) (c19 : PySem.W.codeIn K cd19 "law" = true) (k19 : PySem.W.keepIn K (.ref f19) = true)
    (z1 : PySem.W.nsIn K mainGlobals "len" = some none)
    (z2 : PySem.W.nsIn K mainGlobals "range" = some none)
    (z3 : PySem.W.nsIn K mainGlobals "isinstance" = some none)
    (z4 : PySem.W.nsIn K mainGlobals "int" = some none)
    (z5 : PySem.W.nsIn K mainGlobals "bool" = some none)
    (z6 : PySem.W.nsIn K mainGlobals "list" = some none)
    (z7 : PySem.W.nsIn K mainGlobals "all" = some none)
    (z8 : PySem.W.nsIn K mainGlobals "tuple" = some none)
    (z9 : PySem.W.nsIn K mainGlobals "str" = some none)
    (z10 : PySem.W.nsIn K mainGlobals "ValueError" = some none)
    (y1 : PySem.W.nsIn K mainGlobals "MOST_CELL" = some (some (.int 15 tC)))
    (y2 : PySem.W.nsIn K mainGlobals "MOST_LISTED" = some (some (.int 576 tL)))
    (y3 : PySem.W.nsIn K mainGlobals "MOST_HEAD" = some (some (.int 31 tH)))
    (y4 : PySem.W.nsIn K mainGlobals "FIRST_REPEAT" = some (some (.int 16 tF)))
    (x1 : PySem.W.nsIn K mainGlobals "FolioError" = some (some (.ref cFE)))
    (x2 : PySem.W.nsIn K mainGlobals "BadPack" = some (some (.ref cC)))
    (x3 : PySem.W.nsIn K mainGlobals "BadCell" = some (some (.ref cBadCell)))
    (x4 : PySem.W.nsIn K mainGlobals "BadCheck" = some (some (.ref cBadCheck)))
    (x5 : PySem.W.nsIn K mainGlobals "BadDeed" = some (some (.ref cBadDeed)))
    (x6 : PySem.W.nsIn K mainGlobals "BadEdge" = some (some (.ref cBadEdge)))
    (x7 : PySem.W.nsIn K mainGlobals "BadHead" = some (some (.ref cBadHead)))
    (x8 : PySem.W.nsIn K mainGlobals "BadMask" = some (some (.ref cBadMask)))
    (x9 : PySem.W.nsIn K mainGlobals "BadName" = some (some (.ref cBadName)))
    (x10 : PySem.W.nsIn K mainGlobals "BadColour" = some (some (.ref cBadColour)))
    (x11 : PySem.W.nsIn K mainGlobals "BadPalette" = some (some (.ref cBadPalette)))
    (x12 : PySem.W.nsIn K mainGlobals "BadPart" = some (some (.ref cBadPart)))
    (x13 : PySem.W.nsIn K mainGlobals "BadPicture" = some (some (.ref cBadPicture)))
    (x14 : PySem.W.nsIn K mainGlobals "BadRule" = some (some (.ref cBadRule)))
    (x15 : PySem.W.nsIn K mainGlobals "BadRuns" = some (some (.ref cBadRuns)))
    (x16 : PySem.W.nsIn K mainGlobals "BadSize" = some (some (.ref cBadSize)))
    (x17 : PySem.W.nsIn K mainGlobals "BadText" = some (some (.ref cBadText)))
    (x18 : PySem.W.nsIn K mainGlobals "NoColour" = some (some (.ref cNoColour)))
    (x19 : PySem.W.nsIn K mainGlobals "NoPart" = some (some (.ref cNoPart)))
    (x20 : PySem.W.nsIn K mainGlobals "NoPicture" = some (some (.ref cNoPicture)))
    (x21 : PySem.W.nsIn K mainGlobals "NothingDone" = some (some (.ref cNothingDone)))
    (x22 : PySem.W.nsIn K mainGlobals "OutOfPlace" = some (some (.ref cOutOfPlace)))
    (x23 : PySem.W.nsIn K mainGlobals "TooMany" = some (some (.ref cTooMany)))
    (x24 : PySem.W.nsIn K mainGlobals "Twice" = some (some (.ref cTwice)))
    (q1 : PySem.W.excIn K cC mroVE "ValueError.__new__" = true)
    (q2 : PySem.W.findIn K (.ref cC) "__getattribute__" = some (some (.builtin "BaseException.__getattribute__")))
    (q3 : PySem.W.findIn K (.ref cC) "__getattr__" = some none)
    (q4 : PySem.W.findIn K (.ref cC) "__class__" = some (some (.builtin "object.__class__")))
    (q5 : PySem.W.mroIn K cC (.type "BaseException") = some true)
    (q6 : PySem.W.mroIn K cC (.type "object") = some true)
    (q7 : PySem.W.isClsIn K cC = true)
    (q8 : PySem.W.subIn K (.ref cFE) (.type "BaseException") = some true)
    (q9 : PySem.W.isClsIn K cFE = true)
    (q10 : PySem.W.typeIn K (.ref cFE) = some (.type "type"))
    (q11 : PySem.W.subIn K (.ref cC) (.ref cFE) = some true)
    (q12 : PySem.W.kitOne K (.ref cC) (.ref cC) = some true)
    (q13 : PySem.W.kitOne K (.ref cC) (.type "ValueError") = some true)
    (q14 : PySem.W.kitOne K (.ref cC) (.ref cBadCell) = some false)
    (q15 : PySem.W.kitOne K (.ref cC) (.ref cBadCheck) = some false)
    (q16 : PySem.W.kitOne K (.ref cC) (.ref cBadDeed) = some false)
    (q17 : PySem.W.kitOne K (.ref cC) (.ref cBadEdge) = some false)
    (q18 : PySem.W.kitOne K (.ref cC) (.ref cBadHead) = some false)
    (q19 : PySem.W.kitOne K (.ref cC) (.ref cBadMask) = some false)
    (q20 : PySem.W.kitOne K (.ref cC) (.ref cBadName) = some false)
    (q21 : PySem.W.kitOne K (.ref cC) (.ref cBadColour) = some false)
    (q22 : PySem.W.kitOne K (.ref cC) (.ref cBadPalette) = some false)
    (q23 : PySem.W.kitOne K (.ref cC) (.ref cBadPart) = some false)
    (q24 : PySem.W.kitOne K (.ref cC) (.ref cBadPicture) = some false)
    (q25 : PySem.W.kitOne K (.ref cC) (.ref cBadRule) = some false)
    (q26 : PySem.W.kitOne K (.ref cC) (.ref cBadRuns) = some false)
    (q27 : PySem.W.kitOne K (.ref cC) (.ref cBadSize) = some false)
    (q28 : PySem.W.kitOne K (.ref cC) (.ref cBadText) = some false)
    (q29 : PySem.W.kitOne K (.ref cC) (.ref cNoColour) = some false)
    (q30 : PySem.W.kitOne K (.ref cC) (.ref cNoPart) = some false)
    (q31 : PySem.W.kitOne K (.ref cC) (.ref cNoPicture) = some false)
    (q32 : PySem.W.kitOne K (.ref cC) (.ref cNothingDone) = some false)
    (q33 : PySem.W.kitOne K (.ref cC) (.ref cOutOfPlace) = some false)
    (q34 : PySem.W.kitOne K (.ref cC) (.ref cTooMany) = some false)
    (q35 : PySem.W.kitOne K (.ref cC) (.ref cTwice) = some false)
    : ∃ fd : FuncData, (∀ (s : Shared) (v : Value), BindsTo s fd ⟨[v], []⟩ [("_law_script", v)]) ∧ ∀ base : Heap, K.In base → base.Ns mainGlobals mg → FnOk l.prog w K mg base CX0 9 fa fd ["_law_script"] (spLaw K) := by
  have e := hfa.symm.trans (PySem.W.mg_of X G a19)
  cases e
  have T : Txt K mg cFE cC tC tL tH tF := ⟨PySem.W.mg_none_of X G z1, PySem.W.mg_none_of X G z2, PySem.W.mg_none_of X G z3, PySem.W.mg_none_of X G z4, PySem.W.mg_none_of X G z5, PySem.W.mg_none_of X G z6, PySem.W.mg_none_of X G z7, PySem.W.mg_none_of X G z8, PySem.W.mg_none_of X G z9, PySem.W.mg_none_of X G z10, PySem.W.mg_of X G y1, PySem.W.mg_of X G y2, PySem.W.mg_of X G y3, PySem.W.mg_of X G y4, PySem.W.mg_of X G x1, PySem.W.mg_of X G x2, q1, ⟨q2, q3, q4, q5, q6, q7⟩, exm_mk q8 q9 q10 q11⟩
  have TC : TxtC K mg cC := ⟨q12, q13, ⟨_, PySem.W.mg_of X G x3, q14⟩, ⟨_, PySem.W.mg_of X G x4, q15⟩, ⟨_, PySem.W.mg_of X G x5, q16⟩, ⟨_, PySem.W.mg_of X G x6, q17⟩, ⟨_, PySem.W.mg_of X G x7, q18⟩, ⟨_, PySem.W.mg_of X G x8, q19⟩, ⟨_, PySem.W.mg_of X G x9, q20⟩, ⟨_, PySem.W.mg_of X G x10, q21⟩, ⟨_, PySem.W.mg_of X G x11, q22⟩, ⟨_, PySem.W.mg_of X G x12, q23⟩, ⟨_, PySem.W.mg_of X G x13, q24⟩, ⟨_, PySem.W.mg_of X G x14, q25⟩, ⟨_, PySem.W.mg_of X G x15, q26⟩, ⟨_, PySem.W.mg_of X G x16, q27⟩, ⟨_, PySem.W.mg_of X G x17, q28⟩, ⟨_, PySem.W.mg_of X G x18, q29⟩, ⟨_, PySem.W.mg_of X G x19, q30⟩, ⟨_, PySem.W.mg_of X G x20, q31⟩, ⟨_, PySem.W.mg_of X G x21, q32⟩, ⟨_, PySem.W.mg_of X G x22, q33⟩, ⟨_, PySem.W.mg_of X G x23, q34⟩, ⟨_, PySem.W.mg_of X G x24, q35⟩⟩
  have F1 := funD_mk (st := s_is_whole_from) l1 c1 k1
  have F2 := funD_mk (st := s_is_whole_within) l2 c2 k2
  have F3 := funD_mk (st := s_is_cell) l3 c3 k3
  have F4 := funD_mk (st := s_is_list_of) l4 c4 k4
  have F5 := funD_mk (st := s_is_list_of_cells) l5 c5 k5
  have F6 := funD_mk (st := s_cells_by_head) l6 c6 k6
  have F7 := funD_mk (st := s_cells_behind) l7 c7 k7
  have F8 := funD_mk (st := s_need_of_pack) l8 c8 k8
  have F9 := funD_mk (st := s_unpacked) l9 c9 k9
  have F10 := funD_mk (st := s_law_draw) l10 c10 k10
  have F11 := funD_mk (st := s_law_whole) l11 c11 k11
  have F12 := funD_mk (st := s_law_word) l12 c12 k12
  have F13 := funD_mk (st := s_law_pack) l13 c13 k13
  have F14 := funD_mk (st := s_law_full) l14 c14 k14
  have F15 := funD_mk (st := s_law_cells) l15 c15 k15
  have F16 := funD_mk (st := s_law_spoilt) l16 c16 k16
  have F17 := funD_mk (st := s_law_told) l17 c17 k17
  have F18 := funD_mk (st := s_law_good) l18 c18 k18
  have F19 := funD_mk (st := s_law) l19 c19 k19
  refine ⟨PySem.W.fnOf "law" "law" (defArgs s_law) (defBody s_law) (defScope s_law) .none kV19 dc19 pm19 an19 cd19 ct19, fun s v => .of_eq rfl, fun base kb nb => ?_⟩
  have g1 := F1.def (P := l.prog) (w := w) (mg := mg) (base := base) (ok_is_whole_from F1 T) (PySem.W.mg_of X G a1) (fun _ _ _ _ _ _ us hl => (by obtain ⟨u0, u1, rfl⟩ := len2 hl; rfl))
  have g2 := F2.def (P := l.prog) (w := w) (mg := mg) (base := base) (ok_is_whole_within F2 g1) (PySem.W.mg_of X G a2) (fun _ _ _ _ _ _ us hl => (by obtain ⟨u0, u1, u2, rfl⟩ := len3 hl; rfl))
  have g3A := F3.defA (P := l.prog) (w := w) (mg := mg) (base := base) (ok_is_cell F3 T g2) (fun _ _ _ _ _ _ us hl => (by obtain ⟨u0, rfl⟩ := len1 hl; rfl))
  have g3 := F3.def (P := l.prog) (w := w) (mg := mg) (base := base) (ok_is_cell F3 T g2) (PySem.W.mg_of X G a3) (fun _ _ _ _ _ _ us hl => (by obtain ⟨u0, rfl⟩ := len1 hl; rfl))
  have g4 := F4.def (P := l.prog) (w := w) (mg := mg) (base := base) (ok_is_list_of F4 T g3A) (PySem.W.mg_of X G a4) (fun _ _ _ _ _ _ us hl => (by obtain ⟨u0, u1, rfl⟩ := len2 hl; rfl))
  have g5 := F5.def (P := l.prog) (w := w) (mg := mg) (base := base) (ok_is_list_of_cells F5 (PySem.W.mg_of X G a3) g4) (PySem.W.mg_of X G a5) (fun _ _ _ _ _ _ us hl => (by obtain ⟨u0, rfl⟩ := len1 hl; rfl))
  have g6 := F6.def (P := l.prog) (w := w) (mg := mg) (base := base) (ok_cells_by_head F6 T) (PySem.W.mg_of X G a6) (fun _ _ _ _ _ _ us hl => (by obtain ⟨u0, rfl⟩ := len1 hl; rfl))
  have g7 := F7.def (P := l.prog) (w := w) (mg := mg) (base := base) (ok_cells_behind F7 T) (PySem.W.mg_of X G a7) (fun _ _ _ _ _ _ us hl => (by obtain ⟨u0, rfl⟩ := len1 hl; rfl))
  have g8 := F8.defX (P := l.prog) (w := w) (mg := mg) (base := base) (ok_need_of_pack F8 T) (PySem.W.mg_of X G a8) (fun _ _ _ _ _ _ us hl => (by obtain ⟨u0, rfl⟩ := len1 hl; rfl))
  have g9 := F9.defX (P := l.prog) (w := w) (mg := mg) (base := base) (ok_unpacked F9 T g8 g2 g7 g6 g5) (PySem.W.mg_of X G a9) (fun _ _ _ _ _ _ us hl => (by obtain ⟨u0, rfl⟩ := len1 hl; rfl))
  have g10 := F10.def (P := l.prog) (w := w) (mg := mg) (base := base) (ok_law_draw F10 T) (PySem.W.mg_of X G a10) (fun _ _ _ _ _ _ us hl => (by obtain ⟨u0, u1, rfl⟩ := len2 hl; rfl))
  have g11 := F11.def (P := l.prog) (w := w) (mg := mg) (base := base) (ok_law_whole F11 T) (PySem.W.mg_of X G a11) (fun _ _ _ _ _ _ us hl => (by obtain ⟨u0, rfl⟩ := len1 hl; rfl))
  have g12 := F12.defM (P := l.prog) (w := w) (mg := mg) (base := base) (ok_law_word F12 T TC) (PySem.W.mg_of X G a12) (fun _ _ _ _ _ _ us hl => (by obtain ⟨u0, rfl⟩ := len1 hl; rfl))
  have g13 := F13.def (P := l.prog) (w := w) (mg := mg) (base := base) (ok_law_pack F13 T g10) (PySem.W.mg_of X G a13) (fun _ _ _ _ _ _ us hl => (by obtain ⟨u0, u1, rfl⟩ := len2 hl; rfl))
  have g14 := F14.def (P := l.prog) (w := w) (mg := mg) (base := base) (ok_law_full F14 T) (PySem.W.mg_of X G a14) (fun _ _ _ _ _ _ us hl => (by obtain ⟨u0, rfl⟩ := len1 hl; rfl))
  have g15 := F15.def (P := l.prog) (w := w) (mg := mg) (base := base) (ok_law_cells F15 T g11) (PySem.W.mg_of X G a15) (fun _ _ _ _ _ _ us hl => (by obtain ⟨u0, rfl⟩ := len1 hl; rfl))
  have g16 := F16.def (P := l.prog) (w := w) (mg := mg) (base := base) (ok_law_spoilt F16 T) (PySem.W.mg_of X G a16) (fun _ _ _ _ _ _ us hl => (by obtain ⟨u0, u1, rfl⟩ := len2 hl; rfl))
  have g17 := F17.def (P := l.prog) (w := w) (mg := mg) (base := base) (ok_law_told F17 T g9 g12) (PySem.W.mg_of X G a17) (fun _ _ _ _ _ _ us hl => (by obtain ⟨u0, rfl⟩ := len1 hl; rfl))
  have g18 := F18.def (P := l.prog) (w := w) (mg := mg) (base := base) (ok_law_good F18 T g15 g17 g11) (PySem.W.mg_of X G a18) (fun _ _ _ _ _ _ us hl => (by obtain ⟨u0, rfl⟩ := len1 hl; rfl))
  exact ok_law F19 T g9 g10 g13 g14 g16 g18
theorem walk {l : PySem.W.OpenLaw} {q : Program} {loose : List Str} {XP : (Str → Option Value) → Heap → Prop} {YP : World → Heap → Prop} {d : DefRec} {K : Params → PySem.W.Frag} (hn : l.most = some 63) (hdf : d.params.defaults = [])
    (hY : ∀ (w : World) (h : Heap), YP w h → (K w.params).In h)
    (F : ∀ (w : World) (mg : Str → Option Value) (fa : Addr) (h : Heap), (K w.params).In h → h.Ns mainGlobals mg → mg d.name = some (.ref fa) →
      ∃ fd : FuncData, (∀ (s : Shared) (u : Value), BindsTo s fd ⟨[u], []⟩ [("_law_script", u)]) ∧ ∀ base : Heap, (K w.params).In base → base.Ns mainGlobals mg → FnOk l.prog w (K w.params) mg base CX0 9 fa fd ["_law_script"] (spLaw (K w.params))) :
    PySem.W.WalkO q loose XP YP l.row.toRowW d [] (fun f vs => PySem.call f vs) :=
  L2.walk_ofB (n := 63) (k := 9) (x := "_law_script") (CX := CX0) (sp := spLaw) hn (by decide) hdf ⟨rfl, by decide, by decide, rfl⟩ hY F (fun _ _ a ns _ hb _ hS => ⟨a, ns, rfl, hS, fun _ => rfl⟩) fun _ _ _ _ z => z
end K21
open PySem PySem.W PyProof.Rows
set_option Elab.async false
noncomputable def PySem.W.Fast.tw5672556091989154572 : PySem.Program := PySem.Challenge.pw_cellfolio_k21_packs_read
theorem PySem.W.Fast.te5672556091989154572 : PySem.Challenge.pw_cellfolio_k21_packs_read = PySem.W.Fast.tw5672556091989154572 := rfl
def PySem.W.Fast.tw7183888623663784704 : Nat := 0
def PySem.W.Fast.tw2248047940400026338 : Nat := 0
def PySem.W.Fast.tw3174444428989613763 : Nat := 0
def PySem.W.Fast.tw10059688667750745604 : Nat := 0
def PySem.W.Fast.tw4554293766345329222 : Nat := 0
def PySem.W.Fast.tw6989593983233165671 : Nat := 0
def PySem.W.Fast.tw13995610497005272299 : Nat := 0
def PySem.W.Fast.tw4025726418050138699 : Nat := 0
def PySem.W.Fast.tw11680746789790197100 : Nat := 0
def PySem.W.Fast.tw4394035137988594669 : Nat := 0
def PySem.W.Fast.tw2863298602124251054 : Nat := 0
def PySem.W.Fast.tw14194113695840225583 : Nat := 0
def PySem.W.Fast.tw7170590216002975503 : Nat := 0
def PySem.W.Fast.tw11239835261388485584 : Nat := 0
def PySem.W.Fast.tw10192421405700918801 : Nat := 0
def PySem.W.Fast.tw14783326488499947826 : Nat := 0
def PySem.W.Fast.tw3599080931651180178 : Nat := 0
def PySem.W.Fast.tw15763004866661443059 : Nat := 0
def PySem.W.Fast.tw10517554550927102644 : Nat := 0
def PySem.W.Fast.tw6780789965176221428 : Nat := 0
def PySem.W.Fast.tw13539280463424289974 : Nat := 0
def PySem.W.Fast.tw12595977989255124246 : Nat := 0
def PySem.W.Fast.tw12412129169339599895 : Nat := 0
def PySem.W.Fast.tw13908310288422178903 : Nat := 0
def PySem.W.Fast.tw9300231429719436951 : Nat := 0
def PySem.W.Fast.tw13822340531075709433 : Nat := 0
def PySem.W.Fast.tw4187344297732627097 : Nat := 0
def PySem.W.Fast.tw2928192443733832345 : Nat := 0
def PySem.W.Fast.tw17473533821887139355 : Nat := 0
def PySem.W.Fast.tw12486150337995550651 : Nat := 0
def PySem.W.Fast.tw5119858071657248220 : Nat := 0
set_option maxRecDepth 100000 in
set_option maxHeartbeats 0 in
theorem PySem.Challenge.cw_cellfolio_k21_packs_read_holds : PySem.Challenge.rw_cellfolio_k21_packs_read.Holds := by
  w_on; o_law; k_head; (case hw => w_witness2)
  k_fill
  refine K21.walk (l := PySem.Challenge.rw_cellfolio_k21_packs_read) rfl rfl (fun w h Y => PySem.W.kIn_of Y) ?F
  case F =>
    intro w mg fa h KX G hmg
    refine' K21.all_mk KX G hmg ?a1 ?l1 ?c1 ?k1 ?a2 ?l2 ?c2 ?k2 ?a3 ?l3 ?c3 ?k3 ?a4 ?l4 ?c4 ?k4 ?a5 ?l5 ?c5 ?k5 ?a6 ?l6 ?c6 ?k6 ?a7 ?l7 ?c7 ?k7 ?a8 ?l8 ?c8 ?k8 ?a9 ?l9 ?c9 ?k9 ?a10 ?l10 ?c10 ?k10 ?a11 ?l11 ?c11 ?k11 ?a12 ?l12 ?c12 ?k12 ?a13 ?l13 ?c13 ?k13 ?a14 ?l14 ?c14 ?k14 ?a15 ?l15 ?c15 ?k15 ?a16 ?l16 ?c16 ?k16 ?a17 ?l17 ?c17 ?k17 ?a18 ?l18 ?c18 ?k18 ?a19 ?l19 ?c19 ?k19 ?z1 ?z2 ?z3 ?z4 ?z5 ?z6 ?z7 ?z8 ?z9 ?z10 ?y1 ?y2 ?y3 ?y4 ?x1 ?x2 ?x3 ?x4 ?x5 ?x6 ?x7 ?x8 ?x9 ?x10 ?x11 ?x12 ?x13 ?x14 ?x15 ?x16 ?x17 ?x18 ?x19 ?x20 ?x21 ?x22 ?x23 ?x24 ?q1 ?q2 ?q3 ?q4 ?q5 ?q6 ?q7 ?q8 ?q9 ?q10 ?q11 ?q12 ?q13 ?q14 ?q15 ?q16 ?q17 ?q18 ?q19 ?q20 ?q21 ?q22 ?q23 ?q24 ?q25 ?q26 ?q27 ?q28 ?q29 ?q30 ?q31 ?q32 ?q33 ?q34 ?q35
    (case a1 => k_is)
    (case l1 => k_is)
    (case c1 => k_is)
    (case k1 => k_is)
    (case a2 => k_is)
    (case l2 => k_is)
    (case c2 => k_is)
    (case k2 => k_is)
    (case a3 => k_is)
    (case l3 => k_is)
    (case c3 => k_is)
    (case k3 => k_is)
    (case a4 => k_is)
    (case l4 => k_is)
    (case c4 => k_is)
    (case k4 => k_is)
    (case a5 => k_is)
    (case l5 => k_is)
    (case c5 => k_is)
    (case k5 => k_is)
    (case a6 => k_is)
    (case l6 => k_is)
    (case c6 => k_is)
    (case k6 => k_is)
    (case a7 => k_is)
    (case l7 => k_is)
    (case c7 => k_is)
    (case k7 => k_is)
    (case a8 => k_is)
    (case l8 => k_is)
    (case c8 => k_is)
    (case k8 => k_is)
    (case a9 => k_is)
    (case l9 => k_is)
    (case c9 => k_is)
    (case k9 => k_is)
    (case a10 => k_is)
    (case l10 => k_is)
    (case c10 => k_is)
    (case k10 => k_is)
    (case a11 => k_is)
    (case l11 => k_is)
    (case c11 => k_is)
    (case k11 => k_is)
    (case a12 => k_is)
    (case l12 => k_is)
    (case c12 => k_is)
    (case k12 => k_is)
    (case a13 => k_is)
    (case l13 => k_is)
    (case c13 => k_is)
    (case k13 => k_is)
    (case a14 => k_is)
    (case l14 => k_is)
    (case c14 => k_is)
    (case k14 => k_is)
    (case a15 => k_is)
    (case l15 => k_is)
    (case c15 => k_is)
    (case k15 => k_is)
    (case a16 => k_is)
    (case l16 => k_is)
    (case c16 => k_is)
    (case k16 => k_is)
    (case a17 => k_is)
    (case l17 => k_is)
    (case c17 => k_is)
    (case k17 => k_is)
    (case a18 => k_is)
    (case l18 => k_is)
    (case c18 => k_is)
    (case k18 => k_is)
    (case a19 => k_is)
    (case l19 => k_is)
    (case c19 => k_is)
    (case k19 => k_is)
    (case z1 => k_is)
    (case z2 => k_is)
    (case z3 => k_is)
    (case z4 => k_is)
    (case z5 => k_is)
    (case z6 => k_is)
    (case z7 => k_is)
    (case z8 => k_is)
    (case z9 => k_is)
    (case z10 => k_is)
    (case y1 => k_is)
    (case y2 => k_is)
    (case y3 => k_is)
    (case y4 => k_is)
    (case x1 => k_is)
    (case x2 => k_is)
    (case x3 => k_is)
    (case x4 => k_is)
    (case x5 => k_is)
    (case x6 => k_is)
    (case x7 => k_is)
    (case x8 => k_is)
    (case x9 => k_is)
    (case x10 => k_is)
    (case x11 => k_is)
    (case x12 => k_is)
    (case x13 => k_is)
    (case x14 => k_is)
    (case x15 => k_is)
    (case x16 => k_is)
    (case x17 => k_is)
    (case x18 => k_is)
    (case x19 => k_is)
    (case x20 => k_is)
    (case x21 => k_is)
    (case x22 => k_is)
    (case x23 => k_is)
    (case x24 => k_is)
    (case q1 => k_exc)
    (case q2 => k_is)
    (case q3 => k_is)
    (case q4 => k_is)
    (case q5 => k_is)
    (case q6 => k_is)
    (case q7 => k_is)
    (case q8 => k_is)
    (case q9 => k_is)
    (case q10 => k_is)
    (case q11 => k_is)
    (case q12 => kit_is)
    (case q13 => kit_is)
    (case q14 => kit_is)
    (case q15 => kit_is)
    (case q16 => kit_is)
    (case q17 => kit_is)
    (case q18 => kit_is)
    (case q19 => kit_is)
    (case q20 => kit_is)
    (case q21 => kit_is)
    (case q22 => kit_is)
    (case q23 => kit_is)
    (case q24 => kit_is)
    (case q25 => kit_is)
    (case q26 => kit_is)
    (case q27 => kit_is)
    (case q28 => kit_is)
    (case q29 => kit_is)
    (case q30 => kit_is)
    (case q31 => kit_is)
    (case q32 => kit_is)
    (case q33 => kit_is)
    (case q34 => kit_is)
    (case q35 => kit_is)
#print axioms PySem.Challenge.cw_cellfolio_k21_packs_read_holds
