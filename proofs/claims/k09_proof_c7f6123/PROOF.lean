import PyProof.Rows.All
import Wide.All
import OpenK.AllK
import Wide.FinOn
import Lean
import PyProof.EqAt
import PyProof.EqKinds
import PyProof.NeKinds
import PyProof.ZipIter
import PyProof.Rows.ZipGen
import PyProof.ExcArgs
import PyProof.CompUse
import PyProof.TupleCall
import PyProof.CompFree
import PyProof.Cells
import OpenK.KEqL
import KE.KEqDict
import PyProof.EnumIter
import PyProof.EnumFor
import PyProof.EnumMake
import PyProof.EnumStmt
import PyProof.Rows.EnumRows
import KE.KRevIter
import PyProof.StrWalks
import PyProof.StrCalls2
import PyProof.Rows.StrJoin2
import PyProof.StrLawsTight
import PyProof.StrLawsIn
import PyProof.SliceStr2
import PyProof.StrBlockI
import PyProof.StrLawsOcc
import PyProof.ConsumeS
import PyProof.MinMaxWalk
import PyProof.WalkInts
import KE.KRevSl
import KE.KLam
import KE.KNestM
import OpenK.KRaise
import PyProof.Draws
import PyProof.StrOps2
import KE.KDflt
import PyProof.LongRange
import KE.KUnpack
import PyProof.Rows.IntBool
import KE.RegKIsAll
import PySem.Challenge.RW_cellfolio_k09_cut_and_thinned
set_option Elab.async false
set_option linter.all false
set_option maxRecDepth 100000
namespace L2
open PySem PySem.Spec PyProof.Rows
abbrev Key := Sum Int Str
def keyIs : Key → Value → Bool
  | .inl k, v => Value.isInt k v
  | .inr x, v => Value.isStrOf x v
def keyH (w : World) : Key → Int
  | .inl k => hashInt k
  | .inr x => hashStr w x
theorem keyIs_shape : ∀ {k : Key} {v : Value}, keyIs k v = true → (∃ i t, k = Sum.inl i ∧ v = Value.int i t) ∨ (∃ x t, k = Sum.inr x ∧ v = Value.str x t)
  | .inl i, v, h => by
    obtain ⟨t, e⟩ := Value.isInt_shape (k := i) (v := v) h
    exact .inl ⟨i, t, rfl, e⟩
  | .inr x, v, h => by
    obtain ⟨t, e⟩ := Value.isStrOf_shape (x := x) (v := v) h
    exact .inr ⟨x, t, rfl, e⟩
theorem key_ll (a b : Int) : decide ((Sum.inl a : Key) = Sum.inl b) = (a == b) := by
  by_cases e : a = b
  · subst e; simp
  · have h : ¬ (Sum.inl a : Key) = Sum.inl b := fun q => e (Sum.inl.inj q)
    rw [decide_eq_false h]
    exact (beq_eq_false_iff_ne.mpr e).symm
theorem key_rr (a b : Str) : decide ((Sum.inr a : Key) = Sum.inr b) = decide (a = b) := by
  by_cases e : a = b
  · subst e; simp
  · have h : ¬ (Sum.inr a : Key) = Sum.inr b := fun q => e (Sum.inr.inj q)
    rw [decide_eq_false h, decide_eq_false e]
theorem key_lr (a : Int) (b : Str) : decide ((Sum.inl a : Key) = Sum.inr b) = false := decide_eq_false (fun q => nomatch q)
theorem key_rl (a : Str) (b : Int) : decide ((Sum.inr a : Key) = Sum.inl b) = false := decide_eq_false (fun q => nomatch q)
def mixKind (prog : Program) (w : World) : PySem.KeyKind prog w Key where
  is := keyIs
  hash := keyH w
  inj := fun v a b ha hb => by
    rcases keyIs_shape ha with ⟨i, t, rfl, rfl⟩ | ⟨x, t, rfl, rfl⟩
    · rcases keyIs_shape hb with ⟨j, u, rfl, e⟩ | ⟨y, u, rfl, e⟩
      · injection e with e1 _; rw [e1]
      · exact nomatch e
    · rcases keyIs_shape hb with ⟨j, u, rfl, e⟩ | ⟨y, u, rfl, e⟩
      · exact nomatch e
      · injection e with e1 _; rw [e1]
  byValue := fun k v h => by
    rcases keyIs_shape h with ⟨i, t, rfl, rfl⟩ | ⟨x, t, rfl, rfl⟩ <;> rfl
  pyHash := fun hv h => by
    rcases keyIs_shape hv with ⟨i, t, rfl, rfl⟩ | ⟨x, t, rfl, rfl⟩
    · exact wpAny_pyHash_int h
    · exact wpAny_pyHash_str h
  eqBool := fun hu hv h => by
    rcases keyIs_shape hu with ⟨i, t, rfl, rfl⟩ | ⟨x, t, rfl, rfl⟩
    · rcases keyIs_shape hv with ⟨j, u, rfl, rfl⟩ | ⟨y, u, rfl, rfl⟩
      · rw [key_ll] at h; exact wpAny_eqBool_int h
      · rw [key_lr] at h; exact SeqAt.EqAt.int_str i t y u _ _ _ _ h
    · rcases keyIs_shape hv with ⟨j, u, rfl, rfl⟩ | ⟨y, u, rfl, rfl⟩
      · rw [key_rl] at h; exact SeqAt.EqAt.str_int x t j u _ _ _ _ h
      · rw [key_rr] at h; exact wpAny_eqBool_str h
  «strs» := fun k x t v h => by
    rcases keyIs_shape h with ⟨i, u, rfl, e⟩ | ⟨y, u, rfl, e⟩
    · exact nomatch e
    · injection e with e1 _
      subst e1
      cases v <;> rfl
end L2
namespace L2
open PySem PySem.Spec PyProof.Rows
inductive V where
  | non | bl (b : Bool) | int (i : Int) | str (x : Str) | byt (b : Array UInt8) | flt (b : UInt64) | ref (a : Addr) | ty (n : String)
  deriving DecidableEq
def RelV : V → Value → Prop
  | .non, u => u = Value.none
  | .bl b, u => u = Value.bool b
  | .int i, u => ∃ t, u = Value.int i t
  | .str x, u => ∃ t, u = Value.str x t
  | .byt b, u => ∃ t, u = Value.bytes b t
  | .flt b, u => ∃ t, u = Value.float b t
  | .ref a, u => u = Value.ref a
  | .ty n, u => u = Value.type n
abbrev Vals : List V → List Value → Prop := Paired RelV
theorem Vals.length {xs : List V} {us : List Value} (r : Vals xs us) : xs.length = us.length := Paired.length r
theorem Vals.get : ∀ {xs : List V} {us : List Value} {i : Nat} {x : V}, Vals xs us → xs[i]? = some x → ∃ u, us[i]? = some u ∧ RelV x u
  | _, _, _, _, .nil, e => by simp at e
  | _, _, 0, _, .cons r _, e => by simp at e; subst e; exact ⟨_, rfl, r⟩
  | _, _, i + 1, x, .cons _ t, e => by
    obtain ⟨u, h1, h2⟩ := Vals.get (i := i) (x := x) t (by simpa using e)
    exact ⟨u, by simpa using h1, h2⟩
theorem Vals.set {x : V} {u : Value} (r : RelV x u) : ∀ {xs : List V} {us : List Value} (i : Nat), Vals xs us → Vals (xs.set i x) (us.set i u)
  | _, _, _, .nil => .nil
  | _, _, 0, .cons _ t => .cons r t
  | _, _, i + 1, .cons q t => .cons q (Vals.set r i t)
theorem Vals.append : ∀ {xs ys : List V} {us ws : List Value}, Vals xs us → Vals ys ws → Vals (xs ++ ys) (us ++ ws)
  | _, _, _, _, .nil, s => s
  | _, _, _, _, .cons r t, s => .cons r (Vals.append t s)
theorem Vals.take : ∀ {xs : List V} {us : List Value} (n : Nat), Vals xs us → Vals (xs.take n) (us.take n)
  | _, _, 0, _ => .nil
  | _, _, _ + 1, .nil => .nil
  | _, _, n + 1, .cons r t => .cons r (Vals.take n t)
theorem Vals.drop : ∀ {xs : List V} {us : List Value} (n : Nat), Vals xs us → Vals (xs.drop n) (us.drop n)
  | _, _, 0, r => r
  | _, _, _ + 1, .nil => .nil
  | _, _, n + 1, .cons _ t => Vals.drop n t
def RelO : Option V → Option Value → Prop
  | some v, some u => RelV v u
  | none, none => True
  | _, _ => False
def KV {κ : Type} : List (κ × V) → List (κ × Value) → Prop := Paired fun (p : κ × V) (q : κ × Value) => p.1 = q.1 ∧ RelV p.2 q.2
def kV : Key → V
  | .inl i => .int i
  | .inr x => .str x
inductive HO where
  | lst (xs : List V)
  | tup (xs : List V)
  | dK (kvs : List (Key × V)) | dT (kvs : List (List Key × V))
  | set (S : Int → Bool) (n : Nat)
  | ins (C dx : Addr) (fs : List (Str × V))
  | own (x : Addr)
  | xd (fs : List (Str × V))
  | met (f x : Addr)
  | rng (lo hi : Int)
  | frz (o : Obj) (u : HO)
  | tbl (ps : Array Value)
  | ext (φ : Heap → Prop)
abbrev Hp := Addr → Option HO
def upd (H : Hp) (a : Addr) (o : HO) : Hp := fun b => if b = a then some o else H b
theorem upd_same {H : Hp} {a : Addr} {o : HO} : upd H a o a = some o := by unfold upd; rw [if_pos rfl]
theorem upd_ne {H : Hp} {a b : Addr} {o : HO} (h : b ≠ a) : upd H a o b = H b := by unfold upd; rw [if_neg h]
theorem ne_of_none {H : Hp} {a b : Addr} {o : HO} (h : H a = some o) (h' : H b = none) : a ≠ b := by
  intro e; subst e; rw [h] at h'; cases h'
section
variable (P : Program) (w : World)
def ObjOk (H : Hp) (h : Heap) (a : Addr) : HO → Prop
  | .lst xs => xs.length ≤ sizeLine ∧ ∃ (its : List Value) (n : Nat), Vals xs its ∧ h.get? a = some { cls := .type "list", data := .seq its.toArray n }
  | .tup xs => xs.length ≤ sizeLine ∧ ∃ its : List Value, Vals xs its ∧ IsTup h a its.toArray
  | .dK kvs => kvs.length ≤ sizeLine ∧ (a == sysModules) = false ∧ ∃ vs, KV kvs vs ∧ h.DictOf (mixKind P w) a vs
  | .dT kvs => kvs.length ≤ sizeLine ∧ (a == sysModules) = false ∧ ∃ xs : List (List Key × Addr × Value),
      Paired (fun (p : List Key × V) (q : List Key × Addr × Value) => p.1 = q.1 ∧ H q.2.1 = some (.tup (p.1.map kV)) ∧ RelV p.2 q.2.2) kvs xs ∧
      ∃ o es ep, h.get? a = some o ∧ o.ExactDict ∧ o.data = .dict es ep ∧ es.toList = xs.map (entryOfKey (tupleKind (mixKind P w))) ∧ (xs.map (·.1)).Nodup
  | .set S n => h.SetOf (intKind P w) a S n
  | .ins C dx fs => H dx = some (.own a) ∧ fs.length ≤ 1000 ∧ dx ≠ a ∧ h.get? a = some (PySem.W.instObj C dx) ∧
      ∃ mA, h.Ns1 dx mA ∧ (∀ f, RelO (fs.lookup f) (mA f)) ∧ PySem.Within mA (fs.map (·.1))
  | .own _ => ∃ o, h.get? a = some o
  | .xd fs => ∃ mA, h.Ns1 a mA ∧ ∀ f, RelO (fs.lookup f) (mA f)
  | .rng lo hi => ∃ t u v, h.get? a = some { cls := .type "range", data := .fields #[.int lo t, .int hi u, .int 1 v] }
  | .frz o u => h.get? a = some o ∧ ObjOk H h a u
  | .tbl ps => h.get? a = some { cls := .none, data := .fields ps }
  | .met f x => h.get? a = some (PySem.W.methodObj (.ref f) (.ref x))
  | .ext φ => φ h ∧ (∃ o, h.get? a = some o) ∧ ∀ h1 h2 : Heap, φ h1 → (∀ o, h1.get? a = some o → h2.get? a = some o) → φ h2
def HOk (H : Hp) (h : Heap) : Prop := ∀ a o, H a = some o → ObjOk P w H h a o
end
section
variable {P : Program} {w : World} {H H' : Hp} {h h' : Heap} {a : Addr} {o : HO}
theorem ObjOk.lt (x : ObjOk P w H h a o) : a < h.objs.size := by
  cases o with
  | lst xs => obtain ⟨_, _, _, _, e⟩ := x; exact Heap.lt_size e
  | tup xs => obtain ⟨_, _, _, p⟩ := x; exact p.lt
  | dK kvs => obtain ⟨_, _, _, _, o, _, _, e, _⟩ := x; exact Heap.lt_size e
  | dT kvs => obtain ⟨_, _, _, _, o, _, _, e, _⟩ := x; exact Heap.lt_size e
  | set S n => obtain ⟨o, _, _, _, e, _⟩ := x; exact Heap.lt_size e
  | ins C dx fs => obtain ⟨_, _, _, e, _⟩ := x; exact Heap.lt_size e
  | own y => obtain ⟨_, e⟩ := x; exact Heap.lt_size e
  | xd fs => obtain ⟨_, ⟨_, _, _, e, _⟩, _⟩ := x; exact Heap.lt_size e
  | rng lo hi => obtain ⟨_, _, _, e⟩ := x; exact Heap.lt_size e
  | frz ob u => obtain ⟨e, _⟩ := x; exact Heap.lt_size e
  | tbl ps => exact Heap.lt_size (show h.get? a = some _ from x)
  | met f y => exact Heap.lt_size (show h.get? a = some _ from x)
  | ext φ => obtain ⟨_, ⟨_, e⟩, _⟩ := x; exact Heap.lt_size e
theorem Paired.mapP {α β : Type} {F G : α → β → Prop} : ∀ {l₁ : List α} {l₂ : List β}, Paired F l₁ l₂ → (∀ a b, F a b → G a b) → Paired G l₁ l₂
  | _, _, .nil, _ => .nil
  | _, _, .cons r t, f => .cons (f _ _ r) (Paired.mapP t f)
theorem ObjOk.stay (x : ObjOk P w H h a o) (k : ∀ b u, (b = a ∨ H b = some (.own a)) → h.get? b = some u → h'.get? b = some u)
    (ho : ∀ b, H b = some (.own a) → H' b = some (.own a)) (ht : ∀ b xs, H b = some (.tup xs) → H' b = some (.tup xs)) : ObjOk P w H' h' a o := by
  induction o with
  | lst xs => obtain ⟨z, its, n, r, e⟩ := x; exact ⟨z, its, n, r, k _ _ (.inl rfl) e⟩
  | tup xs => obtain ⟨z, its, r, ob, e, c⟩ := x; exact ⟨z, its, r, ob, k _ _ (.inl rfl) e, c⟩
  | dK kvs => obtain ⟨z, y, vs, r, ob, es, ep, e, c⟩ := x; exact ⟨z, y, vs, r, ob, es, ep, k _ _ (.inl rfl) e, c⟩
  | dT kvs =>
    obtain ⟨z, y, xs, r, ob, es, ep, e, c⟩ := x
    exact ⟨z, y, xs, Paired.mapP r fun p q z => ⟨z.1, ht _ _ z.2.1, z.2.2⟩, ob, es, ep, k _ _ (.inl rfl) e, c⟩
  | set S n => obtain ⟨ob, es, ep, t, e, c⟩ := x; exact ⟨ob, es, ep, t, k _ _ (.inl rfl) e, c⟩
  | ins C dx fs =>
    obtain ⟨d, z, ne, e, mA, ⟨od, es, ep, e2, c⟩, r⟩ := x
    exact ⟨ho _ d, z, ne, k _ _ (.inl rfl) e, mA, ⟨od, es, ep, k _ _ (.inr d) e2, c⟩, r⟩
  | own y => obtain ⟨ob, e⟩ := x; exact ⟨ob, k _ _ (.inl rfl) e⟩
  | xd fs => obtain ⟨mA, ⟨od, es, ep, e, c⟩, r⟩ := x; exact ⟨mA, ⟨od, es, ep, k _ _ (.inl rfl) e, c⟩, r⟩
  | rng lo hi => obtain ⟨t, u, v, e⟩ := x; exact ⟨t, u, v, k _ _ (.inl rfl) e⟩
  | frz ob u ih => obtain ⟨e, q⟩ := x; exact ⟨k _ _ (.inl rfl) e, ih q⟩
  | tbl ps =>
    have e : h.get? a = some { cls := .none, data := .fields ps } := x
    show h'.get? a = some { cls := .none, data := .fields ps }
    exact k a _ (.inl rfl) e
  | met f y =>
    have e : h.get? a = some (PySem.W.methodObj (.ref f) (.ref y)) := x
    show h'.get? a = some (PySem.W.methodObj (.ref f) (.ref y))
    exact k a _ (.inl rfl) e
  | ext φ => obtain ⟨p, ⟨o, e⟩, st⟩ := x; exact ⟨st _ _ p fun o q => k _ _ (.inl rfl) q, ⟨o, k _ _ (.inl rfl) e⟩, st⟩
theorem HOk.lt (x : HOk P w H h) (e : H a = some o) : a < h.objs.size := (x a o e).lt
theorem HOk.fresh (x : HOk P w H h) (e : h.objs.size ≤ a) : H a = none := by
  cases q : H a with
  | none => rfl
  | some u => exact absurd (Nat.lt_of_lt_of_le (x.lt q) e) (Nat.lt_irrefl _)
theorem HOk.kept (x : HOk P w H h) (k : ∀ b u, h.get? b = some u → h'.get? b = some u) : HOk P w H h' := fun a o e =>
  (x a o e).stay (fun b u _ q => k b u q) (fun _ q => q) fun _ _ q => q
theorem HOk.laid (x : HOk P w H h) (k : ∀ b u, h.get? b = some u → h'.get? b = some u) (hp : h.objs.size ≤ a) (new : ObjOk P w (upd H a o) h' a o) : HOk P w (upd H a o) h' := fun b u e => by
  have hn := x.fresh hp
  by_cases hb : b = a
  · subst hb; rw [upd_same] at e; cases e; exact new
  · rw [upd_ne hb] at e
    exact (x b u e).stay (fun c v _ q => k c v q) (fun c q => by rw [upd_ne (ne_of_none q hn)]; exact q) fun c xs q => by rw [upd_ne (ne_of_none q hn)]; exact q
end
def Rd (H : Hp) (a : Addr) (u : HO) : Prop := H a = some u ∨ ∃ o, H a = some (.frz o u)
theorem Rd.ok {P : Program} {w : World} {H : Hp} {h : Heap} {a : Addr} {u : HO} (r : Rd H a u) (x : HOk P w H h) : ObjOk P w H h a u := by
  rcases r with r | ⟨o, r⟩
  · exact x a u r
  · obtain ⟨_, q⟩ := x a _ r
    exact q
def Mut : Option HO → Prop
  | some (.lst _) => True
  | some (.dK _) => True
  | some (.dT _) => True
  | some (.set _ _) => True
  | some (.ins _ _ _) => True
  | some (.ext _) => True
  | _ => False
section
variable {P : Program} {w : World} {H : Hp} {h h' : Heap} {x e : Addr} {o' : HO}
theorem HOk.write (ok : HOk P w H h) (mu : Mut (H x)) (he : e = x ∨ H e = some (.own x)) (k : ∀ b u, b ≠ e → h.get? b = some u → h'.get? b = some u) (heo : ∃ u, h'.get? e = some u)
    (new : ObjOk P w (upd H x o') h' x o') : HOk P w (upd H x o') h' := fun b u q => by
  have nown : ∀ c y, H c = some (.own y) → c ≠ x := fun c y r z => by subst z; rw [r] at mu; exact mu
  have ntup : ∀ c xs, H c = some (.tup xs) → c ≠ x := fun c xs r z => by subst z; rw [r] at mu; exact mu
  by_cases hb : b = x
  · subst hb; rw [upd_same] at q; cases q; exact new
  · rw [upd_ne hb] at q
    by_cases hbe : b = e
    · have q' : H b = some (.own x) := by
        rcases he with z | z
        · exact absurd (hbe.trans z) hb
        · rw [hbe]; exact z
      rw [q] at q'; cases q'
      obtain ⟨v, hv⟩ := heo
      exact ⟨v, by rw [hbe]; exact hv⟩
    · refine (ok b u q).stay (fun c v hc r => k c v ?_ r) (fun c r => by rw [upd_ne (nown c b r)]; exact r) fun c xs r => by rw [upd_ne (ntup c xs r)]; exact r
      rcases hc with rfl | hc
      · exact hbe
      · rintro rfl
        rcases he with z | z
        · exact nown c b hc z
        · rw [hc] at z; cases z; exact hb rfl
end
structure Un (fs ex : List Addr) (H H' : Hp) (h h' : Heap) : Prop where
  keep : ∀ b o, h.get? b = some o → H b = none → b ∉ fs → b ∉ ex → h'.get? b = some o
  slot : ∀ b o, h.get? b = some o → H b = none → b ∈ fs → b ∉ ex → ∃ sl, h'.get? b = some { o with slots := sl }
  free : ∀ b o, h.get? b = some o → H b = none → b ∉ ex → H' b = none
  there : ∀ b o, h.get? b = some o → b ∉ ex → ∃ o', h'.get? b = some o'
  tups : ∀ b xs, H b = some (.tup xs) → H' b = some (.tup xs)
  frzs : ∀ b o u, H b = some (.frz o u) → H' b = some (.frz o u)
  tbls : ∀ b ps, H b = some (.tbl ps) → ∃ more, H' b = some (.tbl (ps ++ more))
section
variable {fs fs' ex ex' : List Addr} {H H1 H2 : Hp} {h h1 h2 h' : Heap} {a x e : Addr} {o : HO}
theorem Un.any (u : Un fs ex H H1 h h1) {b : Addr} {ob : Obj} (q : h.get? b = some ob) (n : H b = none) (hx : b ∉ ex) : ∃ sl, h1.get? b = some { ob with slots := sl } := by
  by_cases hb : b ∈ fs
  · exact u.slot b ob q n hb hx
  · exact ⟨ob.slots, u.keep b ob q n hb hx⟩
theorem Un.kept (k : ∀ b u, h.get? b = some u → h'.get? b = some u) : Un fs ex H H h h' :=
  ⟨fun b ob q _ _ _ => k b ob q, fun b ob q _ _ _ => ⟨ob.slots, k b ob q⟩, fun _ _ _ n _ => n, fun b ob q _ => ⟨ob, k b ob q⟩, fun _ _ q => q, fun _ _ _ q => q, fun _ ps q => ⟨#[], by rw [q]; simp⟩⟩
theorem Un.refl : Un fs ex H H h h := Un.kept fun _ _ q => q
theorem Un.laid (k : ∀ b u, h.get? b = some u → h'.get? b = some u) (hp : h.objs.size ≤ a) (hn : H a = none) : Un fs ex H (upd H a o) h h' where
  keep := fun b u q _ _ _ => k b u q
  slot := fun b u q _ _ _ => ⟨u.slots, k b u q⟩
  free := fun b u q n _ => by rw [upd_ne (Nat.ne_of_lt (Nat.lt_of_lt_of_le (Heap.lt_size q) hp))]; exact n
  there := fun b u q _ => ⟨u, k b u q⟩
  tups := fun b xs q => by rw [upd_ne (ne_of_none q hn)]; exact q
  frzs := fun b u xs q => by rw [upd_ne (ne_of_none q hn)]; exact q
  tbls := fun b ps q => ⟨#[], by rw [upd_ne (ne_of_none q hn), q]; simp⟩
theorem Un.write (mu : Mut (H x)) (he : e = x ∨ H e = some (.own x)) (k : ∀ b u, b ≠ e → h.get? b = some u → h'.get? b = some u) (heo : ∃ u, h'.get? e = some u) : Un fs ex H (upd H x o) h h' := by
  have hx : ∀ b, H b = none → b ≠ x := fun b n z => by subst z; rw [n] at mu; exact mu
  have hb : ∀ b, H b = none → b ≠ e := fun b n z => by
    subst z
    rcases he with r | r
    · exact hx b n r
    · rw [n] at r; cases r
  have hm : ∀ b u, H b = some u → ¬ Mut (some u) → b ≠ x := fun b u q nm z => by subst z; rw [q] at mu; exact nm mu
  refine ⟨fun b u q n _ _ => k b u (hb b n) q, fun b u q n _ _ => ⟨u.slots, k b u (hb b n) q⟩, fun b u q n _ => by rw [upd_ne (hx b n)]; exact n, fun b u q _ => ?_,
    fun b xs q => by rw [upd_ne (hm b _ q fun z => z)]; exact q, fun b u xs q => by rw [upd_ne (hm b _ q fun z => z)]; exact q, fun b ps q => ⟨#[], by rw [upd_ne (hm b _ q fun z => z), q]; simp⟩⟩
  by_cases hbe : b = e
  · subst hbe; exact heo
  · exact ⟨u, k b u hbe q⟩
end
def trk (h : Heap) (H : Hp) : List Addr := (List.range h.objs.size).filter fun a => (H a).isSome
def hidT (h : Heap) (H : Hp) : Heap := PySem.W.hideAll h (trk h H)
theorem hidT_size (h : Heap) (H : Hp) : (hidT h H).objs.size = h.objs.size := PySem.W.hideAll_size _ _
theorem hidT_get {h : Heap} {H : Hp} {b : Addr} {o : Obj} (e : h.get? b = some o) (n : H b = none) : (hidT h H).get? b = some o :=
  PySem.W.hideAll_get _ e fun hm => by
    have q : (H b).isSome = true := (List.mem_filter.mp hm).2
    rw [n] at q; simp at q
theorem of_hidT {h : Heap} {H : Hp} {b : Addr} {o : Obj} (e : (hidT h H).get? b = some o) : h.get? b = some o ∧ H b = none := by
  have e' : h.get? b = some o := PySem.W.of_hideAll (trk h H) e
  refine ⟨e', ?_⟩
  cases q : H b with
  | none => rfl
  | some x =>
    have hm : b ∈ trk h H := List.mem_filter.mpr ⟨List.mem_range.mpr (Heap.lt_size e'), by simp [q]⟩
    have z : (hidT h H).get? b = none := PySem.W.hideAll_none (trk h H) hm
    rw [z] at e; cases e
end L2
namespace L2
open PySem PySem.Spec PyProof.Rows
structure Mod (K : PySem.W.Frag) (mg : Str → Option Value) (base : Heap) : Prop where
  kin : K.In base
  glob : base.Ns mainGlobals mg
  blt : ∃ mb, base.Ns builtinsNs mb ∧ ∀ x : Str, x ≠ "__name__" → mb x = bootBuiltins x
  nolimit : base.NoLimit
structure Cx where
  prog : Program
  w : World
  K : PySem.W.Frag
  mg : Str → Option Value
  base : Heap
  A : Around
  N : List Str
  s₀ : Shared
  H₀ : Hp
  env : Env
  outer : List Env
  stack : List Env
  ex : List Addr
  fn : Str → Bool
  calm : Bool
  pn : List (Addr × Obj)
  xe : Value → Shared → Prop
def frs (l : List Env) : List Addr := l.filterMap (·.frame)
abbrev Cx.fs (X : Cx) : List Addr := frs X.outer
def Vis (sc : Scope) (x : Str) : Prop := sc.names.lookup x = some .local ∨ sc.names.lookup x = some .cell ∨ sc.names.lookup x = some .free
def Loc (sc : Scope) (x : Str) : Prop := sc.names.lookup x = some .local ∨ sc.names.lookup x = some .cell
def Look (env : Env) (h : Heap) (m : Str → Option Value) (x : Str) (u : Value) : Prop :=
  (env.kindOf x = some .local ∧ m x = some u) ∨ ((env.kindOf x = some .cell ∨ env.kindOf x = some .free) ∧ ∃ c, env.cells.lookup x = some c ∧ h.IsCell c (some u))
structure Cx.Ok (X : Cx) : Prop where
  mod : Mod X.K X.mg X.base
  kind : X.env.scope.kind = .function
  glob : X.env.globals = mainGlobals
  blt : X.env.builtins = builtinsNs
  above : X.s₀.heap.objs.size ≤ X.env.locals
  inj : ∀ x y c, X.env.cells.lookup x = some c → X.env.cells.lookup y = some c → x = y
  has : ∀ x, (X.env.kindOf x = some .cell ∨ X.env.kindOf x = some .free) → ∃ c, X.env.cells.lookup x = some c
  cab : ∀ x c, X.fn x = true → X.env.cells.lookup x = some c → X.s₀.heap.objs.size ≤ c
  hd : X.calm = true → X.A.handled = none
  frames : X.A.frames = some X.stack
  stk : X.stack = X.outer ∨ (X.stack = X.env :: X.outer ∧ X.env.frame = some X.env.locals)
  exf : ∀ b ∈ X.ex, b ≠ X.env.locals ∧ ∀ x c, X.env.cells.lookup x = some c → c ≠ b
  bs : ∀ b o, X.base.get? b = some o → X.s₀.heap.get? b = some o ∧ X.H₀ b = none
  bsz : X.base.objs.size ≤ X.s₀.heap.objs.size
  noex : ∀ b o, X.base.get? b = some o → b ∉ X.ex
  exfs : ∀ b ∈ X.ex, b ∉ X.fs
  funs : X.s₀.heap.FunFrames X.base X.outer
  frf : ∀ b ∈ X.fs, X.H₀ b = none
structure Inv (X : Cx) (pins : List (Addr × Obj)) (σ : List (Option V)) (H : Hp) (s : Shared) : Prop where
  ok : X.Ok
  os : s.os = X.s₀.os
  bare : AllBare s.gens
  base : Un X.fs X.ex X.H₀ H X.s₀.heap s.heap
  loc : ∃ m, s.heap.Ns X.env.locals m ∧ ∀ (i : Nat) (x : Str) (v : V), X.N[i]? = some x → σ[i]? = some (some v) → Vis X.env.scope x → ∃ u, RelV v u ∧ Look X.env s.heap m x u
  cell : ∀ x c, X.env.cells.lookup x = some c → ∃ v, s.heap.IsCell c v
  free : H X.env.locals = none
  freeC : ∀ x c, X.env.cells.lookup x = some c → H c = none
  pin : ∀ p ∈ X.pn ++ pins, s.heap.get? p.1 = some p.2 ∧ H p.1 = none ∧ p.1 ≠ X.env.locals ∧ p.1 ∉ X.fs ∧ ∀ v, p.2.data ≠ .cell v
  hok : HOk X.prog X.w H s.heap
  len : σ.length = X.N.length
section
variable {X : Cx} {pins : List (Addr × Obj)} {σ : List (Option V)} {H H' : Hp} {s : Shared} {h' : Heap}
theorem Cx.Ok.nofr (ok : X.Ok) {b : Addr} {o : Obj} (e : X.base.get? b = some o) : b ∉ X.fs := fun hb => by
  have := (ok.funs.mem hb).1
  rw [e] at this; cases this
theorem Inv.bs (I : Inv X pins σ H s) : ∀ b o, X.base.get? b = some o → s.heap.get? b = some o ∧ H b = none := fun b o e =>
  ⟨I.base.keep b o (I.ok.bs b o e).1 (I.ok.bs b o e).2 (I.ok.nofr e) (I.ok.noex b o e), I.base.free b o (I.ok.bs b o e).1 (I.ok.bs b o e).2 (I.ok.noex b o e)⟩
theorem Inv.bk (I : Inv X pins σ H s) : ∀ b o, X.base.get? b = some o → s.heap.get? b = some o := fun b o e => (I.bs b o e).1
theorem Inv.mod (I : Inv X pins σ H s) : Mod X.K X.mg X.base := I.ok.mod
theorem Inv.kIn (I : Inv X pins σ H s) : X.K.In s.heap := I.ok.mod.kin.keeps I.bk
theorem Inv.lt (I : Inv X pins σ H s) : X.env.locals < s.heap.objs.size := let ⟨_, hn, _⟩ := I.loc; hn.lt
theorem Inv.sz (I : Inv X pins σ H s) : X.s₀.heap.objs.size ≤ s.heap.objs.size := Nat.le_trans I.ok.above (Nat.le_of_lt I.lt)
theorem Inv.nofs (I : Inv X pins σ H s) {a : Addr} (h : s.heap.objs.size ≤ a) : a ∉ X.fs := fun hb => by
  obtain ⟨_, o, ho, _⟩ := I.ok.funs.mem hb
  exact absurd (Nat.lt_of_lt_of_le (Heap.lt_size ho) (Nat.le_trans I.sz h)) (Nat.lt_irrefl _)
theorem Inv.cne (I : Inv X pins σ H s) : ∀ x c, X.env.cells.lookup x = some c → c ≠ X.env.locals := fun x c e z => by
  obtain ⟨v, o, ho, hd⟩ := I.cell x c e
  obtain ⟨m, ⟨o', es, ep, ho', hd', _⟩, _⟩ := I.loc
  rw [z, ho'] at ho; cases ho; rw [hd'] at hd; cases hd
theorem Inv.funs (I : Inv X pins σ H s) : s.heap.FunFrames X.base X.outer := by
  have all : ∀ (l : List Env), (∀ b ∈ frs l, b ∈ X.fs) → X.s₀.heap.FunFrames X.base l → s.heap.FunFrames X.base l := by
    intro l
    induction l with
    | nil => intro _ _; trivial
    | cons env r ih =>
      intro hs hl
      obtain ⟨hk, ⟨L, o, hf, hn, ho, hd⟩, hr⟩ := hl
      have hL : L ∈ X.fs := hs L (by unfold frs; rw [List.filterMap_cons, hf]; exact List.mem_cons_self)
      obtain ⟨sl, e⟩ := I.base.slot L o ho (I.ok.frf L hL) hL fun z => I.ok.exfs L z hL
      exact ⟨hk, ⟨L, _, hf, hn, e, hd⟩, ih (fun b hb => hs b (by unfold frs; rw [List.filterMap_cons, hf]; exact List.mem_cons_of_mem _ hb)) hr⟩
  exact all X.outer (fun _ hb => hb) I.ok.funs
theorem Inv.stack (I : Inv X pins σ H s) : s.heap.FunFrames X.base X.stack := by
  rcases I.ok.stk with e | ⟨e, hf⟩
  · rw [e]; exact I.funs
  · rw [e]
    obtain ⟨m, hn, _⟩ := I.loc
    refine .cons (by rw [I.ok.kind]; decide) hf hn ?_ I.funs
    exact Heap.get?_none_of_le (Nat.le_trans I.ok.bsz I.ok.above)
theorem Inv.stkSub (I : Inv X pins σ H s) : ∀ b ∈ frs X.stack, b ∈ X.env.locals :: X.fs := fun b hb => by
  rcases I.ok.stk with e | ⟨e, hf⟩
  · rw [e] at hb; exact List.mem_cons_of_mem _ hb
  · rw [e] at hb
    unfold frs at hb
    rw [List.filterMap_cons, hf] at hb
    exact hb
theorem Inv.stkFree (I : Inv X pins σ H s) : ∀ b ∈ frs X.stack, H b = none := fun b hb => by
  rcases List.mem_cons.mp (I.stkSub b hb) with e | hb
  · rw [e]; exact I.free
  · obtain ⟨_, o, ho, _⟩ := I.ok.funs.mem hb
    exact I.base.free b o ho (I.ok.frf b hb) fun z => I.ok.exfs b z hb
theorem Inv.step {g' : Array GenState} {t' : Nat} {d' : Drawn} {ch : List Addr} (I : Inv X pins σ H s)
    (hch : ∀ b ∈ ch, (b ∈ X.ex ∨ X.s₀.heap.objs.size ≤ b) ∧ b ≠ X.env.locals ∧ (∀ x c, X.env.cells.lookup x = some c → c ≠ b) ∧ ∀ p ∈ X.pn ++ pins, p.1 ≠ b)
    (keep : ∀ b o, b ≠ X.env.locals → b ∉ X.fs → b ∉ ch → s.heap.get? b = some o → H b = none → h'.get? b = some o)
    (slot : ∀ b o, b ≠ X.env.locals → b ∈ X.fs → b ∉ ch → s.heap.get? b = some o → H b = none → ∃ sl, h'.get? b = some { o with slots := sl }) (free : ∀ b o, b ∉ ch → s.heap.get? b = some o → H b = none → H' b = none)
    (there : ∀ b o, b ∉ ch → s.heap.get? b = some o → ∃ o', h'.get? b = some o')
    (tups : ∀ b xs, H b = some (.tup xs) → H' b = some (.tup xs)) (frzs : ∀ b o u, H b = some (.frz o u) → H' b = some (.frz o u)) (tbls : ∀ b ps, H b = some (.tbl ps) → ∃ more, H' b = some (.tbl (ps ++ more)))
    (ns : ∀ m, s.heap.Ns X.env.locals m → h'.Ns X.env.locals m) (hok : HOk X.prog X.w H' h') (hg : AllBare g') :
    Inv X pins σ H' { s with heap := h', gens := g', drawn := d', toks := t' } := by
  have neL : ∀ b o, X.s₀.heap.get? b = some o → b ≠ X.env.locals := fun b o e => Nat.ne_of_lt (Nat.lt_of_lt_of_le (Heap.lt_size e) I.ok.above)
  have neC : ∀ b o, X.s₀.heap.get? b = some o → b ∉ X.ex → b ∉ ch := fun b o e hx hb => by
    rcases (hch b hb).1 with z | z
    · exact hx z
    · exact absurd (Nat.lt_of_lt_of_le (Heap.lt_size e) z) (Nat.lt_irrefl _)
  have cellK : ∀ x c, X.env.cells.lookup x = some c → ∀ v, s.heap.IsCell c v → h'.IsCell c v := fun x c e v ⟨o, ho, hd⟩ => by
    have nch : c ∉ ch := fun z => (hch c z).2.2.1 x c e rfl
    by_cases hc : c ∈ X.fs
    · obtain ⟨sl, q⟩ := slot c o (I.cne x c e) hc nch ho (I.freeC x c e)
      exact ⟨_, q, hd⟩
    · exact ⟨o, keep c o (I.cne x c e) hc nch ho (I.freeC x c e), hd⟩
  refine ⟨I.ok, I.os, hg, ⟨fun b o e n hb hx => ?_, fun b o e n hb hx => ?_, fun b o e n hx => ?_, fun b o e hx => ?_, fun b xs e => tups b xs (I.base.tups b xs e), fun b o xs e => frzs b o xs (I.base.frzs b o xs e), fun b ps e => ?_⟩, ?_, fun x c e => ?_, ?_, fun x c e => ?_, fun p hp => ?_, hok, I.len⟩
  · exact keep b o (neL b o e) hb (neC b o e hx) (I.base.keep b o e n hb hx) (I.base.free b o e n hx)
  · obtain ⟨sl, e1⟩ := I.base.slot b o e n hb hx
    obtain ⟨sl', e2⟩ := slot b _ (neL b o e) hb (neC b o e hx) e1 (I.base.free b o e n hx)
    exact ⟨sl', e2⟩
  · obtain ⟨o', e1⟩ := I.base.there b o e hx
    exact free b o' (neC b o e hx) e1 (I.base.free b o e n hx)
  · obtain ⟨o', e1⟩ := I.base.there b o e hx
    exact there b o' (neC b o e hx) e1
  · obtain ⟨m1, e1⟩ := I.base.tbls b ps e
    obtain ⟨m2, e2⟩ := tbls b _ e1
    exact ⟨m1 ++ m2, by rw [e2, Array.append_assoc]⟩
  · obtain ⟨m, hn, hl⟩ := I.loc
    refine ⟨m, ns m hn, fun i x v e1 e2 e3 => ?_⟩
    obtain ⟨u, r, l⟩ := hl i x v e1 e2 e3
    refine ⟨u, r, ?_⟩
    rcases l with l | ⟨k, c, e, z⟩
    · exact .inl l
    · exact .inr ⟨k, c, e, cellK x c e _ z⟩
  · obtain ⟨v, z⟩ := I.cell x c e
    exact ⟨v, cellK x c e v z⟩
  · obtain ⟨m, ⟨o, _, _, ho, _⟩, _⟩ := I.loc
    exact free _ o (fun z => (hch _ z).2.1 rfl) ho I.free
  · obtain ⟨v, o, ho, hd⟩ := I.cell x c e
    exact free c o (fun z => (hch c z).2.2.1 x c e rfl) ho (I.freeC x c e)
  · obtain ⟨e, n, ne, nf, d⟩ := I.pin p hp
    have nch : p.1 ∉ ch := fun z => (hch p.1 z).2.2.2 p hp rfl
    exact ⟨keep p.1 p.2 ne nf nch e n, free p.1 p.2 nch e n, ne, nf, d⟩
theorem Inv.un {t' : Nat} (I : Inv X pins σ H s) (u : Un X.fs [] H H' s.heap h') (hok : HOk X.prog X.w H' h') : Inv X pins σ H' { s with heap := h', toks := t' } := by
  obtain ⟨m, ⟨o, es, ep, ho, r⟩, _⟩ := id I.loc
  obtain ⟨sl, hL⟩ := u.any ho I.free (by simp)
  exact I.step (g' := s.gens) (d' := s.drawn) (ch := []) (fun _ z => nomatch z) (fun b o _ hb _ e n => u.keep b o e n hb (by simp)) (fun b o _ hb _ e n => u.slot b o e n hb (by simp)) (fun b o _ e n => u.free b o e n (by simp)) (fun b o _ e => u.there b o e (by simp)) u.tups u.frzs u.tbls (fun m' hm => by
    obtain ⟨o', es', ep', ho', r'⟩ := hm
    rw [ho] at ho'; cases ho'
    exact ⟨_, es', ep', hL, r'⟩) hok I.bare
theorem Inv.call {g' : Array GenState} {t' : Nat} {d' : Drawn} {ch : List Addr} (I : Inv X pins σ H s) (u : Un (frs X.stack) ch H H' s.heap h') (hok : HOk X.prog X.w H' h') (hg : AllBare g')
    (hch : ∀ b ∈ ch, (b ∈ X.ex ∨ X.s₀.heap.objs.size ≤ b) ∧ b ≠ X.env.locals ∧ (∀ x c, X.env.cells.lookup x = some c → c ≠ b) ∧ ∀ p ∈ X.pn ++ pins, p.1 ≠ b) :
    Inv X pins σ H' { s with heap := h', gens := g', drawn := d', toks := t' } := by
  obtain ⟨m, ⟨o, es, ep, ho, r⟩, _⟩ := id I.loc
  obtain ⟨sl, hL⟩ := u.any ho I.free fun z => (hch _ z).2.1 rfl
  exact I.step (ch := ch) hch (fun b o hL hb hc e n => u.keep b o e n (fun z => (List.mem_cons.mp (I.stkSub b z)).elim hL hb) hc) (fun b o _ _ hc e n => u.any e n hc) (fun b o hc e n => u.free b o e n hc) (fun b o hc e => u.there b o e hc) u.tups u.frzs u.tbls (fun m' hm => by
    obtain ⟨o', es', ep', ho', r'⟩ := hm
    rw [ho] at ho'; cases ho'
    exact ⟨_, es', ep', hL, r'⟩) hok hg
theorem Inv.turned {t' : Nat} {it : Addr} (I : Inv X pins σ H s) (k : ∀ b o, b ≠ it → s.heap.get? b = some o → h'.get? b = some o) (hn : H it = none) (hL : it ≠ X.env.locals)
    (h1 : it ∈ X.ex ∨ X.s₀.heap.objs.size ≤ it) (h2 : ∀ x c, X.env.cells.lookup x = some c → c ≠ it) (h3 : ∀ p ∈ X.pn ++ pins, p.1 ≠ it) : Inv X pins σ H { s with heap := h', toks := t' } := by
  have nit : ∀ b u, H b = some u → b ≠ it := fun b u e z => by rw [z, hn] at e; cases e
  refine I.step (g' := s.gens) (d' := s.drawn) (ch := [it]) (fun b hb => ?_) (fun b o _ _ hc e _ => k b o (fun z => hc (by simp [z])) e) (fun b o _ _ hc e _ => ⟨o.slots, k b o (fun z => hc (by simp [z])) e⟩) (fun _ _ _ _ n => n)
    (fun b o hc e => ⟨o, k b o (fun z => hc (by simp [z])) e⟩) (fun _ _ e => e) (fun _ _ _ e => e) (fun b ps e => ⟨#[], by rw [e]; simp⟩) (fun m hm => ?_) (fun b u e => ?_) I.bare
  · have e : b = it := by simpa using hb
    subst e
    exact ⟨h1, hL, h2, h3⟩
  · obtain ⟨o, es, ep, ho, r⟩ := hm
    exact ⟨o, es, ep, k _ o (Ne.symm hL) ho, r⟩
  · refine (I.hok b u e).stay (fun c v hc q => k c v ?_ q) (fun _ q => q) fun _ _ q => q
    rcases hc with z | z
    · rw [z]; exact nit b u e
    · exact nit c _ z
theorem Inv.tok (I : Inv X pins σ H s) (t : Nat) : Inv X pins σ H { s with toks := t } := I.un (h' := s.heap) (t' := t) Un.refl I.hok
theorem Inv.kept {t' : Nat} (I : Inv X pins σ H s) (k : ∀ b u, s.heap.get? b = some u → h'.get? b = some u) : Inv X pins σ H { s with heap := h', toks := t' } := I.un (Un.kept k) (I.hok.kept k)
theorem Inv.laid {a : Addr} {o : HO} {t' : Nat} (I : Inv X pins σ H s) (k : ∀ b u, s.heap.get? b = some u → h'.get? b = some u) (hp : s.heap.objs.size ≤ a) (new : ObjOk X.prog X.w (upd H a o) h' a o) :
    Inv X pins σ (upd H a o) { s with heap := h', toks := t' } := I.un (Un.laid k hp (I.hok.fresh hp)) (I.hok.laid k hp new)
theorem Inv.write {x e : Addr} {o : HO} {t' : Nat} (I : Inv X pins σ H s) (mu : Mut (H x)) (he : e = x ∨ H e = some (.own x)) (k : ∀ b u, b ≠ e → s.heap.get? b = some u → h'.get? b = some u) (heo : ∃ u, h'.get? e = some u)
    (new : ObjOk X.prog X.w (upd H x o) h' x o) : Inv X pins σ (upd H x o) { s with heap := h', toks := t' } := I.un (Un.write mu he k heo) (I.hok.write mu he k heo new)
theorem Inv.pins_of {pins' : List (Addr × Obj)} (I : Inv X pins σ H s) (h : ∀ p ∈ pins', s.heap.get? p.1 = some p.2 ∧ H p.1 = none ∧ p.1 ≠ X.env.locals ∧ p.1 ∉ X.fs ∧ ∀ v, p.2.data ≠ .cell v) : Inv X pins' σ H s :=
  ⟨I.ok, I.os, I.bare, I.base, I.loc, I.cell, I.free, I.freeC, fun p hp => (List.mem_append.mp hp).elim (fun z => I.pin p (List.mem_append_left _ z)) (h p), I.hok, I.len⟩
theorem nodup_ix {N : List Str} (hN : N.Nodup) {i j : Nat} {x : Str} (a : N[i]? = some x) (b : N[j]? = some x) : i = j := by
  obtain ⟨h1, e1⟩ := List.getElem?_eq_some_iff.mp a
  obtain ⟨h2, e2⟩ := List.getElem?_eq_some_iff.mp b
  exact (List.getElem_inj hN).mp (e1.trans e2.symm)
theorem store_ok2 {M : Model} {A : Around} {E : Value → Shared → Prop} {i : Nat} {x : Str} {v : V} {u : Value} {Q : Unit → Shared → Prop} (I : Inv X pins σ H s) (hN : X.N.Nodup) (hi : X.N[i]? = some x) (hx : Loc X.env.scope x) (r : RelV v u)
    (h : ∀ s', Inv X pins (σ.set i (some v)) H s' → (∃ a, Heap.SameBut a s.heap s'.heap ∧ (a = X.env.locals ∨ X.env.cells.lookup x = some a)) → Q () s') (hf : X.fn x = true ∨ X.env.scope.names.lookup x = some .local := by first | exact .inl rfl | exact .inr rfl | assumption) : wpAny M A (storeName X.env x u) Q E s := by
  obtain ⟨m, hn, hl⟩ := id I.loc
  have hcls : (X.env.scope.kind == .class || (X.env.scope.kind == .module && X.env.locals != X.env.globals)) = false := by rw [I.ok.kind]; rfl
  have hiσ : i < σ.length := by rw [I.len]; exact (List.getElem?_eq_some_iff.mp hi).1
  have cne := I.cne
  have tracked : ∀ {a : Addr} {h' : Heap}, (∃ o, s.heap.get? a = some o ∧ H a = none) → Heap.SameBut a s.heap h' → HOk X.prog X.w H h' := fun {a h'} ha hs b ob e => by
    obtain ⟨_, _, hfree⟩ := ha
    refine (I.hok b ob e).stay (fun c w' hc q => (hs.2 c ?_).trans q) (fun _ q => q) fun _ _ q => q
    rintro rfl
    rcases hc with rfl | hc
    · rw [hfree] at e; cases e
    · rw [hfree] at hc; cases hc
  rcases hx with hk | hk
  · refine wpAny_storeName_local hk hn (fun h' hn' hs => ?_) hcls
    obtain ⟨oL, _, _, hoL, _⟩ := id hn
    refine h _ ⟨I.ok, I.os, I.bare, ⟨fun b o e n hb hx => ?_, fun b o e n hb hx => ?_, I.base.free, fun b o e hx => ?_, I.base.tups, I.base.frzs, I.base.tbls⟩, ⟨_, hn', fun j y v' e1 e2 e3 => ?_⟩, fun y c e => ?_, I.free, I.freeC, fun p hp => ?_, tracked ⟨oL, hoL, I.free⟩ hs, by simpa using I.len⟩ ⟨_, hs, .inl rfl⟩
    · exact (hs.2 b (Nat.ne_of_lt (Nat.lt_of_lt_of_le (Heap.lt_size e) I.ok.above))).trans (I.base.keep b o e n hb hx)
    · obtain ⟨sl, e1⟩ := I.base.slot b o e n hb hx
      exact ⟨sl, (hs.2 b (Nat.ne_of_lt (Nat.lt_of_lt_of_le (Heap.lt_size e) I.ok.above))).trans e1⟩
    · obtain ⟨o', e1⟩ := I.base.there b o e hx
      exact ⟨o', (hs.2 b (Nat.ne_of_lt (Nat.lt_of_lt_of_le (Heap.lt_size e) I.ok.above))).trans e1⟩
    · by_cases hj : j = i
      · subst hj
        rw [hi] at e1; cases e1
        rw [List.getElem?_set_self hiσ] at e2
        cases e2
        exact ⟨u, r, .inl ⟨hk, by simp⟩⟩
      · rw [List.getElem?_set_ne (Ne.symm hj)] at e2
        obtain ⟨u', r', q⟩ := hl j y v' e1 e2 e3
        refine ⟨u', r', ?_⟩
        rcases q with ⟨k, e⟩ | ⟨k, c, e, z⟩
        · refine .inl ⟨k, ?_⟩
          have : y ≠ x := fun e => hj (nodup_ix hN e1 (e ▸ hi))
          simp [this, e]
        · exact .inr ⟨k, c, e, z.sameBut hs (cne y c e)⟩
    · obtain ⟨w', z⟩ := I.cell y c e
      exact ⟨w', z.sameBut hs (cne y c e)⟩
    · obtain ⟨e, n, ne, nf, d⟩ := I.pin p hp
      exact ⟨(hs.2 p.1 ne).trans e, n, ne, nf, d⟩
  · have hfn : X.fn x = true := by
      rcases hf with z | z
      · exact z
      · rw [z] at hk; cases hk
    obtain ⟨c, hc⟩ := I.ok.has x (.inl hk)
    obtain ⟨w', z⟩ := I.cell x c hc
    refine wpAny_storeName_cell I.ok.kind hk hc z (fun h' hc' hs => ?_)
    obtain ⟨oc, hoc, hocd⟩ := id z
    refine h { s with heap := h' } ⟨I.ok, I.os, I.bare, ⟨fun b o e n hb hx => ?_, fun b o e n hb hx => ?_, I.base.free, fun b o e hx => ?_, I.base.tups, I.base.frzs, I.base.tbls⟩, ⟨m, hn.sameBut hs (Ne.symm (cne x c hc)), fun j y v' e1 e2 e3 => ?_⟩, fun y c' e => ?_, I.free, I.freeC, fun p hp => ?_, tracked ⟨oc, hoc, I.freeC x c hc⟩ hs, by simpa using I.len⟩ ⟨c, hs, .inr hc⟩
    · exact (hs.2 b (Nat.ne_of_lt (Nat.lt_of_lt_of_le (Heap.lt_size e) (I.ok.cab x c hfn hc)))).trans (I.base.keep b o e n hb hx)
    · obtain ⟨sl, e1⟩ := I.base.slot b o e n hb hx
      exact ⟨sl, (hs.2 b (Nat.ne_of_lt (Nat.lt_of_lt_of_le (Heap.lt_size e) (I.ok.cab x c hfn hc)))).trans e1⟩
    · obtain ⟨o', e1⟩ := I.base.there b o e hx
      exact ⟨o', (hs.2 b (Nat.ne_of_lt (Nat.lt_of_lt_of_le (Heap.lt_size e) (I.ok.cab x c hfn hc)))).trans e1⟩
    · by_cases hj : j = i
      · subst hj
        rw [hi] at e1; cases e1
        rw [List.getElem?_set_self hiσ] at e2
        cases e2
        exact ⟨u, r, .inr ⟨.inl hk, c, hc, hc'⟩⟩
      · rw [List.getElem?_set_ne (Ne.symm hj)] at e2
        obtain ⟨u', r', q⟩ := hl j y v' e1 e2 e3
        refine ⟨u', r', ?_⟩
        rcases q with q | ⟨k, c', e, z'⟩
        · exact .inl q
        · refine .inr ⟨k, c', e, z'.sameBut hs ?_⟩
          rintro rfl
          exact hj (nodup_ix hN e1 (I.ok.inj _ _ _ e hc ▸ hi))
    · by_cases hcc : c' = c
      · subst hcc; exact ⟨_, hc'⟩
      · obtain ⟨w2, z2⟩ := I.cell y c' e
        exact ⟨w2, z2.sameBut hs hcc⟩
    · obtain ⟨e, n, ne, nf, d⟩ := I.pin p hp
      refine ⟨(hs.2 p.1 ?_).trans e, n, ne, nf, d⟩
      intro q
      rw [q, hoc] at e
      have q' : oc = p.2 := Option.some.inj e
      exact d w' (by rw [← q']; exact hocd)
theorem store_ok {M : Model} {A : Around} {E : Value → Shared → Prop} {i : Nat} {x : Str} {v : V} {u : Value} {Q : Unit → Shared → Prop} (I : Inv X pins σ H s) (hN : X.N.Nodup) (hi : X.N[i]? = some x) (hx : Loc X.env.scope x) (r : RelV v u)
    (h : ∀ s', Inv X pins (σ.set i (some v)) H s' → Q () s') (hf : X.fn x = true ∨ X.env.scope.names.lookup x = some .local := by first | exact .inl rfl | exact .inr rfl | assumption) : wpAny M A (storeName X.env x u) Q E s :=
  store_ok2 I hN hi hx r (fun s' I' _ => h s' I') hf
theorem Inv.call' {s' : Shared} {ch : List Addr} (I : Inv X pins σ H s) (ho : s'.os = s.os) (u : Un (frs X.stack) ch H H' s.heap s'.heap) (hok : HOk X.prog X.w H' s'.heap) (hg : AllBare s'.gens)
    (hch : ∀ b ∈ ch, (b ∈ X.ex ∨ X.s₀.heap.objs.size ≤ b) ∧ b ≠ X.env.locals ∧ (∀ x c, X.env.cells.lookup x = some c → c ≠ b) ∧ ∀ p ∈ X.pn ++ pins, p.1 ≠ b) : Inv X pins σ H' s' := by
  obtain ⟨h', g', d', t', o'⟩ := s'
  have e : o' = s.os := ho
  subst e
  exact I.call (g' := g') (t' := t') (d' := d') u hok hg hch
end
abbrev XK := Value → Option Addr → Hp → Prop
abbrev St := List (Option V)
abbrev VK := V → Hp → Prop
abbrev TE := St → Hp → VK → Prop
abbrev TT := St → Hp → (Bool → Hp → Prop) → Prop
abbrev TA := St → Hp → (List V → Hp → Prop) → Prop
structure Ends where
  nx : St → Hp → Prop
  rt : VK
  bk : St → Hp → Prop := fun _ _ => False
  ct : St → Hp → Prop := fun _ _ => False
abbrev TS := Ends → St → Hp → Prop
def EP (X : Cx) (pins : List (Addr × Obj)) (σ : St) (Q : VK) (u : Value) (s' : Shared) : Prop := ∃ v H', Inv X pins σ H' s' ∧ RelV v u ∧ Q v H'
def TP (X : Cx) (pins : List (Addr × Obj)) (σ : St) (Q : Bool → Hp → Prop) (b : Bool) (s' : Shared) : Prop := ∃ H', Inv X pins σ H' s' ∧ Q b H'
def AP (X : Cx) (pins : List (Addr × Obj)) (σ : St) (Q : List V → Hp → Prop) (us : List Value) (s' : Shared) : Prop := ∃ vs H', Inv X pins σ H' s' ∧ Vals vs us ∧ Q vs H'
def SP (X : Cx) (pins : List (Addr × Obj)) (D : Ends) (f : Flow) (s' : Shared) : Prop :=
  match f with
  | .next => ∃ σ' H', Inv X pins σ' H' s' ∧ D.nx σ' H'
  | .brk => ∃ σ' H', Inv X pins σ' H' s' ∧ D.bk σ' H'
  | .cont => ∃ σ' H', Inv X pins σ' H' s' ∧ D.ct σ' H'
  | .ret u => ∃ v σ' H', Inv X pins σ' H' s' ∧ RelV v u ∧ D.rt v H'
def PE (X : Cx) (e : Expr) (t : TE) : Prop :=
  ∀ (pins : List (Addr × Obj)) (s : Shared) (σ : St) (H : Hp) (Q : VK), Inv X pins σ H s → t σ H Q → wpAny (model X.prog X.w) X.A (eval e X.env) (EP X pins σ Q) X.xe s
def PT (X : Cx) (e : Expr) (t : TT) : Prop :=
  ∀ (pins : List (Addr × Obj)) (s : Shared) (σ : St) (H : Hp) (Q : Bool → Hp → Prop), Inv X pins σ H s → t σ H Q → wpAny (model X.prog X.w) X.A (isTrue e X.env (eval e X.env)) (TP X pins σ Q) X.xe s
def PW (X : Cx) (e : Expr) (t : TT) : Prop :=
  ∀ (whole : Sem Value) (pins : List (Addr × Obj)) (s : Shared) (σ : St) (H : Hp) (Q : Bool → Hp → Prop), Inv X pins σ H s → t σ H Q → wpAny (model X.prog X.w) X.A (isTrue e X.env whole) (TP X pins σ Q) X.xe s
theorem PW.pt {X : Cx} {e : Expr} {t : TT} (h : PW X e t) : PT X e t := h _
def PA (X : Cx) (es : List Expr) (t : TA) : Prop :=
  ∀ (pos : Pos) (pins : List (Addr × Obj)) (s : Shared) (σ : St) (H : Hp) (Q : List V → Hp → Prop), Inv X pins σ H s → t σ H Q → wpAny (model X.prog X.w) X.A (spliced (backTo pos (starEach es X.env))) (AP X pins σ Q) X.xe s
def PS (X : Cx) (st : Stmt) (t : TS) : Prop :=
  ∀ (pins : List (Addr × Obj)) (s : Shared) (σ : St) (H : Hp) (D : Ends), Inv X pins σ H s → t D σ H → wpAny (model X.prog X.w) X.A (exec st X.env) (SP X pins D) X.xe s
def PSs (X : Cx) (st : List Stmt) (t : TS) : Prop :=
  ∀ (pins : List (Addr × Obj)) (s : Shared) (σ : St) (H : Hp) (D : Ends), Inv X pins σ H s → t D σ H → wpAny (model X.prog X.w) X.A (execs st X.env) (SP X pins D) X.xe s
theorem thn {α : Type} {t : Sem α} {Q Q' : α → Shared → Prop} {M : Model} {A : Around} {E : Value → Shared → Prop} {s : Shared} (h : wpAny M A t Q E s) (hQ : ∀ a s, Q a s → Q' a s) : wpAny M A t Q' E s := wpAny_mono h hQ fun _ _ x => x
end L2
namespace L2
open PySem PySem.Spec PyProof.Rows
section
variable {X : Cx}
def tVar (i : Nat) : TE := fun σ H Q => ∃ v, σ[i]? = some (some v) ∧ Q v H
def tC (v : V) : TE := fun _ H Q => Q v H
theorem pe_var {i : Nat} {x : Str} {pos : Pos} (hN : X.N[i]? = some x) (hv : Vis X.env.scope x) (hd : (x == ("__debug__" : Str)) = false := by decide) (hcd : (x == ("__classdict__" : Str)) = false := by decide) : PE X (.Name x pos) (tVar i) := by
  intro pins s σ H Q I h
  obtain ⟨v, e, h⟩ := h
  obtain ⟨m, hn, hl⟩ := I.loc
  obtain ⟨u, r, l⟩ := hl i x v hN e hv
  have fin : EP X pins σ Q u s := ⟨v, H, I, r, h⟩
  rcases l with ⟨hk, hm⟩ | ⟨hk, c, hc, hcell⟩
  · exact wpAny_Name (wpAny_loadName_local I.ok.kind hk hn hm fin) hd
  · rcases hk with hk | hk
    · exact wpAny_Name (wpAny_loadName_cell I.ok.kind hk hc hcell fin) hd
    · exact wpAny_Name (wpAny_loadName_free I.ok.kind hk hc hcell fin hcd) hd
theorem pe_int {i j pos} : PE X (.Constant (.int i) j pos) (tC (.int i)) := fun _ _ _ H _ I h => wpAny_Constant_int ⟨.int i, H, I.tok _, ⟨_, rfl⟩, h⟩
theorem pe_bl {b j pos} : PE X (.Constant (.bool b) j pos) (tC (.bl b)) := fun _ _ _ H _ I h => Constant_bool ⟨.bl b, H, I, rfl, h⟩
theorem pe_non {j pos} : PE X (.Constant .none j pos) (tC .non) := fun _ _ _ H _ I h => Constant_none ⟨.non, H, I, rfl, h⟩
theorem pe_str {x j pos} : PE X (.Constant (.str x) j pos) (tC (.str x)) := fun _ _ _ H _ I h => Calls.Constant_str ⟨.str x, H, I.tok _, ⟨_, rfl⟩, h⟩
def Gl (X : Cx) (x : Str) : Prop := X.env.kindOf x = some .globalImplicit
theorem ld_glob {E : Value → Shared → Prop} {pins : List (Addr × Obj)} {s : Shared} {σ : St} {H : Hp} {x : Str} {u : Value} {pos : Pos} {Q : Value → Shared → Prop} (I : Inv X pins σ H s) (hg : Gl X x) (hm : X.mg x = some u) (h : Q u s)
    (hd : (x == ("__debug__" : Str)) = false := by decide) : wpAny (model X.prog X.w) X.A (eval (.Name x pos) X.env) Q E s :=
  Calls.Name_function_global I.ok.kind hg (Calls.loadGlobal_global (by rw [I.ok.glob]; exact I.mod.glob.keeps I.bk) hm h) hd
theorem ld_blt {E : Value → Shared → Prop} {pins : List (Addr × Obj)} {s : Shared} {σ : St} {H : Hp} {x : Str} {u : Value} {pos : Pos} {Q : Value → Shared → Prop} (I : Inv X pins σ H s) (hg : Gl X x) (hm : X.mg x = none) (hv : bootBuiltins x = some u) (h : Q u s)
    (hn : x ≠ "__name__" := by decide) (hd : (x == ("__debug__" : Str)) = false := by decide) : wpAny (model X.prog X.w) X.A (eval (.Name x pos) X.env) Q E s := by
  obtain ⟨mb, h1, h2⟩ := I.mod.blt
  exact Calls.Name_function_global I.ok.kind hg (Calls.loadGlobal_builtin (by rw [I.ok.glob]; exact I.mod.glob.keeps I.bk) hm (by rw [I.ok.blt]; exact h1.keeps I.bk) ((h2 x hn).trans hv) h) hd
theorem pe_glob {x : Str} {v : V} {u : Value} {pos : Pos} (hg : Gl X x) (hm : X.mg x = some u) (r : RelV v u) (hd : (x == ("__debug__" : Str)) = false := by decide) : PE X (.Name x pos) (tC v) :=
  fun _ _ _ H _ I h => ld_glob I hg hm ⟨v, H, I, r, h⟩ hd
theorem pe_bltn {x : Str} {v : V} {u : Value} {pos : Pos} (hg : Gl X x) (hm : X.mg x = none) (hv : bootBuiltins x = some u) (r : RelV v u) (hn : x ≠ "__name__" := by decide) (hd : (x == ("__debug__" : Str)) = false := by decide) : PE X (.Name x pos) (tC v) :=
  fun _ _ _ H _ I h => ld_blt I hg hm hv ⟨v, H, I, r, h⟩ hn hd
variable {a b : Expr} {ta tb : TE} {pos : Pos}
def PC (X : Cx) (op : CmpOp) (a b : Expr) (t : TE) : Prop :=
  ∀ (pins : List (Addr × Obj)) (s : Shared) (σ : St) (H : Hp) (Q : VK), Inv X pins σ H s → t σ H Q →
    wpAny (model X.prog X.w) X.A (eval a X.env) (fun v s₁ => wpAny (model X.prog X.w) X.A (eval b X.env) (fun u s₂ => wpAny (model X.prog X.w) X.A (compareOp op v u) (EP X pins σ Q) X.xe s₂) X.xe s₁) X.xe s
theorem nobehind (b : Expr) {op : CmpOp} (h : op ≠ .In) (h2 : op ≠ .NotIn) : behindInMarks op b = false := by
  have e1 : (op == CmpOp.In) = false := by cases op <;> first | rfl | exact absurd rfl h
  have e2 : (op == CmpOp.NotIn) = false := by cases op <;> first | rfl | exact absurd rfl h2
  cases b <;> simp [behindInMarks, e1, e2]
def tIsN (ta : TE) : TE := fun σ H Q => ta σ H fun x H1 => Q (.bl (decide (x = .non))) H1
theorem RelV.none_iff {x : V} {v : Value} (r : RelV x v) : (v == Value.none) = decide (x = .non) := by
  cases x with
  | non => cases r; rfl
  | bl _ => cases r; rfl
  | int _ => obtain ⟨t, rfl⟩ := r; rfl
  | str _ => obtain ⟨t, rfl⟩ := r; rfl
  | byt _ => obtain ⟨t, rfl⟩ := r; rfl
  | flt _ => obtain ⟨t, rfl⟩ := r; rfl
  | ref _ => cases r; rfl
  | ty _ => cases r; rfl
theorem pc_isN {j pos'} (ha : PE X a ta) : PC X .Is a (.Constant .none j pos') (tIsN ta) := by
  intro pins s σ H Q I h
  refine thn (ha pins s σ H _ I h) fun v s1 ⟨x, H1, I1, r1, q1⟩ => ?_
  exact Constant_none (is_none_gen ⟨.bl _, H1, I1, by rw [r1.none_iff]; rfl, q1⟩)
def tB (t : TE) : TT := fun σ H Q => t σ H fun x H1 => ∃ c, x = .bl c ∧ Q c H1
theorem pt_cmp {op : CmpOp} {t : TE} (h : PC X op a b t) (h1 : behindInMarks op b = false := by first | exact nobehind _ (by decide) (by decide) | rfl) : PT X (.Compare a [op] [b] pos) (tB t) := by
  intro pins s σ H Q I hw
  refine wpAny_isTrue_Compare1 (thn (h pins s σ H _ I hw) fun v s1 h1 => thn h1 fun u s2 h2 => thn h2 fun c s3 ⟨x, H1, I1, r1, q1⟩ => ?_) h1
  obtain ⟨d, rfl, q⟩ := q1
  cases r1
  exact wpAny_truthy_bool ⟨H1, I1, q⟩
theorem pt_val {e : Expr} {t : TE} (h : PE X e t) (he : ∀ whole, isTrue e X.env whole = (do let v ← whole; standAt e.pos; holding [v] (truthy v)) := by intro _; rfl) : PT X e (tB t) := by
  intro pins s σ H Q I hw
  refine isTrue_plain (thn (h pins s σ H _ I hw) fun v s1 ⟨x, H1, I1, r1, q1⟩ => ?_) (he _)
  obtain ⟨d, rfl, q⟩ := q1
  cases r1
  exact wpAny_truthy_bool ⟨H1, I1, q⟩
variable {tA tB' : TT} {rest : List Expr}
def tOr (t u : TT) : TT := fun σ H Q => t σ H fun c H1 => if c = true then Q true H1 else u σ H1 Q
def tNot (t : TT) : TT := fun σ H Q => t σ H fun c H1 => Q (!c) H1
theorem pw_or1 (ha : PT X a tA) : PW X (.BoolOp .Or [a] pos) tA := by
  intro wh pins s σ H Q I h
  refine isTrue_or (thn (ha pins s σ H Q I h) fun c s1 e => ?_)
  cases c with
  | false => exact isTrue_or_nil e
  | true => exact e
theorem pw_or (ha : PT X a tA) (hb : PW X (.BoolOp .Or (b :: rest) pos) tB') : PW X (.BoolOp .Or (a :: b :: rest) pos) (tOr tA tB') := by
  intro wh pins s σ H Q I h
  refine isTrue_or (thn (ha pins s σ H _ I h) fun c s1 ⟨H1, I1, q1⟩ => ?_)
  cases c with
  | true => exact ⟨H1, I1, q1⟩
  | false => exact hb wh pins s1 σ H1 Q I1 q1
theorem pt_not (ha : PT X a tA) : PT X (.UnaryOp .Not a pos) (tNot tA) := by
  intro pins s σ H Q I h
  exact isTrue_not (ha pins s σ H (fun c H1 => Q (!c) H1) I h)
def tAndV (ta tb : TE) : TE := fun σ H Q => ta σ H fun x H1 => ∃ c, x = .bl c ∧ if c = true then tb σ H1 Q else Q (.bl false) H1
def tNotV (ta : TE) : TE := fun σ H Q => ta σ H fun x H1 => ∃ c, x = .bl c ∧ Q (.bl (!c)) H1
theorem pe_one {op} {t : TE} (h : PE X a t) : PE X (.BoolOp op [a] pos) t := fun pins s σ H Q I hw => BoolOp_one (h pins s σ H Q I hw)
theorem pe_and (ha : PE X a ta) (hb : PE X (.BoolOp .And (b :: rest) pos) tb) : PE X (.BoolOp .And (a :: b :: rest) pos) (tAndV ta tb) := by
  intro pins s σ H Q I h
  refine BoolOp_and (thn (ha pins s σ H _ I h) fun v s1 ⟨x, H1, I1, r1, q1⟩ => ?_)
  obtain ⟨c, rfl, q1⟩ := q1
  cases r1
  refine wpAny_truthy_bool ?_
  cases c with
  | true => exact hb pins s1 σ H1 Q I1 q1
  | false => exact ⟨.bl false, H1, I1, rfl, q1⟩
theorem pe_not (ha : PE X a ta) : PE X (.UnaryOp .Not a pos) (tNotV ta) := by
  intro pins s σ H Q I h
  refine UnaryOp_ (thn (ha pins s σ H _ I h) fun v s1 ⟨x, H1, I1, r1, q1⟩ => ?_)
  obtain ⟨c, rfl, q1⟩ := q1
  cases r1
  exact not_of (wpAny_truthy_bool ⟨.bl (!c), H1, I1, rfl, q1⟩)
end
end L2
namespace L2
open PySem PySem.Spec PyProof.Rows
def SqL (K : PySem.W.Frag) (H : Hp) (a : Addr) (xs : List V) : Prop :=
  Rd H a (.lst xs) ∨
    ∃ (o : Obj) (its : Array Value) (n : Nat), K.lookup a = some o ∧ o.cls = .type "list" ∧ o.dict = none ∧ o.data = .seq its n ∧ its.size ≤ sizeLine ∧ Vals xs its.toList
def SqT (K : PySem.W.Frag) (H : Hp) (a : Addr) (xs : List V) : Prop :=
  Rd H a (.tup xs) ∨
    ∃ (o : Obj) (its : Array Value) (n : Nat), K.lookup a = some o ∧ o.cls = .type "tuple" ∧ o.data = .seq its n ∧ its.size ≤ sizeLine ∧ Vals xs its.toList
def absV : Value → Option V
  | .none => some .non
  | .bool b => some (.bl b)
  | .int i _ => some (.int i)
  | .str x _ => some (.str x)
  | .bytes b _ => some (.byt b)
  | .float b _ => some (.flt b)
  | .ref a => some (.ref a)
  | .type n => some (.ty n)
  | _ => none
theorem RelV.abs {x : V} {u : Value} (r : RelV x u) : absV u = some x := by
  cases x with
  | non => cases r; rfl
  | bl _ => cases r; rfl
  | int _ => obtain ⟨t, rfl⟩ := r; rfl
  | str _ => obtain ⟨t, rfl⟩ := r; rfl
  | byt _ => obtain ⟨t, rfl⟩ := r; rfl
  | flt _ => obtain ⟨t, rfl⟩ := r; rfl
  | ref _ => cases r; rfl
  | ty _ => cases r; rfl
theorem RelV.inj {x y : V} {u : Value} (r : RelV x u) (q : RelV y u) : x = y := Option.some.inj (r.abs.symm.trans q.abs)
theorem Vals.inj : ∀ {xs ys : List V} {us : List Value}, Vals xs us → Vals ys us → xs = ys
  | _, _, _, .nil, .nil => rfl
  | _, _, _, .cons r t, .cons r' t' => by rw [r.inj r', Vals.inj t t']
section
variable {X : Cx} {pins : List (Addr × Obj)} {σ : St} {H : Hp} {s : Shared} {a : Addr} {xs ys : List V}
theorem SqL.of {K : PySem.W.Frag} (h : H a = some (.lst xs)) : SqL K H a xs := .inl (.inl h)
theorem SqT.of {K : PySem.W.Frag} (h : H a = some (.tup xs)) : SqT K H a xs := .inl (.inl h)
theorem Inv.list (I : Inv X pins σ H s) (h : SqL X.K H a xs) : ∃ its : List Value, Vals xs its ∧ PlainL s.heap a its.toArray ∧ xs.length ≤ sizeLine := by
  rcases h with h | ⟨o, its, n, hk, hc, hd, hs, hz, r⟩
  · obtain ⟨z, its, n, r, e⟩ := h.ok I.hok
    exact ⟨its, r, ⟨_, n, e, rfl, rfl, rfl⟩, z⟩
  · refine ⟨its.toList, r, ⟨o, n, I.kIn a o hk, hc, hd, by simpa using hs⟩, ?_⟩
    have e := r.length
    simp only [Array.length_toList] at e
    omega
theorem Inv.tuple (I : Inv X pins σ H s) (h : SqT X.K H a xs) : ∃ its : List Value, Vals xs its ∧ IsTup s.heap a its.toArray ∧ xs.length ≤ sizeLine := by
  rcases h with h | ⟨o, its, n, hk, hc, hs, hz, r⟩
  · obtain ⟨z, its, r, p⟩ := h.ok I.hok
    exact ⟨its, r, p, z⟩
  · refine ⟨its.toList, r, ⟨o, I.kIn a o hk, hc, n, by simpa using hs⟩, ?_⟩
    have e := r.length
    simp only [Array.length_toList] at e
    omega
theorem Inv.list_inj (I : Inv X pins σ H s) (h : SqL X.K H a xs) (h' : SqL X.K H a ys) : xs = ys := by
  obtain ⟨its, r, ⟨o, n, e, _, _, d⟩, _⟩ := I.list h
  obtain ⟨its', r', ⟨o', n', e', _, _, d'⟩, _⟩ := I.list h'
  rw [e] at e'; cases e'
  rw [d] at d'
  injection d' with d1 _
  have : its = its' := by simpa using congrArg Array.toList d1
  subst this
  exact r.inj r'
end
abbrev Cx.wish (X : Cx) (E : Value → Shared → Prop) : Cx := { X with xe := E }
abbrev Cx.nox (X : Cx) : Cx := X.wish fun _ _ => False
theorem Cx.Ok.wish {X : Cx} (ok : X.Ok) (E : Value → Shared → Prop) : (X.wish E).Ok :=
  ⟨ok.mod, ok.kind, ok.glob, ok.blt, ok.above, ok.inj, ok.has, ok.cab, ok.hd, ok.frames, ok.stk, ok.exf, ok.bs, ok.bsz, ok.noex, ok.exfs, ok.funs, ok.frf⟩
theorem Cx.Ok.unwish {X : Cx} {E : Value → Shared → Prop} (ok : (X.wish E).Ok) : X.Ok :=
  ⟨ok.mod, ok.kind, ok.glob, ok.blt, ok.above, ok.inj, ok.has, ok.cab, ok.hd, ok.frames, ok.stk, ok.exf, ok.bs, ok.bsz, ok.noex, ok.exfs, ok.funs, ok.frf⟩
section
variable {X : Cx} {pins : List (Addr × Obj)} {σ : St} {H : Hp} {s : Shared} {E : Value → Shared → Prop}
theorem Inv.wish (I : Inv X pins σ H s) (E : Value → Shared → Prop) : Inv (X.wish E) pins σ H s := ⟨I.ok.wish E, I.os, I.bare, I.base, I.loc, I.cell, I.free, I.freeC, I.pin, I.hok, I.len⟩
theorem Inv.unwish (I : Inv (X.wish E) pins σ H s) : Inv X pins σ H s := ⟨I.ok.unwish, I.os, I.bare, I.base, I.loc, I.cell, I.free, I.freeC, I.pin, I.hok, I.len⟩
theorem SP.unwish {D : Ends} {f : Flow} {s' : Shared} (h : SP (X.wish E) pins D f s') : SP X pins D f s' := by
  cases f with
  | next => obtain ⟨σ', H', I, q⟩ := h; exact ⟨σ', H', I.unwish, q⟩
  | brk => obtain ⟨σ', H', I, q⟩ := h; exact ⟨σ', H', I.unwish, q⟩
  | cont => obtain ⟨σ', H', I, q⟩ := h; exact ⟨σ', H', I.unwish, q⟩
  | ret u => obtain ⟨v, σ', H', I, r, q⟩ := h; exact ⟨v, σ', H', I.unwish, r, q⟩
theorem PSs.nox {st : List Stmt} {t : TS} (h : PSs X.nox st t) : PSs X st t := fun pins s σ H D I hw =>
  wpAny_mono (h pins s σ H D (I.wish _) hw) (fun _ _ q => q.unwish) fun _ _ z => False.elim z
end
section
variable {X : Cx} {st : Stmt} {rest : List Stmt} {t u : TS} {e : Expr} {te : TE} {pos : Pos}
def tNext : TS := fun D σ H => D.nx σ H
def tSeq (t u : TS) : TS := fun D σ H => t { D with nx := u D } σ H
theorem pss_nil : PSs X [] tNext := fun _ _ σ H _ I h => wpAny_execs_nil ⟨σ, H, I, h⟩
theorem pss_cons (h1 : PS X st t) (h2 : PSs X rest u) : PSs X (st :: rest) (tSeq t u) := by
  intro pins s σ H D I h
  refine wpAny_execs_cons (thn (h1 pins s σ H { D with nx := u D } I h) fun f s1 q => ?_)
  cases f with
  | next =>
    obtain ⟨σ', H', I', q⟩ := q
    exact h2 pins s1 σ' H' D I' q
  | ret v => exact q
  | brk => exact q
  | cont => exact q
theorem pss_one (h1 : PS X st t) : PSs X [st] t := by
  intro pins s σ H D I h
  refine wpAny_execs_cons (thn (h1 pins s σ H D I h) fun f s1 q => ?_)
  cases f with
  | next => exact wpAny_execs_nil q
  | ret v => exact q
  | brk => exact q
  | cont => exact q
theorem Inv.quiet {pins : List (Addr × Obj)} {σ : St} {H : Hp} {s : Shared} (I : Inv X pins σ H s) : interactive X.env = false := by simp [interactive, I.ok.kind]
def tDrop (te : TE) : TS := fun D σ H => te σ H fun _ H1 => D.nx σ H1
theorem ps_expr (he : PE X e te) (hs : swapsWith e none pos.line X.env = pure false := by rfl) : PS X (.Expr e pos) (tDrop te) := by
  intro pins s σ H D I h
  exact wpAny_Expr_any (thn (he pins s σ H _ I h) fun v s1 ⟨x, H1, I1, r1, q1⟩ => ⟨σ, H1, I1, q1⟩) I.quiet hs
def tRet (te : TE) : TS := fun D σ H => te σ H D.rt
theorem ps_ret (he : PE X e te) : PS X (.Return (some e) pos) (tRet te) := by
  intro pins s σ H D I h
  exact wpAny_Return_some (thn (he pins s σ H _ I h) fun v s1 ⟨x, H1, I1, r1, q1⟩ => ⟨x, σ, H1, I1, r1, q1⟩)
def tIfS (c : TT) (t u : TS) : TS := fun D σ H => c σ H fun b H1 => if b = true then t D σ H1 else u D σ H1
theorem ps_if {c : Expr} {a b : List Stmt} {tc : TT} (hc : PT X c tc) (ha : PSs X a t) (hb : PSs X b u) : PS X (.If c a b pos) (tIfS tc t u) := by
  intro pins s σ H D I h
  refine wpAny_If (thn (hc pins s σ H _ I h) fun d s1 ⟨H1, I1, q1⟩ => ?_)
  cases d with
  | true => exact ha pins s1 σ H1 D I1 q1
  | false => exact hb pins s1 σ H1 D I1 q1
end
abbrev TG := V → St → Hp → (St → Hp → Prop) → Prop
abbrev TGs := List V → St → Hp → (St → Hp → Prop) → Prop
def PG (X : Cx) (target : Expr) (t : TG) : Prop :=
  ∀ (pins : List (Addr × Obj)) (s : Shared) (σ : St) (H : Hp) (v : V) (u : Value) (Q : St → Hp → Prop), Inv X pins σ H s → RelV v u → t v σ H Q →
    wpAny (model X.prog X.w) X.A (assign target X.env u) (fun _ s' => ∃ σ' H', Inv X pins σ' H' s' ∧ Q σ' H') X.xe s
def PGs (X : Cx) (ts : List Expr) (t : TGs) : Prop :=
  ∀ (pins : List (Addr × Obj)) (s : Shared) (σ : St) (H : Hp) (vs : List V) (us : List Value) (Q : St → Hp → Prop), Inv X pins σ H s → Vals vs us → t vs σ H Q →
    wpAny (model X.prog X.w) X.A (assignInOrder ((assignEach ts X.env).map (·.2)) us) (fun _ s' => ∃ σ' H', Inv X pins σ' H' s' ∧ Q σ' H') X.xe s
abbrev TSet := V → V → V → Hp → (Hp → Prop) → Prop
def PSet (X : Cx) (t : TSet) : Prop :=
  ∀ (pins : List (Addr × Obj)) (s : Shared) (σ : St) (H : Hp) (o i v : V) (ov iv u : Value) (Q : Hp → Prop), Inv X pins σ H s → RelV o ov → RelV i iv → RelV v u → t o i v H Q →
    wpAny (model X.prog X.w) X.A (setItem ov iv u) (fun _ s' => ∃ H', Inv X pins σ H' s' ∧ Q H') X.xe s
section
variable {X : Cx} {pos : Pos}
def gName (i : Nat) : TG := fun v σ H Q => Q (σ.set i (some v)) H
theorem pg_name {i : Nat} {x : Str} (hN : X.N.Nodup) (hi : X.N[i]? = some x) (hx : Loc X.env.scope x) (hf : X.fn x = true ∨ X.env.scope.names.lookup x = some .local := by first | exact .inl rfl | exact .inr rfl | assumption) : PG X (.Name x pos) (gName i) := by
  intro pins s σ H v u Q I r h
  exact wpAny_assign_Name (store_ok I hN hi hx r (fun s' I' => ⟨_, H, I', h⟩) hf)
def gNil : TGs := fun vs σ H Q => vs = [] ∧ Q σ H
def gCons (t : TG) (u : TGs) : TGs := fun vs σ H Q => ∃ v r, vs = v :: r ∧ t v σ H fun σ' H' => u r σ' H' Q
theorem pgs_nil : PGs X [] gNil := by
  intro pins s σ H vs us Q I r h
  obtain ⟨e, h⟩ := h
  subst e
  cases r
  exact assignInOrder_nil ⟨σ, H, I, h⟩
theorem pgs_cons {e : Expr} {es : List Expr} {t : TG} {u : TGs} (h1 : PG X e t) (h2 : PGs X es u)
    (hs : (assignEach (e :: es) X.env).map (·.2) = assign e X.env :: (assignEach es X.env).map (·.2) := by rfl) : PGs X (e :: es) (gCons t u) := by
  intro pins s σ H vs us Q I r h
  obtain ⟨v, vr, e1, h⟩ := h
  subst e1
  cases r with
  | cons r rr =>
    rw [hs]
    refine assignInOrder_cons (thn (h1 pins s σ H _ _ _ I r h) fun _ s1 ⟨σ1, H1, I1, q1⟩ => ?_)
    exact h2 pins s1 σ1 H1 _ _ Q I1 rr q1
def gTup (K : PySem.W.Frag) (n : Nat) (t : TGs) : TG := fun v σ H Q => ∃ a xs, v = .ref a ∧ SqT K H a xs ∧ xs.length = n ∧ t xs σ H Q
theorem pg_tup {es : List Expr} {k : Nat} {t : TGs} {n : Nat} (hc : X.calm = true) (h : PGs X es t)
    (hn : (assignEach es X.env).length = n := by rfl) (hst : (assignEach es X.env).findIdx? (·.1) = none := by rfl) : PG X (.Tuple es k pos) (gTup X.K n t) := by
  intro pins s σ H v u Q I r hw
  obtain ⟨a, xs, e1, hq, hl, hw⟩ := hw
  subst e1
  cases r
  obtain ⟨its, rv, ht, hz⟩ := I.tuple hq
  refine assign_Tuple_tuple (I.ok.hd hc) ht (by simp [hn, ← hl, rv.length]) hst fun h' hx => ?_
  have I1 : Inv X pins σ H { s with heap := h' } := I.kept (t' := s.toks) fun b o e => hx b o (Nat.ne_of_lt (Heap.lt_size e)) e
  exact h pins _ σ H xs _ Q I1 (by simpa using rv) hw
def gSub (to ti : TE) (t : TSet) : TG := fun v σ H Q => to σ H fun o H1 => ti σ H1 fun i H2 => t o i v H2 fun H3 => Q σ H3
theorem pg_sub {o i : Expr} {to ti : TE} {t : TSet} (ho : PE X o to) (hi : PE X i ti) (hs : PSet X t)
    (ha : ∀ v, assign (.Subscript o i pos) X.env v = (do
      let ov ← holding [v] (eval o X.env)
      let iv ← holding [v, ov] (eval i X.env)
      standAt pos
      holding [v, ov, iv] (setItem ov iv v)
      release [v, ov, iv] []) := by intro _; rfl) : PG X (.Subscript o i pos) (gSub to ti t) := by
  intro pins s σ H v u Q I r h
  rw [ha]
  refine wpAny_bind (wpAny_holding (thn (ho pins s σ H _ I h) fun ov s1 ⟨x, H1, I1, r1, q1⟩ => ?_))
  refine wpAny_bind (wpAny_holding (thn (hi pins s1 σ H1 _ I1 q1) fun iv s2 ⟨y, H2, I2, r2, q2⟩ => ?_))
  refine wpAny_bind (wpAny_standAt (wpAny_bind (wpAny_holding (thn (hs pins s2 σ H2 x y v ov iv u _ I2 r1 r2 r q2) fun _ s3 ⟨H3, I3, q3⟩ => ?_))))
  exact wpAny_release ⟨σ, H3, I3, q3⟩
def tAsg (te : TE) (g : TG) : TS := fun D σ H => te σ H fun x H1 => g x σ H1 D.nx
theorem ps_asg {tg e : Expr} {te : TE} {g : TG} (he : PE X e te) (hg : PG X tg g) (hs : swapsWithSole [tg] e pos.line X.env = pure false := by rfl) (hw : swappedStores [tg] e X.env = pure none := by rfl)
    (h1 : (assignEach [tg] X.env).map (·.2) = [assign tg X.env] := by rfl) : PS X (.Assign [tg] e pos) (tAsg te g) := by
  intro pins s σ H D I h
  refine wpAny_Assign_stores (thn (he pins s σ H _ I h) fun v s1 ⟨x, H1, I1, r1, q1⟩ => ?_) hs hw
  rw [h1]
  exact thn (hg pins s1 σ H1 x v _ I1 r1 q1) fun _ s2 q => q
theorem ps_set {i : Nat} {x : Str} {e : Expr} {te : TE} {pos' : Pos} (hN : X.N.Nodup) (hi : X.N[i]? = some x) (hx : Loc X.env.scope x) (he : PE X e te) (hs : swapsWith e (some (.Name x pos')) pos.line X.env = pure false := by rfl) (hf : X.fn x = true ∨ X.env.scope.names.lookup x = some .local := by first | exact .inl rfl | exact .inr rfl | assumption) :
    PS X (.Assign [.Name x pos'] e pos) (tAsg te (gName i)) := by
  intro pins s σ H D I h
  refine wpAny_Assign_Name (thn (he pins s σ H _ I h) fun v s1 ⟨y, H1, I1, r1, q1⟩ => ?_) hs
  exact store_ok I1 hN hi hx r1 (fun s2 I2 => ⟨_, H1, I2, q1⟩) hf
end
section
variable {X : Cx} {pos : Pos}
end
structure It where
  go : Nat → Hp → Prop
  yld : Nat → Hp → V → Hp → Prop
  stop : Nat → Hp → Prop
def FpOk (X : Cx) (pins : List (Addr × Obj)) (H : Hp) (b : Addr) : Prop :=
  H b = none ∧ b ≠ X.env.locals ∧ b ∉ X.fs ∧ (b ∈ X.ex ∨ X.s₀.heap.objs.size ≤ b) ∧ (∀ x c, X.env.cells.lookup x = some c → c ≠ b) ∧ ∀ p ∈ X.pn ++ pins, p.1 ≠ b
theorem Inv.fpOk {X : Cx} {pins : List (Addr × Obj)} {σ : St} {H H' : Hp} {s : Shared} {b : Addr} (I : Inv X pins σ H s) (hb : s.heap.objs.size ≤ b) (hn : H' b = none) : FpOk X pins H' b := by
  refine ⟨hn, Nat.ne_of_gt (Nat.lt_of_lt_of_le I.lt hb), I.nofs hb, .inr (Nat.le_trans I.sz hb), fun x c e z => ?_, fun p hp z => ?_⟩
  · obtain ⟨v, q⟩ := I.cell x c e
    exact absurd (Nat.lt_of_lt_of_le q.lt (by rw [z]; exact hb)) (Nat.lt_irrefl _)
  · exact absurd (Nat.lt_of_lt_of_le (Heap.lt_size (I.pin p hp).1) (by rw [z]; exact hb)) (Nat.lt_irrefl _)
structure Turn (P : Program) (w : World) (K : PySem.W.Frag) (tg : Expr) (J : It) (fp : List Addr) (it : Addr) (tn : Nat → Heap → Prop) : Prop where
  mem : it ∈ fp
  obj : ∀ i h, tn i h → ∀ b ∈ fp, ∃ o, h.get? b = some o ∧ ∀ v, o.data ≠ .cell v
  keep : ∀ i h h', tn i h → (∀ b ∈ fp, ∀ o, h.get? b = some o → h'.get? b = some o) → tn i h'
  item : ∀ (X : Cx), X.prog = P → X.w = w → X.K = K → X.calm = true → ∀ (i : Nat) (pins : List (Addr × Obj)) (s : Shared) (σ : St) (H : Hp) (E : Value → Shared → Prop), Inv X pins σ H s → (∀ b ∈ fp, FpOk X pins H b) → tn i s.heap → J.go i H →
    wpAny (model P w) X.A (pyNext (.ref it)) (fun r s1 => ∃ u, r = some u ∧
      wpAny (model P w) X.A (letOwnedTupleGo tg (.ref it) u) (fun _ s2 => ∃ x H', Inv X pins σ H' s2 ∧ RelV x u ∧ J.yld i H x H' ∧ tn (i + 1) s2.heap ∧ ∀ b ∈ fp, H' b = none) E s1) E s
  done : ∀ (X : Cx), X.prog = P → X.w = w → X.K = K → X.calm = true → ∀ (i : Nat) (pins : List (Addr × Obj)) (s : Shared) (σ : St) (H : Hp) (E : Value → Shared → Prop), Inv X pins σ H s → (∀ b ∈ fp, FpOk X pins H b) → tn i s.heap → J.stop i H →
    wpAny (model P w) X.A (pyNext (.ref it)) (fun r s1 => r = none ∧ Inv X pins σ H s1) E s
  self : ∀ (A : Around) (i : Nat) (s : Shared) (Q : Value → Shared → Prop) (E : Value → Shared → Prop), tn i s.heap → Q (.ref it) s → wpAny (model P w) A (pyIter (.ref it)) Q E s
abbrev TI := St → Hp → (It → Hp → Prop) → Prop
def PIE (X : Cx) (pins : List (Addr × Obj)) (σ : St) (tg : Expr) (R : It → Hp → Prop) (itv : Value) (s2 : Shared) : Prop :=
  ∃ (it : Addr) (fp : List Addr) (tn : Nat → Heap → Prop) (J : It) (H' : Hp), itv = .ref it ∧ Inv X pins σ H' s2 ∧ Turn X.prog X.w X.K tg J fp it tn ∧ tn 0 s2.heap ∧ (∀ b ∈ fp, FpOk X pins H' b) ∧ R J H'
def PI (X : Cx) (tg iter : Expr) (wi : TI) : Prop :=
  ∀ (pins : List (Addr × Obj)) (s : Shared) (σ : St) (H : Hp) (R : It → Hp → Prop), Inv X pins σ H s → wi σ H R →
    wpAny (model X.prog X.w) X.A (eval iter X.env) (fun v s1 => wpAny (model X.prog X.w) X.A (pyIter v) (PIE X pins σ tg R) X.xe s1) X.xe s
theorem go_of {M : Model} {A : Around} {E : Value → Shared → Prop} {s : Shared} {tg : Expr} {it : Addr} {u : Value} {o : Obj} {n : String} {vs : Array Value} {Q : Unit → Shared → Prop} (ho : s.heap.get? it = some o) (hc : o.cls = .type n) (hd : o.data = .fields vs)
    (hn : ["enumerate", "zip", "dict_itemiterator", "dict_reverseitemiterator", "odict_iterator", "itertools.zip_longest", "itertools.pairwise"].contains n = false) (hQ : Q () s) : wpAny M A (letOwnedTupleGo tg (.ref it) u) Q E s := by
  unfold letOwnedTupleGo
  cases tg <;> first
    | exact wpAny_pure hQ
    | (cases u <;> first
        | exact wpAny_pure hQ
        | (refine wpAny_bind (wpAny_load ho ?_)
           rw [hc, hd]
           show wpAny M A (if (["enumerate", "zip", "dict_itemiterator", "dict_reverseitemiterator", "odict_iterator", "itertools.zip_longest", "itertools.pairwise"].contains n && vs[0]? == some (rawInt _)) = true then _ else _) Q E s
           rw [if_neg (by intro h; rw [hn, Bool.false_and] at h; cases h)]
           exact wpAny_pure hQ))
def Itl (K : PySem.W.Frag) (a : Addr) : It :=
  ⟨fun i H => ∃ xs x, SqL K H a xs ∧ xs[i]? = some x, fun i H x H' => H' = H ∧ ∀ xs, SqL K H a xs → xs[i]? = some x, fun i H => ∃ xs, SqL K H a xs ∧ xs.length ≤ i⟩
def Itr (lo : Int) (n : Nat) : It := ⟨fun i _ => i < n, fun i H x H' => H' = H ∧ x = .int (lo + i), fun i _ => n ≤ i⟩
theorem turn_list {P : Program} {w : World} {K : PySem.W.Frag} {tg : Expr} (a it : Addr) : Turn P w K tg (Itl K a) [it] it (fun i h => h.IsListIter it a i) where
  mem := by simp
  obj := fun i h st b hb => by
    have e : b = it := by simpa using hb
    subst e
    obtain ⟨o, e, c, d⟩ := st
    exact ⟨o, e, fun v z => by rw [d] at z; cases z⟩
  keep := fun i h h' st k => st.at fun o e => k it (by simp) o e
  item := by
    intro X hP hw hK hc i pins s σ H E I hf st hg
    subst hP hw hK
    obtain ⟨xs, x, hq, hx⟩ := hg
    obtain ⟨its, rv, p, hz⟩ := I.list hq
    obtain ⟨u, hu, ru⟩ := rv.get hx
    obtain ⟨f0, f1, f2, f3, f4, f5⟩ := hf it (by simp)
    refine wpAny_pyNext_list_item st p.isList (x := u) (by simpa using hu) fun h' st' sb => ?_
    have I1 : Inv X pins σ H { s with heap := h' } := I.turned (t' := s.toks) (fun b o hb e => (sb.2 b hb).trans e) f0 f1 f3 f4 f5
    obtain ⟨o, e, c, d⟩ := id st'
    exact ⟨u, rfl, go_of (s := { s with heap := h' }) e c d (by decide) ⟨x, H, I1, ru, ⟨rfl, fun ys hy => by rw [I.list_inj hy hq]; exact hx⟩, st', fun b hb => (hf b hb).1⟩⟩
  done := by
    intro X hP hw hK hc i pins s σ H E I hf st hg
    subst hP hw hK
    obtain ⟨xs, hq, hx⟩ := hg
    obtain ⟨its, rv, p, hz⟩ := I.list hq
    obtain ⟨f0, f1, f2, f3, f4, f5⟩ := hf it (by simp)
    have hl := rv.length
    exact wpAny_pyNext_list_end (I.ok.hd hc) st p.isList (by simp; omega) fun h' eb => ⟨rfl, I.turned (t' := s.toks) (fun b o hb e => eb b o hb e) f0 f1 f3 f4 f5⟩
  self := fun _ _ _ _ _ st h => wpAny_pyIter_listiter st h
theorem turn_range {P : Program} {w : World} {K : PySem.W.Frag} {tg : Expr} (it : Addr) (lo : Int) (n : Nat) : Turn P w K tg (Itr lo n) [it] it (fun i h => IsRangeIter h it (lo + (i : Nat) * 1) ((n : Int) - (i : Nat)) 1) where
  mem := by simp
  obj := fun i h st b hb => by
    have e : b = it := by simpa using hb
    subst e
    exact ⟨_, st, fun v z => by
      have z' : Data.fields _ = Data.cell v := z
      cases z'⟩
  keep := fun i h h' st k => k it (by simp) _ st
  item := by
    intro X hP hw hK hc i pins s σ H E I hf st hg
    subst hP hw hK
    obtain ⟨f0, f1, f2, f3, f4, f5⟩ := hf it (by simp)
    have W := Walks.range (prog := X.prog) (w := X.w) (I.ok.hd hc) it lo 1 n
    refine W.item i s _ _ hg st fun v h' tk hv st' kk => ?_
    obtain ⟨t, rfl⟩ := hv
    have I1 : Inv X pins σ H { s with heap := h', toks := tk } := I.turned (fun b o hb e => kk b o (by simpa using hb) e) f0 f1 f3 f4 f5
    refine ⟨_, rfl, go_of (s := { s with heap := h', toks := tk }) (n := "range_iterator") st' rfl rfl (by decide) ⟨.int (lo + i), H, I1, ⟨t, ?_⟩, ⟨rfl, rfl⟩, st', fun b hb => (hf b hb).1⟩⟩
    rw [Int.mul_one]
  done := by
    intro X hP hw hK hc i pins s σ H E I hf st hg
    subst hP hw hK
    obtain ⟨f0, f1, f2, f3, f4, f5⟩ := hf it (by simp)
    exact wpAny_pyNext_range_end (I.ok.hd hc) st (by have : n ≤ i := hg; omega) fun h' eb => ⟨rfl, I.turned (t' := s.toks) (fun b o hb e => eb b o hb e) f0 f1 f3 f4 f5⟩
  self := fun _ _ _ _ _ st h => wpAny_pyIter_rangeiter st h
end L2
namespace L2
open PySem PySem.Spec PyProof.Rows
section
variable {X : Cx} {tg : Expr}
def iList (K : PySem.W.Frag) (tl : TE) : TI := fun σ H R => tl σ H fun x H1 => ∃ a, x = .ref a ∧ (∃ xs, SqL K H1 a xs) ∧ R (Itl K a) H1
theorem pi_list {l : Expr} {tl : TE} (hl : PE X l tl) : PI X tg l (iList X.K tl) := by
  intro pins s σ H R I h
  refine thn (hl pins s σ H _ I h) fun v s1 ⟨x, H1, I1, r1, q1⟩ => ?_
  obtain ⟨a, e, ⟨xs, hq⟩, q⟩ := q1
  subst e
  cases r1
  obtain ⟨its, rv, p, hz⟩ := I1.list hq
  refine wpAny_pyIter_list p.isList ?_
  refine ⟨s1.heap.objs.size, [s1.heap.objs.size], _, _, H1, rfl, I1.kept (t' := s1.toks) fun b o e => Heap.get?_push_of_some _ e, turn_list a _, ⟨_, Heap.get?_push_size _ rfl, rfl, rfl⟩, fun b hb => ?_, q⟩
  have e : b = s1.heap.objs.size := by simpa using hb
  subst e
  exact I1.fpOk (Nat.le_refl _) (I1.hok.fresh (Nat.le_refl _))
theorem range_it {pins : List (Addr × Obj)} {σ : St} {H : Hp} {s : Shared} {R : It → Hp → Prop} {E : Value → Shared → Prop} {lo hi : Int} {t u v : Tok} {tk : Nat} (I : Inv X pins σ H s) (h1 : -(2 ^ 62) ≤ lo) (h2 : lo < 2 ^ 62) (h3 : -(2 ^ 62) ≤ hi) (h4 : hi < 2 ^ 62)
    (q : R (Itr lo (hi - lo).toNat) H) : wpAny (model X.prog X.w) X.A (pyIter (.ref s.heap.objs.size)) (PIE X pins σ tg R) E { s with heap := s.heap.push { cls := .type "range", data := .fields #[.int lo t, .int hi u, .int 1 v] }, toks := tk } := by
  refine wpAny_pyIter_range (IsRange.new ..) (small_one h1 h2 h3 h4) ?_
  have I1 : Inv X pins σ H { s with heap := s.heap.push { cls := .type "range", data := .fields #[.int lo t, .int hi u, .int 1 v] }, toks := tk } := I.kept fun b o e => Heap.get?_push_of_some _ e
  refine ⟨(s.heap.push { cls := .type "range", data := .fields #[.int lo t, .int hi u, .int 1 v] }).objs.size, [(s.heap.push { cls := .type "range", data := .fields #[.int lo t, .int hi u, .int 1 v] }).objs.size], _, _, H, rfl,
    I1.kept (t' := tk) fun b o e => Heap.get?_push_of_some _ e, turn_range _ lo (hi - lo).toNat, ?_, fun b hb => ?_, q⟩
  · have e1 : lo + ((0 : Nat) : Int) * 1 = lo := by simp
    have e2 : (((hi - lo).toNat : Nat) : Int) - ((0 : Nat) : Int) = Builtin.Range.rangeSize lo hi 1 := by rw [rangeSize_one]; split <;> omega
    show IsRangeIter _ _ (lo + ((0 : Nat) : Int) * 1) ((((hi - lo).toNat : Nat) : Int) - ((0 : Nat) : Int)) 1
    rw [e1, e2]
    exact Heap.get?_push_size _ rfl
  · have e : b = (s.heap.push { cls := .type "range", data := .fields #[.int lo t, .int hi u, .int 1 v] }).objs.size := by simpa using hb
    subst e
    exact I1.fpOk (Nat.le_refl _) (I1.hok.fresh (Nat.le_refl _))
def iRng1 (ta : TA) : TI := fun σ H R => ta σ H fun vs H1 => ∃ j : Int, vs = [.int j] ∧ -(2 ^ 62) ≤ j ∧ j < 2 ^ 62 ∧ R (Itr 0 j.toNat) H1
theorem pi_range1 {a : Expr} {ta : TA} {p pos : Pos} (hg : Gl X "range") (hm : X.mg "range" = none) (ha : PA X [a] ta) (hs : starEach [a] X.env = [(false, eval a X.env)] := by rfl) : PI X tg (.Call (.Name "range" p) [a] [] pos) (iRng1 ta) := by
  intro pins s σ H R I h
  refine Call_ (ld_blt I hg hm boot_range (PyProof.Rows.callWith_type1 (thn (ha pos pins s σ H _ I h) fun us s1 ⟨vs, H1, I1, r1, q1⟩ => ?_) hs rfl))
  obtain ⟨j, e, q1, q2, q⟩ := q1
  subst e
  cases r1 with
  | cons r rr =>
    cases rr
    obtain ⟨t, rfl⟩ := r
    exact call_range_1 (range_it I1 (by omega) (by omega) q1 q2 (by simpa using q))
def tFor (wi : TI) (g : TG) (tb : TS) : TS := fun D σ H => wi σ H fun J H1 => ∃ W : Nat → Nat → St → Hp → Prop, (∃ m, W 0 m σ H1) ∧ ∀ i m σ H, W i m σ H →
  (J.stop i H ∧ D.nx σ H) ∨ (J.go i H ∧ ∃ N : St → Hp → Prop, (∀ σ' H', N σ' H' → ∃ m', m' < m ∧ W (i + 1) m' σ' H') ∧ ∀ x H', J.yld i H x H' → g x σ H' fun σ2 H2 => tb { D with nx := N, ct := N, bk := D.nx } σ2 H2)
def pinsAt (fp : List Addr) (h : Heap) : List (Addr × Obj) := fp.filterMap fun b => (h.get? b).map fun o => (b, o)
theorem mem_pinsAt {fp : List Addr} {h : Heap} {b : Addr} {o : Obj} (hb : b ∈ fp) (e : h.get? b = some o) : (b, o) ∈ pinsAt fp h := List.mem_filterMap.mpr ⟨b, hb, by rw [e]; rfl⟩
theorem of_pinsAt {fp : List Addr} {h : Heap} {p : Addr × Obj} (hp : p ∈ pinsAt fp h) : p.1 ∈ fp ∧ h.get? p.1 = some p.2 := by
  obtain ⟨b, hb, e⟩ := List.mem_filterMap.mp hp
  cases q : h.get? b with
  | none => rw [q] at e; cases e
  | some o =>
    rw [q] at e
    have e' : (b, o) = p := Option.some.inj e
    subst e'
    exact ⟨hb, q⟩
theorem Inv.pinned {pins : List (Addr × Obj)} {σ : St} {H : Hp} {s : Shared} {fp : List Addr} (I : Inv X pins σ H s) (hf : ∀ b ∈ fp, FpOk X pins H b) (ho : ∀ b ∈ fp, ∃ o, s.heap.get? b = some o ∧ ∀ v, o.data ≠ .cell v) : Inv X (pins ++ pinsAt fp s.heap) σ H s :=
  I.pins_of fun p hp => (List.mem_append.mp hp).elim (fun z => I.pin p (List.mem_append_right _ z)) fun z => by
    obtain ⟨hb, e⟩ := of_pinsAt z
    obtain ⟨f0, f1, f2, _⟩ := hf p.1 hb
    obtain ⟨o, e', d⟩ := ho p.1 hb
    rw [e] at e'; cases e'
    exact ⟨e, f0, f1, f2, d⟩
theorem Inv.unpinned {pins pl : List (Addr × Obj)} {σ : St} {H : Hp} {s : Shared} (I : Inv X (pins ++ pl) σ H s) : Inv X pins σ H s := I.pins_of fun p hp => I.pin p (List.mem_append_right _ (List.mem_append_left _ hp))
theorem ps_for {iter : Expr} {body : List Stmt} {wi : TI} {g : TG} {tb : TS} {pos : Pos} (hp : PassesOwn (model X.prog X.w) X.A X.env X.xe) (hc : X.calm = true) (hi : PI X tg iter wi) (hg : PG X tg g) (hb : PSs X body tb)
    (hs : ∀ x, foldedSetIterable iter X.env x = pure x := by intro _; rfl) : PS X (.For tg iter body [] pos) (tFor wi g tb) := by
  intro pins s σ H D I h
  refine wpAny_For (thn (hi pins s σ H _ I h) fun v s1 h1 => thn h1 fun itv s2 h2 => ?_) hs
  obtain ⟨it, fp, tn, J, H2, e, I2, T, st2, f2, W, ⟨m0, w0⟩, turn⟩ := h2
  subst e
  have stat : ∀ {H' : Hp}, (∀ b ∈ fp, H' b = none) → ∀ b ∈ fp, FpOk X pins H' b := fun hn b hb => ⟨hn b hb, (f2 b hb).2⟩
  refine codeAny_forLoop_any (fun n s' => ∃ i σ' H', Inv X pins σ' H' s' ∧ tn i s'.heap ∧ (∀ b ∈ fp, H' b = none) ∧ W i n σ' H') ?_ m0 ⟨0, σ, H2, I2, st2, fun b hb => (f2 b hb).1, w0⟩
  rintro n s3 ⟨i, σ3, H3, I3, st3, fr3, w3⟩
  rcases turn i n σ3 H3 w3 with ⟨stop, qn⟩ | ⟨go, N, hN, step⟩
  · refine wpAny_passesOwn hp (thn (T.done X rfl rfl rfl hc i pins s3 σ3 H3 X.xe I3 (stat fr3) st3 stop) fun r s4 ⟨hr, I4⟩ => ?_)
    subst hr
    exact wpAny_execs_nil ⟨σ3, H3, I4, qn⟩
  · refine wpAny_passesOwn hp (thn (T.item X rfl rfl rfl hc i pins s3 σ3 H3 X.xe I3 (stat fr3) st3 go) fun r s4 ⟨u, hr, h4⟩ => ?_)
    subst hr
    refine wpAny_passesOwn hp (thn h4 fun _ s5 ⟨x, H5, I5, r5, y5, st5, fr5⟩ => ?_)
    have I5' := I5.pinned (stat fr5) (T.obj _ _ st5)
    refine wpAny_passesOwn hp (thn (hg _ s5 σ3 H5 x u _ I5' r5 (step x H5 y5)) fun _ s6 ⟨σ6, H6, I6, q6⟩ => ?_)
    refine wpAny_passesOwn hp (thn (hb _ s6 σ6 H6 _ I6 q6) fun f s7 q7 => ?_)
    have again : ∀ {σ7 : St} {H7 : Hp}, Inv X (pins ++ pinsAt fp s5.heap) σ7 H7 s7 → N σ7 H7 → ∃ m, m < n ∧ ∃ i σ' H', Inv X pins σ' H' s7 ∧ tn i s7.heap ∧ (∀ b ∈ fp, H' b = none) ∧ W i m σ' H' := fun {σ7 H7} I7 n7 => by
      obtain ⟨m', hm, w7⟩ := hN σ7 H7 n7
      refine ⟨m', hm, i + 1, σ7, H7, I7.unpinned, T.keep _ _ _ st5 fun b hb o e => (I7.pin (b, o) (List.mem_append_right _ (List.mem_append_right _ (mem_pinsAt hb e)))).1, fun b hb => ?_, w7⟩
      obtain ⟨o, e, d⟩ := T.obj _ _ st5 b hb
      exact (I7.pin (b, o) (List.mem_append_right _ (List.mem_append_right _ (mem_pinsAt hb e)))).2.1
    cases f with
    | next => obtain ⟨σ7, H7, I7, n7⟩ := q7; exact again I7 n7
    | cont => obtain ⟨σ7, H7, I7, n7⟩ := q7; exact again I7 n7
    | brk => obtain ⟨σ7, H7, I7, q7⟩ := q7; exact ⟨σ7, H7, I7.unpinned, q7⟩
    | ret v => obtain ⟨x7, σ7, H7, I7, r7, q7⟩ := q7; exact ⟨x7, σ7, H7, I7.unpinned, r7, q7⟩
end
theorem for_list {K : PySem.W.Frag} {a : Addr} {xs : List V} {g : TG} {tb : TS} {D : Ends} {σ : St} {H : Hp} (Pv : Nat → St → Hp → Prop) (h0 : Pv 0 σ H) (hl : ∀ i σ H, i ≤ xs.length → Pv i σ H → SqL K H a xs)
    (hs : ∀ i x σ H, xs[i]? = some x → Pv i σ H → g x σ H fun σ2 H2 => tb { D with nx := Pv (i + 1), ct := Pv (i + 1), bk := D.nx } σ2 H2) (hd : ∀ σ H, Pv xs.length σ H → D.nx σ H) :
    ∃ W : Nat → Nat → St → Hp → Prop, (∃ m, W 0 m σ H) ∧ ∀ i m σ H, W i m σ H →
      ((Itl K a).stop i H ∧ D.nx σ H) ∨ ((Itl K a).go i H ∧ ∃ N : St → Hp → Prop, (∀ σ' H', N σ' H' → ∃ m', m' < m ∧ W (i + 1) m' σ' H') ∧ ∀ x H', (Itl K a).yld i H x H' → g x σ H' fun σ2 H2 => tb { D with nx := N, ct := N, bk := D.nx } σ2 H2) := by
  refine ⟨fun i m σ H => m = xs.length - i ∧ i ≤ xs.length ∧ Pv i σ H, ⟨xs.length, by simp, Nat.zero_le _, h0⟩, ?_⟩
  rintro i m σ H ⟨rfl, hi, p⟩
  have q := hl i σ H hi p
  by_cases hlt : i < xs.length
  · refine .inr ⟨⟨xs, xs[i], q, by simp [hlt]⟩, Pv (i + 1), fun σ' H' p' => ⟨xs.length - (i + 1), by omega, rfl, hlt, p'⟩, fun x H' y => ?_⟩
    obtain ⟨e, y⟩ := y
    subst e
    exact hs i x σ _ (y xs q) p
  · have e : i = xs.length := by omega
    subst e
    exact .inl ⟨⟨xs, q, Nat.le_refl _⟩, hd σ H p⟩
theorem for_range {lo : Int} {n : Nat} {g : TG} {tb : TS} {D : Ends} {σ : St} {H : Hp} (Pv : Nat → St → Hp → Prop) (h0 : Pv 0 σ H)
    (hs : ∀ i σ H, i < n → Pv i σ H → g (.int (lo + i)) σ H fun σ2 H2 => tb { D with nx := Pv (i + 1), ct := Pv (i + 1), bk := D.nx } σ2 H2) (hd : ∀ σ H, Pv n σ H → D.nx σ H) :
    ∃ W : Nat → Nat → St → Hp → Prop, (∃ m, W 0 m σ H) ∧ ∀ i m σ H, W i m σ H →
      ((Itr lo n).stop i H ∧ D.nx σ H) ∨ ((Itr lo n).go i H ∧ ∃ N : St → Hp → Prop, (∀ σ' H', N σ' H' → ∃ m', m' < m ∧ W (i + 1) m' σ' H') ∧ ∀ x H', (Itr lo n).yld i H x H' → g x σ H' fun σ2 H2 => tb { D with nx := N, ct := N, bk := D.nx } σ2 H2) := by
  refine ⟨fun i m σ H => m = n - i ∧ i ≤ n ∧ Pv i σ H, ⟨n, by simp, Nat.zero_le _, h0⟩, ?_⟩
  rintro i m σ H ⟨rfl, hi, p⟩
  by_cases hlt : i < n
  · refine .inr ⟨hlt, Pv (i + 1), fun σ' H' p' => ⟨n - (i + 1), by omega, rfl, hlt, p'⟩, fun x H' y => ?_⟩
    obtain ⟨e, y⟩ := y
    subst e y
    exact hs i σ _ hlt p
  · have e : i = n := by omega
    subst e
    exact .inl ⟨Nat.le_refl _, hd σ H p⟩
end L2
namespace L2
open PySem PySem.Spec PyProof.Rows
abbrev R2 := V → V → Hp → VK → Prop
def OpR (X : Cx) (f : Value → Value → Sem Value) (r : R2) : Prop :=
  ∀ (pins : List (Addr × Obj)) (s : Shared) (σ : St) (H : Hp) (x y : V) (v u : Value) (Q : VK), Inv X pins σ H s → RelV x v → RelV y u → r x y H Q →
    wpAny (model X.prog X.w) X.A (f v u) (EP X pins σ Q) X.xe s
def UnR (X : Cx) (f : Value → Sem Value) (r : V → Hp → VK → Prop) : Prop :=
  ∀ (pins : List (Addr × Obj)) (s : Shared) (σ : St) (H : Hp) (x : V) (v : Value) (Q : VK), Inv X pins σ H s → RelV x v → r x H Q →
    wpAny (model X.prog X.w) X.A (f v) (EP X pins σ Q) X.xe s
def CallR (X : Cx) (f : Value) (r : List V → Hp → VK → Prop) : Prop :=
  ∀ (pins : List (Addr × Obj)) (s : Shared) (σ : St) (H : Hp) (xs : List V) (us : List Value) (Q : VK), Inv X pins σ H s → Vals xs us → r xs H Q →
    wpAny (model X.prog X.w) X.A (call f us) (EP X pins σ Q) X.xe s
def tOp (r : R2) (ta tb : TE) : TE := fun σ H Q => ta σ H fun x H1 => tb σ H1 fun y H2 => r x y H2 Q
def tUn (r : V → Hp → VK → Prop) (ta : TE) : TE := fun σ H Q => ta σ H fun x H1 => r x H1 Q
def rI (C : Int → Int → Prop) (g : Int → Int → V) : R2 := fun x y H Q => ∃ i j, x = .int i ∧ y = .int j ∧ C i j ∧ Q (g i j) H
def rI0 (g : Int → Int → V) : R2 := fun x y H Q => ∃ i j, x = .int i ∧ y = .int j ∧ Q (g i j) H
def rU (g : Int → V) : V → Hp → VK → Prop := fun x H Q => ∃ i, x = .int i ∧ Q (g i) H
section
variable {X : Cx} {a b c : Expr} {ta tb tc : TE} {pos : Pos}
theorem binT (ha : PE X a ta) (hb : PE X b tb) {pins : List (Addr × Obj)} {s : Shared} {σ : St} {H : Hp} {R : V → V → Hp → Prop} (I : Inv X pins σ H s)
    (h : ta σ H fun x H1 => tb σ H1 fun y H2 => R x y H2) {Q : Value → Shared → Prop} {f : Value → Value → Sem Value}
    (hf : ∀ v u s2 x y H2, Inv X pins σ H2 s2 → RelV x v → RelV y u → R x y H2 → wpAny (model X.prog X.w) X.A (f v u) Q X.xe s2) :
    wpAny (model X.prog X.w) X.A (eval a X.env) (fun v s₁ => wpAny (model X.prog X.w) X.A (eval b X.env) (fun u s₂ => wpAny (model X.prog X.w) X.A (f v u) Q X.xe s₂) X.xe s₁) X.xe s := by
  refine thn (ha pins s σ H _ I h) fun v s1 ⟨x, H1, I1, r1, q1⟩ => ?_
  refine thn (hb pins s1 σ H1 _ I1 q1) fun u s2 ⟨y, H2, I2, r2, q2⟩ => ?_
  exact hf v u s2 x y H2 I2 r1 r2 q2
theorem pe_op {op : Operator} {r : R2} (ho : OpR X (binaryOp op) r) (ha : PE X a ta) (hb : PE X b tb) : PE X (.BinOp a op b pos) (tOp r ta tb) := by
  intro pins s σ H Q I h
  exact wpAny_BinOp (binT ha hb I h fun v u s2 x y H2 I2 rx ry q => ho pins s2 σ H2 x y v u Q I2 rx ry q)
theorem pe_un {op : UnaryOp} {r : V → Hp → VK → Prop} (ho : UnR X (unaryOp op) r) (ha : PE X a ta) : PE X (.UnaryOp op a pos) (tUn r ta) := by
  intro pins s σ H Q I h
  exact UnaryOp_ (thn (ha pins s σ H _ I h) fun v s1 ⟨x, H1, I1, r1, q1⟩ => ho pins s1 σ H1 x v Q I1 r1 q1)
theorem opI {f : Value → Value → Sem Value} {C : Int → Int → Prop} {g : Int → Int → Int}
    (rule : ∀ (i j : Int) (t u : Tok) (s : Shared) (Q : Value → Shared → Prop) (E : Value → Shared → Prop), C i j → Q (.int (g i j) s.toks) { s with toks := s.toks + 1 } → wpAny (model X.prog X.w) X.A (f (.int i t) (.int j u)) Q E s) :
    OpR X f (rI C fun i j => .int (g i j)) := by
  intro pins s σ H x y v u Q I rx ry h
  obtain ⟨i, j, rfl, rfl, hc, q⟩ := h
  obtain ⟨t, rfl⟩ := rx
  obtain ⟨t', rfl⟩ := ry
  exact rule i j t t' s _ _ hc ⟨.int (g i j), H, I.tok _, ⟨_, rfl⟩, q⟩
theorem opI0 {f : Value → Value → Sem Value} {g : Int → Int → Int}
    (rule : ∀ (i j : Int) (t u : Tok) (s : Shared) (Q : Value → Shared → Prop) (E : Value → Shared → Prop), Q (.int (g i j) s.toks) { s with toks := s.toks + 1 } → wpAny (model X.prog X.w) X.A (f (.int i t) (.int j u)) Q E s) :
    OpR X f (rI0 fun i j => .int (g i j)) := by
  intro pins s σ H x y v u Q I rx ry h
  obtain ⟨i, j, rfl, rfl, q⟩ := h
  obtain ⟨t, rfl⟩ := rx
  obtain ⟨t', rfl⟩ := ry
  exact rule i j t t' s _ _ ⟨.int (g i j), H, I.tok _, ⟨_, rfl⟩, q⟩
theorem opB0 {f : Value → Value → Sem Value} {g : Int → Int → Bool}
    (rule : ∀ (i j : Int) (t u : Tok) (s : Shared) (Q : Value → Shared → Prop) (E : Value → Shared → Prop), Q (.bool (g i j)) s → wpAny (model X.prog X.w) X.A (f (.int i t) (.int j u)) Q E s) :
    OpR X f (rI0 fun i j => .bl (g i j)) := by
  intro pins s σ H x y v u Q I rx ry h
  obtain ⟨i, j, rfl, rfl, q⟩ := h
  obtain ⟨t, rfl⟩ := rx
  obtain ⟨t', rfl⟩ := ry
  exact rule i j t t' s _ _ ⟨.bl (g i j), H, I, rfl, q⟩
def CDiv (i j : Int) : Prop := 0 < j ∧ j < 1073741824
def CPow (i j : Int) : Prop := 0 ≤ j ∧ j ≤ 1000000 ∧ i.natAbs < 2 ^ 64
def CMul (i j : Int) : Prop := (-(2 ^ 64) < i ∧ i < 2 ^ 64) ∨ (-(2 ^ 64) < j ∧ j < 2 ^ 64)
theorem CMul.ok {i j : Int} (h : CMul i j) : IntMulOk i j := by
  rcases h with ⟨h1, h2⟩ | ⟨h1, h2⟩
  · exact .of_left (intBits_le_64 h1 h2)
  · exact .of_right (intBits_le_64 h1 h2)
theorem op_add : OpR X (binaryOp .Add) (rI0 fun i j => .int (i + j)) := opI0 fun _ _ _ _ _ _ _ q => add_int q
theorem op_sub : OpR X (binaryOp .Sub) (rI0 fun i j => .int (i - j)) := opI0 fun _ _ _ _ _ _ _ q => sub_int q
theorem op_mul : OpR X (binaryOp .Mult) (rI CMul fun i j => .int (i * j)) := opI fun _ _ _ _ _ _ _ hc q => mul_int q hc.ok
theorem op_fdiv : OpR X (binaryOp .FloorDiv) (rI CDiv fun i j => .int (i / j)) := opI fun i j _ _ _ _ _ hc q => by
  have h1 : (0 : Int) < j := hc.1
  have h2 : j < 1073741824 := hc.2
  exact floordiv_int (by omega) (by rw [Int.fdiv_eq_ediv_of_nonneg i (by omega)]; exact q) (.inl (PyProof.noPylong_small (by omega)))
theorem op_mod : OpR X (binaryOp .Mod) (rI (fun _ j => 0 < j) fun i j => .int (i % j)) := opI fun i j _ _ _ _ _ hc q => by
  have h1 : (0 : Int) < j := hc
  exact mod_int' (by omega) (by rw [Int.fmod_eq_emod_of_nonneg i (by omega)]; exact q)
theorem op_pow : OpR X (binaryOp .Pow) (rI CPow fun i j => .int (i ^ j.toNat)) := opI fun _ _ _ _ _ _ _ hc q => pow_int_small hc.1 hc.2.1 hc.2.2 q
theorem unI {f : Value → Sem Value} {g : Int → Int}
    (rule : ∀ (i : Int) (t : Tok) (s : Shared) (Q : Value → Shared → Prop) (E : Value → Shared → Prop), Q (.int (g i) s.toks) { s with toks := s.toks + 1 } → wpAny (model X.prog X.w) X.A (f (.int i t)) Q E s) :
    UnR X f (rU fun i => .int (g i)) := by
  intro pins s σ H x v Q I rx h
  obtain ⟨i, rfl, q⟩ := h
  obtain ⟨t, rfl⟩ := rx
  exact rule i t s _ _ ⟨.int (g i), H, I.tok _, ⟨_, rfl⟩, q⟩
theorem un_neg : UnR X (unaryOp .USub) (rU fun i => .int (-i)) := unI fun _ _ _ _ _ q => neg_int q
end
def scal : V → V → Bool
  | .non, .non => true | .non, .int _ => true | .int _, .non => true | .non, .bl _ => true | .bl _, .non => true | .non, .str _ => true | .str _, .non => true
  | .int _, .int _ => true | .bl _, .bl _ => true | .str _, .str _ => true | .byt _, .byt _ => true
  | .int _, .str _ => true | .str _, .int _ => true | .bl _, .str _ => true | .str _, .bl _ => true
  | _, _ => false
def rEq : R2 := fun x y H Q => scal x y = true ∧ Q (.bl (decide (x = y))) H
def rNe : R2 := fun x y H Q => scal x y = true ∧ Q (.bl (!decide (x = y))) H
theorem dec_int {i j : Int} : decide (V.int i = V.int j) = (i == j) := by
  rw [Bool.eq_iff_iff]
  simp
theorem dec_bl {i j : Bool} : decide (V.bl i = V.bl j) = (i == j) := by
  rw [Bool.eq_iff_iff]
  simp
theorem dec_str {i j : Str} : decide (V.str i = V.str j) = (i == j) := by
  rw [Bool.eq_iff_iff]
  simp
theorem dec_byt {i j : Array UInt8} : decide (V.byt i = V.byt j) = (i.toList == j.toList) := by
  rw [Bool.eq_iff_iff]
  cases i
  cases j
  simp
section
variable {X : Cx} {a b c : Expr} {ta tb tc : TE} {pos : Pos}
theorem fin_bl {pins : List (Addr × Obj)} {σ : St} {H : Hp} {s : Shared} {Q : VK} {k k' : Bool} (I : Inv X pins σ H s) (q : Q (.bl k) H) (e : k = k') : EP X pins σ Q (.bool k') s := by
  subst e
  exact ⟨.bl k, H, I, rfl, q⟩
theorem op_eq : OpR X (compareOp .Eq) rEq := by
  intro pins s σ H x y v u Q I rx ry h
  obtain ⟨hs, q⟩ := h
  cases x with
  | non =>
    cases rx
    cases y with
    | non => cases ry; exact PySem.EqNone.eq_none_none (fin_bl I q (by simp))
    | bl j => cases ry; exact PySem.EqNone.eq_none_bool (fin_bl I q (by simp))
    | int j => obtain ⟨t', rfl⟩ := ry; exact PySem.EqNone.eq_none_int (fin_bl I q (by simp))
    | str j => obtain ⟨t', rfl⟩ := ry; exact PySem.EqNone.eq_none_str (fin_bl I q (by simp))
    | _ => exact absurd (show false = true from hs) Bool.false_ne_true
  | bl i =>
    cases rx
    cases y with
    | non => cases ry; exact PySem.EqNone.eq_bool_none (fin_bl I q (by simp))
    | bl j => cases ry; exact eq_bool (fin_bl I q dec_bl)
    | str j => obtain ⟨t', rfl⟩ := ry; exact PySem.EqMixed.eq_bool_str (fin_bl I q (by simp))
    | _ => exact absurd (show false = true from hs) Bool.false_ne_true
  | int i =>
    obtain ⟨t, rfl⟩ := rx
    cases y with
    | non => cases ry; exact PySem.EqNone.eq_int_none (fin_bl I q (by simp))
    | int j => obtain ⟨t', rfl⟩ := ry; exact eq_int (fin_bl I q dec_int)
    | str j => obtain ⟨t', rfl⟩ := ry; exact PySem.EqMixed.eq_int_str (fin_bl I q (by simp))
    | _ => exact absurd (show false = true from hs) Bool.false_ne_true
  | str i =>
    obtain ⟨t, rfl⟩ := rx
    cases y with
    | non => cases ry; exact PySem.EqNone.eq_str_none (fin_bl I q (by simp))
    | bl j => cases ry; exact PySem.EqMixed.eq_str_bool (fin_bl I q (by simp))
    | int j => obtain ⟨t', rfl⟩ := ry; exact PySem.EqMixed.eq_str_int (fin_bl I q (by simp))
    | str j => obtain ⟨t', rfl⟩ := ry; exact eq_str (fin_bl I q dec_str)
    | _ => exact absurd (show false = true from hs) Bool.false_ne_true
  | byt i =>
    obtain ⟨t, rfl⟩ := rx
    cases y with
    | byt j => obtain ⟨t', rfl⟩ := ry; exact PySem.W.eq_bytes (fin_bl I q dec_byt)
    | _ => exact absurd (show false = true from hs) Bool.false_ne_true
  | _ => cases y <;> exact absurd (show false = true from hs) Bool.false_ne_true
theorem op_ne : OpR X (compareOp .NotEq) rNe := by
  intro pins s σ H x y v u Q I rx ry h
  obtain ⟨hs, q⟩ := h
  cases x with
  | non =>
    cases rx
    cases y with
    | non => cases ry; exact PySem.EqNone.ne_none_none (fin_bl I q (by simp))
    | bl j => cases ry; exact PySem.EqNone.ne_none_bool (fin_bl I q (by simp))
    | int j => obtain ⟨t', rfl⟩ := ry; exact PySem.EqNone.ne_none_int (fin_bl I q (by simp))
    | str j => obtain ⟨t', rfl⟩ := ry; exact PySem.EqNone.ne_none_str (fin_bl I q (by simp))
    | _ => exact absurd (show false = true from hs) Bool.false_ne_true
  | bl i =>
    cases rx
    cases y with
    | non => cases ry; exact PySem.EqNone.ne_bool_none (fin_bl I q (by simp))
    | bl j => cases ry; exact ne_bool (fin_bl I q (congrArg not dec_bl))
    | str j => obtain ⟨t', rfl⟩ := ry; exact PySem.EqMixed.ne_bool_str (fin_bl I q (by simp))
    | _ => exact absurd (show false = true from hs) Bool.false_ne_true
  | int i =>
    obtain ⟨t, rfl⟩ := rx
    cases y with
    | non => cases ry; exact PySem.EqNone.ne_int_none (fin_bl I q (by simp))
    | int j => obtain ⟨t', rfl⟩ := ry; exact ne_int (fin_bl I q (congrArg not dec_int))
    | str j => obtain ⟨t', rfl⟩ := ry; exact PySem.EqMixed.ne_int_str (fin_bl I q (by simp))
    | _ => exact absurd (show false = true from hs) Bool.false_ne_true
  | str i =>
    obtain ⟨t, rfl⟩ := rx
    cases y with
    | non => cases ry; exact PySem.EqNone.ne_str_none (fin_bl I q (by simp))
    | bl j => cases ry; exact PySem.EqMixed.ne_str_bool (fin_bl I q (by simp))
    | int j => obtain ⟨t', rfl⟩ := ry; exact PySem.EqMixed.ne_str_int (fin_bl I q (by simp))
    | str j => obtain ⟨t', rfl⟩ := ry; exact ne_str (fin_bl I q (congrArg not dec_str))
    | _ => exact absurd (show false = true from hs) Bool.false_ne_true
  | byt i =>
    obtain ⟨t, rfl⟩ := rx
    cases y with
    | byt j => obtain ⟨t', rfl⟩ := ry; exact PySem.W.ne_bytes (fin_bl I q (congrArg not dec_byt))
    | _ => exact absurd (show false = true from hs) Bool.false_ne_true
  | _ => cases y <;> exact absurd (show false = true from hs) Bool.false_ne_true
theorem op_lt : OpR X (compareOp .Lt) (rI0 fun i j => .bl (decide (i < j))) := opB0 fun _ _ _ _ _ _ _ q => lt_int q
theorem op_le : OpR X (compareOp .LtE) (rI0 fun i j => .bl (decide (i ≤ j))) := opB0 fun _ _ _ _ _ _ _ q => le_int q
theorem op_gt : OpR X (compareOp .Gt) (rI0 fun i j => .bl (decide (j < i))) := opB0 fun _ _ _ _ _ _ _ q => gt_int q
theorem nomark (b : Expr) {op : CmpOp} (h : op ≠ .In := by decide) (h2 : op ≠ .NotIn := by decide) : behindInMarks op b = false := by
  have e1 : (op == CmpOp.In) = false := by cases op <;> first | rfl | exact absurd rfl h
  have e2 : (op == CmpOp.NotIn) = false := by cases op <;> first | rfl | exact absurd rfl h2
  cases b <;> simp [behindInMarks, e1, e2]
theorem pe_cmpR {op : CmpOp} {r : R2} (ho : OpR X (compareOp op) r) (ha : PE X a ta) (hb : PE X b tb) (hm : behindInMarks op b = false) : PE X (.Compare a [op] [b] pos) (tOp r ta tb) := by
  intro pins s σ H Q I h
  exact wpAny_Compare1 (binT ha hb I h fun v u s2 x y H2 I2 rx ry q => ho pins s2 σ H2 x y v u Q I2 rx ry q) hm
def tTest (t : TE) : TT := fun σ H Q => t σ H fun x H' => ∃ k, x = .bl k ∧ Q k H'
theorem pt_cmpR {op : CmpOp} {r : R2} (ho : OpR X (compareOp op) r) (ha : PE X a ta) (hb : PE X b tb) (hm : behindInMarks op b = false) : PT X (.Compare a [op] [b] pos) (tTest (tOp r ta tb)) := by
  intro pins s σ H Q I h
  refine wpAny_isTrue_Compare1 (thn (ha pins s σ H _ I h) fun v s1 ⟨x, H1, I1, r1, q1⟩ => thn (hb pins s1 σ H1 _ I1 q1) fun u s2 ⟨y, H2, I2, r2, q2⟩ =>
    thn (ho pins s2 σ H2 x y v u _ I2 r1 r2 q2) fun c s3 ⟨z, H3, I3, r3, k, e, q3⟩ => ?_) hm
  subst e
  cases r3
  exact wpAny_truthy_bool ⟨H3, I3, q3⟩
theorem line63 : (sizeLine : Nat) < 2 ^ 63 := by rw [sizeLine_eq]; decide
theorem vals1 {x : V} {us : List Value} (r : Vals [x] us) : ∃ u, us = [u] ∧ RelV x u := by
  cases r with
  | cons r1 r2 => cases r2; exact ⟨_, rfl, r1⟩
theorem vals2 {x y : V} {us : List Value} (r : Vals [x, y] us) : ∃ u w', us = [u, w'] ∧ RelV x u ∧ RelV y w' := by
  cases r with
  | cons r1 r2 =>
    cases r2 with
    | cons r3 r4 => cases r4; exact ⟨_, _, rfl, r1, r3⟩
end
end L2
namespace L2
open PySem PySem.Spec PyProof.Rows
structure ObjM (h : Heap) (x dx C : Addr) (mA : Str → Option Value) : Prop where
  obj : h.get? x = some (PySem.W.instObj C dx)
  ns : h.Ns1 dx mA
  ne : dx ≠ x
theorem lookIn_ns {h : Heap} {dx : Addr} {mA : Str → Option Value} (n : h.Ns1 dx mA) : ∃ od, h.get? dx = some od ∧ ∀ name, PySem.W.lookIn name od = some (mA name) := by
  obtain ⟨o, es, ep, ho, hd, hk, _, hm⟩ := n
  refine ⟨o, ho, fun name => ?_⟩
  have e := hm name
  unfold nsFind findBy at e
  rw [← Array.find?_toList] at e
  unfold PySem.W.lookIn
  rw [hd]
  dsimp only
  split
  · rename_i y q
    rw [q] at e
    exact congrArg some e
  · rename_i q
    rw [q] at e
    have a : es.toList.any (·.refKey) = false := by
      rw [List.any_eq_false]
      intro y hy
      obtain ⟨z, t, hkey⟩ := hk y (Array.mem_toList_iff.mp hy)
      simp [DictEntry.refKey, hkey]
    have a' : ¬ es.toList.any (·.refKey) = true := by rw [a]; exact Bool.false_ne_true
    rw [if_neg a']
    exact congrArg some e
theorem ObjM.look {h : Heap} {x dx C : Addr} {mA : Str → Option Value} (I : ObjM h x dx C mA) : ∃ od, PySem.W.InstAt h x (PySem.W.instObj C dx) C (some od) ∧ ∀ name, PySem.W.lookIn name od = some (mA name) :=
  let ⟨od, ho, hl⟩ := lookIn_ns I.ns
  ⟨od, ⟨I.obj, rfl, rfl, ho⟩, hl⟩
section
variable {prog : Program} {w : World} {A : Around} {E : Value → Shared → Prop} {s : Shared} {K : PySem.W.Frag} {x dx C f : Addr} {mA : Str → Option Value} {name : Str} {v : Value}
end
section
variable {P : Program} {w : World} {H H' : Hp} {h h' : Heap} {a C dx : Addr} {fs fs' : List (Str × V)}
theorem ins_get (hok : HOk P w H h) (e : H a = some (.ins C dx fs)) : ∃ mA, ObjM h a dx C mA ∧ (∀ f, RelO (fs.lookup f) (mA f)) ∧ PySem.Within mA (fs.map (·.1)) ∧ fs.length ≤ 1000 ∧ H dx = some (.own a) := by
  obtain ⟨d, z, ne, ob, mA, n, r, q⟩ := (show ObjOk P w H h a (.ins C dx fs) from hok a _ e)
  exact ⟨mA, ⟨ob, n, ne⟩, r, q, z, d⟩
end
structure Cls (K : PySem.W.Frag) (C : Addr) : Prop where
  pg : PySem.W.plainGet K C Str.empty = true
  hd : PySem.W.hasDictIn K C = true
  po : PySem.W.plainOver K C = true
  sa : PySem.W.findIn K (.ref C) "__setattr__" = some (some (.builtin "object.__setattr__"))
theorem Cls.get {K : PySem.W.Frag} {C : Addr} (c : Cls K C) (f : Str) : PySem.W.plainGet K C f = true := c.pg
section
variable {X : Cx} {pins : List (Addr × Obj)} {σ : St} {H : Hp} {s : Shared} {a C dx : Addr} {fs : List (Str × V)} {f : Str} {v : V} {A : Around} {E : Value → Shared → Prop}
end
section
variable {X : Cx} {o e value : Expr} {f : Str} {pos pos' tpos : Pos} {ta tv : TE}
end
section
variable {X : Cx} {pins : List (Addr × Obj)} {σ : St} {H : Hp} {s : Shared} {A : Around} {E : Value → Shared → Prop} {Q : Value → Shared → Prop} {c : Value} {b : Bool}
inductive TyOf (K : PySem.W.Frag) (H : Hp) : V → Value → Prop where
  | non : TyOf K H .non (.type "NoneType")
  | bl (x : Bool) : TyOf K H (.bl x) (.type "bool")
  | int (i : Int) : TyOf K H (.int i) (.type "int")
  | str (x : Str) : TyOf K H (.str x) (.type "str")
  | flt (x : UInt64) : TyOf K H (.flt x) (.type "float")
  | lst {a : Addr} {xs : List V} (e : H a = some (.lst xs)) : TyOf K H (.ref a) (.type "list")
  | frz {a : Addr} {o : Obj} {xs : List V} (e : H a = some (.frz o (.lst xs))) : TyOf K H (.ref a) (.type "list")
  | tup {a : Addr} {xs : List V} (e : H a = some (.tup xs)) : TyOf K H (.ref a) (.type "tuple")
  | dK {a : Addr} {kvs : List (Key × V)} (e : H a = some (.dK kvs)) : TyOf K H (.ref a) (.type "dict")
  | dT {a : Addr} {kvs : List (List Key × V)} (e : H a = some (.dT kvs)) : TyOf K H (.ref a) (.type "dict")
  | ins {a C dx : Addr} {fs : List (Str × V)} (e : H a = some (.ins C dx fs)) (cl : Cls K C) (ha : PySem.W.findIn K (.ref C) "__class__" = some (some (.builtin "object.__class__")))
      (hn : PySem.W.specialIn K (.builtin "object.__class__") "__get__" = some (some (.builtin "getset_descriptor.__get__"))) (htk : PySem.W.takesIn K (.builtin "object.__class__") = some true)
      (hm : PySem.W.mroIn K C (.type "object") = some true) : TyOf K H (.ref a) (.ref C)
theorem isinst_ok {x : V} {u t : Value} (I : Inv X pins σ H s) (rx : RelV x u) (ty : TyOf X.K H x t) (e : PySem.W.kitOne X.K t c = some b) (h : ∀ tk, Q (.bool b) { s with toks := tk }) :
    wpAny (model X.prog X.w) A (call (.builtin "isinstance") [u, c]) Q E s := by
  cases ty with
  | non => cases (show u = Value.none from rx); exact PySem.W.kia_one PySem.W.kitx_none I.kIn True.intro e (fun z => nomatch z) h
  | bl y => cases (show u = Value.bool y from rx); exact PySem.W.kia_one PySem.W.kitx_bool I.kIn True.intro e (fun z => nomatch z) h
  | int i => obtain ⟨t, q⟩ := (show ∃ t, u = Value.int i t from rx); cases q; exact PySem.W.kia_one PySem.W.kitx_int I.kIn True.intro e (fun z => nomatch z) h
  | str y => obtain ⟨t, q⟩ := (show ∃ t, u = Value.str y t from rx); cases q; exact PySem.W.kia_one PySem.W.kitx_str I.kIn True.intro e (fun z => nomatch z) h
  | flt y => obtain ⟨t, q⟩ := (show ∃ t, u = Value.float y t from rx); cases q; exact PySem.W.kia_one PySem.W.kitx_float I.kIn True.intro e (fun z => nomatch z) h
  | @lst a xs ea =>
    cases (show u = Value.ref a from rx)
    obtain ⟨_, _, n, _, h1⟩ := (show ObjOk X.prog X.w H s.heap a (.lst xs) from I.hok a _ ea)
    exact PySem.W.kia_one PySem.W.kitx_list I.kIn ⟨_, h1, rfl⟩ e (fun z => nomatch z) h
  | @frz a ob xs ea =>
    cases (show u = Value.ref a from rx)
    obtain ⟨_, _, _, n, _, h1⟩ := (show ObjOk X.prog X.w H s.heap a (.frz ob (.lst xs)) from I.hok a _ ea)
    exact PySem.W.kia_one PySem.W.kitx_list I.kIn ⟨_, h1, rfl⟩ e (fun z => nomatch z) h
  | @tup a xs ea =>
    cases (show u = Value.ref a from rx)
    obtain ⟨_, _, _, p⟩ := (show ObjOk X.prog X.w H s.heap a (.tup xs) from I.hok a _ ea)
    obtain ⟨o, h1, h2, _⟩ := p
    exact PySem.W.kia_one PySem.W.kitx_tuple I.kIn ⟨o, h1, h2⟩ e (fun z => nomatch z) h
  | @dK a kvs ea =>
    cases (show u = Value.ref a from rx)
    obtain ⟨_, _, vs, _, p⟩ := (show ObjOk X.prog X.w H s.heap a (.dK kvs) from I.hok a _ ea)
    obtain ⟨o, es, ep, h1, h2, _⟩ := p
    exact PySem.W.kia_one PySem.W.kitx_dict I.kIn ⟨o, h1, h2.1⟩ e (fun z => nomatch z) h
  | @dT a kvs ea =>
    cases (show u = Value.ref a from rx)
    obtain ⟨_, _, xs, _, o, es, ep, h1, h2, _⟩ := (show ObjOk X.prog X.w H s.heap a (.dT kvs) from I.hok a _ ea)
    exact PySem.W.kia_one PySem.W.kitx_dict I.kIn ⟨o, h1, h2.1⟩ e (fun z => nomatch z) h
  | @ins a C dx fs ea cl ha hn htk hm =>
    cases (show u = Value.ref a from rx)
    obtain ⟨mA, O, _⟩ := ins_get I.hok ea
    obtain ⟨od, J, _⟩ := O.look
    exact PySem.W.kia_one (PySem.W.kitx_own (cl.get _) cl.hd ha hn htk hm) I.kIn J e (fun z => nomatch z) h
end
end L2
namespace L2
open PySem PySem.Spec PyProof.Rows
structure Room (k : Nat) (A : Around) : Prop where
  hd : A.handled = none
  dp : A.depth + 3 * k + 5 < recursionLimit
  un : A.units + 16 * k + 200 < cLine
theorem Room.mono {j k : Nat} {A : Around} (r : Room k A) (h : j ≤ k) : Room j A := ⟨r.hd, by have := r.dp; omega, by have := r.un; omega⟩
theorem Room.deeper {k : Nat} {A : Around} (r : Room (k + 1) A) (env : Env) : Room k (A.deeper env) :=
  ⟨r.hd, by have := r.dp; show A.depth + 1 + 3 * k + 5 < _; omega, by have := r.un; show A.units + 3 + 16 * k + 200 < _; omega⟩
theorem Room.depth {k : Nat} {A : Around} (r : Room k A) : A.depth < recursionLimit := by have := r.dp; omega
theorem Room.units {k : Nat} {A : Around} (r : Room k A) : A.units + 64 < cLine := by have := r.un; omega
def tNil : TA := fun _ H Q => Q [] H
def tCons (ta : TE) (tr : TA) : TA := fun σ H Q => ta σ H fun x H1 => tr σ H1 fun xs H2 => Q (x :: xs) H2
section
variable {X : Cx} {e : Expr} {es : List Expr} {te : TE} {t : TA} {pos : Pos}
theorem pa_nil : PA X [] tNil := fun _ _ _ _ H Q I h => Calls.spliced_nil ⟨[], H, I, .nil, h⟩
theorem pa_cons (ha : PE X e te) (hr : PA X es t) (hs : starEach (e :: es) X.env = (false, eval e X.env) :: starEach es X.env := by rfl) : PA X (e :: es) (tCons te t) := by
  intro pos pins s σ H Q I h
  rw [hs]
  show wpAny _ _ (spliced ((false, eval e X.env) :: backTo pos (starEach es X.env))) _ _ s
  refine Calls.spliced_cons (thn (ha pins s σ H _ I h) fun u s1 ⟨x, H1, I1, r1, q1⟩ => ?_)
  exact thn (hr pos pins s1 σ H1 _ I1 q1) fun us s2 ⟨xs, H2, I2, r2, q2⟩ => ⟨x :: xs, H2, I2, .cons r1 r2, q2⟩
def tTup (t : TA) : TE := fun σ H Q => t σ H fun xs H1 => xs.length ≤ sizeLine ∧ ∀ p, H1 p = none → Q (.ref p) (upd H1 p (.tup xs))
def tLst (t : TA) : TE := fun σ H Q => t σ H fun xs H1 => xs.length ≤ sizeLine ∧ ∀ p, H1 p = none → Q (.ref p) (upd H1 p (.lst xs))
theorem pe_tup {x1} (h : PA X es t) : PE X (.Tuple es x1 pos) (tTup t) := by
  intro pins s σ H Q I hq
  refine wpAny_Tuple_spliced (thn (h pos pins s σ H _ I hq) fun us s1 ⟨xs, H1, I1, r, z, q⟩ => ⟨by rw [← r.length]; exact z, ?_⟩)
  have hf : H1 s1.heap.objs.size = none := I1.hok.fresh (Nat.le_refl _)
  refine ⟨.ref s1.heap.objs.size, upd H1 s1.heap.objs.size (.tup xs), I1.laid (t' := s1.toks) (fun b u e => Heap.get?_push_of_some _ e) (Nat.le_refl _) ?_, rfl, q _ hf⟩
  exact ⟨z, us, r, ⟨_, Heap.get?_push_size _ rfl, rfl, _, rfl⟩⟩
theorem pe_lst (h : PA X es t) : PE X (.List es pos) (tLst t) := by
  intro pins s σ H Q I hq
  refine wpAny_List_spliced (thn (h pos pins s σ H _ I hq) fun us s1 ⟨xs, H1, I1, r, z, q⟩ => ⟨by rw [← r.length]; exact z, ?_⟩)
  have hf : H1 s1.heap.objs.size = none := I1.hok.fresh (Nat.le_refl _)
  refine ⟨.ref s1.heap.objs.size, upd H1 s1.heap.objs.size (.lst xs), I1.laid (t' := s1.toks) (fun b u e => Heap.get?_push_of_some _ e) (Nat.le_refl _) ?_, rfl, q _ hf⟩
  exact ⟨z, us, 0, r, Heap.get?_push_size _ rfl⟩
end
abbrev Sp := List V → Hp → VK → XK → Prop
abbrev CXT := List Env → Hp → Shared → XK → Value → Shared → Prop
structure Env0 (P : Program) (w : World) (K : PySem.W.Frag) (mg : Str → Option Value) (base : Heap) (A : Around) (outer : List Env) (s : Shared) (H : Hp) : Prop where
  frames : A.frames = some outer
  mod : Mod K mg base
  bs : ∀ b o, base.get? b = some o → s.heap.get? b = some o ∧ H b = none
  bsz : base.objs.size ≤ s.heap.objs.size
  funs : s.heap.FunFrames base outer
  frf : ∀ b ∈ frs outer, H b = none
  hok : HOk P w H s.heap
  bare : AllBare s.gens
def CE (outer : List Env) (P : Program) (w : World) (H : Hp) (s : Shared) (Q : VK) (u : Value) (s' : Shared) : Prop :=
  ∃ v H', s'.os = s.os ∧ AllBare s'.gens ∧ Un (frs outer) [] H H' s.heap s'.heap ∧ HOk P w H' s'.heap ∧ RelV v u ∧ Q v H'
def CR (CX : CXT) (outer : List Env) (P : Program) (w : World) (H : Hp) (s : Shared) (Q : VK) (E : XK) (r : Result) (s' : Shared) : Prop :=
  match r with
  | .ok (.ret u) => CE outer P w H s Q u s'
  | .ok _ => False
  | .error e => CX outer H s E e s'
structure FnOk (P : Program) (w : World) (K : PySem.W.Frag) (mg : Str → Option Value) (base : Heap) (CX : CXT) (k : Nat) (f : Addr) (fd : FuncData) (ps : List Str) (sp : Sp) : Prop where
  len : ∀ vs H Q E, sp vs H Q E → vs.length = ps.length
  run : ∀ (A : Around) (outer : List Env) (s : Shared) (H : Hp) (args : Args) (us : List Value) (vs : List V) (Q : VK) (E : XK), Room k A → Env0 P w K mg base A outer s H → BindsTo s fd args (ps.zip us) → Vals vs us → sp vs H Q E →
    codeAny (model P w) A (.call (.ref f) args) (CR CX outer P w H s Q E) s
section
variable {X : Cx} {pins : List (Addr × Obj)} {σ : St} {H : Hp} {s s' : Shared}
theorem Inv.env0 (I : Inv X pins σ H s) : Env0 X.prog X.w X.K X.mg X.base X.A X.stack s H :=
  ⟨I.ok.frames, I.ok.mod, I.bs, Nat.le_trans I.ok.bsz I.sz, I.stack, I.stkFree, I.hok, I.bare⟩
theorem Inv.after {Q : VK} {u : Value} (I : Inv X pins σ H s) (h : CE X.stack X.prog X.w H s Q u s') : EP X pins σ Q u s' := by
  obtain ⟨v, H', os, bare, un, hok, r, q⟩ := h
  obtain ⟨hh, g, d, t, os'⟩ := s'
  obtain rfl : os' = s.os := os
  exact ⟨v, H', I.call (h' := hh) (g' := g) (d' := d) (t' := t) (ch := []) un hok bare (fun b z => absurd z (by simp)), r, q⟩
end
def tCall (sp : Sp) (dvs : List V) (E : XK) (t : TA) : TE := fun σ H Q => t σ H fun vs H1 => sp (vs ++ dvs) H1 Q E
def Binds (K : PySem.W.Frag) (fd : FuncData) (ps : List Str) (ds : List Value) : Prop :=
  ∀ (s : Shared) (us : List Value), K.In s.heap → (us ++ ds).length = ps.length → BindsTo s fd ⟨us, []⟩ (ps.zip (us ++ ds))
theorem Binds.all {K : PySem.W.Frag} {fd : FuncData} {ps : List Str} (h : ∀ us : List Value, us.length = ps.length → bindArgs fd ⟨us, []⟩ = pure (ps.zip us)) : Binds K fd ps [] := fun s us _ hl => by
  rw [List.append_nil] at hl ⊢
  exact .of_eq (h us hl)
def Passes (CX : CXT) (X : Cx) (E : XK) : Prop := ∀ (pins : List (Addr × Obj)) (σ : St) (H : Hp) (s : Shared) (e : Value) (s' : Shared), Inv X pins σ H s → CX X.stack H s E e s' → X.xe e s'
section
variable {X : Cx} {CX : CXT} {k : Nat} {f C : Addr} {fd : FuncData} {ps : List Str} {sp : Sp} {dvs : List V} {ds : List Value} {E : XK} {x m : Str} {p pos apos : Pos} {e o : Expr} {es : List Expr} {ta : TE} {t : TA}
theorem run_fn {pins : List (Addr × Obj)} {σ : St} {H : Hp} {s : Shared} {Q : VK} {us : List Value} {vs : List V} (F : FnOk X.prog X.w X.K X.mg X.base CX k f fd ps sp) (hr : Room k X.A) (hb : Binds X.K fd ps ds) (hd : Vals dvs ds) (hx : Passes CX X E)
    (I : Inv X pins σ H s) (r : Vals vs us) (h : sp (vs ++ dvs) H Q E) : wpAny (model X.prog X.w) X.A (call (.ref f) us) (EP X pins σ Q) X.xe s := by
  have r2 : Vals (vs ++ dvs) (us ++ ds) := r.append hd
  have hl : (us ++ ds).length = ps.length := by rw [← r2.length]; exact F.len _ _ _ _ h
  refine wpAny_call (codeAny_mono (F.run X.A X.stack s H ⟨us, []⟩ (us ++ ds) (vs ++ dvs) Q E hr I.env0 (hb s us I.kIn hl) r2 h) fun r s' hq => ?_)
  cases r with
  | error e => exact hx pins σ H s e s' I hq
  | ok fl =>
    cases fl with
    | ret u => exact I.after hq
    | next => exact False.elim hq
    | brk => exact False.elim hq
    | cont => exact False.elim hq
theorem pe_call (F : FnOk X.prog X.w X.K X.mg X.base CX k f fd ps sp) (hr : Room k X.A) (hg : Gl X x) (hm : X.mg x = some (.ref f)) (hk : PySem.W.keepIn X.K (.ref f) = true) (hb : Binds X.K fd ps ds) (hd : Vals dvs ds) (hx : Passes CX X E)
    (ha : PA X (e :: es) t) (hdb : (x == ("__debug__" : Str)) = false := by decide) (he : starEach (e :: es) X.env = (false, eval e X.env) :: starEach es X.env := by rfl) (hpl : (backTo pos (starEach es X.env)).any (·.1) = false := by rfl) :
    PE X (.Call (.Name x p) (e :: es) [] pos) (tCall sp dvs E t) := by
  intro pins s σ H Q I h
  refine wpAny_Call_Name_kw (ld_glob I hg hm ?_ hdb)
  refine PySem.W.callWith_K (h₀ := X.base) I.ok.mod.kin hk (thn (ha pos pins s σ H _ I h) fun us s1 ⟨vs, H1, I1, r, q⟩ => ⟨I1.kIn, ?_⟩) he hpl
  exact run_fn F hr hb hd hx I1 r q
end
section
variable {X : Cx} {CX : CXT} {k : Nat} {f C : Addr} {fd : FuncData} {ps ks : List Str} {sp : Sp} {E : XK} {x m : Str} {p pos apos kpos : Pos} {e o : Expr} {es : List Expr} {kws : List Keyword} {te ta : TE} {t tk : TA} {nm : Option Str}
variable {g : List Value → List Value → List Value} {gV : List V → List V → List V}
end
structure FnScope (N P : List Str) (sc : Scope) : Prop where
  kind : sc.kind = .function
  co : sc.isCoroutine = false
  gen : sc.isGenerator = false
  nd : N.Nodup
  pre : N.take P.length = P
  par : ∀ x ∈ P, sc.names.lookup x = some .local ∨ sc.names.lookup x = some .cell
  nofree : ∀ y ∈ sc.names, y.2 ≠ .free
theorem bindL_out {kindOf : Str → Option NameKind} {x : Str} : ∀ {binds : List (Str × Value)} {m : Str → Option Value}, (∀ v, (x, v) ∉ binds) → bindL kindOf binds m x = m x
  | [], _, _ => rfl
  | (n, v) :: r, m, h => by
    unfold bindL
    rw [bindL_out fun w hw => h w (List.mem_cons_of_mem _ hw)]
    split
    · have : x ≠ n := by rintro rfl; exact h v List.mem_cons_self
      simp [this]
    · rfl
theorem bindC_out {kindOf : Str → Option NameKind} {x : Str} : ∀ {binds : List (Str × Value)} {m : Str → Option Value}, (∀ v, (x, v) ∉ binds) → bindC kindOf binds m x = m x
  | [], _, _ => rfl
  | (n, v) :: r, m, h => by
    unfold bindC
    rw [bindC_out fun w hw => h w (List.mem_cons_of_mem _ hw)]
    split
    · rfl
    · have : x ≠ n := by rintro rfl; exact h v List.mem_cons_self
      simp [this]
theorem bindL_get {kindOf : Str → Option NameKind} {x : Str} {v : Value} : ∀ {P : List Str} {vs : List Value} {i : Nat} {m : Str → Option Value}, P.Nodup → P[i]? = some x → vs[i]? = some v → kindOf x = some .local →
    bindL kindOf (P.zip vs) m x = some v
  | [], _, _, _, _, h, _, _ => by simp at h
  | _ :: _, [], _, _, _, _, h, _ => by simp at h
  | p :: P, w :: vs, 0, m, nd, h1, h2, hk => by
    simp at h1 h2; subst h1; subst h2
    show bindL kindOf ((p, w) :: P.zip vs) m p = _
    unfold bindL
    rw [bindL_out fun v hv => (List.nodup_cons.mp nd).1 (List.of_mem_zip hv).1, if_pos hk]
    simp
  | p :: P, w :: vs, i + 1, m, nd, h1, h2, hk => by
    show bindL kindOf ((p, w) :: P.zip vs) m x = _
    unfold bindL
    exact bindL_get (i := i) (List.nodup_cons.mp nd).2 (by simpa using h1) (by simpa using h2) hk
theorem bindC_get {kindOf : Str → Option NameKind} {x : Str} {v : Value} : ∀ {P : List Str} {vs : List Value} {i : Nat} {m : Str → Option Value}, P.Nodup → P[i]? = some x → vs[i]? = some v → kindOf x ≠ some .local →
    bindC kindOf (P.zip vs) m x = some v
  | [], _, _, _, _, h, _, _ => by simp at h
  | _ :: _, [], _, _, _, _, h, _ => by simp at h
  | p :: P, w :: vs, 0, m, nd, h1, h2, hk => by
    simp at h1 h2; subst h1; subst h2
    show bindC kindOf ((p, w) :: P.zip vs) m p = _
    unfold bindC
    rw [bindC_out fun v hv => (List.nodup_cons.mp nd).1 (List.of_mem_zip hv).1, if_neg hk]
    simp
  | p :: P, w :: vs, i + 1, m, nd, h1, h2, hk => by
    show bindC kindOf ((p, w) :: P.zip vs) m x = _
    unfold bindC
    exact bindC_get (i := i) (List.nodup_cons.mp nd).2 (by simpa using h1) (by simpa using h2) hk
def start (N : List Str) (vs : List V) : St := vs.map some ++ List.replicate (N.length - vs.length) none
def cxOf (CX : CXT) (P : Program) (w : World) (K : PySem.W.Frag) (mg : Str → Option Value) (base : Heap) (N : List Str) (qual : Str) (scope : Scope) (f : Addr) (cd : Value) (A : Around) (outer : List Env) (s : Shared) (H : Hp) (E : XK) : Cx where
  prog := P
  w := w
  K := K
  mg := mg
  base := base
  A := A.deeper (envOfC qual scope s.heap.objs.size f cd)
  N := N
  s₀ := s
  H₀ := H
  env := envOfC qual scope s.heap.objs.size f cd
  outer := outer
  stack := envOfC qual scope s.heap.objs.size f cd :: outer
  ex := []
  calm := true
  fn := fun _ => true
  pn := []
  xe := fun e s' => wpAny (model P w) (A.deeper (envOfC qual scope s.heap.objs.size f cd)) (leaving (envOfC qual scope s.heap.objs.size f cd) e) (fun _ s'' => CX outer H s E e s'') (fun e' s'' => CX outer H s E e' s'') s'
theorem cell_has {sc : Scope} {n : Nat} {x : Str} (h : sc.names.lookup x = some .cell) : ∃ c, (cellsFrom n sc.names []).lookup x = some c := by
  have q := PySem.W.cellsFrom_some sc.names n [] (.inl h)
  exact Option.isSome_iff_exists.mp q
theorem inv_start {CX : CXT} {P : Program} {w : World} {K : PySem.W.Frag} {mg : Str → Option Value} {base : Heap} {N ps : List Str} {qual : Str} {scope : Scope} {f : Addr} {cd : Value} {A : Around} {outer : List Env} {s s1 : Shared} {H : Hp} {E : XK} {us : List Value} {vs : List V}
    (S : FnScope N ps scope) (hd : A.handled = none) (e0 : Env0 P w K mg base A outer s H) (hl : vs.length = ps.length) (r : Vals vs us)
    (x : InCallC s s.heap.objs.size (bindL (envOfC qual scope s.heap.objs.size f cd).kindOf (ps.zip us) fun _ => none) (cellsFrom (s.heap.objs.size + 1) scope.names []) (bindC (envOfC qual scope s.heap.objs.size f cd).kindOf (ps.zip us) fun _ => none) s1) :
    Inv (cxOf CX P w K mg base N qual scope f cd A outer s H E) [] (start N vs) H s1 := by
  have hpl : ps.length ≤ N.length := by have := congrArg List.length S.pre; rw [List.length_take] at this; omega
  obtain ⟨h1, tk, rfl, hk⟩ := x.done
  have noA : ∀ b : Addr, b ∉ (cxOf CX P w K mg base N qual scope f cd A outer s H E).ex := fun b z => absurd (show b ∈ ([] : List Addr) from z) (by simp)
  refine ⟨⟨e0.mod, S.kind, rfl, rfl, Nat.le_refl _, fun y z c h1 h2 => ?_, fun y hy => ?_, fun y c _ h => ?_, fun _ => hd, Around.frames_deeper e0.frames, .inr ⟨rfl, rfl⟩, fun b z => absurd z (noA b), e0.bs, e0.bsz, fun b _ _ => noA b, fun b z => absurd z (noA b), e0.funs, e0.frf⟩,
    rfl, e0.bare, Un.kept hk, ⟨_, x.toInCall.ns, fun i y v h1 h2 h3 => ?_⟩, fun y c h => ⟨_, x.cell y c h⟩, e0.hok.fresh (Nat.le_refl _), fun y c h => ?_, fun p hp => absurd (show p ∈ ([] : List (Addr × Obj)) from hp) (by simp), e0.hok.kept hk, ?_⟩
  · exact name_of_addr x.apart (PySem.mem_of_lookup h1) (PySem.mem_of_lookup h2)
  · have hy : scope.names.lookup y = some .cell ∨ scope.names.lookup y = some .free := hy
    rcases hy with hy | hy
    · exact cell_has hy
    · exact absurd rfl (S.nofree _ (PySem.mem_of_lookup hy))
  · exact Nat.le_of_lt (x.above y c (PySem.mem_of_lookup h))
  · have hi : i < vs.length := by
      unfold start at h2
      by_cases hi : i < vs.length
      · exact hi
      · rw [List.getElem?_append_right (by simpa using hi)] at h2
        rw [List.getElem?_replicate] at h2
        split at h2 <;> cases h2
    have ha : vs[i]? = some v := by
      unfold start at h2
      rw [List.getElem?_append_left (by simpa using hi), List.getElem?_map] at h2
      cases e : vs[i]? with
      | none => rw [e] at h2; cases h2
      | some a => rw [e] at h2; cases h2; rfl
    obtain ⟨u, hu, rv⟩ := r.get ha
    have hp : ps[i]? = some y := by
      rw [← S.pre, List.getElem?_take_of_lt (by omega)]; exact h1
    have ndP : ps.Nodup := by rw [← S.pre]; exact S.nd.sublist (List.take_sublist _ _)
    refine ⟨u, rv, ?_⟩
    rcases S.par y (List.mem_of_getElem? hp) with k | k
    · exact .inl ⟨k, bindL_get ndP hp hu k⟩
    · obtain ⟨c, e⟩ := cell_has (n := s.heap.objs.size + 1) k
      refine .inr ⟨.inl k, c, e, ?_⟩
      have q := x.cell y c e
      rw [bindC_get ndP hp hu (by show scope.names.lookup y ≠ _; rw [k]; decide)] at q
      exact q
  · exact e0.hok.fresh (Nat.le_of_lt (x.above y c (PySem.mem_of_lookup h)))
  · unfold start
    show _ = N.length
    rw [List.length_append, List.length_map, List.length_replicate]
    omega
theorem fn_of {CX : CXT} {P : Program} {w : World} {K : PySem.W.Frag} {mg : Str → Option Value} {base : Heap} {k : Nat} {f : Addr} {name qual : Str} {params : Arguments} {body : List Stmt} {scope : Scope} {dV kV doc pm cdv ct oc : Value} {an od : Option Addr}
    {osl : Array (Option Value)} {N ps : List Str} {sp : Sp} (lk : K.lookup f = some ⟨oc, od, .func (PySem.W.fnOf name qual params body scope dV kV doc pm an cdv ct), osl⟩) (hcd : PySem.W.codeIn K cdv qual = true) (S : FnScope N ps scope)
    (len : ∀ vs H Q E, sp vs H Q E → vs.length = ps.length)
    (hbody : ∀ (A : Around) (outer : List Env) (s : Shared) (H : Hp) (vs : List V) (Q : VK) (E : XK), Room k (A.deeper (envOfC qual scope s.heap.objs.size f cdv)) → sp vs H Q E →
      ∃ t, PSs (cxOf CX P w K mg base N qual scope f cdv A outer s H E) body t ∧ t { nx := fun _ H' => Q .non H', rt := Q } (start N vs) H) :
    FnOk P w K mg base CX (k + 1) f (PySem.W.fnOf name qual params body scope dV kV doc pm an cdv ct) ps sp := by
  refine ⟨len, fun A outer s H args us vs Q E hr e0 hb r hsp => ?_⟩
  have hl := len _ _ _ _ hsp
  have KX : K.In s.heap := e0.mod.kin.keeps fun b o e => (e0.bs b o e).1
  have lim : s.heap.NoLimit := e0.mod.nolimit.keeps fun b o e => (e0.bs b o e).1
  have hkind : ∀ y ∈ ps.zip us, scope.names.lookup y.1 = some .local ∨ (scope.names.lookup y.1 = some .cell ∧ ((cellsFrom (s.heap.objs.size + 1) scope.names []).lookup y.1).isSome = true) := fun ⟨n, v⟩ hy => by
    rcases S.par n (List.of_mem_zip hy).1 with q | q
    · exact .inl q
    · exact .inr ⟨q, PySem.W.cellsFrom_some _ _ _ (.inl q)⟩
  refine codeAny_call_function hr.depth (KX _ _ lk) rfl S.co S.gen rfl (PySem.W.codeRec_of KX hcd) (hb _ _ _ _ ?_)
  refine wpAny_newFunctionEnv_cells S.kind hkind fun env he s1 x => ?_
  subst he
  refine ⟨lim.keeps x.toInCall.keep, codeAny_func ?_⟩
  obtain ⟨t, ht, hq⟩ := hbody A outer s H vs Q E (hr.deeper _) hsp
  have I : Inv (cxOf CX P w K mg base N qual scope f cdv A outer s H E) [] (start N vs) H s1 := inv_start S hr.hd e0 hl r x
  refine wpAny_mono (ht [] s1 (start N vs) H _ I hq) (fun fl s' hs => ?_) fun e s' hs => hs
  have fin : ∀ {σ' : St} {H' : Hp} {v : V} {u : Value}, Inv (cxOf CX P w K mg base N qual scope f cdv A outer s H E) [] σ' H' s' → RelV v u → Q v H' → CE outer P w H s Q u s' :=
    fun {σ' H' v u} J rv q => ⟨v, H', J.os, J.bare, J.base, J.hok, rv, q⟩
  cases fl with
  | ret u =>
    obtain ⟨v, σ', H', J, rv, q⟩ := hs
    exact fin J rv q
  | next =>
    obtain ⟨σ', H', J, q⟩ := hs
    exact fin (v := V.non) (u := Value.none) J rfl q
  | brk =>
    obtain ⟨_, _, _, q⟩ := hs
    exact False.elim q
  | cont =>
    obtain ⟨_, _, _, q⟩ := hs
    exact False.elim q
end L2
namespace L2
open PySem PySem.Spec PyProof.Rows
section
variable {X : Cx} {x : Str} {p pos : Pos} {e : Expr} {es : List Expr} {t : TA} {id T : String} {r : List V → Hp → VK → Prop}
def tCB (r : List V → Hp → VK → Prop) (t : TA) : TE := fun σ H Q => t σ H fun vs H1 => r vs H1 Q
theorem pe_callB (hc : CallR X (.builtin id) r) (hg : Gl X x) (hm : X.mg x = none) (hv : bootBuiltins x = some (.builtin id)) (ha : PA X (e :: es) t) (hn : x ≠ "__name__" := by decide) (hdb : (x == ("__debug__" : Str)) = false := by decide)
    (he : starEach (e :: es) X.env = (false, eval e X.env) :: starEach es X.env := by rfl) (hpl : (backTo pos (starEach es X.env)).any (·.1) = false := by rfl) : PE X (.Call (.Name x p) (e :: es) [] pos) (tCB r t) := by
  intro pins s σ H Q I h
  refine wpAny_Call_Name_kw (ld_blt I hg hm hv ?_ hn hdb)
  exact PyProof.Rows.callWith_builtin1 (thn (ha pos pins s σ H _ I h) fun us s1 ⟨vs, H1, I1, r1, q1⟩ => hc pins s1 σ H1 vs us Q I1 r1 q1) he hpl
theorem pe_callTy (hc : CallR X (.type T) r) (hg : Gl X x) (hm : X.mg x = none) (hv : bootBuiltins x = some (.type T)) (ha : PA X (e :: es) t) (hn : x ≠ "__name__" := by decide) (hdb : (x == ("__debug__" : Str)) = false := by decide)
    (he : starEach (e :: es) X.env = (false, eval e X.env) :: starEach es X.env := by rfl) (hpl : (backTo pos (starEach es X.env)).any (·.1) = false := by rfl) : PE X (.Call (.Name x p) (e :: es) [] pos) (tCB r t) := by
  intro pins s σ H Q I h
  refine wpAny_Call_Name_kw (ld_blt I hg hm hv ?_ hn hdb)
  exact PyProof.Rows.callWith_type1 (thn (ha pos pins s σ H _ I h) fun us s1 ⟨vs, H1, I1, r1, q1⟩ => hc pins s1 σ H1 vs us Q I1 r1 q1) he hpl
end
end L2
namespace HT
open PySem PyProof.Rows
section
open PySem.SeqAt
open PySem.AutoSeq1 (wpAny_loadPart')
open PySem.MeetsSeq PySem.MeetsSeq2 PySem.MeetsSeq3
end
section
variable {prog : Program} {w : World} {A : Around} {E : Value → Shared → Prop} {s : Shared}
def sIx (n d : Nat) : Option Int → Nat
  | none => d
  | some v => if v < 0 then (v + (n : Int)).toNat else min v.toNat n
theorem sIx_nat (n d k : Nat) : sIx n d (some (k : Int)) = min k n := by
  show (if (k : Int) < 0 then ((k : Int) + (n : Int)).toNat else min (k : Int).toNat n) = min k n
  rw [if_neg (by omega), Int.toNat_natCast]
end
end HT
namespace L2
open PySem PySem.Spec PyProof.Rows
abbrev TO := St → Hp → (Option Int → Hp → Prop) → Prop
def PO (X : Cx) (e : Option Expr) (t : TO) : Prop :=
  ∀ (pins : List (Addr × Obj)) (s : Shared) (σ : St) (H : Hp) (Q : Option Int → Hp → Prop), Inv X pins σ H s → t σ H Q →
    wpAny (model X.prog X.w) X.A (evalPart e X.env) (fun u s' => ∃ o H', Inv X pins σ H' s' ∧ IsPart u o ∧ Q o H') X.xe s
def tPart (t : TE) : TO := fun σ H Q => t σ H fun x H1 => ∃ i, x = .int i ∧ Q (some i) H1
section
variable {X : Cx} {e : Expr} {te : TE} {lo hi : Option Expr} {tl th : TO} {pos p2 : Pos}
theorem po_some (h : PE X e te) : PO X (some e) (tPart te) := by
  intro pins s σ H Q I hw
  rw [evalPart_some]
  refine thn (h pins s σ H _ I hw) fun u s1 ⟨x, H1, I1, r1, q1⟩ => ?_
  obtain ⟨i, rfl, q⟩ := q1
  obtain ⟨t, rfl⟩ := r1
  exact ⟨some i, H1, I1, .int i t, q⟩
def SlR (X : Cx) (r : V → Option Int → Option Int → Hp → VK → Prop) : Prop :=
  ∀ (pins : List (Addr × Obj)) (s : Shared) (σ : St) (H : Hp) (x : V) (v vl vu : Value) (lo hi : Option Int) (sl : Addr) (Q : VK), Inv X pins σ H s → RelV x v → s.heap.IsSliceOf sl vl vu .none → IsPart vl lo → IsPart vu hi → r x lo hi H Q →
    ∃ T id, typeLookup (.type T) "__getitem__" = pure (some (.builtin id)) ∧ s.TypeIs v T ∧ wpAny (model X.prog X.w) X.A (getItem v (.ref sl)) (EP X pins σ Q) X.xe s
def tSl (r : V → Option Int → Option Int → Hp → VK → Prop) (te : TE) (tl th : TO) : TE := fun σ H Q => te σ H fun x H1 => tl σ H1 fun l H2 => th σ H2 fun u H3 => r x l u H3 Q
theorem pe_slice {r : V → Option Int → Option Int → Hp → VK → Prop} (hr : SlR X r) (he : PE X e te) (hl : PO X lo tl) (hu : PO X hi th) : PE X (.Subscript e (.Slice lo hi none p2) pos) (tSl r te tl th) := by
  intro pins s σ H Q I h
  refine Subscript_ (thn (he pins s σ H _ I h) fun v s1 ⟨x, H1, I1, r1, q1⟩ => ?_)
  refine wpAny_Slice (thn (hl pins s1 σ H1 _ I1 q1) fun vl s2 ⟨l, H2, I2, pl, q2⟩ => thn (hu pins s2 σ H2 _ I2 q2) fun vu s3 ⟨u, H3, I3, pu, q3⟩ => ?_)
  rw [evalPart_none]
  refine wpAny_pure ?_
  have I4 : Inv X pins σ H3 { s3 with heap := s3.heap.push { cls := .type "slice", data := .fields #[vl, vu, .none] } } := I3.kept (t' := s3.toks) fun b ob q => Heap.get?_push_of_some _ q
  obtain ⟨T, id, hT, ht, hg⟩ := hr pins { s3 with heap := s3.heap.push { cls := .type "slice", data := .fields #[vl, vu, .none] } } σ H3 x v vl vu l u s3.heap.objs.size Q I4 r1 (Heap.IsSliceOf.new ..) pl pu q3
  show wpAny (model X.prog X.w) X.A (subscriptTail e (.Slice lo hi none p2) v (.ref s3.heap.objs.size)) (EP X pins σ Q) X.xe { s3 with heap := s3.heap.push { cls := .type "slice", data := .fields #[vl, vu, .none] } }
  exact tail_any (ops := [.ref s3.heap.objs.size, v]) ht hT hg (by with_unfolding_all rfl)
def cutV (xs : List V) (lo hi : Option Int) : List V := (xs.drop (HT.sIx xs.length 0 lo)).take (HT.sIx xs.length xs.length hi - HT.sIx xs.length 0 lo)
theorem cutV_length (xs : List V) (lo hi : Option Int) : (cutV xs lo hi).length ≤ xs.length := by
  unfold cutV
  rw [List.length_take, List.length_drop]
  omega
end
end L2
namespace L2
open PySem PySem.Spec PyProof.Rows
def ixN (n : Nat) (i : Int) : Option Nat := if 0 ≤ i then (if i < n then some i.toNat else none) else if -(n : Int) ≤ i then some (i + n).toNat else none
def atI {α : Type} (xs : List α) (i : Int) : Option α := (ixN xs.length i).bind fun j => xs[j]?
theorem ixN_seq {n : Nat} {i : Int} {j : Nat} (h : ixN n i = some j) : seqIndex? i n = some j ∧ j < n ∧ -(n : Int) ≤ i ∧ i < n := by
  unfold ixN at h
  by_cases h0 : 0 ≤ i
  · rw [if_pos h0] at h
    by_cases h1 : i < n
    · rw [if_pos h1] at h
      have e : i.toNat = j := Option.some.inj h
      exact ⟨by rw [seqIndex_of h0 h1, e], by omega, by omega, h1⟩
    · rw [if_neg h1] at h; cases h
  · rw [if_neg h0] at h
    by_cases h1 : -(n : Int) ≤ i
    · rw [if_pos h1] at h
      have e : (i + n).toNat = j := Option.some.inj h
      exact ⟨by rw [seqIndex_neg (by omega) h1, e], by omega, h1, by omega⟩
    · rw [if_neg h1] at h; cases h
theorem atI_get {α : Type} {xs : List α} {i : Int} {v : α} (h : atI xs i = some v) : ∃ j, seqIndex? i xs.length = some j ∧ xs[j]? = some v ∧ j < xs.length ∧ -(xs.length : Int) ≤ i ∧ i < xs.length := by
  unfold atI at h
  cases e : ixN xs.length i with
  | none => rw [e] at h; cases h
  | some j =>
    rw [e] at h
    obtain ⟨h1, h2, h3, h4⟩ := ixN_seq e
    exact ⟨j, h1, h, h2, h3, h4⟩
theorem atI_nat {α : Type} {xs : List α} {j : Nat} {v : α} (h : xs[j]? = some v) : atI xs (j : Int) = some v := by
  have hj : j < xs.length := (List.getElem?_eq_some_iff.mp h).1
  have e : ixN xs.length (j : Int) = some j := by
    unfold ixN
    rw [if_pos (by omega), if_pos (by omega)]; simp
  unfold atI; rw [e]; exact h
def PlainIx (b : Expr) : Prop := ∀ o i, subscripted b false o i = operate [o, i] (getItem o i)
def IxR (X : Cx) (r : R2) : Prop :=
  ∀ (value slice : Expr) (pins : List (Addr × Obj)) (s : Shared) (σ : St) (H : Hp) (x y : V) (v u : Value) (Q : VK), Inv X pins σ H s → RelV x v → RelV y u → r x y H Q →
    subscripted slice false v u = operate [v, u] (getItem v u) → wpAny (model X.prog X.w) X.A (subscriptTail value slice v u) (EP X pins σ Q) X.xe s
def MtR (X : Cx) (id : String) (r : V → List V → Hp → VK → Prop) : Prop :=
  ∀ (pins : List (Addr × Obj)) (s : Shared) (σ : St) (H : Hp) (x : V) (xs : List V) (v : Value) (us : List Value) (Q : VK), Inv X pins σ H s → RelV x v → Vals xs us → r x xs H Q →
    wpAny (model X.prog X.w) X.A (call (.builtin id) (v :: us)) (EP X pins σ Q) X.xe s
section
variable {X : Cx} {a b : Expr} {ta tb : TE} {pos : Pos}
theorem pe_ix {r : R2} (hr : IxR X r) (ha : PE X a ta) (hb : PE X b tb) (hs : PlainIx b) : PE X (.Subscript a b pos) (tOp r ta tb) := by
  intro pins s σ H Q I h
  exact Subscript_ (binT ha hb I h fun v u s2 x y H2 I2 rx ry q => hr a b pins s2 σ H2 x y v u Q I2 rx ry q (hs _ _))
def rIxL (K : PySem.W.Frag) : R2 := fun x y H Q => ∃ p xs i v, x = .ref p ∧ y = .int i ∧ SqL K H p xs ∧ atI xs i = some v ∧ Q v H
def rIxT (K : PySem.W.Frag) : R2 := fun x y H Q => ∃ p xs i v, x = .ref p ∧ y = .int i ∧ SqT K H p xs ∧ atI xs i = some v ∧ Q v H
theorem ix_list : IxR X (rIxL X.K) := by
  intro value slice pins s σ H x y v u Q I rx ry h hs
  obtain ⟨p, xs, i, z, rfl, rfl, hq, he, q⟩ := h
  cases rx
  obtain ⟨t, rfl⟩ := ry
  obtain ⟨its, r, pl, hz⟩ := I.list hq
  obtain ⟨j, h1, h2, h3, h4, h5⟩ := atI_get he
  obtain ⟨w, ew, rw'⟩ := r.get h2
  have hl := r.length
  have hn := line63
  have fin : EP X pins σ Q w s := ⟨z, H, I, rw', q⟩
  by_cases h0 : 0 ≤ i
  · have hj : i.toNat = j := by
      rw [seqIndex_of h0 h5] at h1
      exact Option.some.inj h1
    exact item_listR pl.isList h0 (by omega) (by rw [hj]; simpa using ew) fin hs
  · have hj : (i + (its.toArray.size : Int)).toNat = j := by
      rw [seqIndex_neg (by omega) h4] at h1
      rw [List.size_toArray, ← hl]
      exact Option.some.inj h1
    exact subscriptTail_builtinR (x := w) pl.isList.typeIs slot_list_getitem.lookup
      (wpAny_getItem_list_neg (Q := fun r s' => r = w ∧ EP X pins σ Q r s') pl.isList (by omega) (by rw [List.size_toArray] <;> omega) (by omega) (by rw [hj]; simpa using ew) ⟨rfl, fin⟩) hs
theorem ix_tup : IxR X (rIxT X.K) := by
  intro value slice pins s σ H x y v u Q I rx ry h hs
  obtain ⟨p, xs, i, z, rfl, rfl, hq, he, q⟩ := h
  cases rx
  obtain ⟨t, rfl⟩ := ry
  obtain ⟨its, r, pl, hz⟩ := I.tuple hq
  obtain ⟨j, h1, h2, h3, h4, h5⟩ := atI_get he
  obtain ⟨w, ew, rw'⟩ := r.get h2
  have hl := r.length
  have hn := line63
  have fin : EP X pins σ Q w s := ⟨z, H, I, rw', q⟩
  exact subscriptTail_builtinR (x := w) pl.typeIs slot_tuple_getitem.lookup
    (getItem_tuple (j := j) (Q := fun r s' => r = w ∧ EP X pins σ Q r s') pl (by omega) (by omega) (by rw [List.size_toArray, ← hl]; exact h1) (by simpa using ew) ⟨rfl, fin⟩) hs
theorem mapSeq_set (its : List Value) (n j : Nat) (u : Value) : Obj.mapSeq (·.setIfInBounds j u) { cls := .type "list", data := .seq its.toArray n } = { cls := .type "list", data := .seq (its.set j u).toArray n } := by
  simp [Obj.mapSeq]
theorem Inv.lst {pins : List (Addr × Obj)} {σ : St} {H : Hp} {s : Shared} {p : Addr} {xs : List V} (I : Inv X pins σ H s) (h : H p = some (.lst xs)) :
    ∃ (its : List Value) (n : Nat), Vals xs its ∧ s.heap.get? p = some { cls := .type "list", data := .seq its.toArray n } ∧ xs.length ≤ sizeLine := by
  obtain ⟨z, its, n, r, e⟩ := I.hok p _ h
  exact ⟨its, n, r, e, z⟩
theorem Inv.lstUpd {pins : List (Addr × Obj)} {σ : St} {H : Hp} {s : Shared} {p : Addr} {xs ys : List V} {its its' : List Value} {n n' : Nat} {f : Obj → Obj} (I : Inv X pins σ H s) (h : H p = some (.lst xs))
    (ho : s.heap.get? p = some { cls := .type "list", data := .seq its.toArray n }) (hf : f { cls := .type "list", data := .seq its.toArray n } = { cls := .type "list", data := .seq its'.toArray n' }) (r : Vals ys its') (hz : ys.length ≤ sizeLine) (t : Nat) :
    Inv X pins σ (upd H p (.lst ys)) { s with heap := s.heap.update p f, toks := t } := by
  have e : (s.heap.update p f).get? p = some { cls := .type "list", data := .seq its'.toArray n' } := by
    rw [Heap.get?_update_self f ho (by rw [hf] <;> rfl), hf]
  refine I.write (x := p) (e := p) (by rw [h]; trivial) (.inl rfl) (fun b u hb q => (Heap.get?_update_other _ _ (Ne.symm hb)).trans q) ⟨_, e⟩ ?_
  exact ⟨hz, its', n', r, e⟩
def rSetL : V → V → V → Hp → (Hp → Prop) → Prop := fun o i v H Q => ∃ p xs k j, o = .ref p ∧ i = .int k ∧ H p = some (.lst xs) ∧ ixN xs.length k = some j ∧ Q (upd H p (.lst (xs.set j v)))
theorem set_list : PSet X rSetL := by
  intro pins s σ H o i v ov iv u Q I ro ri rv h
  obtain ⟨p, xs, k, j, rfl, rfl, hp, hj, q⟩ := h
  cases ro
  obtain ⟨t, rfl⟩ := ri
  obtain ⟨its, n, r, ho, hz⟩ := I.lst hp
  obtain ⟨h1, h2, h3, h4⟩ := ixN_seq hj
  have hl := r.length
  have hn := line63
  have I' : Inv X pins σ (upd H p (.lst (xs.set j v))) { s with heap := s.heap.update p (Obj.mapSeq (·.setIfInBounds j u)) } :=
    I.lstUpd hp ho (mapSeq_set its n j u) (r.set rv j) (by rw [List.length_set]; exact hz) s.toks
  by_cases h0 : 0 ≤ k
  · have hk : k.toNat = j := by
      rw [seqIndex_of h0 h4] at h1
      exact Option.some.inj h1
    exact PySem.W.ki_setAt ho h0 (by omega) (by rw [List.size_toArray, ← hl]; exact h4) (by rw [hk]; exact ⟨_, I', q⟩)
  · have hk : (k + (its.toArray.size : Int)).toNat = j := by
      rw [seqIndex_neg (by omega) h3] at h1
      rw [List.size_toArray, ← hl]
      exact Option.some.inj h1
    exact PySem.W.ki_setBack ho (by omega) (by rw [List.size_toArray, ← hl]; exact h3) (by omega) (by rw [hk]; exact ⟨_, I', q⟩)
theorem slice_bounds (lo hi : Option Int) (n : Nat) : (sliceBounds lo hi none n).1 = ((HT.sIx n 0 lo : Nat) : Int) ∧ (sliceBounds lo hi none n).2.1 = ((HT.sIx n n hi : Nat) : Int) ∧ (sliceBounds lo hi none n).2.2 = 1 := by
  refine ⟨?_, ?_, rfl⟩
  · cases lo with
    | none => simp [sliceBounds, HT.sIx]
    | some i =>
      simp only [sliceBounds, HT.sIx, Option.getD_none, show (1 : Int) > 0 by decide, if_true]
      by_cases h : i < 0
      · simp only [h, if_true] <;> omega
      · simp only [h, if_false] <;> omega
  · cases hi with
    | none => simp [sliceBounds, HT.sIx]
    | some i =>
      simp only [sliceBounds, HT.sIx, Option.getD_none, show (1 : Int) > 0 by decide, if_true]
      by_cases h : i < 0
      · simp only [h, if_true] <;> omega
      · simp only [h, if_false] <;> omega
theorem slicePick_cut (its : List Value) (lo hi : Option Int) : slicePick its.toArray lo hi none = ((its.drop (HT.sIx its.length 0 lo)).take (HT.sIx its.length its.length hi - HT.sIx its.length 0 lo)).toArray := by
  obtain ⟨h1, h2, h3⟩ := slice_bounds lo hi its.toArray.size
  unfold slicePick
  rw [h1, h2, h3]
  simp only [sliceRange_one, pick_run, List.size_toArray] <;> rfl
def rSlL (K : PySem.W.Frag) : V → Option Int → Option Int → Hp → VK → Prop := fun x lo hi H Q => ∃ a xs, x = .ref a ∧ SqL K H a xs ∧ ∀ p, H p = none → Q (.ref p) (upd H p (.lst (cutV xs lo hi)))
theorem sl_list : SlR X (rSlL X.K) := by
  intro pins s σ H x v vl vu lo hi sl Q I rx hs pl pu h
  obtain ⟨a, xs, rfl, hx, q⟩ := h
  cases rx
  obtain ⟨its, r, ht, hz⟩ := I.list hx
  have hlen := r.length
  refine ⟨"list", _, slot_list_getitem.lookup, ht.isList.typeIs, ?_⟩
  refine wpAny_getItem_list_slice ht.isList hs pl pu .none (by simp) ?_ (by rw [List.size_toArray] <;> omega)
  rw [slicePick_cut, ← hlen]
  refine ⟨.ref s.heap.objs.size, _, I.laid (t' := s.toks) (o := .lst (cutV xs lo hi)) (fun b ob q => Heap.get?_push_of_some _ q) (Nat.le_refl _) ?_, rfl, q _ (I.hok.fresh (Nat.le_refl _))⟩
  exact ⟨Nat.le_trans (cutV_length xs lo hi) hz, _, 0, (r.drop (HT.sIx xs.length 0 lo)).take (HT.sIx xs.length xs.length hi - HT.sIx xs.length 0 lo), Heap.get?_push_size _ rfl⟩
def flatV : V → Bool
  | .non => true
  | .bl _ => true
  | .int _ => true
  | .str _ => true
  | _ => false
def eqV : V → V → Bool
  | .non, .non => true
  | .bl a, .bl b => a == b
  | .bl a, .int b => (if a then 1 else 0) == b
  | .int a, .bl b => a == (if b then 1 else 0)
  | .int a, .int b => a == b
  | .str a, .str b => a == b
  | _, _ => false
theorem eqAt_V {A : Around} {s : Shared} {y x : V} {u v : Value} (ry : RelV y u) (rx : RelV x v) (fy : flatV y = true) (fx : flatV x = true) : SeqAt.EqAt A s u v (eqV y x) := by
  cases y with
  | non =>
    cases ry
    cases x with
    | non => cases rx; exact SeqAt.EqAt.same _
    | bl b => cases rx; exact SeqAt.EqAt.none_bool b
    | int b => obtain ⟨t, rfl⟩ := rx; exact SeqAt.EqAt.none_int b t
    | str b => obtain ⟨t, rfl⟩ := rx; exact SeqAt.EqAt.none_str b t
    | _ => exact absurd (show false = true from fx) Bool.false_ne_true
  | bl a =>
    cases ry
    cases x with
    | non => cases rx; exact SeqAt.EqAt.bool_none a
    | bl b => cases rx; exact SeqAt.EqAt.bool_bool a b
    | int b => obtain ⟨t, rfl⟩ := rx; exact SeqAt.EqAt.bool_int a b t
    | str b => obtain ⟨t, rfl⟩ := rx; exact SeqAt.EqAt.bool_str a b t
    | _ => exact absurd (show false = true from fx) Bool.false_ne_true
  | int a =>
    obtain ⟨t', rfl⟩ := ry
    cases x with
    | non => cases rx; exact SeqAt.EqAt.int_none a t'
    | bl b => cases rx; exact SeqAt.EqAt.int_bool a t' b
    | int b => obtain ⟨t, rfl⟩ := rx; exact SeqAt.EqAt.int_int a t' b t
    | str b => obtain ⟨t, rfl⟩ := rx; exact SeqAt.EqAt.int_str a t' b t
    | _ => exact absurd (show false = true from fx) Bool.false_ne_true
  | str a =>
    obtain ⟨t', rfl⟩ := ry
    cases x with
    | non => cases rx; exact SeqAt.EqAt.str_none a t'
    | bl b => cases rx; exact SeqAt.EqAt.str_bool a t' b
    | int b => obtain ⟨t, rfl⟩ := rx; exact SeqAt.EqAt.str_int a t' b t
    | str b => obtain ⟨t, rfl⟩ := rx; exact SeqAt.EqAt.str_str a t' b t
    | _ => exact absurd (show false = true from fx) Bool.false_ne_true
  | _ => exact absurd (show false = true from fy) Bool.false_ne_true
theorem call_len_seq : CallR X (.builtin "len") (fun xs H Q => ∃ p ys, xs = [.ref p] ∧ (SqL X.K H p ys ∨ SqT X.K H p ys) ∧ Q (.int ys.length) H) := by
  intro pins s σ H xs us Q I r h
  obtain ⟨p, ys, rfl, hq, q⟩ := h
  obtain ⟨u, rfl, rx⟩ := vals1 r
  cases rx
  have hn := line63
  rcases hq with hq | hq
  · obtain ⟨its, r', pl, hz⟩ := I.list hq
    have hlen := r'.length
    exact Calls.call_len_list pl.isList (by simp only [List.size_toArray] <;> omega) ⟨.int ys.length, H, I.tok _, ⟨s.toks + 1, by rw [List.size_toArray, hlen]⟩, q⟩
  · obtain ⟨its, r', pl, hz⟩ := I.tuple hq
    have hlen := r'.length
    exact len_tuple pl (by simp only [List.size_toArray] <;> omega) ⟨.int ys.length, H, I.tok _, ⟨s.toks + 1, by rw [List.size_toArray, hlen]⟩, q⟩
theorem call_list_of : CallR X (.type "list") (fun xs H Q => ∃ p ys, xs = [.ref p] ∧ (SqL X.K H p ys ∨ SqT X.K H p ys) ∧ ∀ l, H l = none → Q (.ref l) (upd H l (.lst ys))) := by
  intro pins s σ H xs us Q I r h
  obtain ⟨p, ys, rfl, hq, q⟩ := h
  obtain ⟨u, rfl, rx⟩ := vals1 r
  cases rx
  have fin : ∀ (its : List Value), Vals ys its → ys.length ≤ sizeLine → ∀ (h' : Heap) (c' : Nat), (∀ b o', s.heap.get? b = some o' → h'.get? b = some o') →
      h'.get? s.heap.objs.size = some { cls := .type "list", dict := none, data := .seq its.toArray c', slots := #[] } → EP X pins σ Q (.ref s.heap.objs.size) { s with heap := h' } := fun its r' hz h' c' kp e =>
    ⟨.ref s.heap.objs.size, _, I.laid (t' := s.toks) kp (Nat.le_refl _) (show ObjOk X.prog X.w _ h' _ (.lst ys) from ⟨hz, its, c', r', e⟩), rfl, q _ (I.hok.fresh (Nat.le_refl _))⟩
  rcases hq with hq | hq
  · obtain ⟨its, r', pl, hz⟩ := I.list hq
    have hlen := r'.length
    obtain ⟨o, ho, hc, n, hd⟩ := pl.isList
    exact call_list_seq p (.inl rfl) ho hc hd (fun h' c' kp e => fin its r' hz h' c' kp e) (by simp only [List.size_toArray] <;> omega)
  · obtain ⟨its, r', pl, hz⟩ := I.tuple hq
    have hlen := r'.length
    obtain ⟨o, ho, hc, n, hd⟩ := pl
    exact call_list_seq p (.inr rfl) ho hc hd (fun h' c' kp e => fin its r' hz h' c' kp e) (by simp only [List.size_toArray] <;> omega)
def tyV (K : PySem.W.Frag) (T : String) (x : V) (H : Hp) : Prop := match x with
  | .str _ => T = "str"
  | .int _ => T = "int"
  | .ref p => (T = "list" ∧ ∃ xs, SqL K H p xs) ∨ (T = "tuple" ∧ ∃ o, K.lookup p = some o ∧ o.cls = .type "tuple" ∧ o.dict = none) ∨
      (T = "dict" ∧ ((∃ kvs, H p = some (.dK kvs)) ∨ ∃ kvs, H p = some (.dT kvs))) ∨ (T = "set" ∧ ∃ S n, H p = some (.set S n))
  | _ => False
theorem tyV_is {pins : List (Addr × Obj)} {σ : St} {H : Hp} {s : Shared} {T : String} {x : V} {v : Value} (I : Inv X pins σ H s) (r : RelV x v) (ty : tyV X.K T x H) :
    s.TypeIs v T ∧ ∀ a, v = .ref a → ∃ ob, s.heap.get? a = some ob ∧ ob.dict = none := by
  cases x with
  | str z =>
    obtain ⟨t, rfl⟩ := r
    cases (show T = "str" from ty)
    exact ⟨typeIs_str s z t, fun _ e => nomatch e⟩
  | int i =>
    obtain ⟨t, rfl⟩ := r
    cases (show T = "int" from ty)
    exact ⟨typeIs_int s i t, fun _ e => nomatch e⟩
  | ref p =>
    cases r
    rcases ty with ⟨rfl, xs, hq⟩ | ⟨rfl, o, hk, hc, hd⟩ | ⟨rfl, hk⟩ | ⟨rfl, S, n, hk⟩
    · obtain ⟨its, _, pl, _⟩ := I.list hq
      refine ⟨pl.isList.typeIs, fun a e => ?_⟩
      cases e
      obtain ⟨o, n, e, c, hd, _⟩ := pl
      exact ⟨o, e, hd⟩
    · refine ⟨⟨o, I.kIn p o hk, hc⟩, fun a e => ?_⟩
      cases e
      exact ⟨o, I.kIn _ o hk, hd⟩
    · have z : ∃ o, s.heap.get? p = some o ∧ o.ExactDict := by
        rcases hk with ⟨kvs, hk⟩ | ⟨kvs, hk⟩
        · obtain ⟨_, _, _, _, o, _, _, e, ex, _⟩ := I.hok p _ hk
          exact ⟨o, e, ex⟩
        · obtain ⟨_, _, _, _, o, _, _, e, ex, _⟩ := I.hok p _ hk
          exact ⟨o, e, ex⟩
      obtain ⟨o, e, ex⟩ := z
      refine ⟨⟨o, e, ex.1⟩, fun a e2 => ?_⟩
      cases e2
      exact ⟨o, e, ex.2.1⟩
    · obtain ⟨o, _, _, _, e, ex, _⟩ := I.hok p _ hk
      refine ⟨⟨o, e, ex.1⟩, fun a e2 => ?_⟩
      cases e2
      exact ⟨o, e, ex.2.1⟩
  | _ => exact False.elim ty
def tBM0 (K : PySem.W.Frag) (T : String) (r : V → List V → Hp → VK → Prop) (to : TE) : TE := fun σ H Q => to σ H fun x H1 => tyV K T x H1 ∧ r x [] H1 Q
def tBM (K : PySem.W.Frag) (T : String) (r : V → List V → Hp → VK → Prop) (to : TE) (t : TA) : TE := fun σ H Q => to σ H fun x H1 => tyV K T x H1 ∧ t σ H1 fun xs H2 => r x xs H2 Q
variable {o e : Expr} {es : List Expr} {to : TE} {t : TA} {name : Str} {apos cpos : Pos} {T id : String} {r : V → List V → Hp → VK → Prop}
theorem pe_bm0 (pa : PlainAttrs T) (slot : Slot T name id) (hty : typeOf (.builtin id) = pure (.type "method_descriptor")) (hm : MtR X id r) (ho : PE X o to)
    (hbase : attributeBase o name X.env (eval o X.env) = eval o X.env := by rfl) (hline : (apos.endLine == cpos.line) = true := by rfl) : PE X (.Call (.Attribute o name apos) [] [] cpos) (tBM0 X.K T r to) := by
  intro pins s σ H Q I h
  refine wpAny_Call_method0_late hbase hline (thn (ho pins s σ H _ I h) fun v s1 ⟨x, H1, I1, r1, ty, q1⟩ => ?_)
  obtain ⟨h1, h2⟩ := tyV_is I1 r1 ty
  exact ⟨T, id, pa, slot, hty, h1, h2, Calls.callWith_builtin rfl (PySem.evalArgs_none (hm pins s1 σ H1 x [] v [] Q I1 r1 .nil q1))⟩
theorem pe_bm (pa : PlainAttrs T) (slot : Slot T name id) (hty : typeOf (.builtin id) = pure (.type "method_descriptor")) (hm : MtR X id r) (ho : PE X o to) (ha : PA X (e :: es) t)
    (hbase : attributeBase o name X.env (eval o X.env) = eval o X.env := by rfl)
    (hfew : ((backTo cpos (starEach (e :: es) X.env)).all (fun x => !x.1) && (backToKw cpos (keywordEach [] X.env)).all (fun x => x.1.isSome)
      && decide ((e :: es).length + ([] : List Keyword).length + (if ([] : List Keyword).isEmpty then 0 else 1) < 30)) = true := by rfl)
    (hline : (apos.endLine == cpos.line) = true := by rfl) (hs : starEach (e :: es) X.env = (false, eval e X.env) :: starEach es X.env := by rfl) (hplain : (backTo cpos (starEach es X.env)).any (·.1) = false := by rfl) :
    PE X (.Call (.Attribute o name apos) (e :: es) [] cpos) (tBM X.K T r to t) := by
  intro pins s σ H Q I h
  refine wpAny_Call_method_late hbase hfew hline rfl (thn (ho pins s σ H _ I h) fun v s1 ⟨x, H1, I1, r1, ty, q1⟩ => ?_)
  obtain ⟨h1, h2⟩ := tyV_is I1 r1 ty
  refine ⟨T, id, pa, slot, hty, h1, h2, ?_⟩
  have hA := ha cpos pins s1 σ H1 _ I1 q1
  rw [hs] at hA ⊢
  refine Calls.callWith_builtin (by show (false || (backTo cpos (starEach es X.env)).any (·.1)) = false; rw [hplain] <;> rfl) (Calls.evalArgs_plain ?_)
  exact thn hA fun us s2 ⟨vs, H2, I2, r2, q2⟩ => hm pins s2 σ H2 x vs v us Q I2 r1 r2 q2
end
end L2
namespace L2
open PySem PySem.Spec PyProof.Rows
def MtM (X : Cx) (id : String) (r : V → List V → Hp → VK → Prop) : Prop :=
  ∀ (pins : List (Addr × Obj)) (s : Shared) (σ : St) (H : Hp) (x : V) (xs : List V) (v : Value) (us : List Value) (Q : VK), Inv X pins σ H s → RelV x v → Vals xs us → r x xs H Q →
    wpAny (model X.prog X.w) X.A (call (.builtin id) (v :: us)) (EP X pins σ Q) X.xe s
theorem Vals.one : ∀ {x : V} {us : List Value}, Vals [x] us → ∃ u, us = [u] ∧ RelV x u
  | _, _, .cons r .nil => ⟨_, rfl, r⟩
theorem Vals.two : ∀ {x y : V} {us : List Value}, Vals [x, y] us → ∃ u v, us = [u, v] ∧ RelV x u ∧ RelV y v
  | _, _, _, .cons r (.cons q .nil) => ⟨_, _, rfl, r, q⟩
theorem Vals.zero : ∀ {us : List Value}, Vals [] us → us = []
  | _, .nil => rfl
theorem Vals.dropLast {xs : List V} {us : List Value} (h : Vals xs us) : Vals xs.dropLast us.dropLast := by
  induction h with
  | nil => exact .nil
  | cons r t ih =>
    cases t with
    | nil => exact .nil
    | cons q t' => exact .cons r ih
theorem Vals.rep {xs : List V} {us : List Value} (h : Vals xs us) : ∀ k : Nat, Vals (List.replicate k xs).flatten (List.replicate k us).flatten
  | 0 => .nil
  | k + 1 => by
    rw [List.replicate_succ, List.replicate_succ, List.flatten_cons, List.flatten_cons]
    exact Vals.append h (Vals.rep h k)
theorem erase_last {α : Type} (l : List α) : l.eraseIdx (l.length - 1) = l.dropLast := by
  induction l with
  | nil => rfl
  | cons a r ih =>
    cases r with
    | nil => rfl
    | cons b r =>
      have e : (a :: b :: r).length - 1 = ((b :: r).length - 1) + 1 := by
        have h1 : (a :: b :: r).length = r.length + 2 := rfl
        have h2 : (b :: r).length = r.length + 1 := rfl
        omega
      rw [e, List.eraseIdx_cons_succ, ih]
      all_goals rfl
theorem foldl_rep (its : List Value) : ∀ (k : Nat) (acc : List Value),
    List.foldl (fun x1 x2 => x1 ++ x2) acc.toArray (List.replicate k its.toArray) = (acc ++ (List.replicate k its).flatten).toArray
  | 0, acc => by simp
  | k + 1, acc => by
    have e : acc.toArray ++ its.toArray = (acc ++ its).toArray := by simp
    have e2 : (acc ++ its) ++ (List.replicate k its).flatten = acc ++ (List.replicate (k + 1) its).flatten := by
      rw [List.replicate_succ, List.flatten_cons, List.append_assoc]
    rw [← e2, ← foldl_rep its k (acc ++ its), ← e, List.replicate_succ, List.foldl_cons]
section
variable {X : Cx} {pins : List (Addr × Obj)} {σ : St} {H : Hp} {s : Shared} {l b : Addr} {xs ys zs : List V}
theorem Inv.lset {its its' : List Value} {n : Nat} {f : Array Value → Array Value} {t' : Nat} (I : Inv X pins σ H s) (hH : H l = some (.lst xs))
    (e : s.heap.get? l = some { cls := .type "list", data := .seq its.toArray n }) (hf : f its.toArray = its'.toArray) (hv : Vals ys its') (hz : ys.length ≤ sizeLine) :
    Inv X pins σ (upd H l (.lst ys)) { s with heap := s.heap.update l (Obj.mapSeq f), toks := t' } := by
  have q := PySem.IsL.update e f
  rw [hf] at q
  refine I.write (x := l) (e := l) (by rw [hH]; exact trivial) (.inl rfl) (fun b' u hb hu => (Heap.get?_update_other s.heap (Obj.mapSeq f) (Ne.symm hb)).trans hu) ⟨_, q⟩ ?_
  exact ⟨hz, its', _, hv, q⟩
theorem Inv.lnew {its : List Value} {t' : Nat} (I : Inv X pins σ H s) (hv : Vals ys its) (hz : ys.length ≤ sizeLine) :
    Inv X pins σ (upd H s.heap.objs.size (.lst ys)) { s with heap := s.heap.push { cls := .type "list", data := .seq its.toArray }, toks := t' } :=
  I.laid (fun _ _ q => Heap.get?_push_of_some _ q) (Nat.le_refl _) ⟨hz, its, 0, hv, Heap.get?_push_size _ rfl⟩
theorem Inv.fresh (I : Inv X pins σ H s) : H s.heap.objs.size = none := I.hok.fresh (Nat.le_refl _)
theorem Inv.lstM (I : Inv X pins σ H s) (hH : H l = some (.lst xs)) : xs.length ≤ sizeLine ∧ ∃ (its : List Value) (n : Nat), Vals xs its ∧ xs.length = its.length ∧ s.heap.get? l = some { cls := .type "list", data := .seq its.toArray n } := by
  obtain ⟨z, its, n, r, e⟩ := I.hok l _ hH
  exact ⟨z, its, n, r, r.length, e⟩
theorem notLongL {n : Nat} (h : n ≤ sizeLine) : Builtin.List.listTooLong n = false := by
  unfold Builtin.List.listTooLong
  exact decide_eq_false (by omega)
end
section
variable {X : Cx}
def rAppend : V → List V → Hp → VK → Prop := fun x vs H Q => ∃ l xs y, x = .ref l ∧ vs = [y] ∧ H l = some (.lst xs) ∧ xs.length < sizeLine ∧ Q .non (upd H l (.lst (xs ++ [y])))
theorem mt_append : MtM X "list.append" rAppend := by
  intro pins s σ H x vs v us Q I rx rv h
  obtain ⟨l, xs, y, rfl, rfl, hH, hz, q⟩ := h
  cases rx
  obtain ⟨u, rfl, ru⟩ := rv.one
  obtain ⟨z, its, n, r, hl, e⟩ := I.lstM hH
  refine call_meets F.slot_list_append ⟨_, e, rfl⟩ F.entry_list_append (F.args_list_append_2 _ _) (PySem.list_append l its.toArray n u (by rw [List.size_toArray]; omega)) ⟨e, ?_⟩
  refine ⟨.non, _, I.lset (its' := its ++ [u]) hH e (by simp) (r.append (.cons ru .nil)) ?_, rfl, q⟩
  rw [List.length_append, List.length_singleton]
  omega
def rPop : V → List V → Hp → VK → Prop := fun x vs H Q => ∃ l xs y, x = .ref l ∧ vs = [] ∧ H l = some (.lst xs) ∧ xs[xs.length - 1]? = some y ∧ Q y (upd H l (.lst xs.dropLast))
theorem mt_pop : MtM X "list.pop" rPop := by
  intro pins s σ H x vs v us Q I rx rv h
  obtain ⟨l, xs, y, rfl, rfl, hH, hy, q⟩ := h
  cases rx
  have hus := rv.zero
  subst hus
  obtain ⟨z, its, n, r, hl, e⟩ := I.lstM hH
  obtain ⟨u, hu, ru⟩ := r.get hy
  have hy' : its.toArray[its.toArray.size - 1]? = some u := by
    show its.toArray[its.length - 1]? = some u
    rw [← Array.getElem?_toList, ← hl]
    exact hu
  refine call_meets F.slot_list_pop ⟨_, e, rfl⟩ F.entry_list_pop (F.args_list_pop_1 _) (MeetsSeq.list_pop_last l its.toArray n u hy' (by rw [List.size_toArray]; omega)) ⟨e, ?_⟩
  refine ⟨y, _, I.lset (its' := its.dropLast) hH e ?_ r.dropLast ?_, ru, q⟩
  · show its.toArray.eraseIdxIfInBounds (its.toArray.size - 1) = its.dropLast.toArray
    rw [List.size_toArray, List.eraseIdxIfInBounds_toArray, erase_last]
  · rw [List.length_dropLast]
    omega
def rRep : R2 := fun x y H Q => ∃ l k xs, x = .ref l ∧ y = .int k ∧ H l = some (.lst xs) ∧ -(2 ^ 63) ≤ k ∧ k < 2 ^ 63 ∧ xs.length * k.toNat ≤ sizeLine ∧
  ∀ p, H p = none → Q (.ref p) (upd H p (.lst (List.replicate k.toNat xs).flatten))
theorem len_rep {α : Type} (xs : List α) (k : Nat) : (List.replicate k xs).flatten.length = k * xs.length := by
  induction k with
  | zero => simp
  | succ k ih => rw [List.replicate_succ, List.flatten_cons, List.length_append, ih, Nat.succ_mul, Nat.add_comm]
theorem op_rep : OpR X (binaryOp .Mult) rRep := by
  intro pins s σ H x y v u Q I rx ry h
  obtain ⟨l, k, xs, rfl, rfl, hH, h1, h2, hz, q⟩ := h
  cases rx
  obtain ⟨t, rfl⟩ := ry
  obtain ⟨z, its, n, r, hl, e⟩ := I.lstM hH
  have hlen : its.toArray.size * k.toNat ≤ sizeLine := by rw [List.size_toArray, ← hl]; exact hz
  have hcap : ¬ its.toArray.size * k.toNat > (2 ^ 63 - 1) / 8 := by
    have : (sizeLine : Nat) ≤ (2 ^ 63 - 1) / 8 := by decide
    omega
  have hfit : ¬ (!Builtin.List.listFitsIndex k) = true := by
    rw [fitsIndex_both h1 h2]
    exact Bool.false_ne_true
  have hlong : ¬ Builtin.List.listTooLong (its.toArray.size * k.toNat) = true := by
    rw [notLongL hlen]
    exact Bool.false_ne_true
  have hnew : List.foldl (fun x1 x2 => x1 ++ x2) #[] (List.replicate (if its.toArray.isEmpty = true then 0 else k.toNat) its.toArray) = (List.replicate k.toNat its).flatten.toArray := by
    have f0 : ∀ m : Nat, List.foldl (fun x1 x2 => x1 ++ x2) #[] (List.replicate m its.toArray) = (List.replicate m its).flatten.toArray := fun m => by
      have := foldl_rep its m []
      rw [List.nil_append] at this
      exact this
    rw [f0]
    cases its with
    | nil => simp
    | cons a r' => rw [if_neg (by simp)]
  refine wpAny_binaryOp_repeat_ref (T := "list") (U := "int") (by decide) ⟨_, e, rfl⟩ (fun s' => typeIs_int s' k t) noFill_list_mul F.fills_int_mul F.slot_int_rmul repeat_list F.slot_int_index.lookup
    (call_meets F.slot_int_rmul (typeIs_int s k t) F.entry_int_rmul (F.args_int_rmul_2 _ _) (int___rmul___int_list k t l its.toArray n)
      ⟨e, rfl, ⟨_, e, rfl⟩, call_meets F.slot_list_mul ⟨_, e, rfl⟩ F.entry_list_mul (F.args_list_mul_2 _ _) (AutoListH.list___mul___list_int_3 l its.toArray n k t hfit hcap hlong) ⟨e, ?_⟩⟩)
  rw [hnew]
  exact ⟨.ref _, _, I.lnew (t' := s.toks) (r.rep k.toNat) (by rw [len_rep, Nat.mul_comm]; exact hz), rfl, q _ I.fresh⟩
end
section
variable {prog : Program} {w : World} {A : Around} {E : Value → Shared → Prop} {s : Shared}
end
section
variable {X : Cx}
end
end L2
namespace Att
open PySem PySem.W PySem.Calls PyProof.Rows
theorem ints_of_wellAll {P : Params} {h : Heap} : ∀ (ns : List Int) (vs : List Value), WellAll P h vs (ns.map WData.int) → IntsAre vs ns := by
  intro ns
  induction ns with
  | nil =>
    intro vs w
    rw [List.map_nil] at w
    cases w
    exact .nil
  | cons n ns ih =>
    intro vs w
    rw [List.map_cons] at w
    cases w with
    | cons a b =>
      cases a
      exact .cons _ _ (ih _ b)
theorem script_of {l : OpenLaw} {n : Nat} (hn : l.most = some n) {P : Params} {h : Heap} {args : List WData} {vals : List Value}
    (hpre : l.row.toRowW.claim.pre args = true) (hwl : WellAll P h vals args) :
    ∃ a vs ns, vals = [Value.ref a] ∧ args = [WData.list (ns.map WData.int)] ∧ h.get? a = some { cls := .type "list", data := .seq vs.toArray } ∧ IntsAre vs ns ∧ ns.length ≤ n := by
  have hsh : WShape.hasAll [] args [.list .int] = true := (pre_splitW hpre).1
  have hc : l.pre.holds [] { args := args } = true := (pre_splitW hpre).2
  obtain ⟨d, r, rfl, h1, h2⟩ := hasAllW_cons hsh
  obtain rfl := hasAllW_nil h2
  obtain ⟨xs, rfl, h3⟩ := hasW_list h1
  obtain ⟨ns, rfl⟩ := items_int h3
  have hlen : ns.length ≤ n := by
    unfold OpenLaw.pre at hc
    have h4 : (WTm.not (.lt (.lit (.int (n : Int))) (.len (.arg 0)))).holds [] { args := [.list (ns.map .int)] } = true := by
      have h4 := (holds_andW hc).1
      rw [hn] at h4
      exact h4
    have h5 := condW_of h4 (w_not (w_lt w_lit (w_len_list (w_arg rfl))))
    rw [List.length_map] at h5
    refine Nat.le_of_not_lt fun q => ?_
    have q' : (n : Int) < ((ns.length : Nat) : Int) := by omega
    first
      | (rw [decide_eq_true q'] at h5; exact absurd h5 (by decide))
      | (simp at h5; omega)
  cases hwl with
  | cons w1 w2 =>
    cases w2
    cases w1 with
    | list ho hall => exact ⟨_, _, ns, rfl, rfl, ho, ints_of_wellAll ns _ hall, hlen⟩
theorem post_true (l : OpenLaw) (args : List WData) : l.row.toRowW.claim.post args (.bool true) args = true :=
  postW_of (r := l.row.toRowW) (X := (true == true))
    (show WShape.has [] (.bool true) .bool = true by first | rfl | decide | simp [WShape.has, WShape.arms, WShape.armsAll])
    (show (WTm.eq .res (.lit (.bool true))).value [] { args := args, res := some (.bool true), after := args } = some (.bool (true == true)) from w_eq_bool (w_res rfl) w_lit) rfl
section
variable {prog : Program} {w : World} {A : Around} {E : Value → Shared → Prop} {s : Shared} {K : Frag}
end
end Att
namespace L2
open PySem PySem.Spec PyProof.Rows
theorem vals_ints : ∀ {vs : List Value} {ns : List Int}, IntsAre vs ns → Vals (ns.map V.int) vs
  | _, _, .nil => .nil
  | _, _, .cons n t h => .cons ⟨t, rfl⟩ (vals_ints h)
end L2
namespace L2
open PySem PySem.Spec PyProof.Rows
end L2
namespace L2
open PySem PySem.Spec PyProof.Rows
def defArgs (s : Stmt) : Arguments := match s with
  | .FunctionDef _ a _ _ _ _ _ _ _ _ => a
  | _ => { posonlyargs := [], args := [], vararg := none, kwonlyargs := [], kw_defaults := [], kwarg := none, defaults := [] }
def defBody (s : Stmt) : List Stmt := match s with
  | .FunctionDef _ _ b _ _ _ _ _ _ _ => b
  | _ => []
def defScope (s : Stmt) : Scope := match s with
  | .FunctionDef _ _ _ _ _ _ sc _ _ _ => sc
  | _ => { kind := .function, names := [], isGenerator := false, isCoroutine := false }
abbrev CX0 : CXT := fun _ _ _ _ _ _ => False
abbrev E0 : XK := fun _ _ _ => False
theorem pass0 {X : Cx} : Passes CX0 X E0 := fun _ _ _ _ _ _ _ h => h.elim
section
variable {P : Program} {w : World} {K : PySem.W.Frag} {mg : Str → Option Value} {base : Heap}
end
section
variable {X : Cx}
theorem pv (i : Nat) {x : Str} {pos : Pos} (hN : X.N[i]? = some x := by rfl) (hv : Vis X.env.scope x := by first | exact Or.inl rfl | exact Or.inr (Or.inl rfl) | exact Or.inr (Or.inr rfl)) (hd : (x == ("__debug__" : Str)) = false := by decide)
    (hcd : (x == ("__classdict__" : Str)) = false := by decide) : PE X (.Name x pos) (tVar i) := pe_var hN hv hd hcd
end
theorem iteF {A B : Prop} (h : B) : if false = true then A else B := by
  rw [if_neg Bool.false_ne_true]
  exact h
theorem iteT {A B : Prop} (h : A) : if true = true then A else B := by
  rw [if_pos rfl]
  exact h
theorem ite2 {c A B : Prop} [Decidable c] (h1 : c → A) (h2 : ¬ c → B) : if c then A else B := by
  by_cases h : c
  · rw [if_pos h]
    exact h1 h
  · rw [if_neg h]
    exact h2 h
def Same (H H' : Hp) : Prop := ∀ b o, H b = some o → H' b = some o
theorem Same.refl (H : Hp) : Same H H := fun _ _ h => h
theorem Same.trans {H H1 H2 : Hp} (a : Same H H1) (b : Same H1 H2) : Same H H2 := fun c o h => b c o (a c o h)
theorem Same.free {H H' : Hp} (e : Same H H') {l : Addr} (h : H' l = Option.none) : H l = Option.none := by
  cases q : H l with
  | none => rfl
  | some o =>
    rw [e l o q] at h
    cases h
theorem Same.seq {K : PySem.W.Frag} {H H' : Hp} {a : Addr} {xs : List V} (e : Same H H') (h : SqL K H a xs) : SqL K H' a xs := by
  rcases h with (h | ⟨o, h⟩) | h
  · exact .inl (.inl (e _ _ h))
  · exact .inl (.inr ⟨o, e _ _ h⟩)
  · exact .inr h
end L2
namespace C5
open PySem
section
variable {M : Model} {A : Around} {E : Value → Shared → Prop} {s : Shared}
def clGo (env : Env) : List (Str × NameKind) → List (Str × Addr) → List (Str × Addr)
  | [], cs => cs
  | (n, k) :: r, cs => clGo env r (if k == .free then (n, (env.cells.lookup n).getD 0) :: cs else cs)
theorem clGo_cons (env : Env) (n : Str) (k : NameKind) (r : List (Str × NameKind)) (cs : List (Str × Addr)) : clGo env ((n, k) :: r) cs = clGo env r (if k == .free then (n, (env.cells.lookup n).getD 0) :: cs else cs) := rfl
def clOf (sc : Scope) (env : Env) : List (Str × Addr) := clGo env sc.names []
theorem clGo_run {env : Env} (f : Str × NameKind → List (Str × Addr) → Sem (ForInStep (List (Str × Addr))))
    (hf : ∀ n k cs, f (n, k) cs = if k == .free then (do let a ← cellOf env n; pure (.yield ((n, a) :: cs))) else pure (.yield cs)) :
    ∀ (l : List (Str × NameKind)) (cs : List (Str × Addr)), (∀ y ∈ l, y.2 = .free → ∃ c, env.cells.lookup y.1 = some c) → forIn l cs f = pure (clGo env l cs)
  | [], cs, _ => by rw [List.forIn_nil]; rfl
  | (n, k) :: r, cs, h => by
    rw [List.forIn_cons, hf]
    have hr := fun cs' => clGo_run f hf r cs' fun y hy => h y (List.mem_cons_of_mem _ hy)
    cases hk : k == NameKind.free with
    | false =>
      simp only [Bool.false_eq_true, if_false, pure_bind]
      rw [hr, clGo_cons, hk]; rfl
    | true =>
      obtain ⟨c, hc⟩ := h (n, k) List.mem_cons_self (by simpa using hk)
      have hc' : cellOf env n = pure c := by
        unfold cellOf
        rw [show env.cells.lookup n = some c from hc]
      simp only [if_true, hc', pure_bind]
      rw [hr, clGo_cons, hk, show env.cells.lookup n = some c from hc]; rfl
theorem clos_of {sc : Scope} {env : Env} (h : ∀ y ∈ sc.names, y.2 = .free → ∃ c, env.cells.lookup y.1 = some c) : closureFor sc env = pure (clOf sc env) := by
  unfold closureFor clOf
  dsimp only
  rw [clGo_run (env := env) _ (fun n k cs => by cases hk : k == NameKind.free <;> simp [hk]) sc.names [] h]
  exact pure_bind _ _
theorem clGo_mem {env : Env} : ∀ (l : List (Str × NameKind)) (cs : List (Str × Addr)) (x : Str) (c : Addr), (x, c) ∈ clGo env l cs → (x, c) ∈ cs ∨ ((x, NameKind.free) ∈ l ∧ c = (env.cells.lookup x).getD 0)
  | [], cs, x, c, h => .inl h
  | (n, k) :: r, cs, x, c, h => by
    unfold clGo at h
    rcases clGo_mem r _ x c h with h | ⟨h, e⟩
    · cases hk : k == NameKind.free with
      | false => rw [hk, if_neg Bool.false_ne_true] at h; exact .inl h
      | true =>
        rw [hk, if_pos rfl] at h
        have hk' : k = .free := by simpa using hk
        rcases List.mem_cons.mp h with e | h
        · cases e; subst hk'; exact .inr ⟨List.mem_cons_self, rfl⟩
        · exact .inl h
    · exact .inr ⟨List.mem_cons_of_mem _ h, e⟩
theorem clGo_keep {env : Env} : ∀ (l : List (Str × NameKind)) (cs : List (Str × Addr)) (p : Str × Addr), p ∈ cs → p ∈ clGo env l cs
  | [], _, _, h => h
  | (n, k) :: r, cs, p, h => by
    unfold clGo
    refine clGo_keep r _ p ?_
    split
    · exact List.mem_cons_of_mem _ h
    · exact h
theorem clGo_has {env : Env} : ∀ (l : List (Str × NameKind)) (cs : List (Str × Addr)) (x : Str), (x, NameKind.free) ∈ l → (x, (env.cells.lookup x).getD 0) ∈ clGo env l cs
  | (n, k) :: r, cs, x, h => by
    unfold clGo
    rcases List.mem_cons.mp h with e | h
    · cases e
      refine clGo_keep r _ _ ?_
      simp
    · exact clGo_has r _ x h
theorem lookup_of_mem {α : Type} : ∀ {l : List (Str × α)} {x : Str} {c : α}, (x, c) ∈ l → (∀ c', (x, c') ∈ l → c' = c) → l.lookup x = some c
  | (k, v) :: r, x, c, h, u => by
    rw [List.lookup_cons]
    cases hb : x == k with
    | true =>
      have e := beq_iff_eq.mp hb
      subst e
      rw [u v List.mem_cons_self]
    | false =>
      rcases List.mem_cons.mp h with e | h
      · cases e; simp at hb
      · exact lookup_of_mem h fun c' h' => u c' (List.mem_cons_of_mem _ h')
theorem clOf_sub {sc : Scope} {env : Env} (h : ∀ y ∈ sc.names, y.2 = .free → ∃ c, env.cells.lookup y.1 = some c) {x : Str} {c : Addr} (e : (clOf sc env).lookup x = some c) :
    env.cells.lookup x = some c ∧ (x, NameKind.free) ∈ sc.names := by
  rcases clGo_mem sc.names [] x c (mem_of_lookup e) with z | ⟨z, q⟩
  · exact absurd z (by simp)
  · obtain ⟨c', hc⟩ := h _ z rfl
    have hc : env.cells.lookup x = some c' := hc
    rw [hc] at q
    exact ⟨by rw [hc, q]; rfl, z⟩
theorem clOf_has {sc : Scope} {env : Env} {x : Str} (e : (x, NameKind.free) ∈ sc.names) : (clOf sc env).lookup x = some ((env.cells.lookup x).getD 0) :=
  lookup_of_mem (clGo_has sc.names [] x e) fun c' h' => by
    rcases clGo_mem sc.names [] x c' h' with z | ⟨_, q⟩
    · exact absurd z (by simp)
    · exact q
theorem cellsFrom_app : ∀ (names : List (Str × NameKind)) (n : Nat) (acc : List (Str × Addr)), cellsFrom n names acc = cellsFrom n names [] ++ acc
  | [], _, _ => rfl
  | (x, k) :: r, n, acc => by
    unfold cellsFrom
    split
    · rw [cellsFrom_app r (n + 1) ((x, n) :: acc), cellsFrom_app r (n + 1) [(x, n)]]; simp
    · exact cellsFrom_app r n acc
theorem cellsFrom_key : ∀ (names : List (Str × NameKind)) (n : Nat) (x : Str) (c : Addr), (x, c) ∈ cellsFrom n names [] → (x, NameKind.cell) ∈ names
  | [], _, _, _, h => by simp [cellsFrom] at h
  | (y, k) :: r, n, x, c, h => by
    unfold cellsFrom at h
    split at h
    · rename_i hk
      have hk' : k = .cell := by simpa using hk
      rw [cellsFrom_app] at h
      rcases List.mem_append.mp h with h | h
      · exact List.mem_cons_of_mem _ (cellsFrom_key r _ x c h)
      · have e : (x, c) = (y, n) := by simpa using h
        cases e; subst hk'; exact List.mem_cons_self
    · exact List.mem_cons_of_mem _ (cellsFrom_key r _ x c h)
def bkEnv (sc : Scope) (cl : List (Str × Addr)) (C : Addr) (env : Env) : Env :=
  { scope := relabel sc env, locals := C, globals := env.globals, cells := cellsFrom (C + 1) sc.names cl, qual := env.qual, func := none, code := env.code, frame := env.frame, builtins := env.builtins }
theorem newBlock {sc : Scope} {cl : List (Str × Addr)} {env : Env} {Q : Env → Shared → Prop}
    (h : Q (newEnv sc s.heap.objs.size env.globals (cellsFrom (s.heap.objs.size + 1) sc.names cl) env.qual none .none (some env) builtinsNs) { s with heap := pushCells (s.heap.push { cls := .type "dict", data := .dict #[] }) sc.names }) :
    wpAny M A (newFunctionEnv sc env.globals cl [] env.qual none .none (some env)) Q E s := by
  simp only [newFunctionEnv, Option.isSome_some, if_true]
  refine wpAny_bind (wpAny_alloc ?_)
  refine wpAny_bind (wpAny_layCells _ (fun name kind cells => by cases hkc : kind == NameKind.cell <;> simp [hkc]) _ _ _ _ ?_)
  rw [show ({ s with heap := s.heap.push { cls := .type "dict", data := .dict #[] } } : Shared).heap.objs.size = s.heap.objs.size + 1 from Heap.size_push ..]
  rw [List.forIn_nil]
  exact wpAny_bind (wpAny_pure (wpAny_pure h))
theorem relabel_cell {sc : Scope} {env : Env} : ∀ {l : List (Str × NameKind)} {x : Str},
    (l.map fun (n, k) => if (k == NameKind.free && env.scope.kind == .function && env.kindOf n == some .cell) then (n, NameKind.cell) else (n, k)).lookup x = some .cell → l.lookup x = some .cell ∨ l.lookup x = some .free
  | [], x, h => by simp at h
  | (n, k) :: r, x, h => by
    rw [List.map_cons] at h
    rw [List.lookup_cons]
    cases hx : x == n with
    | true =>
      dsimp only at h
      split at h
      · rename_i hc
        rw [Bool.and_eq_true, Bool.and_eq_true] at hc
        have : k = .free := by simpa using hc.1.1
        rw [this]; exact .inr rfl
      · simp only [List.lookup_cons, hx] at h
        exact .inl h
    | false =>
      refine relabel_cell (sc := sc) (env := env) (l := r) ?_
      dsimp only at h
      split at h <;> simpa only [List.lookup_cons, hx] using h
theorem relabel_free {env : Env} : ∀ {l : List (Str × NameKind)} {x : Str},
    (l.map fun (n, k) => if (k == NameKind.free && env.scope.kind == .function && env.kindOf n == some .cell) then (n, NameKind.cell) else (n, k)).lookup x = some .free → l.lookup x = some .free
  | [], x, h => by simp at h
  | (n, k) :: r, x, h => by
    rw [List.map_cons] at h
    rw [List.lookup_cons]
    cases hx : x == n with
    | true =>
      dsimp only at h
      split at h
      · simp only [List.lookup_cons, hx] at h
        cases h
      · simp only [List.lookup_cons, hx] at h
        exact h
    | false =>
      refine relabel_free (env := env) (l := r) ?_
      dsimp only at h
      split at h <;> simpa only [List.lookup_cons, hx] using h
theorem relabel_of_free {env : Env} : ∀ {l : List (Str × NameKind)} {x : Str}, l.lookup x = some .free →
    (l.map fun (n, k) => if (k == NameKind.free && env.scope.kind == .function && env.kindOf n == some .cell) then (n, NameKind.cell) else (n, k)).lookup x = some .cell ∨
    (l.map fun (n, k) => if (k == NameKind.free && env.scope.kind == .function && env.kindOf n == some .cell) then (n, NameKind.cell) else (n, k)).lookup x = some .free
  | [], x, h => by simp at h
  | (n, k) :: r, x, h => by
    rw [List.map_cons]
    rw [List.lookup_cons] at h
    cases hx : x == n with
    | true =>
      rw [hx] at h
      cases h
      dsimp only
      split
      · exact .inl (by simp only [List.lookup_cons, hx])
      · exact .inr (by simp only [List.lookup_cons, hx])
    | false =>
      rw [hx] at h
      have := relabel_of_free (env := env) (l := r) h
      dsimp only
      split <;> simpa only [List.lookup_cons, hx] using this
end
section
variable {prog : Program} {w : World} {A : Around} {R : Result → Shared → Prop} {s : Shared}
theorem compLoop_go {elt target iter : Expr} {ifs : List Expr} {scope : Scope} {pos : Pos} {it acc : Value} {env : Env} (I : Nat → Shared → Prop)
    (turn : ∀ n s, I n s → wpAny (model prog w) A (pyNext it) (fun r s₁ => match r with
      | none => R (.ok .next) s₁
      | some v => wpAny (model prog w) A (letOwnedTupleGo target it v) (fun _ s₁' => wpAny (model prog w) A (assign target env v) (fun _ s₂ =>
          wpAny (model prog w) A (forIn ifs true fun c r => if r = true then do let ok ← isTrue c env (eval c env); pure (ForInStep.yield ok) else pure (ForInStep.yield r)) (fun ok s₃ =>
            if ok = true then wpAny (model prog w) A (eval elt env) (fun x s₄ =>
              wpAny (model prog w) A (call (.builtin "list.append") [acc, x]) (fun _ s₅ => ∃ m, m < n ∧ I m s₅) (fun _ _ => False) s₄) (fun _ _ => False) s₃
            else ∃ m, m < n ∧ I m s₃) (fun _ _ => False) s₂) (fun _ _ => False) s₁') (fun _ _ => False) s₁) (fun _ _ => False) s)
    (n : Nat) (h : I n s) :
    codeAny (model prog w) A (.compLoop (.ListComp elt [⟨target, iter, ifs, 0⟩] scope pos) 0 it acc env) R s := by
  refine codeAny_loop rfl I (fun n s hI => ?_) n h
  show wpAny _ A ((compTurn (.ListComp elt [⟨target, iter, ifs, 0⟩] scope pos) 0 it acc env).onRaise (fun x => do noteFrame x env; theTreesLotGoes x)) _ _ s
  refine wpAny_noted ?_
  rw [compTurn_list]
  refine wpAny_bind (wpAny_standAt (wpAny_bind (wpAny_mono (turn n s hI) (fun r s₁ h₁ => ?_) fun _ _ h' => h'.elim)))
  cases r with
  | none => exact wpAny_pure h₁
  | some v =>
    refine wpAny_bind (wpAny_mono h₁ (fun _ s₁' h₁' => ?_) fun _ _ h' => h'.elim)
    refine wpAny_bind (wpAny_mono h₁' (fun _ s₂ h₂ => wpAny_bind (wpAny_mono h₂ (fun ok s₃ h₃ => ?_) fun _ _ h' => h'.elim)) fun _ _ h' => h'.elim)
    cases ok with
    | false => exact wpAny_pure ⟨rfl, h₃⟩
    | true =>
      exact wpAny_bind (wpAny_bind (wpAny_mono h₃ (fun x s₄ h₄ => wpAny_bind (wpAny_mono h₄ (fun _ s₅ h₅ => wpAny_pure (wpAny_pure ⟨rfl, h₅⟩)) fun _ _ h' => h'.elim)) fun _ _ h' => h'.elim))
end
end C5
set_option Elab.async false
set_option linter.all false
set_option maxRecDepth 100000
namespace L2
open PySem PySem.Spec PyProof.Rows C5
def entry (src : List (Option Nat)) (σ : St) : St := src.map fun o => o.bind fun i => (σ[i]?).join
structure BkScope (so sc : Scope) (No N : List Str) (src : List (Option Nat)) : Prop where
  kind : sc.kind = .function
  free : sc.names.all (fun y => !(y.2 == .free) || (so.names.lookup y.1 == some .cell || so.names.lookup y.1 == some .free)) = true
  uniq : sc.names.all (fun y => sc.names.lookup y.1 == some y.2) = true
  len : src.length = N.length
  src : (src.zip N).all (fun p => match p.1 with | none => true | some i => No[i]? == some p.2 && sc.names.lookup p.2 == some .free) = true
  nd : N.Nodup
def cxB (X : Cx) (sc : Scope) (N : List Str) (fp : List Addr) (C : Addr) (s : Shared) (H : Hp) : Cx :=
  { X with N := N, s₀ := s, H₀ := H, env := bkEnv sc (clOf sc X.env) C X.env, outer := X.stack, stack := X.stack, ex := fp, fn := fun x => sc.names.lookup x == some .cell, pn := [], xe := fun _ _ => False }
section
variable {X : Cx} {pins : List (Addr × Obj)} {σ : St} {H : Hp} {s : Shared} {sc : Scope} {N : List Str} {src : List (Option Nat)}
theorem BkScope.has {so : Scope} {No : List Str} (B : BkScope so sc No N src) (hso : X.env.scope = so) (ok : X.Ok) : ∀ y ∈ sc.names, y.2 = .free → ∃ c, X.env.cells.lookup y.1 = some c := by
  intro y hy hk
  have h := List.all_eq_true.mp B.free y hy
  rw [hk] at h
  simp only [beq_self_eq_true, Bool.not_true, Bool.false_or, Bool.or_eq_true, beq_iff_eq] at h
  rw [← hso] at h
  rcases h with h | h
  · exact ok.has y.1 (.inl h)
  · exact ok.has y.1 (.inr h)
theorem BkScope.look {so : Scope} {No : List Str} (B : BkScope so sc No N src) {x : Str} {k : NameKind} (h : (x, k) ∈ sc.names) : sc.names.lookup x = some k := by
  have := List.all_eq_true.mp B.uniq (x, k) h
  simpa using this
theorem lookup_app {α : Type} : ∀ {l r : List (Str × α)} {x : Str} {c : α}, (l ++ r).lookup x = some c → l.lookup x = some c ∨ r.lookup x = some c
  | [], _, _, _, h => .inr h
  | (k, v) :: l, r, x, c, h => by
    rw [List.cons_append, List.lookup_cons] at h
    rw [List.lookup_cons]
    cases hb : x == k with
    | true => rw [hb] at h; exact .inl h
    | false => rw [hb] at h; exact lookup_app h
theorem lookup_app_r {α : Type} : ∀ {l r : List (Str × α)} {x : Str}, (∀ c, (x, c) ∉ l) → (l ++ r).lookup x = r.lookup x
  | [], _, _, _ => rfl
  | (k, v) :: l, r, x, h => by
    rw [List.cons_append, List.lookup_cons]
    have hb : (x == k) = false := beq_eq_false_iff_ne.mpr fun e => h v (by rw [e]; exact List.mem_cons_self)
    rw [hb]
    exact lookup_app_r fun c hc => h c (List.mem_cons_of_mem _ hc)
theorem Inv.block {fp : List Addr} {h1 : Heap} {C : Nat} {t : Nat} (I : Inv X pins σ H s) (B : BkScope X.env.scope sc X.N N src) (hf : ∀ b ∈ fp, FpOk X pins H b) (hlt : ∀ b ∈ fp, b < s.heap.objs.size)
    (hC : C = s.heap.objs.size + 1) (e1 : h1 = pushCells ((s.heap.push { cls := .type "list", data := .seq #[] }).push { cls := .type "dict", data := .dict #[] }) sc.names) :
    Inv (cxB X sc N fp C s H) [] (entry src σ) (upd H s.heap.objs.size (.lst [])) { s with heap := h1, toks := t } := by
  have has := B.has rfl I.ok
  have szL : (s.heap.push { cls := .type "list", data := .seq #[] } : Heap).objs.size = C := by rw [Heap.size_push, hC]
  have szD : ((s.heap.push { cls := .type "list", data := .seq #[] }).push { cls := .type "dict", data := .dict #[] } : Heap).objs.size = C + 1 := by rw [Heap.size_push, szL]
  have own := cellsFrom_ok sc.names ((s.heap.push { cls := .type "list", data := .seq #[] }).push { cls := .type "dict", data := .dict #[] }) (C + 1) [] ⟨fun _ _ hm => (nomatch hm), List.Pairwise.nil⟩ (by rw [szD]; exact Nat.le_refl _)
  rw [szD, ← e1] at own
  have keep0 : ∀ b o, ((s.heap.push { cls := .type "list", data := .seq #[] }).push { cls := .type "dict", data := .dict #[] } : Heap).get? b = some o → h1.get? b = some o := fun b o e => by rw [e1]; exact pushCells_keeps _ _ b o e
  have keep : ∀ b o, s.heap.get? b = some o → h1.get? b = some o := fun b o e => keep0 b o (Heap.get?_push_of_some _ (Heap.get?_push_of_some _ e))
  have atD : h1.get? s.heap.objs.size = some { cls := .type "list", data := .seq #[] } := keep0 _ _ (Heap.get?_push_of_some _ (Heap.get?_push_size _ rfl))
  have nsC : h1.Ns C (fun _ => none) := by
    have q := Heap.Ns.new (s.heap.push { cls := .type "list", data := .seq #[] }) (.type "dict")
    rw [szL] at q
    exact q.keeps keep0
  have fresh : ∀ b, s.heap.objs.size ≤ b → H b = none := fun b hb => I.hok.fresh hb
  have cells : ∀ x c, (cellsFrom (C + 1) sc.names (clOf sc X.env)).lookup x = some c →
      ((x, c) ∈ cellsFrom (C + 1) sc.names [] ∧ h1.IsCell c none ∧ C + 1 ≤ c) ∨ (X.env.cells.lookup x = some c ∧ (x, NameKind.free) ∈ sc.names) := fun x c e => by
    rw [cellsFrom_app] at e
    rcases lookup_app e with e | e
    · have hm := mem_of_lookup e
      obtain ⟨q1, q2⟩ := own.empty x c hm
      exact .inl ⟨hm, q1, q2⟩
    · exact .inr (clOf_sub has e)
  have cellLt : ∀ x c, X.env.cells.lookup x = some c → @LT.lt Nat instLTNat c s.heap.objs.size := fun x c e => by
    obtain ⟨v, z⟩ := I.cell x c e
    exact z.lt
  have freeIn : ∀ x, (x, NameKind.free) ∈ sc.names → (cellsFrom (C + 1) sc.names (clOf sc X.env)).lookup x = X.env.cells.lookup x := fun x hx => by
    rw [cellsFrom_app, lookup_app_r (fun c hc => ?_), clOf_has hx]
    · obtain ⟨c, hc⟩ := has _ hx rfl
      have hc : X.env.cells.lookup x = some c := hc
      rw [hc]; rfl
    · have k1 := B.look (cellsFrom_key sc.names _ x c hc)
      have k2 := B.look hx
      rw [k1] at k2; cases k2
  have ex : (cxB X sc N fp C s H).ex = fp := rfl
  refine ⟨⟨I.ok.mod, B.kind, I.ok.glob, I.ok.blt, ?_, ?_, ?_, ?_, I.ok.hd, I.ok.frames, .inl rfl, ?_, I.bs, Nat.le_trans I.ok.bsz I.sz, ?_, ?_, I.stack, I.stkFree⟩, rfl, I.bare, Un.laid keep (Nat.le_refl _) (fresh _ (Nat.le_refl _)), ?_, ?_, ?_, ?_, ?_, ?_, ?_⟩
  · -- above
    show s.heap.objs.size ≤ C
    omega
  · -- inj
    intro x y c h1' h2'
    rcases cells x c h1' with ⟨m1, _, g1⟩ | ⟨e1', _⟩
    · rcases cells y c h2' with ⟨m2, _, _⟩ | ⟨e2', _⟩
      · exact name_of_addr own.apart m1 m2
      · have := cellLt y c e2'; omega
    · rcases cells y c h2' with ⟨_, _, g2⟩ | ⟨e2', _⟩
      · have := cellLt x c e1'; omega
      · exact I.ok.inj x y c e1' e2'
  · -- has
    intro x hx
    show ∃ c, (cellsFrom (C + 1) sc.names (clOf sc X.env)).lookup x = some c
    have hx' : sc.names.lookup x = some .cell ∨ sc.names.lookup x = some .free := by
      rcases hx with hx | hx
      · exact relabel_cell (sc := sc) (env := X.env) hx
      · exact .inr (relabel_free (env := X.env) hx)
    rcases hx' with hx' | hx'
    · exact Option.isSome_iff_exists.mp (PySem.W.cellsFrom_some sc.names (C + 1) (clOf sc X.env) (.inl hx'))
    · rw [freeIn x (PySem.mem_of_lookup hx')]
      exact has _ (PySem.mem_of_lookup hx') rfl
  · -- cab
    intro x c hfn hc
    have hfn' : sc.names.lookup x = some .cell := by simpa [cxB] using hfn
    show s.heap.objs.size ≤ c
    rcases cells x c hc with ⟨_, _, g⟩ | ⟨_, hfr⟩
    · omega
    · have := B.look hfr
      rw [hfn'] at this; cases this
  · -- exf
    intro b hb
    rw [ex] at hb
    have hb' : @LT.lt Nat instLTNat b s.heap.objs.size := hlt b hb
    obtain ⟨f0, f1, f2, f3, f4, f5⟩ := hf b hb
    refine ⟨Nat.ne_of_lt (show @LT.lt Nat instLTNat b C by omega), fun x c hc => ?_⟩
    rcases cells x c hc with ⟨_, _, g⟩ | ⟨e, _⟩
    · exact Nat.ne_of_gt (show @LT.lt Nat instLTNat b c by omega)
    · exact f4 x c e
  · -- noex
    intro b o e hb
    rw [ex] at hb
    obtain ⟨f0, f1, f2, f3, f4, f5⟩ := hf b hb
    rcases f3 with f3 | f3
    · exact I.ok.noex b o e f3
    · exact absurd (Nat.lt_of_lt_of_le (Heap.lt_size e) (Nat.le_trans I.ok.bsz f3)) (Nat.lt_irrefl _)
  · -- exfs
    intro b hb hb2
    rw [ex] at hb
    obtain ⟨f0, f1, f2, f3, f4, f5⟩ := hf b hb
    rcases List.mem_cons.mp (I.stkSub b hb2) with z | z
    · exact f1 z
    · exact f2 z
  · -- loc
    refine ⟨fun _ => none, nsC, fun j x v hj hv _ => ?_⟩
    have hj : N[j]? = some x := hj
    unfold entry at hv
    rw [List.getElem?_map] at hv
    cases hs : src[j]? with
    | none => rw [hs] at hv; cases hv
    | some o =>
      rw [hs] at hv
      cases o with
      | none => cases hv
      | some i =>
        have hv : ((σ[i]?).join) = some v := by simpa using hv
        have hm : (some i, x) ∈ src.zip N := by
          rw [List.mem_iff_getElem?]
          exact ⟨j, by rw [List.getElem?_zip_eq_some]; exact ⟨hs, hj⟩⟩
        have q := List.all_eq_true.mp B.src _ hm
        simp only [Bool.and_eq_true, beq_iff_eq] at q
        obtain ⟨q1, q2⟩ := q
        have hfr := PySem.mem_of_lookup q2
        have hσ : σ[i]? = some (some v) := by
          cases e : σ[i]? with
          | none => rw [e] at hv; cases hv
          | some u => rw [e] at hv; cases u with
            | none => cases hv
            | some w' => cases hv; rfl
        obtain ⟨m, hn, hl⟩ := I.loc
        have hso := List.all_eq_true.mp B.free _ hfr
        simp only [beq_self_eq_true, Bool.not_true, Bool.false_or, Bool.or_eq_true, beq_iff_eq] at hso
        have hvis : Vis X.env.scope x := by
          rcases hso with z | z
          · exact .inr (.inl z)
          · exact .inr (.inr z)
        obtain ⟨u, ru, lk⟩ := hl i x v q1 hσ hvis
        refine ⟨u, ru, .inr ⟨?_, ?_⟩⟩
        · exact relabel_of_free (env := X.env) q2
        · rcases lk with ⟨kk, _⟩ | ⟨_, c, hc, hcell⟩
          · have kk : X.env.scope.names.lookup x = some .local := kk
            rcases hso with z | z
            · rw [kk] at z; cases z
            · rw [kk] at z; cases z
          · refine ⟨c, ?_, hcell.keeps keep⟩
            show (cellsFrom (C + 1) sc.names (clOf sc X.env)).lookup x = some c
            rw [freeIn x hfr]; exact hc
  · -- cell
    intro x c hc
    rcases cells x c hc with ⟨_, g, _⟩ | ⟨e, _⟩
    · exact ⟨none, g⟩
    · obtain ⟨v, z⟩ := I.cell x c e
      exact ⟨v, z.keeps keep⟩
  · -- free
    show upd H s.heap.objs.size (.lst []) C = none
    rw [upd_ne (Nat.ne_of_gt (show @LT.lt Nat instLTNat s.heap.objs.size C by omega))]
    exact fresh _ (show @LE.le Nat instLENat s.heap.objs.size C by omega)
  · -- freeC
    intro x c hc
    rcases cells x c hc with ⟨_, _, g⟩ | ⟨e, _⟩
    · rw [upd_ne (Nat.ne_of_gt (show @LT.lt Nat instLTNat s.heap.objs.size c by omega))]; exact fresh _ (show @LE.le Nat instLENat s.heap.objs.size c by omega)
    · rw [upd_ne (Nat.ne_of_lt (cellLt x c e))]; exact I.freeC x c e
  · -- pin
    intro p hp
    exact absurd (show p ∈ ([] : List (Addr × Obj)) from hp) (by simp)
  · -- hok
    refine I.hok.laid keep (Nat.le_refl _) ?_
    exact ⟨Nat.zero_le _, [], 0, .nil, atD⟩
  · -- len
    unfold entry
    rw [List.length_map]
    exact B.len
def PTs (X : Cx) (ifs : List Expr) (t : TT) : Prop :=
  ∀ (pins : List (Addr × Obj)) (s : Shared) (σ : St) (H : Hp) (Q : Bool → Hp → Prop), Inv X pins σ H s → t σ H Q →
    wpAny (model X.prog X.w) X.A (forIn ifs true fun c r => if r = true then do let ok ← isTrue c X.env (eval c X.env); pure (ForInStep.yield ok) else pure (ForInStep.yield r)) (TP X pins σ Q) X.xe s
def tTrue : TT := fun _ H Q => Q true H
theorem pts_nil : PTs X [] tTrue := fun _ _ _ H _ I h => wpAny_tests_nil ⟨H, I, h⟩
theorem pts_one {c : Expr} {t : TT} (h : PT X c t) : PTs X [c] t := fun pins s σ H Q I hw => wpAny_tests_one (h pins s σ H Q I hw)
def tComp (src : List (Option Nat)) (wi : TI) (g : TG) (tt : TT) (te : TE) : TE := fun σ H Q => wi σ H fun J H1 => ∀ D, H1 D = none →
  ∃ W : Nat → Nat → St → Hp → Prop, (∃ m, W 0 m (entry src σ) (upd H1 D (.lst []))) ∧ ∀ i m σ' H', W i m σ' H' →
    (J.stop i H' ∧ Q (.ref D) H') ∨ (J.go i H' ∧ ∃ N : St → Hp → Prop, (∀ σ2 H2, N σ2 H2 → ∃ m', m' < m ∧ W (i + 1) m' σ2 H2) ∧ ∀ x H2, J.yld i H' x H2 → g x σ' H2 fun σ3 H3 => tt σ3 H3 fun b H4 =>
      if b = true then te σ3 H4 fun v H5 => ∃ xs, H5 D = some (.lst xs) ∧ xs.length < sizeLine ∧ N σ3 (upd H5 D (.lst (xs ++ [v]))) else N σ3 H4)
theorem pe_comp {elt tgt iter : Expr} {ifs : List Expr} {wi : TI} {g : TG} {tt : TT} {te : TE} {pos : Pos} (hc : X.calm = true) (B : BkScope X.env.scope sc X.N N src) (hi : PI X tgt iter wi)
    (hg : ∀ (s : Shared) (H : Hp) (C : Addr) (fp : List Addr), PG (cxB X sc N fp C s H) tgt g) (ht : ∀ (s : Shared) (H : Hp) (C : Addr) (fp : List Addr), PTs (cxB X sc N fp C s H) ifs tt)
    (he : ∀ (s : Shared) (H : Hp) (C : Addr) (fp : List Addr), PE (cxB X sc N fp C s H) elt te) (hs : ∀ x, foldedSetIterable iter X.env x = pure x := by intro _; rfl) :
    PE X (.ListComp elt [⟨tgt, iter, ifs, 0⟩] sc pos) (tComp src wi g tt te) := by
  intro pins s σ H Q I h
  rw [eval_ListComp]
  have has := B.has rfl I.ok
  refine wpAny_comprehension_free (use := none) rfl hs (clos_of has) B.kind (fun y hy hk => by have := B.look (x := y.1) (k := y.2) hy; rw [hk] at this; exact this)
    (thn (hi pins s σ H _ I h) fun v s1 h1 => thn h1 fun itv s2 h2 => ?_)
  obtain ⟨it, fp, tn, J, H2, e, I2, T, st2, f2, q⟩ := h2
  subst e
  refine wpAny_newObj_type (newBlock ?_)
  obtain ⟨W, ⟨m0, w0⟩, turn⟩ := q s2.heap.objs.size (I2.hok.fresh (Nat.le_refl _))
  have hlt : ∀ b ∈ fp, b < s2.heap.objs.size := fun b hb => by
    obtain ⟨o, ho, _⟩ := T.obj 0 _ st2 b hb
    exact Heap.lt_size ho
  have szL : (s2.heap.push { cls := .type "list", dict := none, data := .seq ([] : List Value).toArray } : Heap).objs.size = s2.heap.objs.size + 1 := Heap.size_push ..
  generalize hh1 : pushCells ((s2.heap.push { cls := .type "list", dict := none, data := .seq ([] : List Value).toArray } : Heap).push { cls := .type "dict", data := .dict #[] }) sc.names = hB
  have IB := I2.block (C := (s2.heap.push { cls := .type "list", dict := none, data := .seq ([] : List Value).toArray } : Heap).objs.size) (t := s2.toks) B f2 hlt szL hh1.symm
  generalize (s2.heap.push { cls := .type "list", dict := none, data := .seq ([] : List Value).toArray } : Heap).objs.size = C at IB szL ⊢
  have keepB : ∀ b o, s2.heap.get? b = some o → hB.get? b = some o := fun b o e => by
    rw [← hh1]
    exact pushCells_keeps _ _ b o (Heap.get?_push_of_some _ (Heap.get?_push_of_some _ e))
  have stB : tn 0 hB := T.keep 0 _ _ st2 fun b _ o e => keepB b o e
  have frB : ∀ b ∈ fp, upd H2 s2.heap.objs.size (.lst []) b = none := fun b hb => by
    rw [upd_ne (Nat.ne_of_lt (hlt b hb))]
    exact (f2 b hb).1
  have stat : ∀ {H' : Hp}, (∀ b ∈ fp, H' b = none) → ∀ b ∈ fp, FpOk (cxB X sc N fp C s2 H2) [] H' b := fun {H'} hn b hb => by
    obtain ⟨z1, z2⟩ := IB.ok.exf b hb
    exact ⟨hn b hb, z1, IB.ok.exfs b hb, .inl hb, z2, fun p hp => absurd (show p ∈ ([] : List (Addr × Obj)) from hp) (by simp)⟩
  show codeAny (model X.prog X.w) X.A (.compStart (.ListComp elt [⟨tgt, iter, ifs, 0⟩] sc pos) 0 (.ref it) (.ref s2.heap.objs.size) (bkEnv sc (clOf sc X.env) C X.env)) (compPost (model X.prog X.w) X.A X.xe none (EP X pins σ Q) (.ref s2.heap.objs.size) C) { s2 with heap := hB }
  have loop : codeAny (model X.prog X.w) X.A (.compLoop (.ListComp elt [⟨tgt, iter, ifs, 0⟩] sc pos) 0 (.ref it) (.ref s2.heap.objs.size) (bkEnv sc (clOf sc X.env) C X.env))
      (compPost (model X.prog X.w) X.A X.xe none (EP X pins σ Q) (.ref s2.heap.objs.size) C) { s2 with heap := hB } := by
    refine compLoop_go (fun n s' => ∃ i σ' H', Inv (cxB X sc N fp C s2 H2) [] σ' H' s' ∧ tn i s'.heap ∧ (∀ b ∈ fp, H' b = none) ∧ W i n σ' H') ?_ m0 ⟨0, _, _, IB, stB, frB, w0⟩
    rintro n s3 ⟨i, σ3, H3, I3, st3, fr3, w3⟩
    rcases turn i n σ3 H3 w3 with ⟨stop, qn⟩ | ⟨go, N', hN, step⟩
    · refine thn (T.done (cxB X sc N fp C s2 H2) rfl rfl rfl hc i [] s3 σ3 H3 _ I3 (stat fr3) st3 stop) fun r s4 ⟨hr, I4⟩ => ?_
      subst hr
      obtain ⟨m, hn, _⟩ := I4.loc
      refine ⟨m, hn, fun h' hs' => ?_⟩
      refine ⟨.ref s2.heap.objs.size, H3, ?_, rfl, qn⟩
      have ltC : ∀ b o, s2.heap.get? b = some o → b ≠ C := fun b o e => Nat.ne_of_lt (show @LT.lt Nat instLTNat b C by have : @LT.lt Nat instLTNat b s2.heap.objs.size := Heap.lt_size e; omega)
      have base := I4.base
      have freeC : H3 C = none := I4.free
      refine I2.call' (s' := { s4 with heap := h' }) (ch := fp) I4.os ⟨fun b o e n hb hx => ?_, fun b o e n hb hx => ?_, base.free, fun b o e hx => ?_, base.tups, base.frzs, base.tbls⟩ (fun b ob e => ?_) I4.bare (fun b hb => ?_)
      · exact (hs'.2 b (ltC b o e)).trans (base.keep b o e n hb hx)
      · obtain ⟨sl, e1⟩ := base.slot b o e n hb hx
        exact ⟨sl, (hs'.2 b (ltC b o e)).trans e1⟩
      · obtain ⟨o', e1⟩ := base.there b o e hx
        exact ⟨o', (hs'.2 b (ltC b o e)).trans e1⟩
      · refine (I4.hok b ob e).stay (fun c w' hc' q' => (hs'.2 c ?_).trans q') (fun _ q' => q') fun _ _ q' => q'
        intro z
        rcases hc' with z' | z'
        · rw [← z', z, freeC] at e; cases e
        · rw [z, freeC] at z'; cases z'
      · obtain ⟨f0, f1, f2', f3, f4, f5⟩ := f2 b hb
        exact ⟨f3, f1, f4, f5⟩
    · refine thn (T.item (cxB X sc N fp C s2 H2) rfl rfl rfl hc i [] s3 σ3 H3 _ I3 (stat fr3) st3 go) fun r s4 ⟨u, hr, h4⟩ => ?_
      subst hr
      refine thn h4 fun _ s5 ⟨x, H5, I5, r5, y5, st5, fr5⟩ => ?_
      have I5' := I5.pinned (stat fr5) (T.obj _ _ st5)
      have again : ∀ {s7 : Shared} {σ7 : St} {H7 : Hp}, Inv (cxB X sc N fp C s2 H2) ([] ++ pinsAt fp s5.heap) σ7 H7 s7 → N' σ7 H7 → ∃ m, m < n ∧ ∃ i σ' H', Inv (cxB X sc N fp C s2 H2) [] σ' H' s7 ∧ tn i s7.heap ∧ (∀ b ∈ fp, H' b = none) ∧ W i m σ' H' := fun {s7 σ7 H7} I7 n7 => by
        obtain ⟨m', hm, w7⟩ := hN σ7 H7 n7
        refine ⟨m', hm, i + 1, σ7, H7, I7.unpinned, T.keep _ _ _ st5 fun b hb o e => (I7.pin (b, o) (List.mem_append_right _ (List.mem_append_right _ (mem_pinsAt hb e)))).1, fun b hb => ?_, w7⟩
        obtain ⟨o, e, d⟩ := T.obj _ _ st5 b hb
        exact (I7.pin (b, o) (List.mem_append_right _ (List.mem_append_right _ (mem_pinsAt hb e)))).2.1
      refine thn (hg s2 H2 C fp _ s5 σ3 H5 x u _ I5' r5 (step x H5 y5)) fun _ s6 ⟨σ6, H6, I6, q6⟩ => ?_
      refine thn (ht s2 H2 C fp _ s6 σ6 H6 _ I6 q6) fun b s7 ⟨H7, I7, q7⟩ => ?_
      cases b with
      | false =>
        rw [if_neg Bool.false_ne_true] at q7 ⊢
        exact again I7 q7
      | true =>
        rw [if_pos rfl] at q7 ⊢
        refine thn (he s2 H2 C fp _ s7 σ6 H7 _ I7 q7) fun u8 s8 ⟨v8, H8, I8, r8, xs, hD, hz, n8⟩ => ?_
        exact thn (mt_append (X := cxB X sc N fp C s2 H2) _ s8 σ6 H8 (.ref s2.heap.objs.size) [v8] (.ref s2.heap.objs.size) [u8] (fun _ H => N' σ6 H) I8 rfl (.cons r8 .nil) ⟨_, xs, v8, rfl, rfl, hD, hz, n8⟩) fun _ s9 ⟨_, H9, I9, _, n9⟩ => again I9 n9
  exact codeAny_compStart_list loop (T.self _ 0 _ _ _ stB loop)
end
section
variable {X : Cx}
def rAll (K : PySem.W.Frag) : List V → Hp → VK → Prop := fun xs H Q => ∃ (p : Addr) (bs : List Bool), xs = [.ref p] ∧ SqL K H p (bs.map V.bl) ∧ Q (.bl (bs.all id)) H
theorem all_range (bs : List Bool) : ((List.range bs.length).all fun i => bs.getD i false) = bs.all id := by
  induction bs with
  | nil => rfl
  | cons b r ih =>
    rw [List.length_cons, List.range_succ_eq_map, List.all_cons, List.all_map, List.all_cons, ← ih]
    rfl
theorem call_all (hc : X.calm = true) : CallR X (.builtin "all") (rAll X.K) := by
  intro pins s σ H xs us Q I rs h
  obtain ⟨p, bs, rfl, hq, q⟩ := h
  obtain ⟨u, rfl, r1⟩ := vals1 rs
  cases r1
  obtain ⟨its, r, pl, hz⟩ := I.list hq
  have hlen : its.length = bs.length := by have := r.length; rw [List.length_map] at this; exact this.symm
  refine call_function_tree F.kind_all F.plain_all F.entry_all (F.args_all1 _) ?_
  show wpAny _ X.A.in1 (pyIter (.ref p) >>= _) _ _ s
  refine wpAny_bind (wpAny_pyIter_list pl.isList ?_)
  have hne : p ≠ s.heap.objs.size := by
    obtain ⟨o, ho, _⟩ := pl.isList
    exact Nat.ne_of_lt (Heap.lt_size ho)
  refine wpAny_pure ⟨plainId_quiet F.plain_all_loop _, ?_⟩
  refine codeAny_all_loop (Walks.list (A := X.A.in1) (I.ok.hd hc) s.heap.objs.size p hne its.toArray) (fun i => bs.getD i false) (fun i v s' Q' E' hP hQ' => ?_) its.toArray.size 0 _ rfl (Nat.zero_le _)
    ⟨⟨_, Heap.get?_push_size _ rfl, rfl, rfl⟩, (show s.heap.IsList p its.toArray from pl.isList).at fun o e => Heap.get?_push_of_some _ e⟩ fun h' tk hk => ?_
  · have hP' : its[i]? = some v := by simpa using hP
    have hi : i < bs.length := by rw [← hlen]; exact (List.getElem?_eq_some_iff.mp hP').1
    obtain ⟨u, hu, ru⟩ := r.get (i := i) (x := V.bl (bs[i])) (by simp [hi])
    rw [hP'] at hu; cases hu
    obtain rfl : v = Value.bool bs[i] := ru
    have e : bs.getD i false = bs[i] := by simp [List.getD, hi]
    dsimp only at hQ'
    rw [e] at hQ'
    exact wpAny_truthy_bool hQ'
  · refine ⟨.bl (bs.all id), H, I.kept (t' := tk) fun b o e => hk b o (fun z => ?_) (Heap.get?_push_of_some _ e), ?_, q⟩
    · have z' : b = s.heap.objs.size := by simpa using z
      exact absurd (Heap.lt_size e) (by rw [z']; exact Nat.lt_irrefl _)
    · show Value.bool _ = Value.bool _
      rw [List.drop_zero, List.size_toArray, hlen, all_range]
end
end L2
set_option Elab.async false
set_option linter.all false
set_option maxRecDepth 100000
namespace L2
open PySem PySem.Spec PyProof.Rows
structure FunD (K : PySem.W.Frag) (x qual : Str) (st : Stmt) (dV : Value) (f : Addr) (fd : FuncData) : Prop where
  ex : ∃ (oc : Value) (od : Option Addr) (kV doc pm : Value) (an : Option Addr) (cdv ct : Value) (osl : Array (Option Value)),
    fd = PySem.W.fnOf x qual (defArgs st) (defBody st) (defScope st) dV kV doc pm an cdv ct ∧ K.lookup f = some ⟨oc, od, .func fd, osl⟩ ∧ PySem.W.codeIn K cdv qual = true
  kp : PySem.W.keepIn K (.ref f) = true
theorem funD_mk {K : PySem.W.Frag} {x qual : Str} {st : Stmt} {dV : Value} {f : Addr} {oc : Value} {od an : Option Addr} {osl : Array (Option Value)} {kV doc pm cdv ct : Value}
    (l : K.lookup f = some ⟨oc, od, .func (PySem.W.fnOf x qual (defArgs st) (defBody st) (defScope st) dV kV doc pm an cdv ct), osl⟩)
    (c : PySem.W.codeIn K cdv qual = true) (k : PySem.W.keepIn K (.ref f) = true) : FunD K x qual st dV f (PySem.W.fnOf x qual (defArgs st) (defBody st) (defScope st) dV kV doc pm an cdv ct) := ⟨⟨oc, od, kV, doc, pm, an, cdv, ct, osl, rfl, l, c⟩, k⟩
structure Def (P : Program) (w : World) (K : PySem.W.Frag) (mg : Str → Option Value) (base : Heap) (k : Nat) (x : Str) (ps : List Str) (ds : List V) (sp : Sp) : Prop where
  ex : ∃ (f : Addr) (fd : FuncData) (dvs : List Value), FnOk P w K mg base CX0 k f fd ps sp ∧ mg x = some (.ref f) ∧ PySem.W.keepIn K (.ref f) = true ∧ Binds K fd ps dvs ∧ Vals ds dvs
section
variable {P : Program} {w : World} {K : PySem.W.Frag} {mg : Str → Option Value} {base : Heap}
theorem FunD.ok {x qual : Str} {st : Stmt} {dV : Value} {f : Addr} {fd : FuncData} {N ps : List Str} {k : Nat} {sp : Sp} (F : FunD K x qual st dV f fd) (S : FnScope N ps (defScope st)) (len : ∀ vs H Q E, sp vs H Q E → vs.length = ps.length)
    (hbody : ∀ (cdv : Value) (A : Around) (outer : List Env) (s : Shared) (H : Hp) (vs : List V) (Q : VK) (E : XK), Room k (A.deeper (envOfC qual (defScope st) s.heap.objs.size f cdv)) → sp vs H Q E →
      ∃ t, PSs (cxOf CX0 P w K mg base N qual (defScope st) f cdv A outer s H E).nox (defBody st) t ∧ t { nx := fun _ H' => Q .non H', rt := Q } (start N vs) H) : FnOk P w K mg base CX0 (k + 1) f fd ps sp := by
  obtain ⟨oc, od, kV, doc, pm, an, cdv, ct, osl, rfl, lk, hcd⟩ := F.ex
  refine fn_of lk hcd S len fun A outer s H vs Q E hr hsp => ?_
  obtain ⟨t, h, q⟩ := hbody cdv A outer s H vs Q E hr hsp
  exact ⟨t, h.nox, q⟩
theorem FunD.def {x qual : Str} {st : Stmt} {f : Addr} {fd : FuncData} {ps : List Str} {k : Nat} {sp : Sp} (F : FunD K x qual st .none f fd) (G : FnOk P w K mg base CX0 k f fd ps sp) (hm : mg x = some (.ref f))
    (h : ∀ (kV doc pm : Value) (an : Option Addr) (cdv ct : Value) (us : List Value), us.length = ps.length → bindArgs (PySem.W.fnOf x qual (defArgs st) (defBody st) (defScope st) .none kV doc pm an cdv ct) ⟨us, []⟩ = pure (ps.zip us)) : Def P w K mg base k x ps [] sp := by
  obtain ⟨oc, od, kV, doc, pm, an, cdv, ct, osl, rfl, lk, hcd⟩ := F.ex
  exact ⟨f, _, [], G, hm, F.kp, .all (h kV doc pm an cdv ct), .nil⟩
end
section
variable {X : Cx}
theorem pe_callD {k : Nat} {x : Str} {ps : List Str} {ds : List V} {sp : Sp} {e : Expr} {es : List Expr} {t : TA} {p pos : Pos} (D : Def X.prog X.w X.K X.mg X.base k x ps ds sp) (hr : Room k X.A) (hg : Gl X x)
    (ha : PA X (e :: es) t) (hdb : (x == ("__debug__" : Str)) = false := by decide) (he : starEach (e :: es) X.env = (false, eval e X.env) :: starEach es X.env := by rfl) (hpl : (backTo pos (starEach es X.env)).any (·.1) = false := by rfl) :
    PE X (.Call (.Name x p) (e :: es) [] pos) (tCall sp ds E0 t) := by
  obtain ⟨f, fd, dvs, F, hm, hk, hb, hd⟩ := D.ex
  exact pe_call F hr hg hm hk hb hd pass0 ha hdb he hpl
end
end L2
namespace Att
open PySem PySem.W PySem.Calls PyProof.Rows
theorem weight_mem : ∀ {ns : List Int} {x : Int}, x ∈ ns → Builtin.Int.intBits x ≤ WData.weightAll (ns.map WData.int)
  | n :: r, x, h => by
    rw [List.map_cons]
    unfold WData.weightAll
    rcases List.mem_cons.mp h with e | h
    · subst e
      have : WData.weight (.int x) = Builtin.Int.intBits x := by unfold WData.weight Builtin.Int.intBits; rfl
      omega
    · have := weight_mem h
      omega
theorem bits_of_lay {ns : List Int} (h : WData.layableAll [WData.list (ns.map WData.int)] = true) : ∀ x ∈ ns, Builtin.Int.intBits x ≤ 2 ^ 20 := fun x hx => by
  have h1 : WData.layable (WData.list (ns.map WData.int)) = true := by simpa [WData.layableAll] using h
  unfold WData.layable at h1
  rw [Bool.and_eq_true] at h1
  have h2 : WData.weight (WData.list (ns.map WData.int)) ≤ 2 ^ 20 := of_decide_eq_true h1.2
  have h3 : WData.weight (WData.list (ns.map WData.int)) = WData.weightAll (ns.map WData.int) := by unfold WData.weight; rfl
  have h4 := weight_mem hx
  omega
theorem attach_callB {l : OpenLaw} {n : Nat} {q : Program} {loose : List Str} {XP : (Str → Option Value) → Heap → Prop} {YP : World → Heap → Prop} {d : DefRec}
    (hn : l.most = some n) (hdf : d.params.defaults = [])
    (call : ∀ (w : World) (s₀ s₁ : Shared) (mg mb : Str → Option Value) (fa : Addr) (o : Obj) (pm cd doc : Value) (a : Addr) (vs : List Value) (ns : List Int),
      Ground q loose [] XP w s₀ mg mb s₁.heap → YP w s₁.heap →
      s₁.heap.get? fa = some o → o.data = .func (docDef d.name d.params d.body d.scope pm cd doc) → s₁.heap.CodeRec cd d.name → mg d.name = some (.ref fa) →
      s₁.heap.get? a = some { cls := .type "list", data := .seq vs.toArray } → IntsAre vs ns → ns.length ≤ n → (∀ x ∈ ns, Builtin.Int.intBits x ≤ 2 ^ 20) → s₁.gens = #[] →
      codeAny (model l.prog w) callerA (.call (.ref fa) ⟨[.ref a], []⟩) (fun r s' => r = .ok (.ret (.bool true)) ∧ OldK s₁.heap s'.heap ∧ s'.os = s₁.os ∧ AllBare s'.gens) s₁) :
    WalkO q loose XP YP l.row.toRowW d [] (fun f vs => PySem.call f vs) := by
  intro w s₀ s₁ mg mb G Y fa o pm cd doc dV kV ho hd hcd hD hmg hg args vals as hpre hlay hrd hwl hlo
  obtain rfl : dV = .none := Dflts.none hD hdf
  obtain rfl : kV = .none := Dflts.noKw hD
  obtain ⟨a, vs, ns, rfl, rfl, hobj, hints, hlen⟩ := script_of hn hpre hwl
  refine enter_call (codeAny_mono (call w s₀ s₁ mg mb fa o pm cd doc a vs ns G Y ho (fd_plain hd) hcd hmg hobj hints hlen (bits_of_lay hlay) hg) fun r s' hq => ?_)
  obtain ⟨rfl, h2, h3, h4⟩ := hq
  exact ⟨.inl ⟨.bool true, .bool true, [], rfl, fun _ => rfl, .bool true, post_true l _, fun _ => ⟨List.Pairwise.nil, fun _ hm => (nomatch hm)⟩⟩, h2, h3, h4⟩
end Att
namespace L2
open PySem PySem.Spec PyProof.Rows
end L2
set_option Elab.async false
set_option linter.all false
set_option maxRecDepth 100000
namespace L2
open PySem PySem.Spec PyProof.Rows
structure Flew (P : Program) (w : World) (outer : List Env) (H H' : Hp) (h B h' : Heap) (ea : Addr) : Prop where
  hok : HOk P w H' B
  keep : ∀ b o, h.get? b = some o → H b = none → b ∉ frs outer → B.get? b = some o
  slot : ∀ b o, h.get? b = some o → b ∈ frs outer → ∃ sl, h'.get? b = some { o with slots := sl }
  free : ∀ b o, h.get? b = some o → H b = none → H' b = none
  there : ∀ b o, h.get? b = some o → b ∉ frs outer → ∃ o', B.get? b = some o'
  tups : ∀ b xs, H b = some (.tup xs) → H' b = some (.tup xs)
  frzs : ∀ b o u, H b = some (.frz o u) → H' b = some (.frz o u)
  tbls : ∀ b ps, H b = some (.tbl ps) → ∃ more, H' b = some (.tbl (ps ++ more))
  exc : H' ea = none
def CX1 (P : Program) (w : World) : CXT := fun outer H s E e s' =>
  ∃ (ea : Addr) (cls a0 : Value) (H' : Hp) (B : Heap), e = .ref ea ∧ Heap.FlyingW B outer ea cls a0 s'.heap ∧ s'.os = s.os ∧ AllBare s'.gens ∧ Flew P w outer H H' s.heap B s'.heap ea ∧ E cls none H'
section
variable {P : Program} {w : World} {outer : List Env} {H H' : Hp} {h B h' h'' : Heap} {ea : Addr}
theorem Flew.up {cls a0 : Value} (f : Flew P w outer H H' h B h' ea) (fl : Heap.FlyingW B outer ea cls a0 h') (up : h'.UpToSlots h'') : Flew P w outer H H' h B h'' ea :=
  ⟨f.hok, f.keep, fun b o e hb => by
    obtain ⟨sl, e1⟩ := f.slot b o e hb
    obtain ⟨_, o1, e2, nf⟩ := fl.2.2.1.mem hb
    rw [e1] at e2
    cases e2
    obtain ⟨sl', e3⟩ := up b _ e1 nf
    exact ⟨sl', e3⟩, f.free, f.there, f.tups, f.frzs, f.tbls, f.exc⟩
theorem Flew.un (f : Flew P w outer H H' h B h' ea) (st : B.StaysIn h') : Un (frs outer) [] H H' h h' where
  keep := fun b o e n hb _ => st b o (f.keep b o e n hb)
  slot := fun b o e _ hb _ => f.slot b o e hb
  free := fun b o e n _ => f.free b o e n
  there := fun b o e _ => by
    by_cases hb : b ∈ frs outer
    · obtain ⟨sl, e1⟩ := f.slot b o e hb
      exact ⟨_, e1⟩
    · obtain ⟨o', e1⟩ := f.there b o e hb
      exact ⟨o', st b o' e1⟩
  tups := f.tups
  frzs := f.frzs
  tbls := f.tbls
theorem Flew.ok (f : Flew P w outer H H' h B h' ea) (st : B.StaysIn h') : HOk P w H' h' := f.hok.kept st
end
section
variable {P : Program} {w : World} {K : PySem.W.Frag} {mg : Str → Option Value} {base : Heap} {N : List Str} {qual : Str} {scope : Scope} {f : Addr} {cd : Value} {A : Around} {outer : List Env} {s₀ : Shared} {H₀ : Hp} {E : XK}
theorem passes1 : Passes (CX1 P w) (cxOf (CX1 P w) P w K mg base N qual scope f cd A outer s₀ H₀ E) E := by
  intro pins σ H s e s' I hc
  obtain ⟨ea, cls, a0, H', B, rfl, fl, os, bare, fw, q⟩ := hc
  have fr : frs (envOfC qual scope s₀.heap.objs.size f cd :: outer) = s₀.heap.objs.size :: frs outer := rfl
  have neL : ∀ b o, s₀.heap.get? b = some o → b ∉ frs outer → b ∉ frs (envOfC qual scope s₀.heap.objs.size f cd :: outer) := fun b o e hb z => by
    rw [fr] at z
    rcases List.mem_cons.mp z with z | z
    · have := Heap.lt_size e
      rw [z] at this
      exact absurd this (Nat.lt_irrefl _)
    · exact hb z
  show wpAny (model P w) (A.deeper (envOfC qual scope s₀.heap.objs.size f cd)) (leaving (envOfC qual scope s₀.heap.objs.size f cd) (.ref ea)) (fun _ s'' => CX1 P w outer H₀ s₀ E (.ref ea) s'') (fun e' s'' => CX1 P w outer H₀ s₀ E e' s'') s'
  refine wpAny_leaves_onW I.ok.frames rfl fl fun h'' fl'' up => ?_
  have fu := fw.up fl up
  have ub : Un (frs outer) [] H₀ H s₀.heap s.heap := I.base
  refine ⟨ea, cls, a0, H', B, rfl, fl'', os.trans I.os, bare, ⟨fw.hok, fun b o e n hb => ?_, fun b o e hb => ?_, fun b o e n => ?_, fun b o e hb => ?_, fun b xs e => fw.tups b xs (ub.tups b xs e), fun b o u e => fw.frzs b o u (ub.frzs b o u e), fun b ps e => ?_, fw.exc⟩, q⟩
  · exact fw.keep b o (ub.keep b o e n hb (by simp)) (ub.free b o e n (by simp)) (neL b o e hb)
  · obtain ⟨sl, e1⟩ := ub.slot b o e (I.ok.frf b hb) hb (by simp)
    obtain ⟨sl', e2⟩ := fu.slot b _ e1 (show b ∈ frs (envOfC qual scope s₀.heap.objs.size f cd :: outer) by rw [fr]; exact List.mem_cons_of_mem _ hb)
    exact ⟨sl', e2⟩
  · obtain ⟨o', e1⟩ := ub.there b o e (by simp)
    exact fw.free b o' e1 (ub.free b o e n (by simp))
  · obtain ⟨o', e1⟩ := ub.there b o e (by simp)
    exact fw.there b o' e1 (neL b o e hb)
  · obtain ⟨m1, e1⟩ := ub.tbls b ps e
    obtain ⟨m2, e2⟩ := fw.tbls b _ e1
    exact ⟨m1 ++ m2, by rw [e2, Array.append_assoc]⟩
def Raises (X : Cx) (E : XK) (cls : Value) : Prop := ∀ (pins : List (Addr × Obj)) (σ : St) (H : Hp) (s : Shared) (ea : Addr) (h' : Heap) (vs : List Value), Inv X pins σ H s → Heap.MadeExcOf s.heap h' ea cls vs → E cls none H → X.xe (.ref ea) { s with heap := h' }
theorem raises1 {cls : Value} : Raises (cxOf (CX1 P w) P w K mg base N qual scope f cd A outer s₀ H₀ E) E cls := by
  intro pins σ H s ea h' vs I hx q
  have fr : frs (envOfC qual scope s₀.heap.objs.size f cd :: outer) = s₀.heap.objs.size :: frs outer := rfl
  have neL : ∀ b o, s₀.heap.get? b = some o → b ∉ frs outer → b ∉ frs (envOfC qual scope s₀.heap.objs.size f cd :: outer) := fun b o e hb z => by
    rw [fr] at z
    rcases List.mem_cons.mp z with z | z
    · have := Heap.lt_size e
      rw [z] at this
      exact absurd this (Nat.lt_irrefl _)
    · exact hb z
  have stk : s.heap.FunFrames base (envOfC qual scope s₀.heap.objs.size f cd :: outer) := I.stack
  have hin : ∀ env ∈ (envOfC qual scope s₀.heap.objs.size f cd :: outer), ∀ b, env.frame = some b → b ∈ frs (envOfC qual scope s₀.heap.objs.size f cd :: outer) := fun env he b hb => List.mem_filterMap.mpr ⟨env, he, hb⟩
  have sf : ∀ b u, H b = some u → b ∉ frs (envOfC qual scope s₀.heap.objs.size f cd :: outer) := fun b u e z => by
    have n := I.stkFree b z
    rw [e] at n; cases n
  show wpAny (model P w) (A.deeper (envOfC qual scope s₀.heap.objs.size f cd)) (leaving (envOfC qual scope s₀.heap.objs.size f cd) (.ref ea)) (fun _ s'' => CX1 P w outer H₀ s₀ E (.ref ea) s'') (fun e' s'' => CX1 P w outer H₀ s₀ E e' s'') { s with heap := h' }
  refine wpAny_leaves_madeW (base := PySem.W.hideAll s.heap (frs (envOfC qual scope s₀.heap.objs.size f cd :: outer))) (h := s.heap) I.ok.frames rfl (fun b o e => PySem.W.of_hideAll _ e) (PySem.W.funFrames_hide stk hin) hx fun h'' t fl tup hbt up => ?_
  have ub : Un (frs outer) [] H₀ H s₀.heap s.heap := I.base
  have toB : ∀ b o, s.heap.get? b = some o → b ∉ frs (envOfC qual scope s₀.heap.objs.size f cd :: outer) → (PySem.W.hideAll s.heap (frs (envOfC qual scope s₀.heap.objs.size f cd :: outer))).get? b = some o := fun b o e hb => PySem.W.hideAll_get _ e hb
  refine ⟨ea, cls, .ref t, H, _, rfl, fl, I.os, I.bare, ⟨fun a o e => ?_, fun b o e n hb => ?_, fun b o e hb => ?_, fun b o e n => ?_, fun b o e hb => ?_, ub.tups, ub.frzs, ub.tbls, ?_⟩, q⟩
  · refine (I.hok a o e).stay (fun b u hb g => toB b u g ?_) (fun _ g => g) fun _ _ g => g
    rcases hb with hb | hb
    · rw [hb]; exact sf a o e
    · exact sf b _ hb
  · exact toB b o (ub.keep b o e n hb (by simp)) (neL b o e hb)
  · obtain ⟨sl, e1⟩ := ub.slot b o e (I.ok.frf b hb) hb (by simp)
    obtain ⟨_, o1, e2, nf⟩ := I.funs.mem hb
    rw [e1] at e2
    cases e2
    obtain ⟨sl', e3⟩ := up b _ (hx.keeps b _ e1) nf
    exact ⟨sl', e3⟩
  · exact ub.free b o e n (by simp)
  · obtain ⟨o', e1⟩ := ub.there b o e (by simp)
    exact ⟨o', toB b o' e1 (neL b o e hb)⟩
  · cases g : H ea with
    | none => rfl
    | some u =>
      have z : ∃ o, s.heap.get? ea = some o := by
        have := (I.hok ea u g)
        cases u with
        | lst xs => obtain ⟨_, _, _, _, e⟩ := this; exact ⟨_, e⟩
        | tup xs => obtain ⟨_, _, _, o, e, _⟩ := this; exact ⟨o, e⟩
        | dK kvs => obtain ⟨_, _, _, _, o, _, _, e, _⟩ := this; exact ⟨o, e⟩
        | dT kvs => obtain ⟨_, _, _, _, o, _, _, e, _⟩ := this; exact ⟨o, e⟩
        | set S n => obtain ⟨o, _, _, _, e, _⟩ := this; exact ⟨o, e⟩
        | ins C dx fs => obtain ⟨_, _, _, e, _⟩ := this; exact ⟨_, e⟩
        | own y => exact this
        | xd fs => obtain ⟨_, ⟨o, _, _, e, _⟩, _⟩ := this; exact ⟨o, e⟩
        | rng lo hi => obtain ⟨_, _, _, e⟩ := this; exact ⟨_, e⟩
        | frz ob u => obtain ⟨e, _⟩ := this; exact ⟨_, e⟩
        | tbl ps => exact ⟨_, this⟩
        | met f y => exact ⟨_, this⟩
        | ext φ => obtain ⟨_, e, _⟩ := this; exact e
      obtain ⟨o, e⟩ := z
      rw [hx.new] at e; cases e
end
end L2
set_option Elab.async false
set_option linter.all false
set_option maxRecDepth 100000
namespace L2
open PySem PySem.Spec PyProof.Rows
theorem exc_obj {K : PySem.W.Frag} {h : Heap} {C : Addr} {bmB : List Value} {newId : String} (KX : K.In h) (q : PySem.W.excIn K C bmB newId = true) :
    ∃ bm nsA nm qn bs hd sn sub ab col dd k0 k1 k2 k3 k5 mN, h.get? C = some (excClassObj nm qn C nsA bs bm hd sn sub ab col dd k0 k1 k2 k3 k5 newId) ∧ h.Ns nsA mN ∧ mN "__init__" = none ∧ OwnTail h bmB bm := by
  unfold PySem.W.excIn at q
  split at q
  · rename_i dd cd sl look
    split at q
    · rename_i C2 bm k0 k1 k2 k3 n k5 hmro hsl
      simp only [Bool.and_eq_true, beq_iff_eq, Bool.not_eq_true'] at q
      obtain ⟨⟨⟨⟨⟨qC, qn'⟩, qdel⟩, qtail⟩, qok⟩, qinit⟩ := q
      cases qC
      cases qn'
      obtain ⟨nm, bs, mro, nsA, qn, hd, sn, sub, ab, col, del⟩ := cd
      have hmro' : mro = _ :: bm := hmro
      have qdel' : del = false := qdel
      cases hmro'
      cases qdel'
      have esl : sl = #[k0, k1, k2, k3, some (.builtin newId), k5] := by
        cases sl with
        | mk l => exact congrArg Array.mk hsl
      cases esl
      exact ⟨bm, nsA, nm, qn, bs, hd, sn, sub, ab, col, dd, k0, k1, k2, k3, k5, _, KX _ _ look, .of_isNs (PySem.W.isNs_of_in KX qok), PySem.W.nsMap_none_of_in KX qok qinit, PySem.W.tail_of_in KX qtail⟩
    · exact absurd q Bool.false_ne_true
  · exact absurd q Bool.false_ne_true
abbrev mroVE : List Value := [.type "ValueError", .type "Exception", .type "BaseException", .type "object"]
section
variable {X : Cx} {E : XK} {C : Addr} {x : Str}
def tRaise (E : XK) (cls : Value) (t : TA) : TS := fun _ σ H => t σ H fun vs H1 => vs.length ≤ sizeLine ∧ E cls none H1
theorem ps_raise {e : Expr} {es : List Expr} {t : TA} {np cpos pos : Pos} (hc : X.calm = true) (hR : Raises X E (.ref C)) (hg : Gl X x) (hm : X.mg x = some (.ref C)) (hE : PySem.W.excIn X.K C mroVE "ValueError.__new__" = true)
    (ha : PA X (e :: es) t) (hdb : (x == ("__debug__" : Str)) = false := by decide) (he : starEach (e :: es) X.env = (false, eval e X.env) :: starEach es X.env := by rfl) (hpl : (backTo cpos (starEach es X.env)).any (·.1) = false := by rfl) :
    PS X (.Raise (some (.Call (.Name x np) (e :: es) [] cpos)) none pos) (tRaise E (.ref C) t) := by
  intro pins s σ H D I hq
  obtain ⟨bm, nsA, nm, qn, bs, hd, sn, sub, ab, col, dd, k0, k1, k2, k3, k5, mN, hC, hN, hni, T⟩ := exc_obj (h := X.base) I.ok.mod.kin hE
  refine wpAny_Raise_call_subU (C := C) (nm := nm) (q := qn) (N := nsA) (bs := bs) (bm := bm) (hdct := hd) (sn := sn) (sub := sub) (ab := ab) (col := col) (dd := dd) (k0 := k0) (k1 := k1) (k2 := k2) (k3 := k3) (k5 := k5)
    PySem.F.excBase_ValueError (by decide) PySem.F.excBase_ValueError (mN := mN) (T.hasType (by decide)) (I.ok.hd hc) (by rw [he]; show (false || (backTo cpos (starEach es X.env)).any (·.1)) = false; rw [hpl]; rfl) hni (ld_glob I hg hm ⟨rfl, ?_⟩ hdb)
  have h1 := ha cpos pins s σ H _ I hq
  rw [he] at h1 ⊢
  refine Calls.evalArgs_plain (thn h1 fun us s2 ⟨vs, H2, I2, r, hz, q⟩ => ⟨rfl, ?_, ?_⟩)
  · show us.length ≤ sizeLine
    rw [← r.length]; exact hz
  · exact ⟨I2.bk _ _ hC, hN.keeps I2.bk, T.keeps I2.bk, fun h' ea hx => hR pins σ H2 s2 ea h' us I2 hx q⟩
end
end L2
set_option Elab.async false
set_option linter.all false
set_option maxRecDepth 100000
namespace L2
open PySem PySem.Spec PyProof.Rows
def ExcO (ea C : Addr) : HO := .ext fun h => ∃ o vs, h.get? ea = some o ∧ o.cls = .ref C ∧ o.data = .fields vs
def Cx.marked (X : Cx) (ea : Addr) : Cx := { X with A := X.A.mark (some (.ref ea)), calm := false, xe := fun _ _ => False }
section
variable {X : Cx} {pins : List (Addr × Obj)} {σ : St} {H : Hp} {s : Shared} {ea : Addr}
theorem Cx.Ok.marked (ok : X.Ok) (ea : Addr) : (X.marked ea).Ok :=
  ⟨ok.mod, ok.kind, ok.glob, ok.blt, ok.above, ok.inj, ok.has, ok.cab, (fun z => absurd (show false = true from z) (by decide)), ok.frames, ok.stk, ok.exf, ok.bs, ok.bsz, ok.noex, ok.exfs, ok.funs, ok.frf⟩
theorem Inv.marked (I : Inv X pins σ H s) (ea : Addr) : Inv (X.marked ea) pins σ H s := ⟨I.ok.marked ea, I.os, I.bare, I.base, I.loc, I.cell, I.free, I.freeC, I.pin, I.hok, I.len⟩
theorem Inv.unmarked (ok : X.Ok) (I : Inv (X.marked ea) pins σ H s) : Inv X pins σ H s := ⟨ok, I.os, I.bare, I.base, I.loc, I.cell, I.free, I.freeC, I.pin, I.hok, I.len⟩
theorem Inv.gone {i : Nat} {n : Str} {h' : Heap} {v : Option Value} {m : Str → Option Value} {t : Nat} (I : Inv X pins σ H s) (hN : X.N.Nodup) (hi : X.N[i]? = some n) (hk : X.env.scope.names.lookup n = some .local)
    (hl : ∀ (j : Nat) (x : Str) (v : V), X.N[j]? = some x → σ[j]? = some (some v) → Vis X.env.scope x → ∃ u, RelV v u ∧ Look X.env s.heap m x u)
    (hn' : h'.Ns X.env.locals (fun x => if x = n then v else m x)) (hs : Heap.SameBut X.env.locals s.heap h') : Inv X pins (σ.set i none) H { s with heap := h', toks := t } := by
  have ltL : ∀ b o, X.s₀.heap.get? b = some o → b ≠ X.env.locals := fun b o e => Nat.ne_of_lt (Nat.lt_of_lt_of_le (Heap.lt_size e) I.ok.above)
  refine ⟨I.ok, I.os, I.bare, ⟨fun b o e q hb hx => ?_, fun b o e q hb hx => ?_, I.base.free, fun b o e hx => ?_, I.base.tups, I.base.frzs, I.base.tbls⟩, ⟨_, hn', fun j y v' e1 e2 e3 => ?_⟩, fun y c e => ?_, I.free, I.freeC, fun p hp => ?_, fun b u e => ?_, by rw [List.length_set]; exact I.len⟩
  · exact (hs.2 b (ltL b o e)).trans (I.base.keep b o e q hb hx)
  · obtain ⟨sl, e1⟩ := I.base.slot b o e q hb hx
    exact ⟨sl, (hs.2 b (ltL b o e)).trans e1⟩
  · obtain ⟨o', e1⟩ := I.base.there b o e hx
    exact ⟨o', (hs.2 b (ltL b o e)).trans e1⟩
  · by_cases hj : j = i
    · subst hj
      rw [List.getElem?_set] at e2
      simp at e2
    · rw [List.getElem?_set_ne (Ne.symm hj)] at e2
      obtain ⟨u, r, q⟩ := hl j y v' e1 e2 e3
      refine ⟨u, r, ?_⟩
      rcases q with ⟨k, e⟩ | ⟨k, c, e, z⟩
      · refine .inl ⟨k, ?_⟩
        have ne : y ≠ n := fun z => hj (nodup_ix hN e1 (z ▸ hi))
        simp [ne, e]
      · exact .inr ⟨k, c, e, z.sameBut hs (I.cne y c e)⟩
  · obtain ⟨w', z⟩ := I.cell y c e
    exact ⟨w', z.sameBut hs (I.cne y c e)⟩
  · obtain ⟨e, q, ne, nf, d⟩ := I.pin p hp
    exact ⟨(hs.2 p.1 ne).trans e, q, ne, nf, d⟩
  · refine (I.hok b u e).stay (fun c w' hc q => (hs.2 c ?_).trans q) (fun _ q => q) fun _ _ q => q
    intro z
    rcases hc with hc | hc
    · rw [← hc, z, I.free] at e; cases e
    · rw [z, I.free] at hc; cases hc
def endsX (i : Nat) (D : Ends) : Ends := { nx := fun σ H => D.nx (σ.set i none) H, rt := D.rt, bk := fun σ H => D.bk (σ.set i none) H, ct := fun σ H => D.ct (σ.set i none) H }
def catchX (K : PySem.W.Frag) (CF : Addr) (i : Nat) (ts : TS) (D : Ends) (σ : St) : XK := fun cls _ H1 =>
  ∃ C, cls = .ref C ∧ PySem.W.exmOne K (.ref C) (.ref CF) = some true ∧ ∀ ea, H1 ea = none → ts (endsX i D) (σ.set i (some (.ref ea))) (upd H1 ea (ExcO ea C))
end
end L2
set_option Elab.async false
set_option linter.all false
set_option maxRecDepth 100000
namespace L2
open PySem PySem.Spec PyProof.Rows
def EqL (K : PySem.W.Frag) (H : Hp) (rec : V → V → Bool → Prop) (p q : Addr) (b : Bool) : Prop :=
  ∃ xs ys, (SqL K H p xs ∧ SqL K H q ys ∧ xs.length ≠ ys.length ∧ b = false) ∨
    (((SqL K H p xs ∧ SqL K H q ys) ∨ (SqT K H p xs ∧ SqT K H q ys)) ∧ xs.length = ys.length ∧ ∃ e : Nat → Bool, (∀ i x y, xs[i]? = some x → ys[i]? = some y → rec x y (e i)) ∧ b = (List.range xs.length).all e)
def EqD (K : PySem.W.Frag) (H : Hp) : Nat → V → V → Bool → Prop
  | 0, x, y, b => (∃ a, x = .ref a ∧ y = .ref a ∧ b = true) ∨ (flatV x = true ∧ flatV y = true ∧ b = eqV x y)
  | n + 1, x, y, b => EqD K H n x y b ∨ ∃ p q, x = .ref p ∧ y = .ref q ∧ p ≠ q ∧ EqL K H (EqD K H n) p q b
section
variable {X : Cx} {pins : List (Addr × Obj)} {σ : St} {H : Hp} {s : Shared}
theorem eqL_at {A : Around} {rec : V → V → Bool → Prop} {p q : Addr} {b : Bool} (I : Inv X pins σ H s) (hu : A.units < cLine) (hr : ∀ x y b u v, rec x y b → RelV x u → RelV y v → SeqAt.EqAt A.in1 s u v b) (h : EqL X.K H rec p q b) :
    SeqAt.RcAt A s (.ref p) (.ref q) b ∧ SeqAt.RcNeAt A s (.ref p) (.ref q) (!b) := by
  obtain ⟨xs, ys, ⟨h1, h2, hl, rfl⟩ | ⟨hk, hl, e, he, rfl⟩⟩ := h
  · obtain ⟨its, r, pl, _⟩ := I.list h1
    obtain ⟨its2, r2, pl2, _⟩ := I.list h2
    have e1 := r.length
    have e2 := r2.length
    have hne : (its.toArray.size != its2.toArray.size) = true := by
      rw [bne_iff_ne]; simp only [List.size_toArray]; omega
    exact ⟨SeqAt.RcAt.lists_lengths pl.isList pl2.isList hne hu, SeqAt.RcNeAt.lists_lengths pl.isList pl2.isList hne hu⟩
  · have items : ∀ (its its2 : List Value), Vals xs its → Vals ys its2 → ∀ j (h1 : j < its.toArray.size) (h2 : j < its2.toArray.size), SeqAt.EqAt A.in1 s its.toArray[j] its2.toArray[j] (e j) := by
      intro its its2 r r2 j h1 h2
      have l1 := r.length
      have l2 := r2.length
      simp only [List.size_toArray] at h1 h2
      have g1 : j < xs.length := by omega
      have g2 : j < ys.length := by omega
      obtain ⟨u, hu1, ru⟩ := r.get (i := j) (x := xs[j]) (by simp [g1])
      obtain ⟨v, hv1, rv⟩ := r2.get (i := j) (x := ys[j]) (by simp [g2])
      have eu : its.toArray[j] = u := by
        have : its[j]? = some its[j] := by simp [h1]
        rw [this] at hu1
        simpa using hu1
      have ev : its2.toArray[j] = v := by
        have : its2[j]? = some its2[j] := by simp [h2]
        rw [this] at hv1
        simpa using hv1
      rw [eu, ev]
      exact hr _ _ _ _ _ (he j _ _ (by simp [g1]) (by simp [g2])) ru rv
    rcases hk with ⟨h1, h2⟩ | ⟨h1, h2⟩
    · obtain ⟨its, r, pl, _⟩ := I.list h1
      obtain ⟨its2, r2, pl2, _⟩ := I.list h2
      have l1 := r.length
      have l2 := r2.length
      have hsz : its.toArray.size = its2.toArray.size := by simp only [List.size_toArray]; omega
      have a1 := SeqAt.RcAt.lists pl.isList pl2.isList hsz hu (items its its2 r r2)
      have a2 := SeqAt.RcNeAt.lists pl.isList pl2.isList hsz hu (items its its2 r r2)
      have es : its.toArray.size = xs.length := by simp only [List.size_toArray]; omega
      rw [es] at a1 a2
      exact ⟨a1, a2⟩
    · obtain ⟨its, r, pl, _⟩ := I.tuple h1
      obtain ⟨its2, r2, pl2, _⟩ := I.tuple h2
      have l1 := r.length
      have l2 := r2.length
      have t1 : s.heap.IsTuple p its.toArray := pl
      have t2 : s.heap.IsTuple q its2.toArray := pl2
      have a1 := SeqAt.RcAt.tuples t1 t2 hu (items its its2 r r2)
      have a2 := SeqAt.RcNeAt.tuples t1 t2 hu (items its its2 r r2)
      have es : min its.toArray.size its2.toArray.size = xs.length := by simp only [List.size_toArray]; omega
      have ez : (its.toArray.size == its2.toArray.size) = true := by rw [beq_iff_eq]; simp only [List.size_toArray]; omega
      rw [es, ez, Bool.and_true] at a1 a2
      exact ⟨a1, a2⟩
theorem eqD_at (I : Inv X pins σ H s) : ∀ (n : Nat) (A : Around), A.units + n < cLine → ∀ x y b u v, EqD X.K H n x y b → RelV x u → RelV y v → SeqAt.EqAt A s u v b
  | 0, A, hu, x, y, b, u, v, h, rx, ry => by
    rcases h with ⟨a, rfl, rfl, rfl⟩ | ⟨f1, f2, rfl⟩
    · cases rx; cases ry; exact SeqAt.EqAt.same _
    · exact eqAt_V rx ry f1 f2
  | n + 1, A, hu, x, y, b, u, v, h, rx, ry => by
    rcases h with h | ⟨p, q, rfl, rfl, ne, h⟩
    · exact eqD_at I n A (by omega) x y b u v h rx ry
    · cases rx; cases ry
      refine SeqAt.EqAt.of_refs ne (eqL_at (A := A) I (by omega) (fun x y b u v h rx ry => eqD_at I n A.in1 ?_ x y b u v h rx ry) h).1
      show A.units + 1 + n < cLine
      omega
def rEqD (K : PySem.W.Frag) (neg : Bool) : R2 := fun x y H Q => ∃ n p q b, n ≤ 8 ∧ x = .ref p ∧ y = .ref q ∧ EqL K H (EqD K H n) p q b ∧ Q (.bl (if neg then !b else b)) H
theorem op_eqD (hu : X.A.units + 64 < cLine) : OpR X (compareOp .Eq) (rEqD X.K false) := by
  intro pins s σ H x y v u Q I rx ry h
  obtain ⟨n, p, q, b, hn, rfl, rfl, he, k⟩ := h
  cases rx; cases ry
  refine (eqL_at (A := X.A) I (by omega) (fun x y b u v h rx ry => eqD_at I n X.A.in1 ?_ x y b u v h rx ry) he).1 _ _ _ _ ⟨.bl b, H, I, rfl, k⟩
  show X.A.units + 1 + n < cLine
  omega
theorem op_neD (hu : X.A.units + 64 < cLine) : OpR X (compareOp .NotEq) (rEqD X.K true) := by
  intro pins s σ H x y v u Q I rx ry h
  obtain ⟨n, p, q, b, hn, rfl, rfl, he, k⟩ := h
  cases rx; cases ry
  refine (eqL_at (A := X.A) I (by omega) (fun x y b u v h rx ry => eqD_at I n X.A.in1 ?_ x y b u v h rx ry) he).2 _ _ _ _ ⟨.bl (!b), H, I, rfl, k⟩
  show X.A.units + 1 + n < cLine
  omega
end
theorem range_all {n : Nat} {e : Nat → Bool} (h : ∀ i, i < n → e i = true) : (List.range n).all e = true := by
  rw [List.all_eq_true]
  intro i hi
  exact h i (List.mem_range.mp hi)
theorem eqV_self {x : V} (f : flatV x = true) : eqV x x = true := by
  cases x <;> first | rfl | (simp [eqV]; done) | exact absurd (show false = true from f) Bool.false_ne_true
theorem EqL.same {K : PySem.W.Frag} {H : Hp} {p q : Addr} {xs : List V} (h : (SqL K H p xs ∧ SqL K H q xs) ∨ (SqT K H p xs ∧ SqT K H q xs)) (hf : ∀ x ∈ xs, flatV x = true ∨ ∃ a, x = .ref a) : EqL K H (EqD K H 0) p q true := by
  refine ⟨xs, xs, .inr ⟨h, rfl, fun _ => true, fun i x y h1 h2 => ?_, (range_all fun _ _ => rfl).symm⟩⟩
  rw [h1] at h2; cases h2
  rcases hf x (List.mem_of_getElem? h1) with f | ⟨a, rfl⟩
  · exact .inr ⟨f, f, (eqV_self f).symm⟩
  · exact .inl ⟨a, rfl, rfl, rfl⟩
theorem EqL.nil {K : PySem.W.Frag} {H : Hp} {p q : Addr} {xs : List V} (h1 : SqL K H p xs) (h2 : SqL K H q []) : EqL K H (EqD K H 0) p q xs.isEmpty := by
  cases xs with
  | nil => exact ⟨[], [], .inr ⟨.inl ⟨h1, h2⟩, rfl, fun _ => true, fun i x y e => by simp at e, rfl⟩⟩
  | cons x r => exact ⟨x :: r, [], .inl ⟨h1, h2, by simp, rfl⟩⟩
def Itz (K : PySem.W.Frag) (a b : Addr) : It :=
  ⟨fun i H => ∃ xs ys x y, SqL K H a xs ∧ SqL K H b ys ∧ xs[i]? = some x ∧ ys[i]? = some y,
   fun i H v H' => ∃ T x y, v = .ref T ∧ H T = none ∧ H' = upd H T (.tup [x, y]) ∧ ∀ xs ys, SqL K H a xs → SqL K H b ys → xs[i]? = some x ∧ ys[i]? = some y,
   fun i H => ∃ xs ys, SqL K H a xs ∧ SqL K H b ys ∧ (xs.length ≤ i ∨ ys.length ≤ i)⟩
theorem SqL.upd_new {K : PySem.W.Frag} {H : Hp} {a T : Addr} {xs : List V} {o : HO} (h : SqL K H a xs) (hT : H T = none) : SqL K (upd H T o) a xs := by
  rcases h with h | h
  · refine .inl ?_
    rcases h with h | ⟨ob, h⟩
    · exact .inl (by rw [upd_ne (ne_of_none h hT)]; exact h)
    · exact .inr ⟨ob, by rw [upd_ne (ne_of_none h hT)]; exact h⟩
  · exact .inr h
def ZSt (z TI TO i1 i2 a b : Addr) (i : Nat) (h : Heap) : Prop := IsZip h z TI TO .none ∧ IsPair h TI (.ref i1) (.ref i2) ∧ (∃ x y, IsPair h TO x y) ∧ h.IsListIter i1 a i ∧ h.IsListIter i2 b i
theorem turn_zip {P : Program} {w : World} {K : PySem.W.Frag} {elts : List Expr} {x1} {pos : Pos} {z TI TO i1 i2 a b : Addr} (D : ZipApart z TI TO i1 i2 a b) :
    Turn P w K (.Tuple elts x1 pos) (Itz K a b) [z, TI, TO, i1, i2] z (ZSt z TI TO i1 i2 a b) where
  mem := by simp
  obj := fun i h st c hc => by
    obtain ⟨s1, s2, ⟨x, y, s3⟩, ⟨o4, e4, c4, d4⟩, ⟨o5, e5, c5, d5⟩⟩ := st
    simp only [List.mem_cons, List.not_mem_nil, or_false] at hc
    rcases hc with rfl | rfl | rfl | rfl | rfl
    · exact ⟨_, s1, fun v e => by cases e⟩
    · exact ⟨_, s2, fun v e => by cases e⟩
    · exact ⟨_, s3, fun v e => by cases e⟩
    · exact ⟨_, e4, fun v e => by rw [d4] at e; cases e⟩
    · exact ⟨_, e5, fun v e => by rw [d5] at e; cases e⟩
  keep := fun i h h' st k => by
    obtain ⟨s1, s2, ⟨x, y, s3⟩, s4, s5⟩ := st
    exact ⟨k z (by simp) _ s1, k TI (by simp) _ s2, ⟨x, y, k TO (by simp) _ s3⟩, s4.at fun o e => k i1 (by simp) o e, s5.at fun o e => k i2 (by simp) o e⟩
  item := by
    intro X hP hw hK hc i pins s σ H E I hf st hg
    subst hP hw hK
    obtain ⟨s1, s2, ⟨u1, u2, s3⟩, s4, s5⟩ := st
    obtain ⟨xs, ys, x, y, hx, hy, ex, ey⟩ := hg
    obtain ⟨its, r, pl, _⟩ := I.list hx
    obtain ⟨its2, r2, pl2, _⟩ := I.list hy
    obtain ⟨v1, hv1, rv1⟩ := r.get ex
    obtain ⟨v2, hv2, rv2⟩ := r2.get ey
    refine wpAny_pyNext_zip_item D s1 s2 s3 s4 s5 pl.isList pl2.isList (x := v1) (y := v2) (by simpa using hv1) (by simpa using hv2) fun h' a1 a2 a3 a4 a5 a6 hk => ?_
    have fresh : H s.heap.objs.size = none := I.hok.fresh (Nat.le_refl _)
    have inF : ∀ c, c ∈ [z, TI, TO, i1, i2] → FpOk X pins H c := fun c hc => hf c hc
    have hk' : ∀ c o, c ∉ [z, TI, TO, i1, i2] → s.heap.get? c = some o → h'.get? c = some o := fun c o hc e => by
      simp only [List.mem_cons, List.not_mem_nil, or_false, not_or] at hc
      exact hk c o hc.1 hc.2.2.1 hc.2.2.2.1 hc.2.2.2.2 e
    have nF : ∀ c u, H c = some u → c ∉ [z, TI, TO, i1, i2] := fun c u e hc => by have := (inF c hc).1; rw [e] at this; cases this
    have I1 : Inv X pins σ (upd H s.heap.objs.size (.tup [x, y])) { s with heap := h' } := by
      refine I.step (g' := s.gens) (d' := s.drawn) (t' := s.toks) (ch := [z, TI, TO, i1, i2]) (fun c hc => ?_) (fun c o _ _ hc e _ => hk' c o hc e) (fun c o _ _ hc e _ => ⟨o.slots, hk' c o hc e⟩) (fun c o hc e n => ?_)
        (fun c o hc e => ⟨o, hk' c o hc e⟩) (fun c zs e => ?_) (fun c o u e => ?_) (fun c ps e => ?_) (fun m hm => ?_) (fun c u e => ?_) I.bare
      · obtain ⟨f0, f1, f2, f3, f4, f5⟩ := inF c hc
        exact ⟨f3, f1, f4, f5⟩
      · rw [upd_ne (Nat.ne_of_lt (Heap.lt_size e))]; exact n
      · rw [upd_ne (ne_of_none e fresh)]; exact e
      · rw [upd_ne (ne_of_none e fresh)]; exact e
      · exact ⟨#[], by rw [upd_ne (ne_of_none e fresh), e]; simp⟩
      · obtain ⟨o, es, ep, ho, rr⟩ := hm
        exact ⟨o, es, ep, hk' _ o (fun hc => (inF _ hc).2.1 rfl) ho, rr⟩
      · by_cases hce : c = s.heap.objs.size
        · subst hce
          rw [upd_same] at e
          cases e
          exact ⟨by show 2 ≤ sizeLine; decide, [v1, v2], .cons rv1 (.cons rv2 .nil), ⟨_, a5, rfl, _, rfl⟩⟩
        · rw [upd_ne hce] at e
          refine (I.hok c u e).stay (fun d o hd q => hk' d o ?_ q) (fun d q => ?_) fun d zs q => ?_
          · rcases hd with z1 | z1
            · rw [z1]; exact nF c u e
            · exact nF d _ z1
          · rw [upd_ne (ne_of_none q fresh)]; exact q
          · rw [upd_ne (ne_of_none q fresh)]; exact q
    refine ⟨_, rfl, wpAny_letOwnedTupleGo_zip a1 fun h2 hz2 hs2 => ?_⟩
    obtain ⟨f0, f1, f2, f3, f4, f5⟩ := inF z (by simp)
    have nez : z ≠ s.heap.objs.size := Nat.ne_of_lt (Heap.lt_size s1)
    have I2 : Inv X pins σ (upd H s.heap.objs.size (.tup [x, y])) { s with heap := h2 } := I1.turned (t' := s.toks) (fun c o hc e => hs2.extBut c o hc e) (by rw [upd_ne nez]; exact f0) f1 f3 f4 f5
    refine ⟨.ref s.heap.objs.size, _, I2, rfl, ⟨_, x, y, rfl, fresh, rfl, fun zs ws q1 q2 => ⟨by rw [I.list_inj q1 hx]; exact ex, by rw [I.list_inj q2 hy]; exact ey⟩⟩,
      ⟨hz2, hs2.extBut _ _ D.TIz (hk _ _ D.TIz D.TITO D.TIi1 D.TIi2 s2), ⟨_, _, hs2.extBut _ _ D.TOz a2⟩, a3.extBut hs2.extBut D.i1z, a4.extBut hs2.extBut D.i2z⟩, fun c hc => ?_⟩
    obtain ⟨o, ho⟩ : ∃ o, s.heap.get? c = some o := by
      simp only [List.mem_cons, List.not_mem_nil, or_false] at hc
      obtain ⟨o4, e4, _⟩ := s4
      obtain ⟨o5, e5, _⟩ := s5
      rcases hc with rfl | rfl | rfl | rfl | rfl
      · exact ⟨_, s1⟩
      · exact ⟨_, s2⟩
      · exact ⟨_, s3⟩
      · exact ⟨_, e4⟩
      · exact ⟨_, e5⟩
    rw [upd_ne (Nat.ne_of_lt (Heap.lt_size ho))]
    exact (inF c hc).1
  done := by
    intro X hP hw hK hc i pins s σ H E I hf st hg
    subst hP hw hK
    obtain ⟨s1, s2, ⟨u1, u2, s3⟩, s4, s5⟩ := st
    obtain ⟨xs, ys, hx, hy, hl⟩ := hg
    obtain ⟨its, r, pl, _⟩ := I.list hx
    obtain ⟨its2, r2, pl2, _⟩ := I.list hy
    have l1 := r.length
    have l2 := r2.length
    have inF : ∀ c, c ∈ [z, TI, TO, i1, i2] → FpOk X pins H c := fun c hc => hf c hc
    refine wpAny_pyNext_zip_end (I.ok.hd hc) D s1 s2 s3 s4 s5 pl.isList pl2.isList ?_ fun h' hk => ⟨rfl, ?_⟩
    · rcases hl with hl | hl
      · exact .inl (by simp; omega)
      · exact .inr (by simp; omega)
    have hk' : ∀ c o, c ∉ [z, TI, TO, i1, i2] → s.heap.get? c = some o → h'.get? c = some o := fun c o hc e => by
      simp only [List.mem_cons, List.not_mem_nil, or_false, not_or] at hc
      exact hk c o hc.1 hc.2.2.1 hc.2.2.2.1 hc.2.2.2.2 e
    have nF : ∀ c u, H c = some u → c ∉ [z, TI, TO, i1, i2] := fun c u e hc => by have := (inF c hc).1; rw [e] at this; cases this
    refine I.step (g' := s.gens) (d' := s.drawn) (t' := s.toks) (ch := [z, TI, TO, i1, i2]) (fun c hc => ?_) (fun c o _ _ hc e _ => hk' c o hc e) (fun c o _ _ hc e _ => ⟨o.slots, hk' c o hc e⟩) (fun c o hc e n => n)
        (fun c o hc e => ⟨o, hk' c o hc e⟩) (fun _ _ e => e) (fun _ _ _ e => e) (fun c ps e => ⟨#[], by rw [e]; simp⟩) (fun m hm => ?_) (fun c u e => ?_) I.bare
    · obtain ⟨f0, f1, f2, f3, f4, f5⟩ := inF c hc
      exact ⟨f3, f1, f4, f5⟩
    · obtain ⟨o, es, ep, ho, rr⟩ := hm
      exact ⟨o, es, ep, hk' _ o (fun hc => (inF _ hc).2.1 rfl) ho, rr⟩
    · refine (I.hok c u e).stay (fun d o hd q => hk' d o ?_ q) (fun _ q => q) fun _ _ q => q
      rcases hd with z1 | z1
      · rw [z1]; exact nF c u e
      · exact nF d _ z1
  self := fun _ _ _ _ _ st h => wpAny_pyIter_zip st.1 h
def iZip (K : PySem.W.Frag) (ta : TA) : TI := fun σ H R => ta σ H fun vs H1 => ∃ a b, vs = [.ref a, .ref b] ∧ (∃ xs, SqL K H1 a xs) ∧ (∃ ys, SqL K H1 b ys) ∧ R (Itz K a b) H1
section
variable {X : Cx}
theorem pi_zip {a b : Expr} {ta : TA} {p pos : Pos} {elts : List Expr} {x1} {tpos : Pos} (hg : Gl X "zip") (hm : X.mg "zip" = none) (ha : PA X [a, b] ta) (hs : starEach [a, b] X.env = [(false, eval a X.env), (false, eval b X.env)] := by rfl) (hs2 : starEach [b] X.env = [(false, eval b X.env)] := by rfl) :
    PI X (.Tuple elts x1 tpos) (.Call (.Name "zip" p) [a, b] [] pos) (iZip X.K ta) := by
  intro pins s σ H R I h
  refine Call_ (ld_blt I hg hm boot_zip (PyProof.Rows.callWith_type1 (thn (ha pos pins s σ H _ I h) fun us s1 ⟨vs, H1, I1, r1, q1⟩ => ?_) (by rw [hs, hs2]) (by rw [hs2]; rfl)))
  obtain ⟨l1, l2, e, ⟨xs, hx⟩, ⟨ys, hy⟩, q⟩ := q1
  subst e
  obtain ⟨u1, u2, rfl, ru1, ru2⟩ := Vals.two r1
  cases ru1; cases ru2
  obtain ⟨its, r, pl, _⟩ := I1.list hx
  obtain ⟨its2, r2, pl2, _⟩ := I1.list hy
  have lt1 : l1 < s1.heap.objs.size := by obtain ⟨o, ho, _⟩ := pl.isList; exact Heap.lt_size ho
  have lt2 : l2 < s1.heap.objs.size := by obtain ⟨o, ho, _⟩ := pl2.isList; exact Heap.lt_size ho
  refine call_zip_2 pl.isList pl2.isList fun h' a1 a2 a3 a4 a5 a6 hk => ?_
  have I2 : Inv X pins σ H1 { s1 with heap := h' } := I1.kept (t' := s1.toks) hk
  refine wpAny_pyIter_zip (s := { s1 with heap := h' }) a1 ?_
  refine ⟨s1.heap.objs.size + 4, [s1.heap.objs.size + 4, s1.heap.objs.size + 2, s1.heap.objs.size + 3, s1.heap.objs.size, s1.heap.objs.size + 1], _, Itz X.K l1 l2, H1, rfl, I2, turn_zip (PyProof.Rows.zipApart_new lt1 lt2), ⟨a1, a2, ⟨_, _, a3⟩, a4, a5⟩, fun c hc => ?_, q⟩
  have hle : s1.heap.objs.size ≤ c := by
    simp only [List.mem_cons, List.not_mem_nil, or_false] at hc
    show @LE.le Nat instLENat s1.heap.objs.size c
    rcases hc with e | e | e | e | e <;> (rw [e]; omega)
  have f := I1.fpOk hle (I1.hok.fresh hle)
  exact f
end
theorem for_zip {K : PySem.W.Frag} {a b : Addr} {xs ys : List V} {g : TG} {tb : TS} {D : Ends} {σ : St} {H : Hp} (hlen : xs.length = ys.length) (Pv : Nat → St → Hp → Prop) (h0 : Pv 0 σ H) (hl : ∀ i σ H, i ≤ xs.length → Pv i σ H → SqL K H a xs ∧ SqL K H b ys)
    (hs : ∀ i x y σ H T, xs[i]? = some x → ys[i]? = some y → Pv i σ H → H T = none → g (.ref T) σ (upd H T (.tup [x, y])) fun σ2 H2 => tb { D with nx := Pv (i + 1), ct := Pv (i + 1), bk := D.nx } σ2 H2) (hd : ∀ σ H, Pv xs.length σ H → D.nx σ H) :
    ∃ W : Nat → Nat → St → Hp → Prop, (∃ m, W 0 m σ H) ∧ ∀ i m σ H, W i m σ H →
      ((Itz K a b).stop i H ∧ D.nx σ H) ∨ ((Itz K a b).go i H ∧ ∃ N : St → Hp → Prop, (∀ σ' H', N σ' H' → ∃ m', m' < m ∧ W (i + 1) m' σ' H') ∧ ∀ x H', (Itz K a b).yld i H x H' → g x σ H' fun σ2 H2 => tb { D with nx := N, ct := N, bk := D.nx } σ2 H2) := by
  refine ⟨fun i m σ H => m = xs.length - i ∧ i ≤ xs.length ∧ Pv i σ H, ⟨xs.length, by simp, Nat.zero_le _, h0⟩, ?_⟩
  rintro i m σ H ⟨rfl, hi, p⟩
  obtain ⟨q1, q2⟩ := hl i σ H hi p
  by_cases hlt : i < xs.length
  · have hlt2 : i < ys.length := by omega
    refine .inr ⟨⟨xs, ys, xs[i], ys[i], q1, q2, by simp [hlt], by simp [hlt2]⟩, Pv (i + 1), fun σ' H' p' => ⟨xs.length - (i + 1), by omega, rfl, hlt, p'⟩, fun v H' y => ?_⟩
    obtain ⟨T, x, y, rfl, hT, rfl, yy⟩ := y
    obtain ⟨e1, e2⟩ := yy xs ys q1 q2
    exact hs i x y σ H T e1 e2 p hT
  · have e : i = xs.length := by omega
    subst e
    exact .inl ⟨⟨xs, ys, q1, q2, .inl (Nat.le_refl _)⟩, hd σ H p⟩
def Itr3 (lo st : Int) (n : Nat) : It := ⟨fun i _ => i < n, fun i H x H' => H' = H ∧ x = .int (lo + (i : Int) * st), fun i _ => n ≤ i⟩
theorem turn_range3 {P : Program} {w : World} {K : PySem.W.Frag} {tg : Expr} (it : Addr) (lo st : Int) (n : Nat) : Turn P w K tg (Itr3 lo st n) [it] it (fun i h => IsRangeIter h it (lo + (i : Nat) * st) ((n : Int) - (i : Nat)) st) where
  mem := by simp
  obj := fun i h hst b hb => by
    have e : b = it := by simpa using hb
    subst e
    exact ⟨_, hst, fun v z => by
      have z' : Data.fields _ = Data.cell v := z
      cases z'⟩
  keep := fun i h h' hst k => k it (by simp) _ hst
  item := by
    intro X hP hw hK hc i pins s σ H E I hf hst hg
    subst hP hw hK
    obtain ⟨f0, f1, f2, f3, f4, f5⟩ := hf it (by simp)
    have W := Walks.range (prog := X.prog) (w := X.w) (I.ok.hd hc) it lo st n
    refine W.item i s _ _ hg hst fun v h' tk hv st' kk => ?_
    obtain ⟨t, rfl⟩ := hv
    have I1 : Inv X pins σ H { s with heap := h', toks := tk } := I.turned (fun b o hb e => kk b o (by simpa using hb) e) f0 f1 f3 f4 f5
    exact ⟨_, rfl, go_of (s := { s with heap := h', toks := tk }) (n := "range_iterator") st' rfl rfl (by decide) ⟨.int (lo + (i : Int) * st), H, I1, ⟨t, rfl⟩, ⟨rfl, rfl⟩, st', fun b hb => (hf b hb).1⟩⟩
  done := by
    intro X hP hw hK hc i pins s σ H E I hf hst hg
    subst hP hw hK
    obtain ⟨f0, f1, f2, f3, f4, f5⟩ := hf it (by simp)
    exact wpAny_pyNext_range_end (I.ok.hd hc) hst (by have : n ≤ i := hg; omega) fun h' eb => ⟨rfl, I.turned (t' := s.toks) (fun b o hb e => eb b o hb e) f0 f1 f3 f4 f5⟩
  self := fun _ _ _ _ _ hst h => wpAny_pyIter_rangeiter hst h
end L2
set_option Elab.async false
set_option linter.all false
set_option maxRecDepth 100000
namespace L2
open PySem PySem.Spec PyProof.Rows
section
variable {X : Cx} {tg : Expr}
def DictO (_ : Addr) : HO := .dK []
end
def PassesR (CX : CXT) (X : Cx) (R : St → XK) : Prop := ∀ (pins : List (Addr × Obj)) (σ : St) (H : Hp) (s : Shared) (e : Value) (s' : Shared), Inv X pins σ H s → CX X.stack H s (R σ) e s' → X.xe e s'
structure DefX (P : Program) (w : World) (K : PySem.W.Frag) (mg : Str → Option Value) (base : Heap) (k : Nat) (x : Str) (ps : List Str) (ds : List V) (sp : Sp) : Prop where
  ex : ∃ (f : Addr) (fd : FuncData) (dvs : List Value), FnOk P w K mg base (CX1 P w) k f fd ps sp ∧ mg x = some (.ref f) ∧ PySem.W.keepIn K (.ref f) = true ∧ Binds K fd ps dvs ∧ Vals ds dvs
def tCallR (sp : Sp) (dvs : List V) (R : St → XK) (t : TA) : TE := fun σ H Q => t σ H fun vs H1 => sp (vs ++ dvs) H1 Q (R σ)
section
variable {X : Cx}
theorem pe_callX {k : Nat} {x : Str} {ps : List Str} {ds : List V} {sp : Sp} {e : Expr} {es : List Expr} {t : TA} {p pos : Pos} {R : St → XK} (D : DefX X.prog X.w X.K X.mg X.base k x ps ds sp) (hr : Room k X.A) (hx : PassesR (CX1 X.prog X.w) X R) (hg : Gl X x)
    (ha : PA X (e :: es) t) (hdb : (x == ("__debug__" : Str)) = false := by decide) (he : starEach (e :: es) X.env = (false, eval e X.env) :: starEach es X.env := by rfl) (hpl : (backTo pos (starEach es X.env)).any (·.1) = false := by rfl) :
    PE X (.Call (.Name x p) (e :: es) [] pos) (tCallR sp ds R t) := by
  obtain ⟨f, fd, dvs, F, hm, hk, hb, hd⟩ := D.ex
  intro pins s σ H Q I h
  refine wpAny_Call_Name_kw (ld_glob I hg hm ?_ hdb)
  refine PySem.W.callWith_K (h₀ := X.base) I.ok.mod.kin hk (thn (ha pos pins s σ H _ I h) fun us s1 ⟨vs, H1, I1, r, q⟩ => ⟨I1.kIn, ?_⟩) he hpl
  have r2 : Vals (vs ++ ds) (us ++ dvs) := r.append hd
  have hl : (us ++ dvs).length = ps.length := by rw [← r2.length]; exact F.len _ _ _ _ q
  refine wpAny_call (codeAny_mono (F.run X.A X.stack s1 H1 ⟨us, []⟩ (us ++ dvs) (vs ++ ds) Q (R σ) hr I1.env0 (hb s1 us I1.kIn hl) r2 q) fun res s' hq => ?_)
  cases res with
  | error er => exact hx pins σ H1 s1 er s' I1 hq
  | ok fl =>
    cases fl with
    | ret u => exact I1.after hq
    | next => exact False.elim hq
    | brk => exact False.elim hq
    | cont => exact False.elim hq
theorem passF {P : Program} {w : World} : PassesR (CX1 P w) X fun _ => E0 := fun _ _ _ _ _ _ _ h => by
  obtain ⟨_, _, _, _, _, _, _, _, _, _, q⟩ := h
  exact False.elim q
end
section
variable {P : Program} {w : World} {K : PySem.W.Frag} {mg : Str → Option Value} {base : Heap}
theorem passes1R {N : List Str} {qual : Str} {scope : Scope} {f : Addr} {cd : Value} {A : Around} {outer : List Env} {s₀ : Shared} {H₀ : Hp} {E : XK} :
    PassesR (CX1 P w) (cxOf (CX1 P w) P w K mg base N qual scope f cd A outer s₀ H₀ E) fun _ => E := fun pins σ H s e s' I h => passes1 pins σ H s e s' I h
theorem FunD.okX {x qual : Str} {st : Stmt} {dV : Value} {f : Addr} {fd : FuncData} {N ps : List Str} {k : Nat} {sp : Sp} (F : FunD K x qual st dV f fd) (S : FnScope N ps (defScope st)) (len : ∀ vs H Q E, sp vs H Q E → vs.length = ps.length)
    (hbody : ∀ (cdv : Value) (A : Around) (outer : List Env) (s : Shared) (H : Hp) (vs : List V) (Q : VK) (E : XK), Room k (A.deeper (envOfC qual (defScope st) s.heap.objs.size f cdv)) → sp vs H Q E →
      ∃ t, PSs (cxOf (CX1 P w) P w K mg base N qual (defScope st) f cdv A outer s H E) (defBody st) t ∧ t { nx := fun _ H' => Q .non H', rt := Q } (start N vs) H) : FnOk P w K mg base (CX1 P w) (k + 1) f fd ps sp := by
  obtain ⟨oc, od, kV, doc, pm, an, cdv, ct, osl, rfl, lk, hcd⟩ := F.ex
  exact fn_of lk hcd S len fun A outer s H vs Q E hr hsp => hbody cdv A outer s H vs Q E hr hsp
theorem FunD.defX {x qual : Str} {st : Stmt} {f : Addr} {fd : FuncData} {ps : List Str} {k : Nat} {sp : Sp} (F : FunD K x qual st .none f fd) (G : FnOk P w K mg base (CX1 P w) k f fd ps sp) (hm : mg x = some (.ref f))
    (h : ∀ (kV doc pm : Value) (an : Option Addr) (cdv ct : Value) (us : List Value), us.length = ps.length → bindArgs (PySem.W.fnOf x qual (defArgs st) (defBody st) (defScope st) .none kV doc pm an cdv ct) ⟨us, []⟩ = pure (ps.zip us)) : DefX P w K mg base k x ps [] sp := by
  obtain ⟨oc, od, kV, doc, pm, an, cdv, ct, osl, rfl, lk, hcd⟩ := F.ex
  exact ⟨f, _, [], G, hm, F.kp, .all (h kV doc pm an cdv ct), .nil⟩
end
section
variable {X : Cx} {pins pn : List (Addr × Obj)} {σ : St} {H : Hp} {s : Shared} {XE : Value → Shared → Prop}
abbrev Cx.at (X : Cx) (pn : List (Addr × Obj)) (XE : Value → Shared → Prop) : Cx := { X with pn := pn, xe := XE }
theorem Cx.Ok.at (ok : X.Ok) : (X.at pn XE).Ok :=
  ⟨ok.mod, ok.kind, ok.glob, ok.blt, ok.above, ok.inj, ok.has, ok.cab, ok.hd, ok.frames, ok.stk, ok.exf, ok.bs, ok.bsz, ok.noex, ok.exfs, ok.funs, ok.frf⟩
theorem Cx.Ok.unat (ok : (X.at pn XE).Ok) : X.Ok :=
  ⟨ok.mod, ok.kind, ok.glob, ok.blt, ok.above, ok.inj, ok.has, ok.cab, ok.hd, ok.frames, ok.stk, ok.exf, ok.bs, ok.bsz, ok.noex, ok.exfs, ok.funs, ok.frf⟩
theorem Inv.at (I : Inv X pins σ H s) : Inv (X.at (X.pn ++ pins) XE) [] σ H s := ⟨I.ok.at, I.os, I.bare, I.base, I.loc, I.cell, I.free, I.freeC, fun p hp => I.pin p (by simpa using hp), I.hok, I.len⟩
theorem Inv.unat {pins' : List (Addr × Obj)} (I : Inv (X.at (X.pn ++ pins) XE) pins' σ H s) : Inv X pins σ H s := ⟨I.ok.unat, I.os, I.bare, I.base, I.loc, I.cell, I.free, I.freeC, fun p hp => I.pin p (List.mem_append_left _ hp), I.hok, I.len⟩
def tTry2 (K : PySem.W.Frag) (CF : Addr) (i : Nat) (tb : (St → XK) → TS) (ts : TS) : TS := fun D σ H => tb (fun σ' => catchX K CF i ts D σ') D σ H
theorem ps_try2 {body : List Stmt} {cx n : Str} {CF : Addr} {i : Nat} {b0 : Stmt} {suite : List Stmt} {np hpos pos : Pos} {tb : (St → XK) → TS} {ts : TS}
    (hN : X.N.Nodup) (hi : X.N[i]? = some n) (hl : X.env.scope.names.lookup n = some .local) (hg : Gl X cx) (hm : X.mg cx = some (.ref CF)) (hst : X.stack = X.env :: X.outer) (hf : X.env.frame = some X.env.locals)
    (hb : ∀ (pn : List (Addr × Obj)) (XE : Value → Shared → Prop) (R : St → XK), PassesR (CX1 X.prog X.w) (X.at pn XE) R → PSs (X.at pn XE) body (tb R))
    (hs : ∀ ea, PSs (X.marked ea) (b0 :: suite) ts) (hdb : (cx == ("__debug__" : Str)) = false := by decide) :
    PS X (.Try body [.ExceptHandler (some (.Name cx np)) (some n) (b0 :: suite) hpos] [] [] pos) (tTry2 X.K CF i tb ts) := by
  intro pins s σ H D I hq
  refine wpAny_Try_except (wpAny_mono (hb (X.pn ++ pins) _ (fun σ' => catchX X.K CF i ts D σ') ?_ [] s σ H D I.at hq) (fun f s1 q => ?_) fun e s1 q => q)
  · intro pins0 σ0 H0 s0 e s' I0' hc
    have I0 : Inv X pins σ0 H0 s0 := I0'.unat
    obtain ⟨ea, cls, a0, H', B, rfl, fl, os, bare, fw, C, rfl, hex, q⟩ := hc
    replace fl : Heap.FlyingW B (X.env :: X.outer) ea (.ref C) a0 s'.heap := by rw [← hst]; exact fl
    replace fw : Flew X.prog X.w (X.env :: X.outer) H0 H' s0.heap B s'.heap ea := by rw [← hst]; exact fw
    have fr0 : X.A.frames = some (X.env :: X.outer) := by rw [I0.ok.frames, hst]
    have new0 : s0.heap.get? ea = none := by
      cases g : s0.heap.get? ea with
      | none => rfl
      | some o =>
        by_cases hb : ea ∈ frs (X.env :: X.outer)
        · obtain ⟨_, o1, e1, nf⟩ := fl.2.2.1.mem hb
          obtain ⟨oe, vs, e2, _, d2, _⟩ := fl.first
          rw [e1] at e2; cases e2
          exact absurd d2 (nf vs)
        · obtain ⟨o', e1⟩ := fw.there ea o g hb
          rw [fl.2.1] at e1; cases e1
    refine wpAny_looks_onW fr0 hf fl fun h4 held4 up4 => ?_
    refine wpAny_landsW held4 fun h5 fl5 up5 => ?_
    have inv : ∀ {h6 : Heap} {tk : Nat}, Heap.FlyingW B (X.env :: X.outer) ea (.ref C) a0 h6 → s'.heap.UpToSlots h6 → Inv X pins σ0 (upd H' ea (ExcO ea C)) { s' with heap := h6, toks := tk } := fun {h6 tk} fl6 up6 => by
      have f6 := fw.up fl up6
      have u6 := f6.un fl6.1
      obtain ⟨oe, vs, e6, c6, d6, _⟩ := fl6.first
      refine I0.call' (s' := { s' with heap := h6, toks := tk }) (ch := []) os (by
        rw [hst]
        exact ⟨u6.keep, u6.slot, fun b o e n hx => by
          rw [upd_ne (fun z => by rw [z, new0] at e; cases e)]
          exact u6.free b o e n hx, u6.there, fun b xs e => by
          have z := u6.tups b xs e
          rw [upd_ne (ne_of_none z fw.exc)]; exact z, fun b o u e => by
          have z := u6.frzs b o u e
          rw [upd_ne (ne_of_none z fw.exc)]; exact z, fun b ps e => by
          obtain ⟨more, z⟩ := u6.tbls b ps e
          exact ⟨more, by rw [upd_ne (ne_of_none z fw.exc)]; exact z⟩⟩) (fun b u e => ?_) bare (fun b hb => absurd hb (by simp))
      by_cases hbe : b = ea
      · subst hbe
        rw [upd_same] at e
        cases e
        refine ⟨⟨oe, vs, e6, c6, d6⟩, ⟨oe, e6⟩, fun h1 h2 p k => ?_⟩
        obtain ⟨o, ws, p1, p2, p3⟩ := p
        exact ⟨o, ws, k o p1, p2, p3⟩
      · rw [upd_ne hbe] at e
        refine (f6.ok fl6.1 b u e).stay (fun _ _ _ g => g) (fun c g => ?_) fun c xs g => ?_
        · rw [upd_ne (ne_of_none g fw.exc)]; exact g
        · rw [upd_ne (ne_of_none g fw.exc)]; exact g
    have I5 := inv (tk := s'.toks) fl5 (up4.trans up5)
    refine wpAny_handleBy_cons (codeAny_handlers_test (ld_glob (X := X.marked ea) (I5.marked ea) hg hm ?_ hdb)) (by intro z; cases z)
    obtain ⟨ob, hob, hobc⟩ := fl5.there
    have LT : PySem.W.Looks (model X.prog X.w) h5 (typeOf (.ref ea)) (.ref C) := by
      rw [← hobc]
      exact (PySem.W.Looks.ld hob).andThen .now
    refine (PySem.W.exm_one (h := h5) I5.kIn LT hex).here ?_
    refine codeAny_handlers_suite_as ?_
    refine lands_againW fl5 fun h6 fl6 up6 => ?_
    have I6 := inv (tk := s'.toks) fl6 ((up4.trans up5).trans up6)
    refine store_ok I6 hN hi (Or.inl hl) (show RelV (.ref ea) (.ref ea) from rfl) (fun s7 I7 => ?_) (.inr hl)
    refine wpAny_mono (hs ea pins s7 _ _ _ (I7.marked ea) (q ea fw.exc)) (fun f s8 sp => ?_) fun _ _ z => z.elim
    have fin : ∀ {σ8 : St} {H8 : Hp} {Q8 : Shared → Prop}, Inv (X.marked ea) pins σ8 H8 s8 → (∀ s9, Inv X pins (σ8.set i none) H8 s9 → Q8 s9) →
        wpAny (model X.prog X.w) X.A (do bindName X.env n .none; unbindBehindTheSuite X.env n hpos) (fun _ s9 => Q8 s9) X.xe s8 := fun {σ8 H8 Q8} J k => by
      have J' := J.unmarked I0.ok
      obtain ⟨m, hn, hlk⟩ := J'.loc
      refine wpAny_nameGoes_keeps hl hn (by rw [I0.ok.kind]; rfl) fun h9 v hn9 sb9 => k _ ?_
      exact J'.gone hN hi hl hlk hn9 sb9
    cases f with
    | next =>
      obtain ⟨σ8, H8, J, z⟩ := sp
      exact fin J fun s9 I9 => ⟨_, H8, I9, z⟩
    | brk =>
      obtain ⟨σ8, H8, J, z⟩ := sp
      exact fin J fun s9 I9 => ⟨_, H8, I9, z⟩
    | cont =>
      obtain ⟨σ8, H8, J, z⟩ := sp
      exact fin J fun s9 I9 => ⟨_, H8, I9, z⟩
    | ret u =>
      obtain ⟨v, σ8, H8, J, r, z⟩ := sp
      exact fin J fun s9 I9 => ⟨v, _, H8, I9, r, z⟩
  · cases f with
    | next => obtain ⟨σ1, H1, J, z⟩ := q; exact wpAny_execs_nil ⟨σ1, H1, J.unat, z⟩
    | brk => obtain ⟨σ1, H1, J, z⟩ := q; exact ⟨σ1, H1, J.unat, z⟩
    | cont => obtain ⟨σ1, H1, J, z⟩ := q; exact ⟨σ1, H1, J.unat, z⟩
    | ret u => obtain ⟨v, σ1, H1, J, r, z⟩ := q; exact ⟨v, σ1, H1, J.unat, r, z⟩
end
end L2
set_option Elab.async false
set_option linter.all false
set_option maxRecDepth 100000
namespace L2
open PySem PySem.Spec PyProof.Rows
structure XCls (K : PySem.W.Frag) (D : Addr) : Prop where
  ga : PySem.W.findIn K (.ref D) "__getattribute__" = some (some (.builtin "BaseException.__getattribute__"))
  gx : PySem.W.findIn K (.ref D) "__getattr__" = some none
  cl : PySem.W.findIn K (.ref D) "__class__" = some (some (.builtin "object.__class__"))
  mB : PySem.W.mroIn K D (.type "BaseException") = some true
  mo : PySem.W.mroIn K D (.type "object") = some true
  isc : (PySem.W.clsIn K D).isSome = true
def ExcAt (x D : Addr) (h : Heap) : Prop := ∃ o vs, h.get? x = some o ∧ o.cls = .ref D ∧ o.data = .fields vs
section
variable {prog : Program} {w : World} {A : Around} {E : Value → Shared → Prop} {s : Shared} {K : PySem.W.Frag} {x D : Addr}
theorem ExcAt.ty {M : Model} {h : Heap} (e : ExcAt x D h) : PySem.W.Looks M h (typeOf (.ref x)) (.ref D) := by
  obtain ⟨o, vs, h1, h2, _⟩ := e
  exact h2 ▸ (PySem.W.Looks.ld h1).andThen .now
theorem exc_class_get {R : Result → Shared → Prop} (KX : K.In s.heap) (e : ExcAt x D s.heap) (c : XCls K D) (h : R (.ok (.ret (.ref D))) s) :
    codeAny (model prog w) A (.call (.builtin "getset_descriptor.__get__") ⟨[.builtin "object.__class__", .ref x, .ref D], []⟩) R s := by
  obtain ⟨hh, g, dr, t, os⟩ := s
  have L0 : PySem.W.Looks (model prog w) hh (typeOf (.ref x)) (.ref D) := e.ty
  have L1 : PySem.W.Looks (model prog w) hh (isSubtype (.ref D) (.type (".".intercalate ("object.__class__".cutAt '.').dropLast))) true := by rw [F.owner_object_class]; exact PySem.W.looks_mroIn KX c.mo
  have LI : PySem.W.Looks (model prog w) hh (isInstance (.ref x) (.type (".".intercalate ("object.__class__".cutAt '.').dropLast))) true := L0.andThen L1
  have hT5 : (⟨hh, g, dr, t, os⟩ : Shared).TypeIs (.builtin "object.__class__") "getset_descriptor" := F.typeOf_object_class
  refine codeAny_call_builtin F.slot_gs_get.plain F.entry_gs_get (F.slot_gs_get.check _ _ _ _ _ _ _ _ hT5 (F.args_gs_get _ _ _) ?_)
  repeat (any_goals (first | assumption | (with_reducible refine LI.at ?_) | (with_reducible refine L0.at ?_) | (with_reducible refine L1.at ?_) | wp_step))
  refine ⟨Code.quiet_builtin _ (by decide +kernel), codeAny_builtin F.entry_object_class ?_⟩
  repeat (any_goals (first | assumption | (with_reducible refine L0.at ?_) | wp_step))
theorem exc_entry {tk : Tok} {Q : Fin → Shared → Prop} (KX : K.In s.heap) (e : ExcAt x D s.heap) (c : XCls K D) (h : Q (.done (.ret (.ref D))) s) :
    wpAny (model prog w) A (Builtin.«object.__getattribute__» ⟨[.ref x, .str "__class__" tk], []⟩) Q E s := by
  obtain ⟨hh, g, dr, t, os⟩ := s
  have L0 : PySem.W.Looks (model prog w) hh (typeOf (.ref x)) (.ref D) := e.ty
  have L4 := PySem.W.looks_findIn (M := model prog w) KX c.cl
  have hT5 : (⟨hh, g, dr, t, os⟩ : Shared).TypeIs (.builtin "object.__class__") "getset_descriptor" := F.typeOf_object_class
  have f5 := F.typeOf_object_class
  have f6 := F.slot_gs_get.lookup
  have f7 := F.slot_gs_set.lookup
  repeat (any_goals (first | assumption | (with_reducible refine L0.at ?_) | (with_reducible refine L4.at ?_) | wp_step))
  refine exc_class_get KX e c ?_
  exact wpAny_pure h
theorem bega_split : splitId "BaseException.__getattribute__" = some ("BaseException", "__getattribute__") := by decide +kernel
theorem bega_kind : builtinKind "BaseException.__getattribute__" = some .slot := by decide +kernel
theorem exc_check {M : Model} {v : Value} {Q : Unit → Shared → Prop} (KX : K.In s.heap) (e : ExcAt x D s.heap) (c : XCls K D) (h : Q () s) :
    wpAny M A (checkBuiltinCall "BaseException.__getattribute__" ⟨[.ref x, v], []⟩) Q E s := by
  have L0 : PySem.W.Looks M s.heap (typeOf (.ref x)) (.ref D) := e.ty
  have LI : PySem.W.Looks M s.heap (isInstance (.ref x) (.type "BaseException")) true := L0.andThen (PySem.W.looks_mroIn KX c.mB)
  have hA := F.args_bexc_ga (.ref x) v
  simp only [checkBuiltinCall, bega_split, bega_kind]
  refine wpAny_bind (LI.at ?_)
  unfold argsOk at hA
  cases hsig : Manifest.signature? "BaseException.__getattribute__" with
  | none =>
    rw [hsig] at hA
    simp only [Bool.not_true, Bool.false_eq_true, if_false]
    exact wpAny_pure h
  | some sig =>
    rw [hsig] at hA
    simp only [Bool.not_true, Bool.false_eq_true, if_false]
    exact wpAny_of_eq hA h
theorem exc_class {Q : Option Value → Shared → Prop} (KX : K.In s.heap) (e : ExcAt x D s.heap) (c : XCls K D) (h : Q (some (.ref D)) { s with toks := s.toks + 1 }) :
    wpAny (model prog w) A (getAttr? (.ref x) "__class__") Q E s := by
  obtain ⟨hh, g, dr, t, os⟩ := s
  have L0 : PySem.W.Looks (model prog w) hh (typeOf (.ref x)) (.ref D) := e.ty
  have L1 := PySem.W.looks_findIn (M := model prog w) KX c.ga
  have L2 := PySem.W.looks_findIn (M := model prog w) KX c.gx
  have hbind := F.excAttr_ValueError.ga.bind (.ref x)
  unfold getAttr? getAttrBy?
  repeat (any_goals (first | assumption | (with_reducible refine L0.at ?_) | (with_reducible refine L1.at ?_) | (with_reducible refine L2.at ?_) | wp_step))
  refine codeAny_call_builtin F.excAttr_ValueError.ga.plain F.entry_bexc_ga (exc_check (s := ⟨hh, g, dr, t + 1, os⟩) KX e c (exc_entry (s := ⟨hh, g, dr, t + 1, os⟩) KX e c ?_))
  repeat (any_goals (first | assumption | wp_step))
theorem kitx_exc (c : XCls K D) : PySem.W.KitX K (.ref x) (.ref D) (ExcAt x D) where
  ty := fun _ _ _ e => e.ty
  it := fun M h KX _ => by
    have hc := c.isc
    unfold PySem.W.clsIn at hc
    split at hc
    · rename_i c' d' cd' sl' ho
      intro A' Q' E' s' k q
      unfold isType loadHead
      exact wpAny_bind (wpAny_loadPart (k _ _ (KX _ _ ho)) (wpAny_pure q))
    · cases hc
  ne := fun h tp dd its n sl KX htp => by
    have hc := c.isc
    refine Bool.eq_false_iff.mpr fun q => ?_
    have e : D = tp := Value.ref.inj (beq_iff_eq.mp q)
    subst e
    unfold PySem.W.clsIn at hc
    split at hc
    · rename_i c' d' cd' sl' ho
      have z := (KX _ _ ho).symm.trans htp
      cases z
    · cases hc
  ca := fun KX e k => exc_class KX e c k
end
inductive TyX (K : PySem.W.Frag) (H : Hp) : V → Value → Prop where
  | of {x : V} {t : Value} (h : TyOf K H x t) : TyX K H x t
  | exc {a C : Addr} (e : H a = some (ExcO a C)) (c : XCls K C) : TyX K H (.ref a) (.ref C)
  | dict {a : Addr} (e : H a = some (DictO a)) : TyX K H (.ref a) (.type "dict")
def IsX (K : PySem.W.Frag) (H : Hp) (x : V) (c : Value) (b : Bool) : Prop := ∃ t, TyX K H x t ∧ PySem.W.kitOne K t c = some b
def rIsX (K : PySem.W.Frag) : List V → Hp → VK → Prop := fun xs H Q => match xs with
  | [x, .ty n] => ∃ b, IsX K H x (.type n) b ∧ Q (.bl b) H
  | [x, .ref C] => ∃ b, IsX K H x (.ref C) b ∧ Q (.bl b) H
  | _ => False
section
variable {X : Cx}
theorem isX_ok {A : Around} {E : Value → Shared → Prop} {Q : Value → Shared → Prop} {pins : List (Addr × Obj)} {σ : St} {H : Hp} {s : Shared} {x : V} {u c : Value} {b : Bool} (I : Inv X pins σ H s) (rx : RelV x u) (h : IsX X.K H x c b) (k : ∀ tk, Q (.bool b) { s with toks := tk }) :
    wpAny (model X.prog X.w) A (call (.builtin "isinstance") [u, c]) Q E s := by
  obtain ⟨t, ty, e⟩ := h
  cases ty with
  | of ty => exact isinst_ok I rx ty e k
  | @exc a C ea cc =>
    cases (show u = Value.ref a from rx)
    obtain ⟨p, _, _⟩ := (show ObjOk X.prog X.w H s.heap a (ExcO a C) from I.hok a _ ea)
    exact PySem.W.kia_one (kitx_exc cc) I.kIn p e (fun z => nomatch z) k
  | @dict a ea =>
    cases (show u = Value.ref a from rx)
    obtain ⟨_, _, vs, _, p⟩ := (show ObjOk X.prog X.w H s.heap a (.dK []) from I.hok a _ ea)
    obtain ⟨o, es, ep, h1, h2, _⟩ := p
    exact PySem.W.kia_one PySem.W.kitx_dict I.kIn ⟨o, h1, h2.1⟩ e (fun z => nomatch z) k
theorem call_isX : CallR X (.builtin "isinstance") (rIsX X.K) := by
  intro pins s σ H xs us Q I rs h
  unfold rIsX at h
  split at h
  · obtain ⟨u, w', rfl, r1, r2⟩ := vals2 rs
    cases r2
    obtain ⟨b, hb, q⟩ := h
    exact isX_ok I r1 hb fun tk => ⟨.bl b, H, I.tok tk, rfl, q⟩
  · obtain ⟨u, w', rfl, r1, r2⟩ := vals2 rs
    cases r2
    obtain ⟨b, hb, q⟩ := h
    exact isX_ok I r1 hb fun tk => ⟨.bl b, H, I.tok tk, rfl, q⟩
  · exact h.elim
theorem pe_isiX {e : Expr} {te : TE} {T : Str} {n : String} {p p2 pos : Pos} (he : PE X e te) (h1 : Gl X "isinstance") (h2 : X.mg "isinstance" = none) (h3 : Gl X T) (h4 : X.mg T = none) (h5 : bootBuiltins T = some (.type n)) (h6 : T ≠ "__name__" := by decide) (h7 : (T == ("__debug__" : Str)) = false := by decide)
    (s1 : starEach [e, .Name T p2] X.env = (false, eval e X.env) :: starEach [.Name T p2] X.env := by rfl) (s2 : starEach [.Name T p2] X.env = (false, eval (.Name T p2) X.env) :: starEach [] X.env := by rfl) (hpl : (backTo pos (starEach [.Name T p2] X.env)).any (·.1) = false := by rfl) :
    PE X (.Call (.Name "isinstance" p) [e, .Name T p2] [] pos) (tCB (rIsX X.K) (tCons te (tCons (tC (.ty n)) tNil))) :=
  pe_callB call_isX h1 h2 PyProof.Rows.boot_isinstance (pa_cons he (pa_cons (pe_bltn h3 h4 h5 rfl h6 h7) pa_nil s2) s1) (by decide) (by decide) s1 hpl
theorem pe_isiC {e : Expr} {te : TE} {T : Str} {C : Addr} {p p2 pos : Pos} (he : PE X e te) (h1 : Gl X "isinstance") (h2 : X.mg "isinstance" = none) (h3 : Gl X T) (h4 : X.mg T = some (.ref C)) (h7 : (T == ("__debug__" : Str)) = false := by decide)
    (s1 : starEach [e, .Name T p2] X.env = (false, eval e X.env) :: starEach [.Name T p2] X.env := by rfl) (s2 : starEach [.Name T p2] X.env = (false, eval (.Name T p2) X.env) :: starEach [] X.env := by rfl) (hpl : (backTo pos (starEach [.Name T p2] X.env)).any (·.1) = false := by rfl) :
    PE X (.Call (.Name "isinstance" p) [e, .Name T p2] [] pos) (tCB (rIsX X.K) (tCons te (tCons (tC (.ref C)) tNil))) :=
  pe_callB call_isX h1 h2 PyProof.Rows.boot_isinstance (pa_cons he (pa_cons (pe_glob h3 h4 rfl h7) pa_nil s2) s1) (by decide) (by decide) s1 hpl
end
end L2
set_option Elab.async false
set_option linter.all false
set_option maxRecDepth 100000
namespace L2
open PySem PySem.Spec PyProof.Rows
theorem same_upd {H H' : Hp} {D : Addr} {o : HO} (s : Same H H') (h : H D = none) : Same H (upd H' D o) := fun b u e => by rw [upd_ne (ne_of_none e h)]; exact s b u e
theorem same_new {H : Hp} {D : Addr} {o : HO} (h : H D = none) : Same H (upd H D o) := same_upd (Same.refl H) h
inductive Kd (K : PySem.W.Frag) (H : Hp) : V → Prop where
  | non : Kd K H .non
  | bl (b : Bool) : Kd K H (.bl b)
  | int (i : Int) : Kd K H (.int i)
  | str (x : Str) : Kd K H (.str x)
  | lst {a : Addr} {xs : List V} (e : H a = some (.lst xs)) : Kd K H (.ref a)
  | tup {a : Addr} {xs : List V} (e : H a = some (.tup xs)) : Kd K H (.ref a)
  | dict {a : Addr} (e : H a = some (DictO a)) : Kd K H (.ref a)
theorem Kd.mono {K : PySem.W.Frag} {H H' : Hp} {x : V} (k : Kd K H x) (s : Same H H') : Kd K H' x := by
  cases k with
  | non => exact .non
  | bl b => exact .bl b
  | int i => exact .int i
  | str y => exact .str y
  | lst e => exact .lst (s _ _ e)
  | tup e => exact .tup (s _ _ e)
  | dict e => exact .dict (s _ _ e)
def isI : V → Bool
  | .int _ => true
  | .bl _ => true
  | _ => false
def isB : V → Bool
  | .bl _ => true
  | _ => false
def isL (H : Hp) : V → Bool
  | .ref a => match H a with
    | some (.lst _) => true
    | _ => false
  | _ => false
section
variable {K : PySem.W.Frag}
theorem k_ii : PySem.W.kitOne K (.type "int") (.type "int") = some true := by kernel_rfl
theorem k_ib : PySem.W.kitOne K (.type "int") (.type "bool") = some false := by kernel_rfl
theorem k_il : PySem.W.kitOne K (.type "int") (.type "list") = some false := by kernel_rfl
theorem k_bi : PySem.W.kitOne K (.type "bool") (.type "int") = some true := by kernel_rfl
theorem k_bb : PySem.W.kitOne K (.type "bool") (.type "bool") = some true := by kernel_rfl
theorem k_bL : PySem.W.kitOne K (.type "bool") (.type "list") = some false := by kernel_rfl
theorem k_ni : PySem.W.kitOne K (.type "NoneType") (.type "int") = some false := by kernel_rfl
theorem k_nb : PySem.W.kitOne K (.type "NoneType") (.type "bool") = some false := by kernel_rfl
theorem k_nl : PySem.W.kitOne K (.type "NoneType") (.type "list") = some false := by kernel_rfl
theorem k_si : PySem.W.kitOne K (.type "str") (.type "int") = some false := by kernel_rfl
theorem k_sb : PySem.W.kitOne K (.type "str") (.type "bool") = some false := by kernel_rfl
theorem k_sl : PySem.W.kitOne K (.type "str") (.type "list") = some false := by kernel_rfl
theorem k_li : PySem.W.kitOne K (.type "list") (.type "int") = some false := by kernel_rfl
theorem k_lb : PySem.W.kitOne K (.type "list") (.type "bool") = some false := by kernel_rfl
theorem k_ll : PySem.W.kitOne K (.type "list") (.type "list") = some true := by kernel_rfl
theorem k_ti : PySem.W.kitOne K (.type "tuple") (.type "int") = some false := by kernel_rfl
theorem k_tb : PySem.W.kitOne K (.type "tuple") (.type "bool") = some false := by kernel_rfl
theorem k_tl : PySem.W.kitOne K (.type "tuple") (.type "list") = some false := by kernel_rfl
theorem k_di : PySem.W.kitOne K (.type "dict") (.type "int") = some false := by kernel_rfl
theorem k_db : PySem.W.kitOne K (.type "dict") (.type "bool") = some false := by kernel_rfl
theorem k_dl : PySem.W.kitOne K (.type "dict") (.type "list") = some false := by kernel_rfl
variable {H : Hp} {x : V}
theorem Kd.isInt (k : Kd K H x) : IsX K H x (.type "int") (isI x) := by
  cases k with
  | non => exact ⟨_, .of .non, k_ni⟩
  | bl b => exact ⟨_, .of (.bl b), k_bi⟩
  | int i => exact ⟨_, .of (.int i), k_ii⟩
  | str y => exact ⟨_, .of (.str y), k_si⟩
  | lst e => exact ⟨_, .of (.lst e), k_li⟩
  | tup e => exact ⟨_, .of (.tup e), k_ti⟩
  | dict e => exact ⟨_, .dict e, k_di⟩
theorem Kd.isBool (k : Kd K H x) : IsX K H x (.type "bool") (isB x) := by
  cases k with
  | non => exact ⟨_, .of .non, k_nb⟩
  | bl b => exact ⟨_, .of (.bl b), k_bb⟩
  | int i => exact ⟨_, .of (.int i), k_ib⟩
  | str y => exact ⟨_, .of (.str y), k_sb⟩
  | lst e => exact ⟨_, .of (.lst e), k_lb⟩
  | tup e => exact ⟨_, .of (.tup e), k_tb⟩
  | dict e => exact ⟨_, .dict e, k_db⟩
theorem Kd.isList (k : Kd K H x) : IsX K H x (.type "list") (isL H x) := by
  cases k with
  | non => exact ⟨_, .of .non, k_nl⟩
  | bl b => exact ⟨_, .of (.bl b), k_bL⟩
  | int i => exact ⟨_, .of (.int i), k_il⟩
  | str y => exact ⟨_, .of (.str y), k_sl⟩
  | lst e => refine ⟨_, .of (.lst e), ?_⟩; simp only [isL, e]; exact k_ll
  | tup e => refine ⟨_, .of (.tup e), ?_⟩; simp only [isL, e]; exact k_tl
  | dict e => refine ⟨_, .dict e, ?_⟩; simp only [isL, e, DictO]; exact k_dl
theorem isList_lst {a : Addr} {xs : List V} (e : H a = some (.lst xs)) : IsX K H (.ref a) (.type "list") true := ⟨_, .of (.lst e), k_ll⟩
end
def Src (J : It) (L : List V) (H : Hp) : Prop := ∀ H', Same H H' → (∀ i x, L[i]? = some x → J.go i H' ∧ ∀ y H2, J.yld i H' y H2 → y = x ∧ H2 = H') ∧ J.stop L.length H'
theorem src_list {K : PySem.W.Frag} {a : Addr} {xs : List V} {H : Hp} (h : SqL K H a xs) : Src (Itl K a) xs H := fun H' sm =>
  ⟨fun i x e => ⟨⟨xs, x, sm.seq h, e⟩, fun y H2 ⟨q1, q2⟩ => ⟨by have := q2 xs (sm.seq h); rw [e] at this; exact (Option.some.inj this).symm, q1⟩⟩, ⟨xs, sm.seq h, Nat.le_refl _⟩⟩
theorem src_range {lo : Int} {n : Nat} {H : Hp} : Src (Itr lo n) ((List.range n).map fun (i : Nat) => V.int (lo + i)) H := fun H' sm => by
  refine ⟨fun i x e => ?_, ?_⟩
  · have hi : i < n := by
      have := (List.getElem?_eq_some_iff.mp e).1
      simpa using this
    refine ⟨hi, fun y H2 ⟨q1, q2⟩ => ⟨?_, q1⟩⟩
    rw [List.getElem?_map, List.getElem?_range hi] at e
    rw [q2]
    exact Option.some.inj e
  · show n ≤ _
    simp
theorem src_range3 {lo st : Int} {n : Nat} {H : Hp} : Src (Itr3 lo st n) ((List.range n).map fun (i : Nat) => V.int (lo + (i : Int) * st)) H := fun H' sm => by
  refine ⟨fun i x e => ?_, ?_⟩
  · have hi : i < n := by
      have := (List.getElem?_eq_some_iff.mp e).1
      simpa using this
    refine ⟨hi, fun y H2 ⟨q1, q2⟩ => ⟨?_, q1⟩⟩
    rw [List.getElem?_map, List.getElem?_range hi] at e
    rw [q2]
    exact Option.some.inj e
  · show n ≤ _
    simp
theorem comp_fm {J : It} {L : List V} {k : Nat} {tt : TT} {te : TE} {D : Addr} {σ0 : St} {H : Hp} {Fn : Hp → Prop} (f : V → V) (p : V → Bool) (S : Src J L H) (hn : L.length ≤ sizeLine) (hD : H D = none)
    (ht : ∀ x ∈ L, ∀ (H' : Hp) (Qb : Bool → Hp → Prop), Same H H' → (∀ H'', Same H' H'' → Qb (p x) H'') → tt (σ0.set k (some x)) H' Qb)
    (he : ∀ x ∈ L, p x = true → ∀ (H' : Hp) (Q : VK), Same H H' → (∀ H'', Same H' H'' → Q (f x) H'') → te (σ0.set k (some x)) H' Q)
    (hd : ∀ H', Same H H' → H' D = some (.lst ((L.filter p).map f)) → Fn H') :
    ∃ W : Nat → Nat → St → Hp → Prop, (∃ m, W 0 m σ0 (upd H D (.lst []))) ∧ ∀ i m σ' H', W i m σ' H' →
      (J.stop i H' ∧ Fn H') ∨ (J.go i H' ∧ ∃ N : St → Hp → Prop, (∀ σ2 H2, N σ2 H2 → ∃ m', m' < m ∧ W (i + 1) m' σ2 H2) ∧ ∀ x H2, J.yld i H' x H2 → gName k x σ' H2 fun σ3 H3 => tt σ3 H3 fun b H4 =>
        if b = true then te σ3 H4 fun v H5 => ∃ xs, H5 D = some (.lst xs) ∧ xs.length < sizeLine ∧ N σ3 (upd H5 D (.lst (xs ++ [v]))) else N σ3 H4) := by
  refine ⟨fun i m σ' H' => m = L.length - i ∧ i ≤ L.length ∧ (∀ y, σ'.set k y = σ0.set k y) ∧ Same H H' ∧ H' D = some (.lst (((L.take i).filter p).map f)), ⟨L.length, rfl, Nat.zero_le _, fun _ => rfl, same_new hD, by rw [upd_same]; rfl⟩, ?_⟩
  rintro i m σ' H' ⟨rfl, hi, hσ, sm, hH⟩
  by_cases hlt : i < L.length
  · have hx : L[i]? = some L[i] := by simp [hlt]
    obtain ⟨go, yl⟩ := (S H' sm).1 i _ hx
    refine .inr ⟨go, fun σ2 H2 => (∀ y, σ2.set k y = σ0.set k y) ∧ Same H H2 ∧ H2 D = some (.lst (((L.take (i + 1)).filter p).map f)), ?_, ?_⟩
    · rintro σ2 H2 ⟨q1, q2, q3⟩
      exact ⟨L.length - (i + 1), by omega, rfl, hlt, q1, q2, q3⟩
    · intro x H2 y
      obtain ⟨rfl, rfl⟩ := yl x H2 y
      show tt (σ'.set k (some L[i])) H2 _
      rw [hσ]
      have hm : L[i] ∈ L := List.getElem_mem hlt
      have tk : L.take (i + 1) = L.take i ++ [L[i]] := by rw [List.take_add_one, hx]; rfl
      refine ht _ hm H2 _ sm fun H4 s4 => ?_
      cases hp : p L[i] with
      | true =>
        refine iteT (he _ hm hp H4 _ (sm.trans s4) fun H5 s5 => ⟨_, s5 D _ (s4 D _ hH), ?_, fun y => by rw [List.set_set], same_upd (sm.trans (s4.trans s5)) hD, ?_⟩)
        · have h1 : (((L.take i).filter p).map f).length ≤ (L.take i).length := by rw [List.length_map]; exact List.length_filter_le _ _
          rw [List.length_take] at h1
          omega
        · rw [upd_same, tk, List.filter_append, List.map_append]
          simp [hp]
      | false =>
        refine iteF ⟨fun y => by rw [List.set_set], sm.trans s4, ?_⟩
        rw [tk, List.filter_append, List.filter_cons_of_neg (by simp [hp])]
        simpa using s4 D _ hH
  · have e : i = L.length := by omega
    subst e
    exact .inl ⟨(S H' sm).2, hd H' sm (by rw [hH, List.take_length])⟩
structure PicV (H : Hp) (a : Addr) (ps : List Addr) (R : List (List V)) : Prop where
  top : H a = some (.lst (ps.map V.ref))
  row : Paired (fun p r => H p = some (.lst r)) ps R
  nd : ps.Nodup
  out : a ∉ ps
def Fresh (H : Hp) (ps : List Addr) : Prop := ∀ q ∈ ps, H q = none
theorem Paired.mapI {α β : Type} {F G : α → β → Prop} : ∀ {l₁ : List α} {l₂ : List β}, Paired F l₁ l₂ → (∀ a b, a ∈ l₁ → F a b → G a b) → Paired G l₁ l₂
  | _, _, .nil, _ => .nil
  | _, _, .cons r t, f => .cons (f _ _ List.mem_cons_self r) (Paired.mapI t fun a b h => f a b (List.mem_cons_of_mem _ h))
theorem Paired.app {α β : Type} {F : α → β → Prop} : ∀ {l₁ m₁ : List α} {l₂ m₂ : List β}, Paired F l₁ l₂ → Paired F m₁ m₂ → Paired F (l₁ ++ m₁) (l₂ ++ m₂)
  | _, _, _, _, .nil, q => q
  | _, _, _, _, .cons r t, q => .cons r (Paired.app t q)
theorem Paired.getL {α β : Type} {F : α → β → Prop} : ∀ {l₁ : List α} {l₂ : List β} {i : Nat} {a : α}, Paired F l₁ l₂ → l₁[i]? = some a → ∃ b, l₂[i]? = some b ∧ F a b
  | _, _, _, _, .nil, e => by simp at e
  | _, _, 0, _, .cons r t, e => by simp at e; subst e; exact ⟨_, rfl, r⟩
  | _, _, i + 1, a, .cons r t, e => by
    obtain ⟨b, h1, h2⟩ := Paired.getL (i := i) (a := a) t (by simpa using e)
    exact ⟨b, by simpa using h1, h2⟩
section
variable {H H' : Hp} {a : Addr} {ps : List Addr} {R : List (List V)}
theorem PicV.mono (p : PicV H a ps R) (s : Same H H') : PicV H' a ps R := ⟨s _ _ p.top, Paired.mapI p.row fun _ _ _ e => s _ _ e, p.nd, p.out⟩
theorem PicV.len (p : PicV H a ps R) : ps.length = R.length := Paired.length p.row
theorem PicV.at {i : Nat} {q : Addr} (p : PicV H a ps R) (h : ps[i]? = some q) : ∃ r, R[i]? = some r ∧ H q = some (.lst r) := Paired.getL p.row h
theorem PicV.mem (p : PicV H a ps R) {q : Addr} (hq : q ∈ ps) : ∃ r, r ∈ R ∧ H q = some (.lst r) := by
  obtain ⟨i, hi⟩ := List.mem_iff_getElem?.mp hq
  obtain ⟨r, hr, e⟩ := p.at hi
  exact ⟨r, List.mem_of_getElem? hr, e⟩
end
theorem comp_rows {J : It} {L : List V} {k : Nat} {te : TE} {D : Addr} {σ0 : St} {H : Hp} {Fn : Hp → Prop} (g : V → List V) (S : Src J L H) (hn : L.length ≤ sizeLine) (hD : H D = none)
    (he : ∀ x ∈ L, ∀ (H' : Hp) (Q : VK), Same H H' → (∀ q H'', Same H' H'' → H' q = none → H'' q = some (.lst (g x)) → Q (.ref q) H'') → te (σ0.set k (some x)) H' Q)
    (hd : ∀ ps H', Same H H' → Fresh H ps → PicV H' D ps (L.map g) → Fn H') :
    ∃ W : Nat → Nat → St → Hp → Prop, (∃ m, W 0 m σ0 (upd H D (.lst []))) ∧ ∀ i m σ' H', W i m σ' H' →
      (J.stop i H' ∧ Fn H') ∨ (J.go i H' ∧ ∃ N : St → Hp → Prop, (∀ σ2 H2, N σ2 H2 → ∃ m', m' < m ∧ W (i + 1) m' σ2 H2) ∧ ∀ x H2, J.yld i H' x H2 → gName k x σ' H2 fun σ3 H3 => tTrue σ3 H3 fun b H4 =>
        if b = true then te σ3 H4 fun v H5 => ∃ xs, H5 D = some (.lst xs) ∧ xs.length < sizeLine ∧ N σ3 (upd H5 D (.lst (xs ++ [v]))) else N σ3 H4) := by
  refine ⟨fun i m σ' H' => m = L.length - i ∧ i ≤ L.length ∧ (∀ y, σ'.set k y = σ0.set k y) ∧ Same H H' ∧ ∃ ps, Fresh H ps ∧ PicV H' D ps ((L.take i).map g), ⟨L.length, rfl, Nat.zero_le _, fun _ => rfl, same_new hD, [], (fun q h => nomatch h), ⟨by rw [upd_same]; rfl, .nil, List.nodup_nil, by simp⟩⟩, ?_⟩
  rintro i m σ' H' ⟨rfl, hi, hσ, sm, ps, fr, pic⟩
  by_cases hlt : i < L.length
  · have hx : L[i]? = some L[i] := by simp [hlt]
    obtain ⟨go, yl⟩ := (S H' sm).1 i _ hx
    refine .inr ⟨go, fun σ2 H2 => (∀ y, σ2.set k y = σ0.set k y) ∧ Same H H2 ∧ ∃ ps, Fresh H ps ∧ PicV H2 D ps ((L.take (i + 1)).map g), ?_, ?_⟩
    · rintro σ2 H2 ⟨q1, q2, q3⟩
      exact ⟨L.length - (i + 1), by omega, rfl, hlt, q1, q2, q3⟩
    · intro x H2 y
      obtain ⟨rfl, rfl⟩ := yl x H2 y
      simp only [gName, tTrue, if_true]
      rw [hσ]
      have hm : L[i] ∈ L := List.getElem_mem hlt
      have tk : L.take (i + 1) = L.take i ++ [L[i]] := by rw [List.take_add_one, hx]; rfl
      have hl : ps.length = i := by have := pic.len; rw [List.length_map, List.length_take] at this; omega
      refine he _ hm H2 _ sm fun q H5 s5 hq hq5 => ⟨_, s5 D _ pic.top, by rw [List.length_map, hl]; omega, fun y => by rw [List.set_set], same_upd (sm.trans s5) hD, ps ++ [q], ?_, ?_⟩
      · intro c hc
        rcases List.mem_append.mp hc with hc | hc
        · exact fr c hc
        · have e : c = q := by simpa using hc
          subst e
          exact sm.free hq
      · have nq : q ∉ ps := fun z => by
          obtain ⟨r, _, e⟩ := pic.mem z
          rw [hq] at e; cases e
        have nD : D ≠ q := ne_of_none pic.top hq
        refine ⟨by rw [upd_same, List.map_append]; rfl, ?_, ?_, ?_⟩
        · rw [tk, List.map_append]
          refine Paired.app (Paired.mapI pic.row fun c r hc e => ?_) (.cons ?_ .nil)
          · have ne : c ≠ D := fun z => pic.out (by rw [← z]; exact hc)
            rw [upd_ne ne]
            exact s5 _ _ e
          · rw [upd_ne (Ne.symm nD)]
            exact hq5
        · rw [List.nodup_append]
          exact ⟨pic.nd, by simp, fun c hc d hd z => by
            have e : d = q := by simpa using hd
            subst e; subst z
            exact nq hc⟩
        · intro z
          rcases List.mem_append.mp z with z | z
          · exact pic.out z
          · exact nD (by simpa using z)
  · have e : i = L.length := by omega
    subst e
    exact .inl ⟨(S H' sm).2, hd ps H' sm fr (by rw [List.take_length] at pic; exact pic)⟩
end L2
set_option Elab.async false
set_option linter.all false
set_option maxRecDepth 100000
namespace L2
open PySem PySem.Spec PyProof.Rows
section
variable {X : Cx} (K : PySem.W.Frag)
theorem ixK (h : X.K = K) : IxR X (rIxL K) := by subst h; exact ix_list
theorem slK (h : X.K = K) : SlR X (rSlL K) := by subst h; exact sl_list
theorem lenK (h : X.K = K) : CallR X (.builtin "len") (fun xs H Q => ∃ p ys, xs = [.ref p] ∧ (SqL K H p ys ∨ SqT K H p ys) ∧ Q (.int ys.length) H) := by subst h; exact call_len_seq
theorem listK (h : X.K = K) : CallR X (.type "list") (fun xs H Q => ∃ p ys, xs = [.ref p] ∧ (SqL K H p ys ∨ SqT K H p ys) ∧ ∀ l, H l = none → Q (.ref l) (upd H l (.lst ys))) := by subst h; exact call_list_of
theorem allK (h : X.K = K) (hc : X.calm = true) : CallR X (.builtin "all") (rAll K) := by subst h; exact call_all hc
theorem eqDK (h : X.K = K) (hu : X.A.units + 64 < cLine) : OpR X (compareOp .Eq) (rEqD K false) := by subst h; exact op_eqD hu
theorem neDK (h : X.K = K) (hu : X.A.units + 64 < cLine) : OpR X (compareOp .NotEq) (rEqD K true) := by subst h; exact op_neD hu
theorem piK {tg l : Expr} {tl : TE} (h : X.K = K) (hl : PE X l tl) : PI X tg l (iList K tl) := by subst h; exact pi_list hl
theorem isiK {e : Expr} {te : TE} {T : Str} {n : String} {p p2 pos : Pos} (h : X.K = K) (he : PE X e te) (h1 : Gl X "isinstance") (h2 : X.mg "isinstance" = none) (h3 : Gl X T) (h4 : X.mg T = none) (h5 : bootBuiltins T = some (.type n)) (h6 : T ≠ "__name__" := by decide) (h7 : (T == ("__debug__" : Str)) = false := by decide)
    (s1 : starEach [e, .Name T p2] X.env = (false, eval e X.env) :: starEach [.Name T p2] X.env := by rfl) (s2 : starEach [.Name T p2] X.env = (false, eval (.Name T p2) X.env) :: starEach [] X.env := by rfl) (hpl : (backTo pos (starEach [.Name T p2] X.env)).any (·.1) = false := by rfl) :
    PE X (.Call (.Name "isinstance" p) [e, .Name T p2] [] pos) (tCB (rIsX K) (tCons te (tCons (tC (.ty n)) tNil))) := by
  subst h; exact pe_isiX he h1 h2 h3 h4 h5 h6 h7 s1 s2 hpl
theorem isiCK {e : Expr} {te : TE} {T : Str} {C : Addr} {p p2 pos : Pos} (h : X.K = K) (he : PE X e te) (h1 : Gl X "isinstance") (h2 : X.mg "isinstance" = none) (h3 : Gl X T) (h4 : X.mg T = some (.ref C)) (h7 : (T == ("__debug__" : Str)) = false := by decide)
    (s1 : starEach [e, .Name T p2] X.env = (false, eval e X.env) :: starEach [.Name T p2] X.env := by rfl) (s2 : starEach [.Name T p2] X.env = (false, eval (.Name T p2) X.env) :: starEach [] X.env := by rfl) (hpl : (backTo pos (starEach [.Name T p2] X.env)).any (·.1) = false := by rfl) :
    PE X (.Call (.Name "isinstance" p) [e, .Name T p2] [] pos) (tCB (rIsX K) (tCons te (tCons (tC (.ref C)) tNil))) := by
  subst h; exact pe_isiC he h1 h2 h3 h4 h7 s1 s2 hpl
end
open C5
section
variable {X : Cx} {sc : Scope} {N : List Str} {src : List (Option Nat)}
end
end L2
namespace L2
open PySem
theorem exm_mk {K : PySem.W.Frag} {C F : Addr} (h1 : PySem.W.subIn K (.ref F) (.type "BaseException") = some true) (h2 : PySem.W.isClsIn K F = true) (h3 : PySem.W.typeIn K (.ref F) = some (.type "type")) (h4 : PySem.W.subIn K (.ref C) (.ref F) = some true) : PySem.W.exmOne K (.ref C) (.ref F) = some true := by
  unfold PySem.W.exmOne PySem.W.kitCls
  have h2' : (PySem.W.clsIn K F).isSome = true := h2
  rw [h1, if_pos (by decide)]
  dsimp only
  rw [h2', h3, if_pos (by simp), h4]
end L2
set_option Elab.async false
set_option linter.all false
set_option maxRecDepth 100000
namespace L2
open PySem PySem.Spec PyProof.Rows
section
variable {X : Cx}
end
end L2
set_option Elab.async false
set_option linter.all false
set_option maxRecDepth 100000
namespace L2
open PySem PySem.Spec PyProof.Rows
section
variable {X : Cx}
end
end L2
set_option Elab.async false
set_option linter.all false
set_option maxRecDepth 100000
namespace L2
open PySem PySem.Spec PyProof.Rows
section
variable {X : Cx} {tg : Expr}
end
end L2
namespace PySem
namespace F
end F
section
variable {prog : Program} {w : World} {A : Around} {E : Value → Shared → Prop} {s : Shared} {I l : Addr} {items : Array Value}
end
end PySem
namespace L2
open PySem PySem.Spec PyProof.Rows
section
variable {X : Cx}
end
end L2
set_option Elab.async false
set_option linter.all false
set_option maxRecDepth 100000
namespace L2
open PySem PySem.Spec PyProof.Rows
def Sl (e : Expr) : Prop := ∀ es env, starEach (e :: es) env = (false, eval e env) :: starEach es env
structure LitE (e : Expr) (t : TE) : Prop where
  pe : ∀ X : Cx, PE X e t
  sl : Sl e
structure LitA (es : List Expr) (t : TA) : Prop where
  pa : ∀ X : Cx, PA X es t
theorem la_nil : LitA [] tNil := ⟨fun _ => pa_nil⟩
theorem la_cons {e : Expr} {es : List Expr} {t : TE} {ts : TA} (h : LitE e t) (hs : LitA es ts) : LitA (e :: es) (tCons t ts) := ⟨fun X => pa_cons (h.pe X) (hs.pa X) (h.sl _ _)⟩
theorem lit_non {k : Nat} {p : Pos} : LitE (.Constant .none k p) (L2.tC .non) := ⟨fun _ => pe_non, fun _ _ => rfl⟩
theorem lit_int {n : Int} {k : Nat} {p : Pos} : LitE (.Constant (.int n) k p) (L2.tC (.int n)) := ⟨fun _ => pe_int, fun _ _ => rfl⟩
theorem lit_str {x : Str} {k : Nat} {p : Pos} : LitE (.Constant (.str x) k p) (L2.tC (.str x)) := ⟨fun _ => pe_str, fun _ _ => rfl⟩
theorem lit_lst {es : List Expr} {ts : TA} {p : Pos} (h : LitA es ts) : LitE (.List es p) (tLst ts) := ⟨fun X => pe_lst (h.pa X), fun _ _ => rfl⟩
theorem drop_at {α : Type} {l : List α} {n : Nat} {x : α} (h : l[n]? = some x) (m : Nat) (hm : n + 1 = m) : l.drop n = x :: l.drop m := by
  subst hm
  obtain ⟨hlt, rfl⟩ := List.getElem?_eq_some_iff.mp h
  exact List.drop_eq_getElem_cons hlt
theorem pss_at {X : Cx} {body : List Stmt} {n : Nat} {st : Stmt} {t u : TS} (m : Nat) (h : body[n]? = some st) (hm : n + 1 = m) (h1 : PS X st t) (h2 : PSs X (body.drop m) u) : PSs X (body.drop n) (tSeq t u) := by
  rw [drop_at h m hm]; exact pss_cons h1 h2
end L2
set_option Elab.async false
set_option linter.all false
set_option maxRecDepth 100000
namespace L2
open PySem PySem.Spec PyProof.Rows
section
variable {X : Cx} {tg : Expr}
end
section
variable {X : Cx}
end
end L2
namespace L2
open PySem
end L2
namespace L2
open PySem PySem.Spec PyProof.Rows
end L2
set_option Elab.async false
set_option linter.all false
set_option maxRecDepth 100000
namespace L2
open PySem PySem.Spec PyProof.Rows
section
variable {X : Cx}
end
end L2
set_option Elab.async false
set_option linter.all false
set_option maxRecDepth 100000
namespace L2
open PySem PySem.Spec PyProof.Rows
section
variable {X : Cx}
end
end L2
set_option Elab.async false
set_option linter.all false
namespace L2
open PySem PySem.Spec PyProof.Rows
section
variable {X : Cx} {e : Expr} {te : TE} {e3 : Expr} {ts : TO} {pos p2 : Pos}
end
end L2
set_option Elab.async false
set_option linter.all false
set_option maxRecDepth 100000
namespace L2
open PySem PySem.Spec PyProof.Rows
structure DefA (P : Program) (w : World) (K : PySem.W.Frag) (mg : Str → Option Value) (base : Heap) (k : Nat) (f : Addr) (ps : List Str) (ds : List V) (sp : Sp) : Prop where
  ex : ∃ (fd : FuncData) (dvs : List Value), FnOk P w K mg base CX0 k f fd ps sp ∧ PySem.W.keepIn K (.ref f) = true ∧ Binds K fd ps dvs ∧ Vals ds dvs
section
variable {P : Program} {w : World} {K : PySem.W.Frag} {mg : Str → Option Value} {base : Heap}
theorem FunD.defA {x qual : Str} {st : Stmt} {f : Addr} {fd : FuncData} {ps : List Str} {k : Nat} {sp : Sp} (F : FunD K x qual st .none f fd) (G : FnOk P w K mg base CX0 k f fd ps sp)
    (h : ∀ (kV doc pm : Value) (an : Option Addr) (cdv ct : Value) (us : List Value), us.length = ps.length → bindArgs (PySem.W.fnOf x qual (defArgs st) (defBody st) (defScope st) .none kV doc pm an cdv ct) ⟨us, []⟩ = pure (ps.zip us)) : DefA P w K mg base k f ps [] sp := by
  obtain ⟨oc, od, kV, doc, pm, an, cdv, ct, osl, rfl, lk, hcd⟩ := F.ex
  exact ⟨_, [], G, F.kp, .all (h kV doc pm an cdv ct), .nil⟩
end
section
variable {X : Cx}
theorem ld_var {E : Value → Shared → Prop} {pins : List (Addr × Obj)} {s : Shared} {σ : St} {H : Hp} {i : Nat} {x : Str} {v : V} {pos : Pos} {Q : Value → Shared → Prop} (I : Inv X pins σ H s) (hN : X.N[i]? = some x) (hv : Vis X.env.scope x) (e : σ[i]? = some (some v)) (h : ∀ u, RelV v u → Q u s)
    (hd : (x == ("__debug__" : Str)) = false := by decide) (hcd : (x == ("__classdict__" : Str)) = false := by decide) : wpAny (model X.prog X.w) X.A (eval (.Name x pos) X.env) Q E s := by
  obtain ⟨m, hn, hl⟩ := I.loc
  obtain ⟨u, r, l⟩ := hl i x v hN e hv
  have fin := h u r
  rcases l with ⟨hk, hm⟩ | ⟨hk, c, hc, hcell⟩
  · exact wpAny_Name (wpAny_loadName_local I.ok.kind hk hn hm fin) hd
  · rcases hk with hk | hk
    · exact wpAny_Name (wpAny_loadName_cell I.ok.kind hk hc hcell fin) hd
    · exact wpAny_Name (wpAny_loadName_free I.ok.kind hk hc hcell fin hcd) hd
def tCallV (i : Nat) (f : Addr) (sp : Sp) (dvs : List V) (E : XK) (t : TA) : TE := fun σ H Q => σ[i]? = some (some (.ref f)) ∧ tCall sp dvs E t σ H Q
theorem pe_callV (i : Nat) {k : Nat} {x : Str} {f : Addr} {ps : List Str} {ds : List V} {sp : Sp} {e : Expr} {es : List Expr} {t : TA} {p pos : Pos} (D : DefA X.prog X.w X.K X.mg X.base k f ps ds sp) (hr : Room k X.A) (ha : PA X (e :: es) t)
    (hN : X.N[i]? = some x := by rfl) (hv : Vis X.env.scope x := by first | exact Or.inl rfl | exact Or.inr (Or.inl rfl) | exact Or.inr (Or.inr rfl)) (hdb : (x == ("__debug__" : Str)) = false := by decide) (hcd : (x == ("__classdict__" : Str)) = false := by decide)
    (he : starEach (e :: es) X.env = (false, eval e X.env) :: starEach es X.env := by rfl) (hpl : (backTo pos (starEach es X.env)).any (·.1) = false := by rfl) :
    PE X (.Call (.Name x p) (e :: es) [] pos) (tCallV i f sp ds E0 t) := by
  obtain ⟨fd, dvs, F, hk, hb, hd⟩ := D.ex
  intro pins s σ H Q I ⟨hi, h⟩
  refine wpAny_Call_Name_kw (ld_var I hN hv hi (fun u r => ?_) hdb hcd)
  obtain rfl : u = Value.ref f := r
  refine PySem.W.callWith_K (h₀ := X.base) I.ok.mod.kin hk (thn (ha pos pins s σ H _ I h) fun us s1 ⟨vs, H1, I1, r, q⟩ => ⟨I1.kIn, ?_⟩) he hpl
  exact run_fn F hr hb hd pass0 I1 r q
end
end L2
set_option Elab.async false
set_option linter.all false
set_option maxRecDepth 100000
namespace L2
open PySem PySem.Spec PyProof.Rows
def CodeO (c : Addr) (qual : Str) : HO := .ext fun h => h.CodeRec (.ref c) qual
def BMain (mg : Str → Option Value) (base : Heap) : Prop := ∃ bm ob, mg "__builtins__" = some (.ref bm) ∧ bm ≠ builtinsNs ∧ base.get? bm = some ob ∧ ob.cls = .type "module" ∧ ob.dict = some builtinsNs ∧ ob.data = .plain
section
variable {P : Program} {w : World} {H : Hp} {h : Heap}
theorem codeO_ok {c : Addr} {qual : Str} (e : h.CodeRec (.ref c) qual) : ObjOk P w H h c (CodeO c qual) := by
  obtain ⟨c2, oc, vs, t, e2, hoc, hd, hv⟩ := id e
  cases e2
  exact ⟨e, ⟨oc, hoc⟩, fun h1 h2 ⟨c3, o3, v3, t3, e3, f1, f2, f3⟩ k => by cases e3; exact ⟨_, o3, v3, t3, rfl, k _ f1, f2, f3⟩⟩
end
section
variable {X : Cx}
end
end L2
set_option Elab.async false
set_option linter.all false
set_option maxRecDepth 100000
namespace L2
open PySem PySem.Spec PyProof.Rows
section
variable {P : Program} {w : World} {K : PySem.W.Frag} {mg : Str → Option Value} {base : Heap}
end
section
variable {X : Cx}
end
end L2
set_option Elab.async false
set_option linter.all false
set_option maxRecDepth 100000
namespace L2
open PySem PySem.Spec PyProof.Rows
section
variable {P : Program} {w : World} {K : PySem.W.Frag} {mg : Str → Option Value} {base : Heap}
theorem FunD.okT {x qual : Str} {st : Stmt} {dV : Value} {f c : Addr} {fd : FuncData} {N ps : List Str} {k : Nat} {sp : Sp} (F : FunD K x qual st dV f fd) (hc : fd.code = .ref c) (S : FnScope N ps (defScope st)) (len : ∀ vs H Q E, sp vs H Q E → vs.length = ps.length)
    (hbody : ∀ (cdv : Value) (hcdv : cdv = .ref c) (A : Around) (outer : List Env) (s : Shared) (H : Hp) (vs : List V) (Q : VK) (E : XK), Room k (A.deeper (envOfC qual (defScope st) s.heap.objs.size f cdv)) → sp vs H Q E →
      ∃ t, PSs (cxOf CX0 P w K mg base N qual (defScope st) f cdv A outer s H E).nox (defBody st) t ∧ t { nx := fun _ H' => Q .non H', rt := Q } (start N vs) H) : FnOk P w K mg base CX0 (k + 1) f fd ps sp := by
  obtain ⟨oc, od, kV, doc, pm, an, cdv, ct, osl, rfl, lk, hcd⟩ := F.ex
  refine fn_of lk hcd S len fun A outer s H vs Q E hr hsp => ?_
  obtain ⟨t, h, q⟩ := hbody cdv hc A outer s H vs Q E hr hsp
  exact ⟨t, h.nox, q⟩
end
theorem law_callT {P : Program} {w : World} {K : PySem.W.Frag} {mg mb : Str → Option Value} {CX : CXT} {k : Nat} {fa a : Addr} {fd : FuncData} {x : Str} {sp : Sp} {s₁ : Shared} {vs : List Value} {ns : List Int} {ts : List Addr}
    (KX : K.In s₁.heap) (hns : s₁.heap.Ns mainGlobals mg) (hb : s₁.heap.Ns builtinsNs mb) (hbb : ∀ x : Str, x ≠ "__name__" → mb x = bootBuiltins x) (hlim : s₁.heap.NoLimit) (hg : s₁.gens = #[])
    (hBM : BMain mg s₁.heap) (hT : ∀ p ∈ ts, s₁.heap.get? p = some (PySem.W.tabObj #[])) (hC : ∀ p ∈ ts, ∃ c, PySem.W.codeHdIn K c p = true) (hNT : PySem.W.noTabs K = true)
    (ha : s₁.heap.get? a = some { cls := .type "list", data := .seq vs.toArray }) (hi : IntsAre vs ns) (hl : ns.length ≤ sizeLine) (hr : Room k callerA)
    (F : ∀ base : Heap, K.In base → base.Ns mainGlobals mg → BMain mg base → FnOk P w K mg base CX k fa fd [x] sp) (hbind : ∀ (s : Shared) (u : Value), BindsTo s fd ⟨[u], []⟩ [(x, u)])
    (hsp : ∀ H : Hp, (∀ p ∈ ts, H p = some (.tbl #[])) → SqL K H a (ns.map V.int) → sp [.ref a] H (fun v _ => v = .bl true) fun _ _ _ => False)
    (hCX : ∀ H e s', CX [] H s₁ (fun _ _ _ => False) e s' → False) :
    codeAny (model P w) callerA (.call (.ref fa) ⟨[.ref a], []⟩) (fun r s' => r = .ok (.ret (.bool true)) ∧ OldK s₁.heap s'.heap ∧ s'.os = s₁.os ∧ AllBare s'.gens) s₁ := by
  have rv := vals_ints hi
  have lenV := hi.length
  have nat : a ∉ ts := fun z => by
    have := hT a z
    rw [ha] at this; cases this
  have core : ∀ H : Hp, (∀ b, H b = none ∨ (∃ o xs, H b = some (.frz o (.lst xs))) ∨ (H b = some (.tbl #[]) ∧ b ∈ ts)) → (∀ p ∈ ts, H p = some (.tbl #[])) → SqL K H a (ns.map V.int) → HOk P w H s₁.heap → (∀ b, H b ≠ none → b = a ∨ b ∈ ts) → (H a ≠ none → K.lookup a = none) →
      codeAny (model P w) callerA (.call (.ref fa) ⟨[.ref a], []⟩) (fun r s' => r = .ok (.ret (.bool true)) ∧ OldK s₁.heap s'.heap ∧ s'.os = s₁.os ∧ AllBare s'.gens) s₁ := by
    intro H hO hTs hS hok hA hK
    have base_of : ∀ {b : Addr} {o : Obj}, s₁.heap.get? b = some o → H b = none → (hidT s₁.heap H).get? b = some o := fun e n => hidT_get e n
    have noB : ∀ {b : Addr} {o : Obj}, s₁.heap.get? b = some o → o ≠ { cls := .type "list", data := .seq vs.toArray } → o ≠ PySem.W.tabObj #[] → H b = none := fun {b o} e n1 n2 => by
      cases q : H b with
      | none => rfl
      | some u =>
        rcases hA b (by rw [q]; simp) with e' | e'
        · subst e'
          rw [ha] at e; cases e
          exact absurd rfl n1
        · have := hT b e'
          rw [e] at this; cases this
          exact absurd rfl n2
    have nsK : ∀ {b : Addr} {m : Str → Option Value}, s₁.heap.Ns b m → (hidT s₁.heap H).Ns b m := fun {b m} ⟨o, es, ep, e, d, r⟩ => ⟨o, es, ep, base_of e (noB e (fun z => by rw [z] at d; cases d) (fun z => by rw [z] at d; cases d)), d, r⟩
    have hKb : K.In (hidT s₁.heap H) := fun b o e => base_of (KX b o e) (by
      cases q : H b with
      | none => rfl
      | some u =>
        rcases hA b (by rw [q]; simp) with e' | e'
        · subst e'
          rw [hK (by rw [q]; simp)] at e; cases e
        · have e3 := hT b e'
          rw [KX b o e] at e3; cases e3
          have h2 := List.all_eq_true.mp hNT (b, _) (PySem.W.mem_of_lookupK e)
          exact absurd (show false = true from h2) Bool.false_ne_true)
    have hBMb : BMain mg (hidT s₁.heap H) := by
      obtain ⟨bm, ob, b1, b2, b3, b4, b5, b6⟩ := hBM
      exact ⟨bm, ob, b1, b2, base_of b3 (noB b3 (fun z => by rw [z] at b6; cases b6) (fun z => by rw [z] at b6; cases b6)), b4, b5, b6⟩
    have hM : Mod K mg (hidT s₁.heap H) := ⟨hKb, nsK hns, ⟨mb, nsK hb, hbb⟩, let ⟨mc, h1, h2⟩ := hlim; ⟨mc, nsK h1, h2⟩⟩
    have e0 : Env0 P w K mg (hidT s₁.heap H) callerA [] s₁ H := ⟨rfl, hM, fun b o e => of_hidT e, Nat.le_of_eq (hidT_size _ _), trivial, fun b hb => absurd (show b ∈ ([] : List Addr) from hb) (by simp), hok, .of_eq hg⟩
    refine codeAny_mono ((F _ hKb (nsK hns) hBMb).run callerA [] s₁ H ⟨[.ref a], []⟩ [.ref a] [.ref a] _ _ hr e0 (hbind s₁ (.ref a)) (.cons rfl .nil) (hsp H hTs hS)) fun r s' h => ?_
    cases r with
    | error e => exact (hCX H e s' h).elim
    | ok fl =>
      cases fl with
      | next => exact False.elim h
      | brk => exact False.elim h
      | cont => exact False.elim h
      | ret u =>
        obtain ⟨v, H', os, bare, un, hok', r', q⟩ := h
        have q' : v = .bl true := q
        subst q'
        obtain rfl : u = Value.bool true := r'
        have kept : ∀ b o, b ∉ ts → s₁.heap.get? b = some o → s'.heap.get? b = some o := fun b o nb e => by
          cases q : H b with
          | none => exact un.keep b o e q (by intro z; exact absurd (show b ∈ ([] : List Addr) from z) (by simp)) (by simp)
          | some u =>
            rcases hO b with z | ⟨ob, xs, z⟩ | ⟨_, z⟩
            · rw [q] at z; cases z
            · have z2 := un.frzs b ob _ z
              obtain ⟨e1, _⟩ := hok b _ z
              obtain ⟨e2, _⟩ := hok' b _ z2
              rw [e] at e1; cases e1
              exact e2
            · exact absurd z nb
        have grown : ∀ b ∈ ts, ∃ more : Array Value, s'.heap.get? b = some (PySem.W.tabObj (#[] ++ more)) := fun b hb => by
          obtain ⟨more, z⟩ := un.tbls b _ (hTs b hb)
          exact ⟨more, hok' b _ z⟩
        refine ⟨rfl, ⟨fun b o e => ?_, fun b o e => ?_⟩, os, bare⟩
        · by_cases hbt : b ∈ ts
          · obtain ⟨more, z⟩ := grown b hbt
            have e2 := hT b hbt
            rw [e] at e2; cases e2
            obtain ⟨c, hc⟩ := hC b hbt
            exact .inr (.inl ⟨((PySem.W.codeHd_of_K KX hc).tab (hT b hbt)).isCodeTable, rfl, #[], more, rfl, z⟩)
          · exact .inl (kept b o hbt e)
        · by_cases hbt : b ∈ ts
          · obtain ⟨more, z⟩ := grown b hbt
            exact ⟨_, z⟩
          · exact ⟨o, kept b o hbt e⟩
  cases hk : K.lookup a with
  | some o =>
    have e := KX a o hk
    rw [ha] at e
    cases e
    refine core (fun b => if b ∈ ts then some (.tbl #[]) else none) (fun b => ?_) (fun p hp => if_pos hp) (.inr ⟨_, vs.toArray, _, hk, rfl, rfl, rfl, by rw [List.size_toArray, lenV]; exact hl, by simpa using rv⟩) (fun b u z => ?_) (fun b z => ?_) fun z => absurd (if_neg nat) z
    · by_cases hb : b ∈ ts
      · exact .inr (.inr ⟨if_pos hb, hb⟩)
      · exact .inl (if_neg hb)
    · by_cases hb : b ∈ ts
      · have z' := (if_pos hb).symm.trans z
        cases z'
        exact hT b hb
      · have z' := (if_neg hb).symm.trans z
        cases z'
    · by_cases hb : b ∈ ts
      · exact .inr hb
      · exact absurd (if_neg hb) z
  | none =>
    have ifa : ∀ b, b = a → (if b = a then some (HO.frz { cls := .type "list", data := .seq vs.toArray } (.lst (ns.map V.int))) else if b ∈ ts then some (.tbl #[]) else none) = some (HO.frz { cls := .type "list", data := .seq vs.toArray } (.lst (ns.map V.int))) := fun b hb => if_pos hb
    have ift : ∀ b, b ∈ ts → (if b = a then some (HO.frz { cls := .type "list", data := .seq vs.toArray } (.lst (ns.map V.int))) else if b ∈ ts then some (.tbl #[]) else none) = some (HO.tbl #[]) := fun b hb => by
      have nb : ¬ b = a := fun z => nat (by rw [← z]; exact hb)
      rw [if_neg nb, if_pos hb]
    have ifn : ∀ b, b ≠ a → b ∉ ts → (if b = a then some (HO.frz { cls := .type "list", data := .seq vs.toArray } (.lst (ns.map V.int))) else if b ∈ ts then some (.tbl #[]) else none) = none := fun b n1 n2 => by
      rw [if_neg n1, if_neg n2]
    refine core (fun b => if b = a then some (.frz { cls := .type "list", data := .seq vs.toArray } (.lst (ns.map V.int))) else if b ∈ ts then some (.tbl #[]) else none) (fun b => ?_) (fun p hp => ift p hp) (.inl (.inr ⟨{ cls := .type "list", data := .seq vs.toArray }, ifa a rfl⟩)) (fun b u z => ?_) (fun b z => ?_) fun _ => hk
    · by_cases hb : b = a
      · exact .inr (.inl ⟨_, _, ifa b hb⟩)
      · by_cases ht : b ∈ ts
        · exact .inr (.inr ⟨ift b ht, ht⟩)
        · exact .inl (ifn b hb ht)
    · by_cases hb : b = a
      · have z' := (ifa b hb).symm.trans z
        cases z'
        subst hb
        exact ⟨ha, by rw [List.length_map]; exact hl, vs, _, rv, ha⟩
      · by_cases ht : b ∈ ts
        · have z' := (ift b ht).symm.trans z
          cases z'
          exact hT b ht
        · have z' := (ifn b hb ht).symm.trans z
          cases z'
    · by_cases hb : b = a
      · exact .inl hb
      · by_cases ht : b ∈ ts
        · exact .inr ht
        · exact absurd (ifn b hb ht) z
theorem walk_ofT {l : PySem.W.OpenLaw} {n k : Nat} {q : Program} {loose : List Str} {XP : (Str → Option Value) → Heap → Prop} {YP : World → Heap → Prop} {d : DefRec} {K : Params → PySem.W.Frag} {CX : CXT} {sp : PySem.W.Frag → Sp} {x : Str} {ts : List Addr}
    (hn : l.most = some n) (hn2 : n ≤ sizeLine) (hdf : d.params.defaults = []) (hr : Room k callerA)
    (hY : ∀ (w : World) (h : Heap), YP w h → (K w.params).In h) (hT : ∀ (w : World) (h : Heap), YP w h → ∀ p ∈ ts, h.get? p = some (PySem.W.tabObj #[]))
    (hC : ∀ (w : World), ∀ p ∈ ts, ∃ c, PySem.W.codeHdIn (K w.params) c p = true) (hNT : ∀ w : World, PySem.W.noTabs (K w.params) = true)
    (F : ∀ (w : World) (mg : Str → Option Value) (fa : Addr) (h : Heap), (K w.params).In h → h.Ns mainGlobals mg → mg d.name = some (.ref fa) →
      ∃ fd : FuncData, (∀ (s : Shared) (u : Value), BindsTo s fd ⟨[u], []⟩ [(x, u)]) ∧
        ∀ base : Heap, (K w.params).In base → base.Ns mainGlobals mg → BMain mg base → FnOk l.prog w (K w.params) mg base CX k fa fd [x] (sp (K w.params)))
    (hsp : ∀ (K : PySem.W.Frag) (H : Hp) (a : Addr) (ns : List Int), ns.length ≤ n → (∀ x ∈ ns, Builtin.Int.intBits x ≤ 2 ^ 20) → (∀ p ∈ ts, H p = some (.tbl #[])) → SqL K H a (ns.map V.int) → sp K [.ref a] H (fun v _ => v = .bl true) fun _ _ _ => False)
    (hCX : ∀ (H : Hp) (s : Shared) (e : Value) (s' : Shared), CX [] H s (fun _ _ _ => False) e s' → False) :
    PySem.W.WalkO q loose XP YP l.row.toRowW d [] (fun f vs => PySem.call f vs) := by
  refine Att.attach_callB hn hdf fun w s₀ s₁ mg mb fa o pm cd doc a vs ns G Y ho hd hcd hmg hobj hints hlen hbits hg => ?_
  have KX := hY w _ Y
  obtain ⟨fd, hb, hF⟩ := F w mg fa _ KX G.T.g hmg
  exact law_callT KX G.T.g G.T.b G.T.builtins G.T.nolimit hg G.T.bmain (hT w _ Y) (hC w) (hNT w) hobj hints (Nat.le_trans hlen hn2) hr hF hb (fun H hO hS => hsp (K w.params) H a ns hlen hbits hO hS) fun H e s' => hCX H s₁ e s'
end L2
set_option Elab.async false
set_option linter.all false
set_option maxRecDepth 100000
namespace L2
open PySem PySem.Spec PyProof.Rows C5
section
variable {X : Cx} {Ec : XK}
end
section
variable {M : Model} {A : Around} {E : Value → Shared → Prop} {s : Shared} {B : Heap} {env : Env} {outer : List Env} {L ea : Addr} {cls a0 fl : Value} {Q : Unit → Shared → Prop}
end
section
variable {P : Program} {w : World} {K : PySem.W.Frag} {mg : Str → Option Value} {base : Heap} {N : List Str} {qual : Str} {scope : Scope} {f : Addr} {cd : Value} {A : Around} {outer : List Env} {s₀ : Shared} {H₀ : Hp} {E : XK}
end
end L2
set_option Elab.async false
set_option linter.all false
set_option maxRecDepth 100000
namespace C5
open PySem
section
variable {prog : Program} {w : World} {A : Around} {R : Result → Shared → Prop} {s : Shared}
end
end C5
namespace L2
open PySem PySem.Spec PyProof.Rows C5
section
variable {X : Cx} {pins : List (Addr × Obj)} {σ : St} {H : Hp} {s : Shared} {sc : Scope} {N : List Str} {src : List (Option Nat)}
end
end L2
set_option Elab.async false
set_option linter.all false
set_option maxRecDepth 100000
namespace L2
open PySem PySem.Spec PyProof.Rows
section
variable {K : PySem.W.Frag} {H : Hp} {k1 k2 : Nat}
end
end L2
set_option Elab.async false
set_option linter.all false
set_option maxRecDepth 100000
namespace PySem
open Sem (wp)
open AutoSeq1 (wpAny_loadPart')
section
variable {prog : Program} {w : World} {A : Around} {E : Value → Shared → Prop} {s : Shared}
end
section
variable {prog : Program} {w : World} {A : Around} {E : Value → Shared → Prop} {s : Shared}
end
section
variable {prog : Program} {w : World} {A : Around} {E : Value → Shared → Prop} {s : Shared}
end
end PySem
namespace L2
open PySem PySem.Spec PyProof.Rows
section
variable {X : Cx}
end
section
variable {K : PySem.W.Frag} {H : Hp} {k1 k2 : Nat}
end
end L2
set_option Elab.async false
set_option linter.all false
set_option maxRecDepth 100000
namespace L2
open PySem PySem.Spec PyProof.Rows
section
variable {K : PySem.W.Frag}
variable {H : Hp} {x : V}
end
section
variable {X : Cx}
end
end L2
set_option Elab.async false
set_option linter.all false
set_option maxRecDepth 100000
namespace L2
open PySem PySem.Spec PyProof.Rows
section
variable {P : Program} {w : World} {K : PySem.W.Frag} {mg : Str → Option Value} {base : Heap}
end
section
variable {X : Cx}
end
end L2
set_option Elab.async false
set_option linter.all false
set_option maxRecDepth 100000
namespace L2
open PySem PySem.Spec PyProof.Rows
set_option maxHeartbeats 1600000
section
variable {X : Cx}
end
end L2
set_option Elab.async false
set_option linter.all false
set_option maxRecDepth 100000
namespace L2
open PySem PySem.Spec PyProof.Rows
section
variable {X : Cx}
end
end L2
set_option Elab.async false
set_option linter.all false
set_option maxRecDepth 100000
namespace L2
open PySem PySem.Spec PyProof.Rows
section
variable {X : Cx}
end
def ButL (ts : List Addr) (H H' : Hp) : Prop := ∀ b o, b ∉ ts → H b = some o → H' b = some o
theorem ButL.of {ts : List Addr} {H H' : Hp} (s : Same H H') : ButL ts H H' := fun b o _ e => s b o e
theorem ButL.trans {ts : List Addr} {H H1 H2 : Hp} (a : ButL ts H H1) (b : ButL ts H1 H2) : ButL ts H H2 := fun c o n e => b c o n (a c o n e)
end L2
set_option Elab.async false
set_option linter.all false
set_option maxRecDepth 100000
namespace L2
open PySem PySem.Spec PyProof.Rows
def clOf (cells : List (Str × Addr)) : List (Str × NameKind) → List (Str × Addr) → List (Str × Addr)
  | [], acc => acc
  | (n, k) :: r, acc => if k == .free then clOf cells r ((n, (cells.lookup n).getD 0) :: acc) else clOf cells r acc
def FreeHas (sc : Scope) (cells : List (Str × Addr)) : Prop := ∀ x, (x, NameKind.free) ∈ sc.names → ∃ c, cells.lookup x = some c
theorem closure_go {env : Env} (f : Str × NameKind → List (Str × Addr) → Sem (ForInStep (List (Str × Addr)))) (h1 : ∀ n r, f (n, .free) r = (do let c ← cellOf env n; pure (.yield ((n, c) :: r)))) (h2 : ∀ n k r, (k == NameKind.free) = false → f (n, k) r = pure (.yield r)) :
    ∀ (l : List (Str × NameKind)) (acc : List (Str × Addr)), (∀ x, (x, NameKind.free) ∈ l → ∃ c, env.cells.lookup x = some c) → forIn l acc f = pure (clOf env.cells l acc)
  | [], acc, _ => rfl
  | (n, k) :: r, acc, h => by
    rw [List.forIn_cons]
    unfold clOf
    cases hk : k == NameKind.free with
    | true =>
      have e : k = .free := by simpa using hk
      subst e
      obtain ⟨c, hc⟩ := h n List.mem_cons_self
      have hcell : cellOf env n = pure c := by unfold cellOf; rw [hc]
      rw [h1, hcell, if_pos rfl, hc]
      simp only [pure_bind, Option.getD_some]
      exact closure_go f h1 h2 r _ fun x hx => h x (List.mem_cons_of_mem _ hx)
    | false =>
      rw [h2 _ _ _ hk, pure_bind]
      simp only [Bool.false_eq_true, if_false]
      exact closure_go f h1 h2 r _ fun x hx => h x (List.mem_cons_of_mem _ hx)
theorem closureFor_eq {sc : Scope} {env : Env} (h : FreeHas sc env.cells) : closureFor sc env = pure (clOf env.cells sc.names []) := by
  unfold closureFor
  dsimp only
  rw [closure_go (env := env) _ (fun n r => rfl) (fun n k r hk => by simp only [hk, Bool.false_eq_true, if_false]) sc.names [] h]
  rfl
theorem clOf_get {cells : List (Str × Addr)} {x : Str} {c : Addr} : ∀ (l : List (Str × NameKind)) (acc : List (Str × Addr)), (∀ x, (x, NameKind.free) ∈ l → ∃ c, cells.lookup x = some c) → (∀ x c, acc.lookup x = some c → cells.lookup x = some c) → (clOf cells l acc).lookup x = some c → cells.lookup x = some c
  | [], acc, _, ha, h => ha x c h
  | (n, k) :: r, acc, hl, ha, h => by
    unfold clOf at h
    cases hk : k == NameKind.free with
    | true =>
      have e : k = .free := by simpa using hk
      subst e
      rw [if_pos hk] at h
      obtain ⟨d, hd⟩ := hl n List.mem_cons_self
      refine clOf_get r _ (fun y hy => hl y (List.mem_cons_of_mem _ hy)) (fun y c' hy => ?_) h
      rw [hd, Option.getD_some, List.lookup_cons] at hy
      cases hyn : y == n with
      | true =>
        rw [hyn] at hy
        have e : y = n := by simpa using hyn
        rw [e, hd]; exact hy
      | false =>
        rw [hyn] at hy
        exact ha y c' hy
    | false =>
      rw [hk] at h
      simp only [Bool.false_eq_true, if_false] at h
      exact clOf_get r _ (fun y hy => hl y (List.mem_cons_of_mem _ hy)) ha h
theorem clOf_has {cells : List (Str × Addr)} {x : Str} : ∀ (l : List (Str × NameKind)) (acc : List (Str × Addr)), ((∃ c, acc.lookup x = some c) ∨ (x, NameKind.free) ∈ l) → ∃ c, (clOf cells l acc).lookup x = some c
  | [], acc, h => h.elim id fun z => nomatch z
  | (n, k) :: r, acc, h => by
    unfold clOf
    cases hk : k == NameKind.free with
    | true =>
      have e : k = .free := by simpa using hk
      subst e
      rw [if_pos rfl]
      refine clOf_has r _ ?_
      by_cases hx : x = n
      · exact .inl ⟨(cells.lookup n).getD 0, by rw [hx, List.lookup_cons]; simp⟩
      · rcases h with ⟨c, h⟩ | h
        · refine .inl ⟨c, ?_⟩
          have : (x == n) = false := by simpa using hx
          rw [List.lookup_cons, this]; exact h
        · rcases List.mem_cons.mp h with z | z
          · cases z; exact absurd rfl hx
          · exact .inr z
    | false =>
      simp only [Bool.false_eq_true, if_false]
      refine clOf_has r _ ?_
      rcases h with h | h
      · exact .inl h
      · rcases List.mem_cons.mp h with z | z
        · cases z; cases hk
        · exact .inr z
structure LamW where
  prm : Arguments
  body : Expr
  sc : Scope
  qual : Str
  cl : List (Str × Addr)
  dV : Value
  c : Addr
abbrev LamW.fn (L : LamW) (doc pm ctv : Value) : FuncData := PySem.W.kdv_fn "<lambda>" L.qual L.prm (.expr L.body) L.sc L.cl L.dV doc pm (.ref L.c) ctv
def LamOC (f : Addr) (L : LamW) : HO := .ext fun h => ∃ doc pm ctv, h.get? f = some (PySem.W.kdv_obj "<lambda>" L.qual L.prm (.expr L.body) L.sc L.cl L.dV doc pm L.c ctv)
theorem lamOC_ok {P : Program} {w : World} {H : Hp} {h : Heap} {f : Addr} {L : LamW} {doc pm ctv : Value} (e : h.get? f = some (PySem.W.kdv_obj "<lambda>" L.qual L.prm (.expr L.body) L.sc L.cl L.dV doc pm L.c ctv)) : ObjOk P w H h f (LamOC f L) :=
  ⟨⟨doc, pm, ctv, e⟩, ⟨_, e⟩, fun h1 h2 ⟨doc, pm, ctv, e⟩ k => ⟨doc, pm, ctv, k _ e⟩⟩
def tLamW (P : Addr) (pos : Pos) (qual : Str) (W : Addr → LamW) (H : Hp) (Q : VK) : Prop := ∃ ps : Array Value, H P = some (.tbl ps) ∧ TriplesOk ps.toList ∧
  ((codeAmong pos ps.toList = none ∧ ∀ c' f, H c' = none → H f = none → c' ≠ f → c' ≠ P → f ≠ P → Q (.ref f) (upd (upd (upd H P (.tbl (ps ++ #[rawInt pos.line, rawInt pos.col, .ref c']))) c' (CodeO c' qual)) f (LamOC f (W c'))))
  ∨ (∃ c', codeAmong pos ps.toList = some (.ref c') ∧ H c' = some (CodeO c' qual) ∧ ∀ f, H f = none → Q (.ref f) (upd H f (LamOC f (W c')))))
section
variable {X : Cx}
theorem lam_core {prm : Arguments} {body : Expr} {sc : Scope} {pos : Pos} {c P : Addr} {dV : Value} {clos : List (Str × Addr)} {pins : List (Addr × Obj)} {s : Shared} {σ : St} {H : Hp} {Q : VK} {ln : Nat} (hcode : X.env.code = .ref c) (C : PySem.W.CodeHd X.base c P) (hB : BMain X.mg X.base) (hcl : closureFor sc X.env = pure clos)
    (I : Inv X pins σ H s) (h : tLamW P pos (X.env.qual ++ "<lambda>") (fun c' => ⟨prm, body, sc, X.env.qual ++ "<lambda>", clos, dV, c'⟩) H Q) :
    wpAny (model X.prog X.w) X.A (makeTail "<lambda>" (X.env.qual ++ "<lambda>") prm (.expr body) sc X.env dV .none none pos ln) (EP X pins σ Q) X.xe s := by
  obtain ⟨ps, hP, ht, h⟩ := h
  have eP : s.heap.get? P = some (PySem.W.tabObj ps) := I.hok P _ hP
  have Cs : PySem.W.CodeHd s.heap c P := C.keeps I.bk
  have nb : ∀ b o, X.base.get? b = some o → b ≠ P := fun b o e z => by
    have := (I.bs b o e).2
    rw [z, hP] at this; cases this
  have hgb := I.mod.glob
  have hg : s.heap.Ns mainGlobals X.mg := hgb.keeps I.bk
  have hgP : mainGlobals ≠ P := by
    obtain ⟨o, es, ep, e, _⟩ := hgb
    exact nb _ _ e
  have hb : s.heap.BuiltinsAt X.mg P := by
    obtain ⟨bm, ob, b1, b2, b3, b4, b5, b6⟩ := hB
    refine ⟨bm, ob, b1, b2, fun z => ?_, nb _ _ b3, I.bk _ _ b3, b4, b5, b6⟩
    obtain ⟨o, es, ep, e, hd, _⟩ := hgb
    rw [z, e] at b3; cases b3
    rw [hd] at b6; cases b6
  rcases h with ⟨hnf, q⟩ | ⟨c', hf, hc', q⟩
  · refine PySem.W.kdv_makeTail (mg := X.mg) hcl I.ok.glob hg hcode Cs eP ht hnf hgP hb fun c' ctv doc h' tk hx hge hlt hrec htb => ?_
    have lt : ∀ b u, s.heap.get? b = some u → b < c' := fun b u e => Nat.lt_of_lt_of_le (Heap.lt_size e) hge
    have nP : c' ≠ P := fun z => by
      have := lt _ _ eP
      rw [z] at this; exact Nat.lt_irrefl _ this
    have nfP : h'.objs.size ≠ P := fun z => by
      have := lt _ _ eP
      rw [← z] at this; exact Nat.lt_irrefl _ (Nat.lt_trans this hlt)
    have hc0 : H c' = none := I.hok.fresh hge
    have hf0 : H h'.objs.size = none := I.hok.fresh (Nat.le_of_lt (Nat.lt_of_le_of_lt hge hlt))
    have up : ∀ b u, b ≠ P → s.heap.get? b = some u → ∀ ob, (h'.push ob).get? b = some u := fun b u nbp e ob => Heap.get?_push_of_some _ (hx b u nbp e)
    have eq : ∀ b, b ≠ P → b < c' → upd (upd (upd H P (.tbl (ps ++ #[rawInt pos.line, rawInt pos.col, .ref c']))) c' (CodeO c' (X.env.qual ++ "<lambda>"))) h'.objs.size (LamOC h'.objs.size ⟨prm, body, sc, X.env.qual ++ "<lambda>", clos, dV, c'⟩) b = H b := fun b n1 n2 => by
      rw [upd_ne (fun z => by rw [z] at n2; exact Nat.lt_irrefl _ (Nat.lt_trans n2 hlt)), upd_ne (fun z => by rw [z] at n2; exact Nat.lt_irrefl _ n2), upd_ne n1]
    have atP : upd (upd (upd H P (.tbl (ps ++ #[rawInt pos.line, rawInt pos.col, .ref c']))) c' (CodeO c' (X.env.qual ++ "<lambda>"))) h'.objs.size (LamOC h'.objs.size ⟨prm, body, sc, X.env.qual ++ "<lambda>", clos, dV, c'⟩) P = some (.tbl (ps ++ #[rawInt pos.line, rawInt pos.col, .ref c'])) := by
      rw [upd_ne (Ne.symm nfP), upd_ne (Ne.symm nP), upd_same]
    refine ⟨.ref h'.objs.size, _, I.un (t' := tk) (h' := h'.push _) ⟨fun b o e n _ _ => ?_, fun b o e n _ _ => ?_, fun b o e n _ => ?_, fun b o e _ => ?_, fun b xs e => ?_, fun b o u e => ?_, fun b ps' e => ?_⟩ (fun b u e => ?_), rfl, q c' h'.objs.size hc0 hf0 (Nat.ne_of_lt hlt) nP nfP⟩
    · exact up b o (fun z => by rw [z, hP] at n; cases n) e _
    · exact ⟨o.slots, up b o (fun z => by rw [z, hP] at n; cases n) e _⟩
    · rw [eq b (fun z => by rw [z, hP] at n; cases n) (lt b o e)]; exact n
    · by_cases z : b = P
      · rw [z]; exact ⟨_, Heap.get?_push_of_some _ htb⟩
      · exact ⟨o, up b o z e _⟩
    · rw [eq b (fun z => by rw [z, hP] at e; cases e) (Nat.lt_of_lt_of_le (I.hok b _ e).lt hge)]; exact e
    · rw [eq b (fun z => by rw [z, hP] at e; cases e) (Nat.lt_of_lt_of_le (I.hok b _ e).lt hge)]; exact e
    · by_cases z : b = P
      · rw [z, hP] at e; cases e
        exact ⟨_, by rw [z]; exact atP⟩
      · exact ⟨#[], by rw [eq b z (Nat.lt_of_lt_of_le (I.hok b _ e).lt hge), e]; simp⟩
    · by_cases z1 : b = h'.objs.size
      · rw [z1, upd_same] at e; cases e
        rw [z1]
        exact lamOC_ok (L := ⟨prm, body, sc, X.env.qual ++ "<lambda>", clos, dV, c'⟩) (Heap.get?_push_size _ rfl)
      · by_cases z2 : b = c'
        · rw [upd_ne z1, z2, upd_same] at e; cases e
          rw [z2]
          refine codeO_ok ?_
          obtain ⟨c3, o3, v3, t3, e3, f1, f2, f3⟩ := hrec
          exact ⟨c3, o3, v3, t3, e3, Heap.get?_push_of_some _ f1, f2, f3⟩
        · by_cases z3 : b = P
          · rw [z3, atP] at e; cases e
            rw [z3]
            exact Heap.get?_push_of_some _ htb
          · rw [upd_ne z1, upd_ne z2, upd_ne z3] at e
            refine (I.hok b u e).stay (fun b' u' hc q' => ?_) (fun b' hb' => ?_) fun b' xs hb' => ?_
            · refine up b' u' ?_ q' _
              rcases hc with z | z
              · rw [z]; exact z3
              · intro y; rw [y, hP] at z; cases z
            · rw [eq b' (fun z => by rw [z, hP] at hb'; cases hb') (Nat.lt_of_lt_of_le (I.hok b' _ hb').lt hge)]; exact hb'
            · rw [eq b' (fun z => by rw [z, hP] at hb'; cases hb') (Nat.lt_of_lt_of_le (I.hok b' _ hb').lt hge)]; exact hb'
  · obtain ⟨hrec, _, _⟩ := (show ObjOk X.prog X.w H s.heap c' (CodeO c' (X.env.qual ++ "<lambda>")) from I.hok c' _ hc')
    refine PySem.W.kdv_makeTailHit (mg := X.mg) hcl I.ok.glob hg hcode Cs eP ht hf hb fun ctv doc h' tk hk hsz => ?_
    refine ⟨.ref h'.objs.size, _, I.laid (t' := tk) (o := LamOC h'.objs.size ⟨prm, body, sc, X.env.qual ++ "<lambda>", clos, dV, c'⟩) (fun b u e => Heap.get?_push_of_some _ (hk b u e)) hsz (lamOC_ok (L := ⟨prm, body, sc, X.env.qual ++ "<lambda>", clos, dV, c'⟩) (Heap.get?_push_size _ rfl)), rfl, q _ (I.hok.fresh hsz)⟩
def tLamC (P : Addr) (pos : Pos) (prm : Arguments) (body : Expr) (sc : Scope) (qual : Str) (cl : List (Str × Addr)) : TE := fun _ H Q => tLamW P pos qual (fun c' => ⟨prm, body, sc, qual, cl, .none, c'⟩) H Q
theorem pe_lamC {prm : Arguments} {body : Expr} {sc : Scope} {pos : Pos} {c P : Addr} (hcode : X.env.code = .ref c) (C : PySem.W.CodeHd X.base c P) (hB : BMain X.mg X.base) (hfr : FreeHas sc X.env.cells) (hdef : defaultsOf prm X.env = ([], []) := by rfl) :
    PE X (.Lambda prm body sc pos) (tLamC P pos prm body sc (X.env.qual ++ "<lambda>") (clOf X.env.cells sc.names [])) := by
  intro pins s σ H Q I h
  refine PySem.W.kla_eval hdef ?_
  rw [makeFunction_eq]
  simp only [List.zip_nil_right, List.filterMap_nil, List.isEmpty_nil, if_true, pure_bind]
  exact lam_core hcode C hB (closureFor_eq hfr) I h
def tLamD (P : Addr) (pos : Pos) (n : Int) (prm : Arguments) (body : Expr) (sc : Scope) (qual : Str) (cl : List (Str × Addr)) : TE := fun _ H Q => ∀ T, H T = none → tLamW P pos qual (fun c' => ⟨prm, body, sc, qual, cl, .ref T, c'⟩) (upd H T (.tup [.int n])) Q
theorem pe_lamD {prm : Arguments} {body : Expr} {sc : Scope} {pos : Pos} {c P : Addr} {n : Int} {j : Nat} {p1 : Pos} (hcode : X.env.code = .ref c) (C : PySem.W.CodeHd X.base c P) (hB : BMain X.mg X.base) (hfr : FreeHas sc X.env.cells) (hd : prm.defaults = [.Constant (.int n) j p1]) (hk0 : prm.kw_defaults = [] := by rfl) :
    PE X (.Lambda prm body sc pos) (tLamD P pos n prm body sc (X.env.qual ++ "<lambda>") (clOf X.env.cells sc.names [])) := by
  intro pins s σ H Q I h
  refine PySem.W.kdv_lam (by rw [hd]; rfl) hk0 ?_
  rw [hd]
  refine PySem.W.kdv_all1 (thn (pe_int pins s σ H (fun v H' => v = .int n ∧ H = H') I ⟨rfl, rfl⟩) fun u s1 ⟨v, H1, I1, r, ev, eH⟩ => ?_)
  subst ev eH
  refine PySem.W.kdv_all0 ?_
  rw [makeFunction_eq]
  simp only [List.zip_nil_right, List.filterMap_nil, List.isEmpty_nil, List.isEmpty_cons, if_true, pure_bind, Bool.false_eq_true, if_false]
  refine wpAny_bind (wpAny_newTextTuple ?_)
  have hf : H s1.heap.objs.size = none := I1.hok.fresh (Nat.le_refl _)
  exact lam_core hcode C hB (closureFor_eq hfr) (I1.laid (a := s1.heap.objs.size) (o := .tup [.int n]) (t' := s1.toks) (fun b u e => Heap.get?_push_of_some _ e) (Nat.le_refl _) ⟨(by show 1 ≤ sizeLine; decide), [u], .cons r .nil, ⟨_, Heap.get?_push_size _ rfl, rfl, _, rfl⟩⟩) (h _ hf)
end
theorem triples_app {a b : Nat} {c : Value} : ∀ (l : List Value), TriplesOk l → TriplesOk (l ++ [rawInt a, rawInt b, c])
  | [], _ => trivial
  | .int _ _ :: .int _ _ :: _ :: r, h => triples_app (a := a) (b := b) (c := c) r h
theorem among_app {pos : Pos} {a b : Nat} {c cv : Value} : ∀ (l : List Value), TriplesOk l → codeAmong pos (l ++ [rawInt a, rawInt b, c]) = some cv → codeAmong pos l = some cv ∨ cv = c
  | [], _, h => by
    right
    have h' : (if ((a : Int) == pos.line && (b : Int) == pos.col) = true then some c else none) = some cv := h
    split at h'
    · cases h'; rfl
    · cases h'
  | .int i _ :: .int j _ :: d :: r, ht, h => by
    have h' : (if ((i : Int) == pos.line && (j : Int) == pos.col) = true then some d else codeAmong pos (r ++ [rawInt a, rawInt b, c])) = some cv := h
    show (if ((i : Int) == pos.line && (j : Int) == pos.col) = true then some d else codeAmong pos r) = some cv ∨ cv = c
    split at h'
    · rename_i e; rw [if_pos e]; exact .inl h'
    · rename_i e; rw [if_neg e]; exact among_app r ht h'
def TabG (ts : List Addr) (p : Addr) (qual : Str) (H : Hp) : Prop := ∃ ps : Array Value, H p = some (.tbl ps) ∧ TriplesOk ps.toList ∧ ∀ pos cv, codeAmong pos ps.toList = some cv → ∃ c, cv = .ref c ∧ c ∉ ts ∧ H c = some (CodeO c qual)
theorem TabG.start {ts : List Addr} {p : Addr} {qual : Str} {H : Hp} (h : H p = some (.tbl #[])) : TabG ts p qual H := ⟨#[], h, trivial, fun pos cv e => nomatch e⟩
theorem TabG.but {ts : List Addr} {p : Addr} {qual : Str} {H H' : Hp} (t : TabG ts p qual H) (h1 : H' p = H p) (h2 : ∀ b o, b ∉ ts → H b = some o → H' b = some o) : TabG ts p qual H' := by
  obtain ⟨ps, e, o, k⟩ := t
  refine ⟨ps, h1.trans e, o, fun pos cv q => ?_⟩
  obtain ⟨c, e1, e2, e3⟩ := k pos cv q
  exact ⟨c, e1, e2, h2 c _ e2 e3⟩
theorem TabG.mono {ts : List Addr} {p : Addr} {qual : Str} {H H' : Hp} (t : TabG ts p qual H) (s : Same H H') : TabG ts p qual H' := by
  obtain ⟨ps, e, o, k⟩ := t
  refine ⟨ps, s _ _ e, o, fun pos cv q => ?_⟩
  obtain ⟨c, e1, e2, e3⟩ := k pos cv q
  exact ⟨c, e1, e2, s _ _ e3⟩
theorem tLamW_of {ts : List Addr} {p : Addr} {pos : Pos} {qual : Str} {W : Addr → LamW} {H : Hp} {Q : VK} (hp : p ∈ ts) (hts : ∀ t ∈ ts, H t ≠ none) (t : TabG ts p qual H)
    (k : ∀ f c H', ButL ts H H' → (∀ t ∈ ts, t ≠ p → H' t = H t) → TabG ts p qual H' → H' f = some (LamOC f (W c)) → H' c = some (CodeO c qual) → Q (.ref f) H') : tLamW p pos qual W H Q := by
  have nts : ∀ {b}, H b = none → b ∉ ts := fun {b} e z => hts b z e
  obtain ⟨ps, e1, ok, all⟩ := t
  refine ⟨ps, e1, ok, ?_⟩
  cases hc : codeAmong pos ps.toList with
  | none =>
    refine .inl ⟨rfl, fun c f hc0 hf ncf ncp nfp => ?_⟩
    have old : ∀ b o, b ≠ p → H b = some o → upd (upd (upd H p (.tbl (ps ++ #[rawInt pos.line, rawInt pos.col, .ref c]))) c (CodeO c qual)) f (LamOC f (W c)) b = some o := fun b o nb e => by
      have nbf : b ≠ f := fun z => by rw [z, hf] at e; cases e
      have nbc : b ≠ c := fun z => by rw [z, hc0] at e; cases e
      rw [upd_ne nbf, upd_ne nbc, upd_ne nb]; exact e
    refine k f c _ (fun b o nb e => old b o (fun z => nb (by rw [z]; exact hp)) e) (fun t' ht' ne => ?_) ⟨ps ++ #[rawInt pos.line, rawInt pos.col, .ref c], ?_, ?_, fun pos' cv q => ?_⟩ upd_same (by rw [upd_ne ncf, upd_same])
    · have n1 : t' ≠ f := fun z => hts t' ht' (by rw [z]; exact hf)
      have n2 : t' ≠ c := fun z => hts t' ht' (by rw [z]; exact hc0)
      rw [upd_ne n1, upd_ne n2, upd_ne ne]
    · rw [upd_ne (Ne.symm nfp), upd_ne (Ne.symm ncp), upd_same]
    · rw [Array.toList_append]; exact triples_app _ ok
    · rw [Array.toList_append] at q
      rcases among_app _ ok q with q | q
      · obtain ⟨c2, z1, z2, z3⟩ := all pos' cv q
        exact ⟨c2, z1, z2, old c2 _ (fun z => z2 (by rw [z]; exact hp)) z3⟩
      · exact ⟨c, q, nts hc0, by rw [upd_ne ncf, upd_same]⟩
  | some cv =>
    obtain ⟨c, rfl, n, e2⟩ := all pos cv hc
    refine .inr ⟨c, rfl, e2, fun f hf => k f c _ (ButL.of (same_new hf)) (fun t' ht' ne => ?_) (TabG.mono ⟨ps, e1, ok, all⟩ (same_new hf)) upd_same (same_new hf _ _ e2)⟩
    have n1 : t' ≠ f := fun z => hts t' ht' (by rw [z]; exact hf)
    rw [upd_ne n1]
end L2
set_option Elab.async false
set_option linter.all false
set_option maxRecDepth 100000
namespace L2
open PySem PySem.Spec PyProof.Rows
structure LamX (P : Program) (w : World) (K : PySem.W.Frag) (mg : Str → Option Value) (base : Heap) (k : Nat) (f : Addr) (sp : Hp → VK → XK → Prop) : Prop where
  run : ∀ (A : Around) (outer : List Env) (s : Shared) (H : Hp) (Q : VK) (E : XK), Room k A → Env0 P w K mg base A outer s H → sp H Q E → codeAny (model P w) A (.call (.ref f) ⟨[], []⟩) (CR (CX1 P w) outer P w H s Q E) s
def cxL (P : Program) (w : World) (K : PySem.W.Frag) (mg : Str → Option Value) (base : Heap) (N : List Str) (qual : Str) (scope : Scope) (f : Addr) (cd : Value) (cl : List (Str × Addr)) (A : Around) (outer : List Env) (s : Shared) (H : Hp) (E : XK) : Cx where
  prog := P
  w := w
  K := K
  mg := mg
  base := base
  A := A.deeper (PySem.W.envX qual scope s.heap.objs.size f cd cl)
  N := N
  s₀ := s
  H₀ := H
  env := PySem.W.envX qual scope s.heap.objs.size f cd cl
  outer := outer
  stack := PySem.W.envX qual scope s.heap.objs.size f cd cl :: outer
  ex := []
  calm := true
  fn := fun _ => false
  pn := []
  xe := fun e s' => wpAny (model P w) (A.deeper (PySem.W.envX qual scope s.heap.objs.size f cd cl)) (leaving (PySem.W.envX qual scope s.heap.objs.size f cd cl) e) (fun _ s'' => CX1 P w outer H s E e s'') (fun e' s'' => CX1 P w outer H s E e' s'') s'
section
variable {P : Program} {w : World} {K : PySem.W.Frag} {mg : Str → Option Value} {base : Heap} {N : List Str} {qual : Str} {scope : Scope} {f : Addr} {cd : Value} {cl : List (Str × Addr)} {A : Around} {outer : List Env} {s₀ : Shared} {H₀ : Hp} {E : XK}
theorem passesL : PassesR (CX1 P w) (cxL P w K mg base N qual scope f cd cl A outer s₀ H₀ E) fun _ => E := by
  intro pins σ H s e s' I hc
  obtain ⟨ea, cls, a0, H', B, rfl, fl, os, bare, fw, q⟩ := hc
  have fr : frs (PySem.W.envX qual scope s₀.heap.objs.size f cd cl :: outer) = s₀.heap.objs.size :: frs outer := rfl
  have neL : ∀ b o, s₀.heap.get? b = some o → b ∉ frs outer → b ∉ frs (PySem.W.envX qual scope s₀.heap.objs.size f cd cl :: outer) := fun b o e hb z => by
    rw [fr] at z
    rcases List.mem_cons.mp z with z | z
    · have := Heap.lt_size e
      rw [z] at this
      exact absurd this (Nat.lt_irrefl _)
    · exact hb z
  show wpAny (model P w) (A.deeper (PySem.W.envX qual scope s₀.heap.objs.size f cd cl)) (leaving (PySem.W.envX qual scope s₀.heap.objs.size f cd cl) (.ref ea)) (fun _ s'' => CX1 P w outer H₀ s₀ E (.ref ea) s'') (fun e' s'' => CX1 P w outer H₀ s₀ E e' s'') s'
  refine wpAny_leaves_onW I.ok.frames rfl fl fun h'' fl'' up => ?_
  have fu := fw.up fl up
  have ub : Un (frs outer) [] H₀ H s₀.heap s.heap := I.base
  refine ⟨ea, cls, a0, H', B, rfl, fl'', os.trans I.os, bare, ⟨fw.hok, fun b o e n hb => ?_, fun b o e hb => ?_, fun b o e n => ?_, fun b o e hb => ?_, fun b xs e => fw.tups b xs (ub.tups b xs e), fun b o u e => fw.frzs b o u (ub.frzs b o u e), fun b ps e => ?_, fw.exc⟩, q⟩
  · exact fw.keep b o (ub.keep b o e n hb (by simp)) (ub.free b o e n (by simp)) (neL b o e hb)
  · obtain ⟨sl, e1⟩ := ub.slot b o e (I.ok.frf b hb) hb (by simp)
    obtain ⟨sl', e2⟩ := fu.slot b _ e1 (show b ∈ frs (PySem.W.envX qual scope s₀.heap.objs.size f cd cl :: outer) by rw [fr]; exact List.mem_cons_of_mem _ hb)
    exact ⟨sl', e2⟩
  · obtain ⟨o', e1⟩ := ub.there b o e (by simp)
    exact fw.free b o' e1 (ub.free b o e n (by simp))
  · obtain ⟨o', e1⟩ := ub.there b o e (by simp)
    exact fw.there b o' e1 (neL b o e hb)
  · obtain ⟨m1, e1⟩ := ub.tbls b ps e
    obtain ⟨m2, e2⟩ := fw.tbls b _ e1
    exact ⟨m1 ++ m2, by rw [e2, Array.append_assoc]⟩
end
structure LamSc (N : List Str) (sc : Scope) : Prop where
  kind : sc.kind = .function
  co : sc.isCoroutine = false
  gen : sc.isGenerator = false
  nocell : ∀ y ∈ sc.names, y.2 ≠ .cell
  free : ∀ x ∈ N, sc.names.lookup x = some .free
structure CellsAt (base : Heap) (N : List Str) (cl : List (Str × Addr)) (σ : St) : Prop where
  inj : ∀ x y c, cl.lookup x = some c → cl.lookup y = some c → x = y
  all : ∀ x c, cl.lookup x = some c → ∃ v, base.IsCell c v
  val : ∀ (i : Nat) (x : Str) (v : V), N[i]? = some x → σ[i]? = some (some v) → ∃ c u, cl.lookup x = some c ∧ RelV v u ∧ base.IsCell c (some u)
  len : σ.length = N.length
section
variable {P : Program} {w : World} {K : PySem.W.Frag} {mg : Str → Option Value} {base : Heap}
theorem lamX_of {L : LamW} {N : List Str} {k : Nat} {f : Addr} {σ0 : St} {H0 : Hp → Prop} {sp : Hp → VK → XK → Prop} (S : LamSc N L.sc) (hhas : ∀ x, L.sc.names.lookup x = some .free → ∃ c, L.cl.lookup x = some c) (hce : CellsAt base N L.cl σ0)
    (hH : ∀ H Q E, sp H Q E → H f = some (LamOC f L) ∧ H L.c = some (CodeO L.c L.qual) ∧ H0 H)
    (hbind : ∀ (s : Shared) (H : Hp) (doc pm ctv : Value), HOk P w H s.heap → H0 H → ∃ binds, (∀ y ∈ binds, L.sc.names.lookup y.1 = some .local) ∧ BindsTo s (L.fn doc pm ctv) ⟨[], []⟩ binds)
    (hbody : ∀ (A : Around) (outer : List Env) (s : Shared) (H : Hp) (Q : VK) (E : XK), Room k (A.deeper (PySem.W.envX L.qual L.sc s.heap.objs.size f (.ref L.c) L.cl)) → sp H Q E →
      ∃ t, PE (cxL P w K mg base N L.qual L.sc f (.ref L.c) L.cl A outer s H E) L.body t ∧ t σ0 H Q) : LamX P w K mg base (k + 1) f sp := by
  refine ⟨fun A outer s H Q E hr e0 hsp => ?_⟩
  obtain ⟨hf, hc, h0⟩ := hH _ _ _ hsp
  have lim : s.heap.NoLimit := e0.mod.nolimit.keeps fun b o e => (e0.bs b o e).1
  obtain ⟨⟨doc, pm, ctv, ef⟩, _, _⟩ := (show ObjOk P w H s.heap f (LamOC f L) from e0.hok f _ hf)
  obtain ⟨hrec, _, _⟩ := (show ObjOk P w H s.heap L.c (CodeO L.c L.qual) from e0.hok L.c _ hc)
  obtain ⟨binds, hloc, hb⟩ := hbind s H doc pm ctv e0.hok h0
  refine PySem.W.kla_callFunE hr.depth ef rfl S.co S.gen rfl hrec (hb _ _ _ _ ?_)
  refine wpAny_newFunctionEnv S.nocell hloc (fun h1 hns hsb => ⟨lim.fresh _ hsb, ?_⟩) S.kind
  show codeAny _ _ (.expr L.body (PySem.W.envX L.qual L.sc s.heap.objs.size f (.ref L.c) L.cl)) _ _
  have hk : ∀ b o, s.heap.get? b = some o → h1.get? b = some o := fun b o e => hsb.extBut b o (Nat.ne_of_lt (Heap.lt_size e)) (Heap.get?_push_of_some _ e)
  obtain ⟨t, ht, hq⟩ := hbody A outer s H Q E (hr.deeper _) hsp
  have noA : ∀ b : Addr, b ∉ (cxL P w K mg base N L.qual L.sc f (.ref L.c) L.cl A outer s H E).ex := fun b z => absurd (show b ∈ ([] : List Addr) from z) (by simp)
  have I : Inv (cxL P w K mg base N L.qual L.sc f (.ref L.c) L.cl A outer s H E) [] σ0 H { s with heap := h1, toks := s.toks + binds.length } := by
    refine ⟨⟨e0.mod, S.kind, rfl, rfl, Nat.le_refl _, hce.inj, fun y hy => ?_, fun y c z _ => absurd (show false = true from z) (by decide), fun _ => hr.hd, Around.frames_deeper e0.frames, .inr ⟨rfl, rfl⟩, fun b z => absurd z (noA b), e0.bs, e0.bsz, fun b _ _ => noA b, fun b z => absurd z (noA b), e0.funs, e0.frf⟩,
      rfl, e0.bare, Un.kept hk, ⟨_, hns, fun i y v h1 h2 h3 => ?_⟩, fun y c h => ?_, e0.hok.fresh (Nat.le_refl _), fun y c h => ?_, fun p hp => absurd (show p ∈ ([] : List (Addr × Obj)) from hp) (by simp), e0.hok.kept hk, hce.len⟩
    · have hy : L.sc.names.lookup y = some .cell ∨ L.sc.names.lookup y = some .free := hy
      rcases hy with hy | hy
      · exact absurd rfl (S.nocell _ (PySem.mem_of_lookup hy))
      · exact hhas y hy
    · obtain ⟨c, u, e1, r, z⟩ := hce.val i y v h1 h2
      exact ⟨u, r, .inr ⟨.inr (S.free y (List.mem_of_getElem? h1)), c, e1, (z.keeps fun b o e => (e0.bs b o e).1).keeps hk⟩⟩
    · obtain ⟨v, z⟩ := hce.all y c h
      exact ⟨v, (z.keeps fun b o e => (e0.bs b o e).1).keeps hk⟩
    · obtain ⟨v, o, z, _⟩ := hce.all y c h
      exact (e0.bs c o z).2
  refine PySem.W.kla_codeExpr (wpAny_mono (ht [] _ σ0 H Q I hq) (fun u s' hs => ?_) fun e s' hs => hs)
  obtain ⟨v, H', J, rv, q⟩ := hs
  exact ⟨v, H', J.os, J.bare, J.base, J.hok, rv, q⟩
theorem bind_none {L : LamW} (h : ∀ doc pm ctv : Value, bindArgs (L.fn doc pm ctv) ⟨[], []⟩ = pure []) (s : Shared) (doc pm ctv : Value) : ∃ binds, (∀ y ∈ binds, L.sc.names.lookup y.1 = some .local) ∧ BindsTo s (L.fn doc pm ctv) ⟨[], []⟩ binds :=
  ⟨[], (fun _ z => nomatch z), .of_eq (h doc pm ctv)⟩
theorem bind_one {L : LamW} {T : Addr} {x : Str} {n : Int} {H : Hp} (hT : L.dV = .ref T) (hH : H T = some (.tup [.int n])) (hx : L.sc.names.lookup x = some .local)
    (h : ∀ (doc pm ctv : Value), ∃ k, bindArgs (L.fn doc pm ctv) ⟨[], []⟩ = seqItems? L.dV >>= k ∧ ∀ v : Value, k (some #[v]) = pure [(x, v)]) (s : Shared) (doc pm ctv : Value) (ok : HOk P w H s.heap) : ∃ binds, (∀ y ∈ binds, L.sc.names.lookup y.1 = some .local) ∧ BindsTo s (L.fn doc pm ctv) ⟨[], []⟩ binds := by
  obtain ⟨_, its, r, o, e, hc, m, hd⟩ := ok T _ hH
  cases r with
  | cons r rr =>
    cases rr
    rename_i v
    obtain ⟨k, h1, h2⟩ := h doc pm ctv
    refine ⟨[(x, v)], fun y hy => ?_, .of_defaults (T := T) hT e hd h1 (h2 v)⟩
    have : y = (x, v) := by simpa using hy
    rw [this]; exact hx
end
def tCallL0 (LP : Addr → (Hp → VK → XK → Prop) → Prop) (i : Nat) (R : St → XK) : TE := fun σ H Q => ∃ (f : Addr) (L : LamW) (sp : Hp → VK → XK → Prop), σ[i]? = some (some (.ref f)) ∧ H f = some (LamOC f L) ∧ LP f sp ∧ sp H Q (R σ)
section
variable {X : Cx}
theorem pe_callL0 (i k : Nat) {R : St → XK} {x : Str} {p pos : Pos} (hr : Room k X.A) (hx : PassesR (CX1 X.prog X.w) X R)
    (hN : X.N[i]? = some x := by rfl) (hv : Vis X.env.scope x := by first | exact Or.inl rfl | exact Or.inr (Or.inl rfl) | exact Or.inr (Or.inr rfl)) (hdb : (x == ("__debug__" : Str)) = false := by decide) (hcd : (x == ("__classdict__" : Str)) = false := by decide) :
    PE X (.Call (.Name x p) [] [] pos) (tCallL0 (fun f sp => LamX X.prog X.w X.K X.mg X.base k f sp) i R) := by
  intro pins s σ H Q I ⟨f, L, sp, hi, hf, G, h⟩
  refine wpAny_Call_Name_kw (ld_var I hN hv hi (fun u r => ?_) hdb hcd)
  obtain rfl : u = Value.ref f := r
  obtain ⟨⟨doc, pm, ctv, ef⟩, _, _⟩ := (show ObjOk X.prog X.w H s.heap f (LamOC f L) from I.hok f _ hf)
  refine PySem.W.callWith_F0 (first := []) ⟨_, _, _, _, ef⟩ ?_
  refine wpAny_call (codeAny_mono (G.run X.A X.stack s H Q (R σ) hr I.env0 h) fun r s' hq => ?_)
  cases r with
  | error e => exact hx pins σ H s e s' I hq
  | ok fl =>
    cases fl with
    | ret u => exact I.after hq
    | next => exact False.elim hq
    | brk => exact False.elim hq
    | cont => exact False.elim hq
theorem pe_callL0K (P : Program) (w : World) (K : PySem.W.Frag) (mg : Str → Option Value) (base : Heap) (hP : X.prog = P) (hw : X.w = w) (hK : X.K = K) (hm : X.mg = mg) (hb : X.base = base) (i k : Nat) {R : St → XK} {x : Str} {p pos : Pos} (hr : Room k X.A) (hx : PassesR (CX1 X.prog X.w) X R)
    (hN : X.N[i]? = some x := by rfl) (hv : Vis X.env.scope x := by first | exact Or.inl rfl | exact Or.inr (Or.inl rfl) | exact Or.inr (Or.inr rfl)) (hdb : (x == ("__debug__" : Str)) = false := by decide) (hcd : (x == ("__classdict__" : Str)) = false := by decide) :
    PE X (.Call (.Name x p) [] [] pos) (tCallL0 (fun f sp => LamX P w K mg base k f sp) i R) := by
  subst hP hw hK hm hb
  exact pe_callL0 i k hr hx hN hv hdb hcd
structure BaseOk (K : PySem.W.Frag) (mg : Str → Option Value) (base : Heap) : Prop where
  kin : K.In base
  ns : base.Ns mainGlobals mg
  bm : BMain mg base
def Capt (X : Cx) (σ : St) (base' : Heap) : Prop := (∀ x y c, X.env.cells.lookup x = some c → X.env.cells.lookup y = some c → x = y) ∧ (∀ x c, X.env.cells.lookup x = some c → ∃ v, base'.IsCell c v) ∧ ∀ (i : Nat) (x : Str) (v : V) (c : Addr), X.N[i]? = some x → σ[i]? = some (some v) → X.env.scope.names.lookup x = some .cell → X.env.cells.lookup x = some c → ∃ u, RelV v u ∧ base'.IsCell c (some u)
theorem BMain.keeps {mg : Str → Option Value} {b b' : Heap} (h : BMain mg b) (k : ∀ a o, b.get? a = some o → b'.get? a = some o) : BMain mg b' := by
  obtain ⟨bm, ob, b1, b2, b3, b4, b5, b6⟩ := h
  exact ⟨bm, ob, b1, b2, k _ _ b3, b4, b5, b6⟩
theorem rebase {pins : List (Addr × Obj)} {σ : St} {H : Hp} {s : Shared} (I : Inv X pins σ H s) (hB : BMain X.mg X.base) (hfn : ∀ x, X.fn x = true) : ∃ base', BaseOk X.K X.mg base' ∧ Capt X σ base' ∧ Env0 X.prog X.w X.K X.mg base' X.A X.stack s H := by
  have hin : ∀ env ∈ X.stack, ∀ b, env.frame = some b → b ∈ frs X.stack ++ trk s.heap H := fun env he b hb => List.mem_append_left _ (List.mem_filterMap.mpr ⟨env, he, hb⟩)
  have notT : ∀ b, H b = none → b ∉ trk s.heap H := fun b n z => by
    have := (List.mem_filter.mp z).2
    rw [n] at this; cases this
  have toB : ∀ b o, s.heap.get? b = some o → H b = none → b ∉ frs X.stack → (PySem.W.hideAll s.heap (frs X.stack ++ trk s.heap H)).get? b = some o := fun b o e n hb => PySem.W.hideAll_get _ e fun z => (List.mem_append.mp z).elim hb (notT b n)
  have ofB : ∀ b o, (PySem.W.hideAll s.heap (frs X.stack ++ trk s.heap H)).get? b = some o → s.heap.get? b = some o ∧ H b = none := fun b o e => by
    have e1 := PySem.W.of_hideAll _ e
    refine ⟨e1, ?_⟩
    cases q : H b with
    | none => rfl
    | some u =>
      have m : b ∈ trk s.heap H := List.mem_filter.mpr ⟨List.mem_range.mpr (Heap.lt_size e1), by rw [q]; rfl⟩
      rw [PySem.W.hideAll_none _ (List.mem_append_right _ m)] at e; cases e
  have stk := I.stack
  have kb : ∀ b o, X.base.get? b = some o → (PySem.W.hideAll s.heap (frs X.stack ++ trk s.heap H)).get? b = some o := fun b o e => toB b o (I.bs b o e).1 (I.bs b o e).2 fun z => by
    have := (stk.mem z).1
    rw [e] at this; cases this
  have cellB : ∀ x c v, X.env.cells.lookup x = some c → s.heap.IsCell c v → (PySem.W.hideAll s.heap (frs X.stack ++ trk s.heap H)).IsCell c v := fun x c v hc ⟨o, ho, hd⟩ => by
    refine ⟨o, toB c o ho (I.freeC x c hc) fun z => ?_, hd⟩
    rcases List.mem_cons.mp (I.stkSub c z) with z | z
    · exact I.cne x c hc z
    · obtain ⟨_, o1, e1, _⟩ := I.ok.funs.mem z
      exact absurd (Nat.lt_of_lt_of_le (Heap.lt_size e1) (I.ok.cab x c (hfn x) hc)) (Nat.lt_irrefl _)
  have md := I.mod
  have md' : Mod X.K X.mg (PySem.W.hideAll s.heap (frs X.stack ++ trk s.heap H)) := ⟨md.kin.keeps kb, md.glob.keeps kb, let ⟨mb, h1, h2⟩ := md.blt; ⟨mb, h1.keeps kb, h2⟩, md.nolimit.keeps kb⟩
  refine ⟨PySem.W.hideAll s.heap (frs X.stack ++ trk s.heap H), ⟨md'.kin, md'.glob, hB.keeps kb⟩, ⟨I.ok.inj, fun x c hc => ?_, fun i x v c hN hσ hk hc => ?_⟩, ⟨I.ok.frames, md', ofB, Nat.le_of_eq (PySem.W.hideAll_size _ _), PySem.W.funFrames_hide stk hin, I.stkFree, I.hok, I.bare⟩⟩
  · obtain ⟨v, z⟩ := I.cell x c hc
    exact ⟨v, cellB x c v hc z⟩
  · obtain ⟨m, hn, hl⟩ := I.loc
    obtain ⟨u, r, l⟩ := hl i x v hN hσ (.inr (.inl hk))
    rcases l with ⟨k, _⟩ | ⟨_, c', e, z⟩
    · have k' : X.env.scope.names.lookup x = some .local := k
      rw [hk] at k'; cases k'
    · rw [hc] at e; cases e
      exact ⟨u, r, cellB x c _ hc z⟩
def tCallR0 (X : Cx) (sp : Heap → Sp) (ds : List V) (t : TA) : TE := fun σ H Q => t σ H fun vs H1 => ∀ base', BaseOk X.K X.mg base' → Capt X σ base' → sp base' (vs ++ ds) H1 Q E0
theorem pe_callR0 {k : Nat} {x : Str} {ps : List Str} {ds : List V} {sp : Heap → Sp} {e : Expr} {es : List Expr} {t : TA} {p pos : Pos} (D : ∀ base', BaseOk X.K X.mg base' → Def X.prog X.w X.K X.mg base' k x ps ds (sp base')) (hB : BMain X.mg X.base) (hr : Room k X.A) (hg : Gl X x)
    (ha : PA X (e :: es) t) (hfn : ∀ x, X.fn x = true := by intro; rfl) (hdb : (x == ("__debug__" : Str)) = false := by decide) (he : starEach (e :: es) X.env = (false, eval e X.env) :: starEach es X.env := by rfl) (hpl : (backTo pos (starEach es X.env)).any (·.1) = false := by rfl) :
    PE X (.Call (.Name x p) (e :: es) [] pos) (tCallR0 X sp ds t) := by
  intro pins s σ H Q I h
  have G0 : BaseOk X.K X.mg X.base := ⟨I.mod.kin, I.mod.glob, hB⟩
  obtain ⟨f0, fd0, dvs0, _, hm, hk, _, _⟩ := (D X.base G0).ex
  refine wpAny_Call_Name_kw (ld_glob I hg hm ?_ hdb)
  refine PySem.W.callWith_K (h₀ := X.base) I.ok.mod.kin hk (thn (ha pos pins s σ H _ I h) fun us s1 ⟨vs, H1, I1, r, q⟩ => ⟨I1.kIn, ?_⟩) he hpl
  obtain ⟨base', G, cap, e0⟩ := rebase I1 hB hfn
  have q' := q base' G cap
  obtain ⟨f, fd, dvs, F, hm', hk', hb, hd⟩ := (D base' G).ex
  rw [hm] at hm'; cases hm'
  have r2 : Vals (vs ++ ds) (us ++ dvs) := r.append hd
  have hl : (us ++ dvs).length = ps.length := by rw [← r2.length]; exact F.len _ _ _ _ q'
  refine wpAny_call (codeAny_mono (F.run X.A X.stack s1 H1 ⟨us, []⟩ (us ++ dvs) (vs ++ ds) Q E0 hr e0 (hb s1 us I1.kIn hl) r2 q') fun res s' hq => ?_)
  cases res with
  | error er => exact pass0 pins σ H1 s1 er s' I1 hq
  | ok fl =>
    cases fl with
    | ret u => exact I1.after hq
    | next => exact False.elim hq
    | brk => exact False.elim hq
    | cont => exact False.elim hq
end
theorem cells_of {X : Cx} {σ σ' : St} {base' : Heap} {sc : Scope} {N' : List Str} (cap : Capt X σ base') (hfr : FreeHas sc X.env.cells) (hlen : σ'.length = N'.length)
    (hval : ∀ (i : Nat) (x : Str) (v : V), N'[i]? = some x → σ'[i]? = some (some v) → (x, NameKind.free) ∈ sc.names ∧ X.env.scope.names.lookup x = some .cell ∧ ∃ j : Nat, X.N[j]? = some x ∧ σ[j]? = some (some v)) : CellsAt base' N' (clOf X.env.cells sc.names []) σ' := by
  obtain ⟨inj, all, val⟩ := cap
  have get : ∀ x c, (clOf X.env.cells sc.names []).lookup x = some c → X.env.cells.lookup x = some c := fun x c h => clOf_get _ _ hfr (fun _ _ z => (by cases z)) h
  refine ⟨fun x y c h1 h2 => inj x y c (get x c h1) (get y c h2), fun x c h => all x c (get x c h), fun i x v h1 h2 => ?_, hlen⟩
  obtain ⟨m, k, j, e1, e2⟩ := hval i x v h1 h2
  obtain ⟨c, hc⟩ := clOf_has (cells := X.env.cells) sc.names [] (.inr m)
  obtain ⟨u, r, z⟩ := val j x v c e1 e2 k (get x c hc)
  exact ⟨c, u, hc, r, z⟩
theorem clOf_hasL {cells : List (Str × Addr)} {sc : Scope} : ∀ x, sc.names.lookup x = some .free → ∃ c, (clOf cells sc.names []).lookup x = some c := fun x h => clOf_has sc.names [] (.inr (PySem.mem_of_lookup h))
theorem FreeHas.of {sc scO : Scope} {qual : Str} {L f : Addr} {cd : Value} (h : ∀ y ∈ sc.names, y.2 = NameKind.free → scO.names.lookup y.1 = some .cell) : FreeHas sc (envOfC qual scO L f cd).cells := fun x hx => cell_has (n := L + 1) (h (x, .free) hx rfl)
end L2
set_option Elab.async false
set_option linter.all false
set_option maxRecDepth 100000
namespace L2
open PySem PySem.Spec PyProof.Rows
section
variable {X : Cx}
end
end L2
set_option Elab.async false
set_option linter.all false
set_option maxRecDepth 100000
namespace L2
open PySem PySem.Spec PyProof.Rows
theorem turn_long {P : Program} {w : World} {K : PySem.W.Frag} {tg : Expr} (it : Addr) (lo st : Int) (n : Nat) : Turn P w K tg (Itr3 lo st n) [it] it (fun i h => IsLongIter h it (lo + (i : Nat) * st) ((n : Int) - (i : Nat)) st) where
  mem := by simp
  obj := fun i h hst b hb => by
    have e : b = it := by simpa using hb
    subst e
    exact ⟨_, hst, fun v z => by
      have z' : Data.fields _ = Data.cell v := z
      cases z'⟩
  keep := fun i h h' hst k => k it (by simp) _ hst
  item := by
    intro X hP hw hK hc i pins s σ H E I hf hst hg
    subst hP hw hK
    obtain ⟨f0, f1, f2, f3, f4, f5⟩ := hf it (by simp)
    have W := Walks.longrange (prog := X.prog) (w := X.w) (I.ok.hd hc) it lo st n
    refine W.item i s _ _ hg hst fun v h' tk hv st' kk => ?_
    obtain ⟨t, rfl⟩ := hv
    have I1 : Inv X pins σ H { s with heap := h', toks := tk } := I.turned (fun b o hb e => kk b o (by simpa using hb) e) f0 f1 f3 f4 f5
    exact ⟨_, rfl, go_of (s := { s with heap := h', toks := tk }) (n := "longrange_iterator") st' rfl rfl (by decide) ⟨.int (lo + (i : Int) * st), H, I1, ⟨t, rfl⟩, ⟨rfl, rfl⟩, st', fun b hb => (hf b hb).1⟩⟩
  done := by
    intro X hP hw hK hc i pins s σ H E I hf hst hg
    subst hP hw hK
    obtain ⟨f0, f1, f2, f3, f4, f5⟩ := hf it (by simp)
    exact wpAny_pyNext_long_end (I.ok.hd hc) hst (by have : n ≤ i := hg; omega) fun h' eb => ⟨rfl, I.turned (t' := s.toks) (fun b o hb e => eb b o hb e) f0 f1 f3 f4 f5⟩
  self := fun _ _ _ _ _ hst h => wpAny_pyIter_longiter hst h
def iRng3B (ta : TA) : TI := fun σ H R => ta σ H fun vs H1 => ∃ (i j c : Int) (n : Nat), vs = [.int i, .int j, .int c] ∧ 0 < c ∧ c.natAbs.log2 < 9000 ∧ Builtin.Range.rangeSize i j c = (n : Int) ∧ R (Itr3 i c n) H1
section
variable {X : Cx} {tg : Expr}
theorem pi_range3B {a b c : Expr} {ta : TA} {p pos : Pos} (hg : Gl X "range") (hm : X.mg "range" = none) (ha : PA X [a, b, c] ta) (hs : starEach [a, b, c] X.env = (false, eval a X.env) :: starEach [b, c] X.env := by rfl) (hs2 : (backTo pos (starEach [b, c] X.env)).any (·.1) = false := by rfl) :
    PI X tg (.Call (.Name "range" p) [a, b, c] [] pos) (iRng3B ta) := by
  intro pins s σ H R I h
  refine Call_ (ld_blt I hg hm boot_range (PyProof.Rows.callWith_type1 (thn (ha pos pins s σ H _ I h) fun us s1 ⟨vs, H1, I1, r1, q1⟩ => ?_) hs hs2))
  obtain ⟨i, j, st, n, e, c0, c1, hsz, q⟩ := q1
  subst e
  cases r1 with
  | cons r rr => cases rr with
    | cons r' rr => cases rr with
      | cons r'' rr =>
        cases rr
        obtain ⟨t, rfl⟩ := r
        obtain ⟨t', rfl⟩ := r'
        obtain ⟨t'', rfl⟩ := r''
        refine call_range_3 (by omega) ?_ (.inl (PyProof.noPylong_of_log2 c1))
        have I2 : Inv X pins σ H1 { s1 with heap := s1.heap.push { cls := .type "range", data := .fields #[.int i t, .int j t', .int st t''] }, toks := s1.toks } := I1.kept fun b o e => Heap.get?_push_of_some _ e
        have e1 : i + ((0 : Nat) : Int) * st = i := by simp
        have e2 : (n : Int) - ((0 : Nat) : Int) = Builtin.Range.rangeSize i j st := by rw [hsz]; simp
        cases hsm : Builtin.Range.small i j st with
        | true =>
          refine wpAny_pyIter_range (IsRange.new ..) hsm ?_
          refine ⟨_, [_], _, Itr3 i st n, H1, rfl, I2.kept (t' := s1.toks) fun b o e => Heap.get?_push_of_some _ e, turn_range3 _ i st n, ?_, fun b hb => ?_, q⟩
          · show IsRangeIter _ _ (i + ((0 : Nat) : Int) * st) ((n : Int) - ((0 : Nat) : Int)) st
            rw [e1, e2]
            exact Heap.get?_push_size _ rfl
          · have e : b = (s1.heap.push { cls := .type "range", data := .fields #[.int i t, .int j t', .int st t''] }).objs.size := by simpa using hb
            subst e
            exact I2.fpOk (Nat.le_refl _) (I2.hok.fresh (Nat.le_refl _))
        | false =>
          refine wpAny_pyIter_longrange (IsRange.new ..) hsm ?_
          refine ⟨_, [_], _, Itr3 i st n, H1, rfl, I2.kept (t' := s1.toks) fun b o e => Heap.get?_push_of_some _ e, turn_long _ i st n, ?_, fun b hb => ?_, q⟩
          · show IsLongIter _ _ (i + ((0 : Nat) : Int) * st) ((n : Int) - ((0 : Nat) : Int)) st
            rw [e1, e2]
            exact Heap.get?_push_size _ rfl
          · have e : b = (s1.heap.push { cls := .type "range", data := .fields #[.int i t, .int j t', .int st t''] }).objs.size := by simpa using hb
            subst e
            exact I2.fpOk (Nat.le_refl _) (I2.hok.fresh (Nat.le_refl _))
def gLst (K : PySem.W.Frag) (n : Nat) (t : TGs) : TG := fun v σ H Q => ∃ a xs, v = .ref a ∧ SqL K H a xs ∧ xs.length = n ∧ t xs σ H Q
theorem pg_lstT {es : List Expr} {k : Nat} {t : TGs} {n : Nat} {pos : Pos} (K : PySem.W.Frag) (hK : X.K = K) (hc : X.calm = true) (h : PGs X es t)
    (hn : (assignEach es X.env).length = n := by rfl) (hst : (assignEach es X.env).findIdx? (·.1) = none := by rfl) : PG X (.Tuple es k pos) (gLst K n t) := by
  subst hK
  intro pins s σ H v u Q I r hw
  obtain ⟨a, xs, e1, hq, hl, hw⟩ := hw
  subst e1
  cases r
  obtain ⟨its, rv, ht, hz⟩ := I.list hq
  rw [assign_Tuple]
  refine wpAny_bind (wpAny_standAt ?_)
  unfold unpack
  rw [hst]
  have hsz : (assignEach es X.env).length = its.toArray.size := by simp [hn, ← hl, rv.length]
  rw [hsz]
  refine wpAny_bind (wpAny_holding (PySem.W.kun_itemsOf (I.ok.hd hc) ht.isList fun h' hx => ?_))
  have I1 : Inv X pins σ H { s with heap := h' } := I.kept (t' := s.toks) fun b o e => hx b o (Nat.ne_of_lt (Heap.lt_size e)) e
  exact h pins _ σ H xs _ Q I1 (by simpa using rv) hw
theorem op_mulB : OpR X (binaryOp .Mult) (fun x y H Q => ∃ i k, x = .int i ∧ y = .bl k ∧ Q (.int (i * if k = true then (1 : Int) else 0)) H) := by
  intro pins s σ H x y v u Q I rx ry h
  obtain ⟨i, k, rfl, rfl, q⟩ := h
  obtain ⟨t, rfl⟩ := rx
  cases ry
  exact IntBool.mul_int_bool ⟨.int _, H, I.tok _, ⟨_, rfl⟩, q⟩
end
end L2
namespace M4
end M4
set_option Elab.async false
set_option linter.all false
set_option maxRecDepth 100000
set_option maxHeartbeats 4000000
namespace K9
open PySem L2 M4
def top (i : Nat) : Stmt := PySem.Challenge.pw_cellfolio_k09_cut_and_thinned.main.body.getD i (.Pass ⟨0, 0, 0, 0⟩)
abbrev s_is_whole_from : Stmt := top 8
abbrev s_is_whole_within : Stmt := top 9
abbrev s_is_cell : Stmt := top 10
abbrev s_is_side : Stmt := top 11
abbrev s_is_list_of : Stmt := top 12
abbrev s_are_rows_of : Stmt := top 13
abbrev s_is_picture : Stmt := top 14
abbrev s_need_picture : Stmt := top 15
abbrev s_need_sides : Stmt := top 16
abbrev s_size_of : Stmt := top 17
abbrev s_rows_cut_out : Stmt := top 19
abbrev s_lies_within : Stmt := top 20
abbrev s_cut_out : Stmt := top 21
abbrev s_need_steps : Stmt := top 22
abbrev s_thinned_row : Stmt := top 23
abbrev s_thinned : Stmt := top 24
abbrev s_widened_row : Stmt := top 25
abbrev s_widened : Stmt := top 26
abbrev s_law_cell_at : Stmt := top 28
abbrev s_law_mixed : Stmt := top 29
abbrev s_law_picture : Stmt := top 30
abbrev s_law_copied : Stmt := top 31
abbrev s_law_marked : Stmt := top 32
abbrev s_law_is_like : Stmt := top 33
abbrev s_law_refused : Stmt := top 34
abbrev s_law_part : Stmt := top 35
abbrev s_law_is_number : Stmt := top 36
abbrev s_law_cut : Stmt := top 37
abbrev s_law_step : Stmt := top 38
abbrev s_law_thin : Stmt := top 39
abbrev s_law_steps_right : Stmt := top 40
abbrev s_law : Stmt := top 41
theorem iteB {b : Bool} {A B : Prop} (h1 : b = true → A) (h2 : b = false → B) : if b = true then A else B := by
  cases b with
  | true => exact iteT (h1 rfl)
  | false => exact iteF (h2 rfl)
theorem iteN {b : Bool} {A B : Prop} (h1 : b = false → A) (h2 : b = true → B) : if (!b) = true then A else B := by
  cases b with
  | true => exact iteF (h2 rfl)
  | false => exact iteT (h1 rfl)
def isWh (lo hi : Int) : V → Bool
  | .int i => decide (lo ≤ i) && decide (i ≤ hi)
  | _ => false
def ir (rows : List (List Int)) : List (List V) := rows.map fun r => r.map V.int
structure Good (rows : List (List Int)) (w : Nat) : Prop where
  ne : 1 ≤ rows.length
  le : rows.length ≤ 24
  w1 : 1 ≤ w
  w24 : w ≤ 24
  row : ∀ r ∈ rows, r.length = w ∧ ∀ c ∈ r, 0 ≤ c ∧ c ≤ 15
def isWf (lo : Int) : V → Bool
  | .int i => decide (lo ≤ i)
  | _ => false
def spWf (K : PySem.W.Frag) : Sp := fun vs H Q _ => ∃ x lo, vs = [x, .int lo] ∧ Kd K H x ∧ Q (.bl (isWf lo x)) H
def spWh (K : PySem.W.Frag) : Sp := fun vs H Q _ => ∃ x lo hi, vs = [x, .int lo, .int hi] ∧ Kd K H x ∧ Q (.bl (isWh lo hi x)) H
def spCellQ (K : PySem.W.Frag) : Sp := fun vs H Q _ => ∃ x, vs = [x] ∧ Kd K H x ∧ Q (.bl (isWh 0 15 x)) H
def spSide (K : PySem.W.Frag) : Sp := fun vs H Q _ => ∃ x, vs = [x] ∧ Kd K H x ∧ Q (.bl (isWh 1 24 x)) H
def spLoc (K : PySem.W.Frag) : Sp := fun vs H Q _ => ∃ x, vs = [x] ∧ ((∃ a xs, x = .ref a ∧ H a = some (.lst xs) ∧ xs.length ≤ 1000000 ∧ (∀ y ∈ xs, Kd K H y) ∧ ∀ H', Same H H' → Q (.bl (xs.all (isWh 0 15))) H') ∨ (Kd K H x ∧ isL H x = false ∧ Q (.bl false) H))
def spLocF (K : PySem.W.Frag) (fC : Addr) : Sp := fun vs H Q E => ∃ x, vs = [x, .ref fC] ∧ spLoc K [x] H Q E
structure Txt (K : PySem.W.Frag) (mg : Str → Option Value) (cFE cBP cBS cOP : Addr) (tS tC : Tok) : Prop where
  len : mg "len" = none
  range : mg "range" = none
  isinstance : mg "isinstance" = none
  int : mg "int" = none
  bool : mg "bool" = none
  list : mg "list" = none
  all : mg "all" = none
  zip : mg "zip" = none
  ValueError : mg "ValueError" = none
  MOST_SIDE : mg "MOST_SIDE" = some (.int 24 tS)
  MOST_CELL : mg "MOST_CELL" = some (.int 15 tC)
  FolioError : mg "FolioError" = some (.ref cFE)
  BadPicture : mg "BadPicture" = some (.ref cBP)
  BadSize : mg "BadSize" = some (.ref cBS)
  OutOfPlace : mg "OutOfPlace" = some (.ref cOP)
  xBadPicture : PySem.W.excIn K cBP mroVE "ValueError.__new__" = true
  xBadSize : PySem.W.excIn K cBS mroVE "ValueError.__new__" = true
  xOutOfPlace : PySem.W.excIn K cOP mroVE "ValueError.__new__" = true
  kP : XCls K cBP
  kS : XCls K cBS
  kO : XCls K cOP
  eP : PySem.W.exmOne K (.ref cBP) (.ref cFE) = some true
  eS : PySem.W.exmOne K (.ref cBS) (.ref cFE) = some true
  eO : PySem.W.exmOne K (.ref cOP) (.ref cFE) = some true
  iPP : PySem.W.kitOne K (.ref cBP) (.ref cBP) = some true
  iPS : PySem.W.kitOne K (.ref cBP) (.ref cBS) = some false
  iPO : PySem.W.kitOne K (.ref cBP) (.ref cOP) = some false
  iPV : PySem.W.kitOne K (.ref cBP) (.type "ValueError") = some true
  iSP : PySem.W.kitOne K (.ref cBS) (.ref cBP) = some false
  iSS : PySem.W.kitOne K (.ref cBS) (.ref cBS) = some true
  iSO : PySem.W.kitOne K (.ref cBS) (.ref cOP) = some false
  iSV : PySem.W.kitOne K (.ref cBS) (.type "ValueError") = some true
  iOP : PySem.W.kitOne K (.ref cOP) (.ref cBP) = some false
  iOS : PySem.W.kitOne K (.ref cOP) (.ref cBS) = some false
  iOO : PySem.W.kitOne K (.ref cOP) (.ref cOP) = some true
  iOV : PySem.W.kitOne K (.ref cOP) (.type "ValueError") = some true
theorem boot_VE : bootBuiltins "ValueError" = some (.type "ValueError") := by decide +kernel
section
variable {P : Program} {w : World} {K : PySem.W.Frag} {mg : Str → Option Value} {base : Heap} {cFE cBP cBS cOP : Addr} {tS tC : Tok}
theorem sc_is_whole_from : FnScope ["thing", "least"] ["thing", "least"] (defScope s_is_whole_from) := ⟨rfl, rfl, rfl, by decide +kernel, rfl, by decide +kernel, by decide +kernel⟩
theorem ok_is_whole_from {f : Addr} {fd : FuncData} (F : FunD K "is_whole_from" "is_whole_from" s_is_whole_from .none f fd) (T : Txt K mg cFE cBP cBS cOP tS tC) : FnOk P w K mg base CX0 1 f fd ["thing", "least"] (spWf K) := by
  refine F.ok sc_is_whole_from (fun vs H Q E h => ?_) (fun cdv A outer s H vs Q E hr h => ?_)
  · obtain ⟨x, lo, rfl, _⟩ := h; rfl
  · obtain ⟨x, lo, rfl, kd, k⟩ := h
    refine ⟨_, (pss_cons (ps_if (PW.pt (pw_or (pt_not (pt_val (isiK K rfl (pv 0) rfl T.isinstance rfl T.int PyProof.Rows.boot_int))) (pw_or1 (pt_val (isiK K rfl (pv 0) rfl T.isinstance rfl T.bool PyProof.Rows.boot_bool))))) (pss_one (ps_ret pe_bl)) pss_nil)
        (pss_one (ps_ret (pe_cmpR op_le (pv 1) (pv 0) (nomark _))))), ?_⟩
    have fl : isWf lo x = false → Q (.bl false) H := fun e => by rw [e] at k; exact k
    refine ⟨_, rfl, _, kd.isInt, _, rfl, iteN (fun hI => (fl ?_)) (fun hI => ⟨_, rfl, _, kd.isBool, _, rfl, iteB (fun hB => (fl ?_)) (fun hB => ?_)⟩)⟩
    · cases x <;> first | rfl | cases hI
    · cases x <;> first | rfl | cases hB
    · cases x with
      | int i => exact ⟨_, rfl, _, rfl, _, _, rfl, rfl, k⟩
      | bl b => cases hB
      | _ => cases hI
theorem sc_is_whole_within : FnScope ["thing", "least", "most"] ["thing", "least", "most"] (defScope s_is_whole_within) := ⟨rfl, rfl, rfl, by decide +kernel, rfl, by decide +kernel, by decide +kernel⟩
theorem ok_is_whole_within {f : Addr} {fd : FuncData} (F : FunD K "is_whole_within" "is_whole_within" s_is_whole_within .none f fd) (g_is_whole_from : Def P w K mg base 1 "is_whole_from" ["thing", "least"] [] (spWf K)) : FnOk P w K mg base CX0 2 f fd ["thing", "least", "most"] (spWh K) := by
  refine F.ok sc_is_whole_within (fun vs H Q E h => ?_) (fun cdv A outer s H vs Q E hr h => ?_)
  · obtain ⟨x, lo, hi, rfl, _⟩ := h; rfl
  · obtain ⟨x, lo, hi, rfl, kd, k⟩ := h
    refine ⟨_, (pss_one (ps_ret (pe_and (pe_callD g_is_whole_from (hr.mono (by decide)) rfl (pa_cons (pv 0) (pa_cons (pv 1) pa_nil))) (pe_one (pe_cmpR op_le (pv 0) (pv 2) (nomark _)))))), ?_⟩
    refine ⟨_, rfl, _, rfl, x, lo, rfl, kd, _, rfl, iteB (fun h1 => ?_) (fun h1 => ?_)⟩
    · cases x with
      | int i =>
        refine ⟨_, rfl, _, rfl, _, _, rfl, rfl, ?_⟩
        have h2 : decide (lo ≤ i) = true := h1
        simpa only [isWh, h2, Bool.true_and] using k
      | _ => cases h1
    · have e : isWh lo hi x = false := by
        cases x with
        | int i =>
          have h2 : decide (lo ≤ i) = false := h1
          simp only [isWh, h2, Bool.false_and]
        | _ => rfl
      rw [e] at k
      exact k
theorem sc_is_cell : FnScope ["thing"] ["thing"] (defScope s_is_cell) := ⟨rfl, rfl, rfl, by decide +kernel, rfl, by decide +kernel, by decide +kernel⟩
theorem ok_is_cell {f : Addr} {fd : FuncData} (F : FunD K "is_cell" "is_cell" s_is_cell .none f fd) (T : Txt K mg cFE cBP cBS cOP tS tC) (g_is_whole_within : Def P w K mg base 2 "is_whole_within" ["thing", "least", "most"] [] (spWh K)) : FnOk P w K mg base CX0 3 f fd ["thing"] (spCellQ K) := by
  refine F.ok sc_is_cell (fun vs H Q E h => ?_) (fun cdv A outer s H vs Q E hr h => ?_)
  · obtain ⟨x, rfl, _⟩ := h; rfl
  · obtain ⟨x, rfl, kd, k⟩ := h
    refine ⟨_, (pss_one (ps_ret (pe_callD g_is_whole_within (hr.mono (by decide)) rfl (pa_cons (pv 0) (pa_cons pe_int (pa_cons (pe_glob (v := .int 15) rfl T.MOST_CELL ⟨_, rfl⟩) pa_nil)))))), ?_⟩
    exact ⟨_, rfl, x, 0, 15, rfl, kd, k⟩
theorem sc_is_side : FnScope ["thing"] ["thing"] (defScope s_is_side) := ⟨rfl, rfl, rfl, by decide +kernel, rfl, by decide +kernel, by decide +kernel⟩
theorem ok_is_side {f : Addr} {fd : FuncData} (F : FunD K "is_side" "is_side" s_is_side .none f fd) (T : Txt K mg cFE cBP cBS cOP tS tC) (g_is_whole_within : Def P w K mg base 2 "is_whole_within" ["thing", "least", "most"] [] (spWh K)) : FnOk P w K mg base CX0 3 f fd ["thing"] (spSide K) := by
  refine F.ok sc_is_side (fun vs H Q E h => ?_) (fun cdv A outer s H vs Q E hr h => ?_)
  · obtain ⟨x, rfl, _⟩ := h; rfl
  · obtain ⟨x, rfl, kd, k⟩ := h
    refine ⟨_, (pss_one (ps_ret (pe_callD g_is_whole_within (hr.mono (by decide)) rfl (pa_cons (pv 0) (pa_cons pe_int (pa_cons (pe_glob (v := .int 24) rfl T.MOST_SIDE ⟨_, rfl⟩) pa_nil)))))), ?_⟩
    exact ⟨_, rfl, x, 1, 24, rfl, kd, k⟩
theorem all_map_id {α : Type} (f : α → Bool) (xs : List α) : (xs.map f).all id = xs.all f := by
  induction xs with
  | nil => rfl
  | cons x r ih => rw [List.map_cons, List.all_cons, List.all_cons, ih]; rfl
theorem filter_t {α : Type} (xs : List α) : xs.filter (fun _ => true) = xs := List.filter_eq_self.mpr fun _ _ => rfl
theorem sc_is_list_of : FnScope ["thing", "is_one"] ["thing", "is_one"] (defScope s_is_list_of) := ⟨rfl, rfl, rfl, by decide +kernel, rfl, by decide +kernel, by decide +kernel⟩
theorem ok_is_list_of {fC f : Addr} {fd : FuncData} (F : FunD K "is_list_of" "is_list_of" s_is_list_of .none f fd) (T : Txt K mg cFE cBP cBS cOP tS tC) (g_is_one : DefA P w K mg base 3 fC ["thing"] [] (spCellQ K)) : FnOk P w K mg base CX0 4 f fd ["thing", "is_one"] (spLocF K fC) := by
  refine F.ok sc_is_list_of (fun vs H Q E h => ?_) (fun cdv A outer s H vs Q E hr h => ?_)
  · obtain ⟨x, rfl, _⟩ := h; rfl
  · obtain ⟨x, rfl, x', ex, h⟩ := h
    cases ex
    refine ⟨_, (pss_one (ps_ret (pe_and (isiK K rfl (pv 0) rfl T.isinstance rfl T.list PyProof.Rows.boot_list) (pe_one (pe_callB (allK K rfl rfl) rfl T.all PyProof.Rows.boot_all (pa_cons (pe_comp (N := ["part", "is_one"]) (src := [none, some 1]) rfl ⟨rfl, rfl, rfl, rfl, rfl, by decide +kernel⟩ (piK K rfl (pv 0)) (fun s H C fp => pg_name (i := 0) (show (["part", "is_one"] : List Str).Nodup by decide +kernel) rfl (by first | exact Or.inl rfl | exact Or.inr rfl)) (fun s H C fp => pts_nil) (fun s H C fp => (pe_callV 1 g_is_one (hr.mono (by decide)) (pa_cons (pv 0) pa_nil)))) pa_nil)))))), ?_⟩
    rcases h with ⟨a, xs, rfl, hH, hl, kds, k⟩ | ⟨kd, hL, k⟩
    · refine ⟨_, rfl, true, isList_lst hH, _, rfl, ⟨_, rfl, a, rfl, ⟨_, SqL.of hH⟩, fun D hD => ?_⟩⟩
      refine comp_fm (k := 0) (fun x => .bl (isWh 0 15 x)) (fun _ => true) (src_list (SqL.of hH)) (Nat.le_trans hl (by decide)) hD (fun x _ H' Qb _ kk => kk H' (Same.refl _)) (fun x hx _ H' Q sm kk => ⟨rfl, _, rfl, x, rfl, (kds x hx).mono sm, kk H' (Same.refl _)⟩) fun H' sm hD' => ?_
      refine ⟨D, xs.map (isWh 0 15), rfl, SqL.of (by rw [hD', filter_t, List.map_map]; rfl), ?_⟩
      rw [all_map_id]
      exact k H' sm
    · refine ⟨_, rfl, _, kd.isList, _, rfl, iteB (fun z => ?_) (fun _ => k)⟩
      rw [hL] at z; cases z
theorem wh_len {n : Nat} (h1 : 1 ≤ n) (h2 : n ≤ 24) : isWh 1 24 (.int (n : Int)) = true := by
  simp only [isWh, Bool.and_eq_true, decide_eq_true_eq]; omega
theorem wh_cells {ns : List Int} (h : ∀ c ∈ ns, 0 ≤ c ∧ c ≤ 15) : (ns.map V.int).all (isWh 0 15) = true := by
  rw [List.all_map, List.all_eq_true]
  intro c hc
  have := h c hc
  simp only [Function.comp, isWh, Bool.and_eq_true, decide_eq_true_eq]; omega
theorem kd_ints {H : Hp} {ns : List Int} : ∀ y ∈ ns.map V.int, Kd K H y := fun y hy => by
  obtain ⟨n, _, rfl⟩ := List.mem_map.mp hy
  exact .int n
end
def rowOf (H : Hp) : V → Option (List V)
  | .ref b => match H b with
    | some (.lst ys) => some ys
    | _ => none
  | _ => none
def rowB (ys : List V) : Bool := ys.all (isWh 0 15) && isWh 1 24 (.int (ys.length : Int))
def rowQ (H : Hp) (x : V) : Bool := match rowOf H x with
  | some ys => rowB ys
  | none => false
def lenOf (H : Hp) (x : V) : Nat := match rowOf H x with
  | some ys => ys.length
  | none => 0
def picB (H : Hp) (v : V) : Bool := match rowOf H v with
  | some xs => isWh 1 24 (.int (xs.length : Int)) && (xs.all (rowQ H) && xs.all fun x => decide (lenOf H x = lenOf H (xs.headD .non)))
  | none => false
structure Rw (K : PySem.W.Frag) (H : Hp) (x : V) : Prop where
  kd : Kd K H x
  len : ∀ ys, rowOf H x = some ys → ys.length ≤ 1000
  it : ∀ ys, rowOf H x = some ys → ∀ y ∈ ys, Kd K H y
structure Th (K : PySem.W.Frag) (H : Hp) (v : V) : Prop where
  kd : Kd K H v
  len : ∀ xs, rowOf H v = some xs → xs.length ≤ 1000
  it : ∀ xs, rowOf H v = some xs → ∀ x ∈ xs, Rw K H x
section
variable {K : PySem.W.Frag} {H H' : Hp} {x : V}
theorem rowOf_lst {a : Addr} {ys : List V} (e : H a = some (.lst ys)) : rowOf H (.ref a) = some ys := by simp only [rowOf, e]
theorem rowOf_ref {ys : List V} (h : rowOf H x = some ys) : ∃ a, x = .ref a ∧ H a = some (.lst ys) := by
  cases x with
  | ref a =>
    refine ⟨a, rfl, ?_⟩
    unfold rowOf at h
    dsimp only at h
    split at h
    · rename_i zs e; cases h; exact e
    · cases h
  | _ => cases h
theorem rowOf_mono (k : Kd K H x) (s : Same H H') : rowOf H' x = rowOf H x := by
  cases k with
  | lst e => rw [rowOf_lst e, rowOf_lst (s _ _ e)]
  | tup e => simp only [rowOf, e, s _ _ e]
  | dict e => simp only [rowOf, e, s _ _ e, DictO]
  | _ => rfl
theorem isL_row (k : Kd K H x) : isL H x = (rowOf H x).isSome := by
  cases k with
  | lst e => simp only [isL, rowOf, e]; rfl
  | tup e => simp only [isL, rowOf, e]; rfl
  | dict e => simp only [isL, rowOf, e, DictO]; rfl
  | _ => rfl
theorem Rw.mono (r : Rw K H x) (s : Same H H') : Rw K H' x := by
  have e := rowOf_mono r.kd s
  exact ⟨r.kd.mono s, fun ys h => r.len ys (by rw [← e]; exact h), fun ys h y hy => (r.it ys (by rw [← e]; exact h) y hy).mono s⟩
theorem Th.mono (t : Th K H x) (s : Same H H') : Th K H' x := by
  have e := rowOf_mono t.kd s
  exact ⟨t.kd.mono s, fun ys h => t.len ys (by rw [← e]; exact h), fun ys h y hy => (t.it ys (by rw [← e]; exact h) y hy).mono s⟩
theorem rowQ_mono (k : Kd K H x) (s : Same H H') : rowQ H' x = rowQ H x := by unfold rowQ; rw [rowOf_mono k s]
theorem lenOf_mono (k : Kd K H x) (s : Same H H') : lenOf H' x = lenOf H x := by unfold lenOf; rw [rowOf_mono k s]
theorem picB_mono (t : Th K H x) (s : Same H H') : picB H' x = picB H x := by
  unfold picB
  rw [rowOf_mono t.kd s]
  cases h : rowOf H x with
  | none => rfl
  | some xs =>
    dsimp only
    have e1 : xs.all (rowQ H') = xs.all (rowQ H) := by
      rw [Bool.eq_iff_iff, List.all_eq_true, List.all_eq_true]
      constructor
      · intro h2 y hy; rw [← rowQ_mono (t.it xs h y hy).kd s]; exact h2 y hy
      · intro h2 y hy; rw [rowQ_mono (t.it xs h y hy).kd s]; exact h2 y hy
    have e2 : (xs.all fun y => decide (lenOf H' y = lenOf H' (xs.headD .non))) = (xs.all fun y => decide (lenOf H y = lenOf H (xs.headD .non))) := by
      cases xs with
      | nil => rfl
      | cons z r =>
        have hz : lenOf H' z = lenOf H z := lenOf_mono (t.it _ h z List.mem_cons_self).kd s
        rw [Bool.eq_iff_iff, List.all_eq_true, List.all_eq_true]
        constructor
        · intro h2 y hy
          have q : decide (lenOf H' y = lenOf H' z) = true := h2 y hy
          have q' := of_decide_eq_true q
          rw [lenOf_mono (t.it _ h y hy).kd s, hz] at q'
          exact decide_eq_true q'
        · intro h2 y hy
          have q : decide (lenOf H y = lenOf H z) = true := h2 y hy
          have q' := of_decide_eq_true q
          refine decide_eq_true ?_
          show lenOf H' y = lenOf H' z
          rw [lenOf_mono (t.it _ h y hy).kd s, hz]
          exact q'
    rw [e1, e2]
end
def spPic (K : PySem.W.Frag) : Sp := fun vs H Q _ => ∃ x, vs = [x] ∧ Th K H x ∧ ∀ H', Same H H' → Q (.bl (picB H x)) H'
def spPicF (K : PySem.W.Frag) (fC : Addr) : Sp := fun vs H Q E => ∃ x, vs = [x, .ref fC] ∧ spPic K [x] H Q E
def spNeed (K : PySem.W.Frag) (cBP : Addr) : Sp := fun vs H Q E => ∃ x, vs = [x] ∧ Th K H x ∧ (picB H x = true → ∀ H', Same H H' → Q .non H') ∧ (picB H x = false → ∀ H', Same H H' → E (.ref cBP) none H')
def spSize (K : PySem.W.Frag) (cBP : Addr) : Sp := fun vs H Q E => ∃ x, vs = [x] ∧ Th K H x ∧ (picB H x = true → ∀ xs p H', rowOf H x = some xs → Same H H' → H p = none → H' p = some (.tup [.int (lenOf H (xs.headD .non) : Int), .int (xs.length : Int)]) → Q (.ref p) H') ∧ (picB H x = false → ∀ H', Same H H' → E (.ref cBP) none H')
def spNeedS (K : PySem.W.Frag) (cBS : Addr) : Sp := fun vs H Q E => ∃ wd hg, vs = [wd, hg] ∧ Kd K H wd ∧ Kd K H hg ∧ ((isWh 1 24 wd && isWh 1 24 hg) = true → Q .non H) ∧ ((isWh 1 24 wd && isWh 1 24 hg) = false → E (.ref cBS) none H)
section
variable {P : Program} {w : World} {K : PySem.W.Frag} {mg : Str → Option Value} {base : Heap} {cFE cBP cBS cOP : Addr} {tS tC : Tok}
theorem wh_side {v : V} (h : isWh 1 24 v = true) : ∃ w : Nat, v = .int (w : Int) ∧ 1 ≤ w ∧ w ≤ 24 := by
  cases v with
  | int i =>
    simp only [isWh, Bool.and_eq_true, decide_eq_true_eq] at h
    exact ⟨i.toNat, by rw [Int.toNat_of_nonneg (by omega)], by omega, by omega⟩
  | _ => cases h
theorem head_at {xs : List V} (h : 0 < xs.length) : xs[0]? = some (xs.headD .non) := by
  cases xs with
  | nil => simp at h
  | cons x r => rfl
theorem sc_are_rows_of : FnScope ["thing", "is_one"] ["thing", "is_one"] (defScope s_are_rows_of) := ⟨rfl, rfl, rfl, by decide +kernel, rfl, by decide +kernel, by decide +kernel⟩
theorem ok_are_rows_of {fC f : Addr} {fd : FuncData} (F : FunD K "are_rows_of" "are_rows_of" s_are_rows_of .none f fd) (T : Txt K mg cFE cBP cBS cOP tS tC) (g_is_list_of : Def P w K mg base 4 "is_list_of" ["thing", "is_one"] [] (spLocF K fC)) (g_is_side : Def P w K mg base 3 "is_side" ["thing"] [] (spSide K)) : FnOk P w K mg base CX0 5 f fd ["thing", "is_one"] (spPicF K fC) := by
  refine F.ok sc_are_rows_of (fun vs H Q E h => ?_) (fun cdv A outer s H vs Q E hr h => ?_)
  · obtain ⟨x, rfl, _⟩ := h; rfl
  · obtain ⟨x, rfl, x', ex, th, k⟩ := h
    cases ex
    refine ⟨_, (pss_cons (ps_if (PW.pt (pw_or (pt_not (pt_val (isiK K rfl (pv 0) rfl T.isinstance rfl T.list PyProof.Rows.boot_list))) (pw_or1 (pt_not (pt_val (pe_callD g_is_side (hr.mono (by decide)) rfl (pa_cons (pe_callB (lenK K rfl) rfl T.len PySem.boot_len (pa_cons (pv 0) pa_nil)) pa_nil))))))) (pss_one (ps_ret pe_bl)) pss_nil)
        (pss_cons (ps_if (pt_not (pt_val (pe_callB (allK K rfl rfl) rfl T.all PyProof.Rows.boot_all (pa_cons (pe_comp (N := ["row", "is_one"]) (src := [none, some 1]) rfl ⟨rfl, rfl, rfl, rfl, rfl, by decide +kernel⟩ (piK K rfl (pv 0)) (fun s H C fp => pg_name (i := 0) (show (["row", "is_one"] : List Str).Nodup by decide +kernel) rfl (by first | exact Or.inl rfl | exact Or.inr rfl)) (fun s H C fp => pts_nil) (fun s H C fp => (pe_and (pe_callD g_is_list_of (hr.mono (by decide)) rfl (pa_cons (pv 0) (pa_cons (pv 1) pa_nil))) (pe_one (pe_callD g_is_side (hr.mono (by decide)) rfl (pa_cons (pe_callB (lenK K rfl) rfl T.len PySem.boot_len (pa_cons (pv 0) pa_nil)) pa_nil)))))) pa_nil)))) (pss_one (ps_ret pe_bl)) pss_nil)
        (pss_one (ps_ret (pe_callB (allK K rfl rfl) rfl T.all PyProof.Rows.boot_all (pa_cons (pe_comp (N := ["row", "thing"]) (src := [none, some 0]) rfl ⟨rfl, rfl, rfl, rfl, rfl, by decide +kernel⟩ (piK K rfl (pv 0)) (fun s H C fp => pg_name (i := 0) (show (["row", "thing"] : List Str).Nodup by decide +kernel) rfl (by first | exact Or.inl rfl | exact Or.inr rfl)) (fun s H C fp => pts_nil) (fun s H C fp => (pe_cmpR op_eq (pe_callB (lenK K rfl) rfl T.len PySem.boot_len (pa_cons (pv 0) pa_nil)) (pe_callB (lenK K rfl) rfl T.len PySem.boot_len (pa_cons (pe_ix (ixK K rfl) (pv 1) pe_int (fun _ _ => rfl)) pa_nil)) (nomark _)))) pa_nil)))))), ?_⟩
    cases hx : rowOf H x with
    | none =>
      have ek : picB H x = false := by unfold picB; rw [hx]
      rw [ek] at k
      refine ⟨_, rfl, _, th.kd.isList, _, rfl, ?_⟩
      rw [isL_row th.kd, hx]
      exact k H (Same.refl H)
    | some xs =>
      obtain ⟨a, rfl, e⟩ := rowOf_ref hx
      have ek : picB H (.ref a) = (isWh 1 24 (.int (xs.length : Int)) && (xs.all (rowQ H) && xs.all fun x => decide (lenOf H x = lenOf H (xs.headD .non)))) := by unfold picB; rw [hx]
      rw [ek] at k
      have hz : xs.length ≤ sizeLine := Nat.le_trans (th.len xs hx) (by decide)
      refine ⟨_, rfl, true, isList_lst e, _, rfl, ⟨_, rfl, a, _, rfl, .inl (SqL.of e), _, rfl, .int _, _, rfl, iteN (fun h1 => ?_) (fun h1 => ?_)⟩⟩
      · rw [h1, Bool.false_and] at k
        exact k H (Same.refl H)
      rw [h1, Bool.true_and] at k
      refine ⟨_, rfl, a, rfl, ⟨_, SqL.of e⟩, fun D hD => ?_⟩
      refine comp_fm (k := 0) (fun y => .bl (rowQ H y)) (fun _ => true) (src_list (SqL.of e)) hz hD (fun x _ H' Qb _ kk => kk H' (Same.refl _)) (fun y hy _ H' Q' sm kk => ?_) fun H1 s1 hD1 => ?_
      · have r1 := th.it xs hx y hy
        have r2 := r1.mono sm
        have k2 : ∀ H2, Same H' H2 → Q' (.bl (rowQ H' y)) H2 := fun H2 s2 => by rw [rowQ_mono r1.kd sm]; exact kk H2 s2
        refine ⟨_, rfl, _, rfl, y, rfl, y, rfl, ?_⟩
        cases hr0 : rowOf H' y with
        | none =>
          refine .inr ⟨r2.kd, by rw [isL_row r2.kd, hr0]; rfl, _, rfl, ?_⟩
          have := k2 H' (Same.refl H')
          unfold rowQ at this
          rw [hr0] at this
          exact this
        | some ys =>
          obtain ⟨b, rfl, e2⟩ := rowOf_ref hr0
          have ek : rowQ H' (.ref b) = rowB ys := by unfold rowQ; rw [hr0]
          refine .inl ⟨b, ys, rfl, e2, Nat.le_trans (r2.len ys hr0) (by decide), r2.it ys hr0, fun H1 s1 => ⟨_, rfl, iteB (fun h1 => ?_) (fun h1 => ?_)⟩⟩
          · refine ⟨_, rfl, b, _, rfl, .inl (SqL.of (s1 _ _ e2)), _, rfl, .int _, ?_⟩
            have := k2 H1 s1
            rw [ek] at this
            unfold rowB at this
            rw [h1, Bool.true_and] at this
            exact this
          · have := k2 H1 s1
            rw [ek] at this
            unfold rowB at this
            rw [h1, Bool.false_and] at this
            exact this
      refine ⟨D, xs.map (rowQ H), rfl, SqL.of (by rw [hD1, filter_t, List.map_map]; rfl), _, rfl, ?_⟩
      rw [all_map_id]
      refine iteN (fun h2 => ?_) (fun h2 => ?_)
      · rw [h2, Bool.false_and] at k
        exact k H1 s1
      rw [h2, Bool.true_and] at k
      have hpos : 0 < xs.length := by
        obtain ⟨n, en, n1, _⟩ := wh_side h1
        injection en with en
        omega
      have lst : ∀ y ∈ xs, ∃ b ys, y = .ref b ∧ H b = some (.lst ys) ∧ lenOf H y = ys.length := fun y hy => by
        have q := List.all_eq_true.mp h2 y hy
        unfold rowQ at q
        cases hy2 : rowOf H y with
        | none => rw [hy2] at q; cases q
        | some ys =>
          obtain ⟨b, rfl, e2⟩ := rowOf_ref hy2
          exact ⟨b, ys, rfl, e2, by unfold lenOf; rw [hy2]⟩
      obtain ⟨b0, y0, eh, e0, l0⟩ := lst (xs.headD .non) (by cases xs with | nil => simp at hpos | cons z r => exact List.mem_cons_self)
      refine ⟨_, rfl, a, rfl, ⟨_, SqL.of (s1 _ _ e)⟩, fun D2 hD2 => ?_⟩
      refine comp_fm (k := 0) (fun y => .bl (decide (lenOf H y = lenOf H (xs.headD .non)))) (fun _ => true) (src_list (SqL.of (s1 _ _ e))) hz hD2 (fun x _ H' Qb _ kk => kk H' (Same.refl _)) (fun y hy _ H' Q' sm kk => ?_) fun H2 s2 hD2' => ?_
      · have sm2 := s1.trans sm
        obtain ⟨b, ys, rfl, e2, l2⟩ := lst y hy
        refine ⟨_, rfl, b, _, rfl, .inl (SqL.of (sm2 _ _ e2)), _, rfl, a, _, _, _, rfl, rfl, SqL.of (sm2 _ _ e), atI_nat (j := 0) (head_at hpos), b0, _, eh ▸ rfl, .inl (SqL.of (sm2 _ _ e0)), rfl, ?_⟩
        have ed : decide (V.int (ys.length : Int) = V.int (y0.length : Int)) = decide (lenOf H (.ref b) = lenOf H (xs.headD .non)) := by
          rw [l2, l0, dec_int, Bool.eq_iff_iff]
          simp
          omega
        rw [ed]
        exact kk H' (Same.refl _)
      · refine ⟨D2, xs.map fun y => decide (lenOf H y = lenOf H (xs.headD .non)), rfl, SqL.of (by rw [hD2', filter_t, List.map_map]; rfl), ?_⟩
        rw [all_map_id]
        exact k H2 (s1.trans s2)
theorem sc_is_picture : FnScope ["thing"] ["thing"] (defScope s_is_picture) := ⟨rfl, rfl, rfl, by decide +kernel, rfl, by decide +kernel, by decide +kernel⟩
theorem ok_is_picture {fC f : Addr} {fd : FuncData} (F : FunD K "is_picture" "is_picture" s_is_picture .none f fd) (hC : mg "is_cell" = some (.ref fC)) (g_are_rows_of : Def P w K mg base 5 "are_rows_of" ["thing", "is_one"] [] (spPicF K fC)) : FnOk P w K mg base CX0 6 f fd ["thing"] (spPic K) := by
  refine F.ok sc_is_picture (fun vs H Q E h => ?_) (fun cdv A outer s H vs Q E hr h => ?_)
  · obtain ⟨x, rfl, _⟩ := h; rfl
  · obtain ⟨x, rfl, th, k⟩ := h
    refine ⟨_, (pss_one (ps_ret (pe_callD g_are_rows_of (hr.mono (by decide)) rfl (pa_cons (pv 0) (pa_cons (pe_glob (v := .ref fC) rfl hC rfl) pa_nil))))), ?_⟩
    exact ⟨_, rfl, x, rfl, x, rfl, th, k⟩
theorem sc_need_picture : FnScope ["picture"] ["picture"] (defScope s_need_picture) := ⟨rfl, rfl, rfl, by decide +kernel, rfl, by decide +kernel, by decide +kernel⟩
theorem ok_need_picture {f : Addr} {fd : FuncData} (F : FunD K "need_picture" "need_picture" s_need_picture .none f fd) (T : Txt K mg cFE cBP cBS cOP tS tC) (g_is_picture : Def P w K mg base 6 "is_picture" ["thing"] [] (spPic K)) : FnOk P w K mg base (CX1 P w) 7 f fd ["picture"] (spNeed K cBP) := by
  refine F.okX sc_need_picture (fun vs H Q E h => ?_) (fun cdv A outer s H vs Q E hr h => ?_)
  · obtain ⟨x, rfl, _⟩ := h; rfl
  · obtain ⟨x, rfl, th, kY, kN⟩ := h
    refine ⟨_, (pss_one (ps_if (pt_not (pt_val (pe_callD g_is_picture (hr.mono (by decide)) rfl (pa_cons (pv 0) pa_nil)))) (pss_one (ps_raise rfl raises1 rfl T.BadPicture T.xBadPicture (pa_cons pe_str pa_nil))) pss_nil)), ?_⟩
    exact ⟨_, rfl, x, rfl, th, fun H' sm => ⟨_, rfl, iteN (fun h => ⟨by show 1 ≤ sizeLine; decide, kN h H' sm⟩) (fun h => kY h H' sm)⟩⟩
theorem sc_size_of : FnScope ["picture"] ["picture"] (defScope s_size_of) := ⟨rfl, rfl, rfl, by decide +kernel, rfl, by decide +kernel, by decide +kernel⟩
theorem ok_size_of {f : Addr} {fd : FuncData} (F : FunD K "size_of" "size_of" s_size_of .none f fd) (T : Txt K mg cFE cBP cBS cOP tS tC) (g_need_picture : DefX P w K mg base 7 "need_picture" ["picture"] [] (spNeed K cBP)) : FnOk P w K mg base (CX1 P w) 8 f fd ["picture"] (spSize K cBP) := by
  refine F.okX sc_size_of (fun vs H Q E h => ?_) (fun cdv A outer s H vs Q E hr h => ?_)
  · obtain ⟨x, rfl, _⟩ := h; rfl
  · obtain ⟨x, rfl, th, kY, kN⟩ := h
    refine ⟨_, (pss_cons (ps_expr (pe_callX g_need_picture (hr.mono (by decide)) passes1R rfl (pa_cons (pv 0) pa_nil)))
        (pss_one (ps_ret (pe_tup (pa_cons (pe_callB (lenK K rfl) rfl T.len PySem.boot_len (pa_cons (pe_ix (ixK K rfl) (pv 0) pe_int (fun _ _ => rfl)) pa_nil)) (pa_cons (pe_callB (lenK K rfl) rfl T.len PySem.boot_len (pa_cons (pv 0) pa_nil)) pa_nil)))))), ?_⟩
    refine ⟨_, rfl, x, rfl, th, fun hp H1 s1 => ?_, kN⟩
    cases hx : rowOf H x with
    | none => unfold picB at hp; rw [hx] at hp; cases hp
    | some xs =>
      obtain ⟨a, rfl, e⟩ := rowOf_ref hx
      unfold picB at hp
      rw [hx] at hp
      simp only [Bool.and_eq_true] at hp
      obtain ⟨h1, h2, _⟩ := hp
      have hpos : 0 < xs.length := by
        obtain ⟨n, en, n1, _⟩ := wh_side h1
        injection en with en
        omega
      have hm : xs.headD .non ∈ xs := by cases xs with | nil => simp at hpos | cons z r => exact List.mem_cons_self
      have q := List.all_eq_true.mp h2 _ hm
      unfold rowQ at q
      cases hy2 : rowOf H (xs.headD .non) with
      | none => rw [hy2] at q; cases q
      | some ys =>
        obtain ⟨b, eb, e2⟩ := rowOf_ref hy2
        refine ⟨_, rfl, a, _, _, _, rfl, rfl, SqL.of (s1 _ _ e), atI_nat (j := 0) (head_at hpos), b, _, eb ▸ rfl, .inl (SqL.of (s1 _ _ e2)), _, rfl, a, _, rfl, .inl (SqL.of (s1 _ _ e)), (by show 2 ≤ sizeLine; decide), fun p hp' => ?_⟩
        refine kY (by unfold picB; rw [hx]; simp only [Bool.and_eq_true]; exact ⟨h1, h2, ‹_›⟩) xs p _ hx (s1.trans (same_new hp')) (s1.free hp') ?_
        rw [upd_same]
        unfold lenOf
        rw [hy2]
end
theorem atI_mem {xs : List V} {i : Int} (h0 : 0 ≤ i) (h1 : i < xs.length) : ∃ v, atI xs i = some v ∧ v ∈ xs := by
  obtain ⟨j, rfl⟩ : ∃ j : Nat, i = (j : Int) := ⟨i.toNat, by omega⟩
  have hj : j < xs.length := by omega
  exact ⟨xs[j], atI_nat (by simp [hj]), List.getElem_mem hj⟩
theorem picB_iff {H : Hp} {a : Addr} {xs : List V} (e : rowOf H (.ref a) = some xs) : picB H (.ref a) = true ↔ (isWh 1 24 (.int (xs.length : Int)) = true ∧ (∀ x ∈ xs, rowQ H x = true) ∧ ∀ x ∈ xs, lenOf H x = lenOf H (xs.headD .non)) := by
  unfold picB
  rw [e]
  simp only [Bool.and_eq_true, List.all_eq_true, decide_eq_true_eq]
theorem rowQ_iff {H : Hp} {b : Addr} {ys : List V} (e : H b = some (.lst ys)) : rowQ H (.ref b) = true ↔ (ys.all (isWh 0 15) = true ∧ isWh 1 24 (.int (ys.length : Int)) = true) := by
  unfold rowQ
  rw [rowOf_lst e]
  simp only [rowB, Bool.and_eq_true]
theorem lenOf_lst {H : Hp} {b : Addr} {ys : List V} (e : H b = some (.lst ys)) : lenOf H (.ref b) = ys.length := by unfold lenOf; rw [rowOf_lst e]
def Th2 (K : PySem.W.Frag) (H : Hp) (v : V) : Prop := Th K H v ∧ ∀ a xs, v = .ref a → H a = some (.tup xs) → ∀ y ∈ xs, flatV y = true ∨ ∃ b, y = .ref b
section
variable {K : PySem.W.Frag} {H : Hp} {q : Addr} {r r' : List V}
theorem Rw.lst (e : H q = some (.lst r)) (hl : r.length ≤ 1000) (hk : ∀ y ∈ r, Kd K H y) : Rw K H (.ref q) :=
  ⟨.lst e, fun ys h => by rw [rowOf_lst e] at h; cases h; exact hl, fun ys h => by rw [rowOf_lst e] at h; cases h; exact hk⟩
theorem Th.lst {p : Addr} {xs : List V} (e : H p = some (.lst xs)) (hl : xs.length ≤ 1000) (hk : ∀ x ∈ xs, Rw K H x) : Th2 K H (.ref p) :=
  ⟨⟨.lst e, fun ys h => by rw [rowOf_lst e] at h; cases h; exact hl, fun ys h => by rw [rowOf_lst e] at h; cases h; exact hk⟩, fun a ys z e2 => by cases z; rw [e] at e2; cases e2⟩
theorem Th.pic {a : Addr} {ps : List Addr} {R : List (List V)} (p : PicV H a ps R) (hl : R.length ≤ 1000) (hr : ∀ r ∈ R, r.length ≤ 1000 ∧ ∀ y ∈ r, Kd K H y) : Th2 K H (.ref a) := by
  refine Th.lst p.top (by rw [List.length_map, p.len]; exact hl) fun x hx => ?_
  obtain ⟨q, hq, rfl⟩ := List.mem_map.mp hx
  obtain ⟨r, hrm, e⟩ := p.mem hq
  exact Rw.lst e (hr r hrm).1 (hr r hrm).2
end
end K9
set_option Elab.async false
set_option linter.all false
set_option maxRecDepth 100000
set_option maxHeartbeats 8000000
namespace K9
open PySem L2 M4
section
variable {K : PySem.W.Frag}
theorem Good.at {rows : List (List Int)} {wd : Nat} (g : Good rows wd) {i : Nat} {r : List V} (h : (ir rows)[i]? = some r) : ∃ (ns : List Int), r = ns.map V.int ∧ ns.length = wd ∧ (∀ c ∈ ns, 0 ≤ c ∧ c ≤ 15) ∧ ns ∈ rows := by
  unfold ir at h
  rw [List.getElem?_map] at h
  cases e : rows[i]? with
  | none => rw [e] at h; cases h
  | some ns =>
    rw [e] at h
    cases h
    have hm := List.mem_of_getElem? e
    exact ⟨ns, rfl, (g.row ns hm).1, (g.row ns hm).2, hm⟩
theorem Good.mem {H : Hp} {a q : Addr} {ps : List Addr} {rows : List (List Int)} {wd : Nat} (g : Good rows wd) (p : PicV H a ps (ir rows)) (hq : q ∈ ps) : ∃ (ns : List Int), H q = some (.lst (ns.map V.int)) ∧ ns.length = wd ∧ (∀ c ∈ ns, 0 ≤ c ∧ c ≤ 15) := by
  obtain ⟨i, hi⟩ := List.mem_iff_getElem?.mp hq
  obtain ⟨r, hr, e⟩ := p.at hi
  obtain ⟨ns, rfl, h1, h2, _⟩ := g.at hr
  exact ⟨ns, e, h1, h2⟩
theorem Good.first {H : Hp} {a : Addr} {ps : List Addr} {rows : List (List Int)} {wd : Nat} (g : Good rows wd) (p : PicV H a ps (ir rows)) : ∃ (q : Addr) (ns : List Int), (ps.map V.ref)[0]? = some (.ref q) ∧ H q = some (.lst (ns.map V.int)) ∧ ns.length = wd := by
  have hl : ps.length = rows.length := by have := p.len; unfold ir at this; rw [List.length_map] at this; exact this
  have h0 : 0 < ps.length := by have := g.ne; omega
  have e : ps[0]? = some ps[0] := by simp [h0]
  obtain ⟨ns, h1, h2, _⟩ := g.mem p (List.getElem_mem h0)
  exact ⟨ps[0], ns, by rw [List.getElem?_map, e]; rfl, h1, h2⟩
theorem ir_len (rows : List (List Int)) : (ir rows).length = rows.length := by unfold ir; rw [List.length_map]
end
def spCell (K : PySem.W.Frag) : Sp := fun vs H Q _ => ∃ (a : Addr) (ns : List Int) (k : Nat), vs = [.ref a, .int k] ∧ SqL K H a (ns.map V.int) ∧ Q (.int (ns.getD k 0)) H
def mixN (c k : Int) : Int := c % 1000000007 + 7919 * k + 13
def mixI (c k : Int) : Int := mixN c k * mixN c k % 1000000007 * mixN c k % 998244353 / 11
def spMixed : Sp := fun vs H Q _ => ∃ c k : Int, vs = [.int c, .int k] ∧ (0 ≤ k ∧ k ≤ 1000000) ∧ Q (.int (mixI c k)) H
def spPicture (K : PySem.W.Frag) : Sp := fun vs H Q _ => ∃ (a : Addr) (ns : List Int), vs = [.ref a, .int 0, .int 8] ∧ SqL K H a (ns.map V.int) ∧
  ∀ p ps rows wd H', Same H H' → H p = none → Fresh H ps → PicV H' p ps (ir rows) → Good rows wd → Q (.ref p) H'
def spCopied (K : PySem.W.Frag) : Sp := fun vs H Q _ => ∃ a ps R, vs = [.ref a] ∧ H a = some (.lst (ps.map V.ref)) ∧ Paired (fun p r => H p = some (.lst r)) ps R ∧ R.length ≤ 1000 ∧ ∀ p qs H', Same H H' → H p = none → Fresh H qs → PicV H' p qs R → Q (.ref p) H'
def spLike (K : PySem.W.Frag) : Sp := fun vs H Q _ => ∃ a b ps qs rows wd, vs = [.ref a, .ref b] ∧ PicV H a ps (ir rows) ∧ PicV H b qs (ir rows) ∧ Good rows wd ∧ (∀ q ∈ qs, q ∉ ps) ∧ b ∉ ps ∧ ∀ H', Same H H' → Q (.bl true) H'
section
variable {P : Program} {w : World} {K : PySem.W.Frag} {mg : Str → Option Value} {base : Heap} {cFE cBP cBS cOP : Addr} {tS tC : Tok}
theorem sc_law_cell_at : FnScope ["_law_script", "_law_k"] ["_law_script", "_law_k"] (defScope s_law_cell_at) := ⟨rfl, rfl, rfl, by decide +kernel, rfl, by decide +kernel, by decide +kernel⟩
theorem ok_law_cell_at {f : Addr} {fd : FuncData} (F : FunD K "_law_cell_at" "_law_cell_at" s_law_cell_at .none f fd) (T : Txt K mg cFE cBP cBS cOP tS tC) : FnOk P w K mg base CX0 2 f fd ["_law_script", "_law_k"] (spCell K) := by
  refine F.ok sc_law_cell_at (fun vs H Q E h => ?_) (fun cdv A outer s H vs Q E hr h => ?_)
  · obtain ⟨a, ns, k, rfl, _⟩ := h; rfl
  · obtain ⟨a, ns, j, rfl, hS, k⟩ := h
    refine ⟨_, (pss_cons (ps_if (pt_cmpR op_lt (pv 1) (pe_callB (lenK K rfl) rfl T.len PySem.boot_len (pa_cons (pv 0) pa_nil)) (nomark _)) (pss_one (ps_ret (pe_ix (ixK K rfl) (pv 0) (pv 1) (fun _ _ => rfl)))) pss_nil)
        (pss_one (ps_ret pe_int))), ?_⟩
    refine ⟨_, rfl, _, rfl, a, _, rfl, .inl hS, _, _, rfl, rfl, _, rfl, ?_⟩
    rw [List.length_map]
    refine ite2 (fun hc => ?_) (fun hc => ?_)
    · have hlt : j < ns.length := by have := of_decide_eq_true hc; omega
      refine ⟨_, rfl, _, rfl, a, _, _, _, rfl, rfl, hS, atI_nat (j := j) (v := V.int (ns.getD j 0)) ?_, k⟩
      rw [List.getElem?_map, List.getElem?_eq_getElem hlt]
      simp [List.getD, hlt]
    · have hge : ¬ j < ns.length := fun z => hc (decide_eq_true (by omega))
      have e : ns.getD j 0 = 0 := by simp [List.getD, List.getElem?_eq_none (Nat.le_of_not_lt hge)]
      rw [e] at k
      exact k
theorem mixN_lt {c k : Int} (h : 0 ≤ k ∧ k ≤ 1000000) : 0 ≤ mixN c k ∧ mixN c k < 2 ^ 64 := by
  unfold mixN
  have h1 := Int.emod_nonneg c (show (1000000007 : Int) ≠ 0 by decide)
  have h2 := Int.emod_lt_of_pos c (show (0 : Int) < 1000000007 by decide)
  omega
theorem sc_law_mixed : FnScope ["_law_cell", "_law_k", "_law_number"] ["_law_cell", "_law_k"] (defScope s_law_mixed) := ⟨rfl, rfl, rfl, by decide +kernel, rfl, by decide +kernel, by decide +kernel⟩
theorem ok_law_mixed {f : Addr} {fd : FuncData} (F : FunD K "_law_mixed" "_law_mixed" s_law_mixed .none f fd) : FnOk P w K mg base CX0 2 f fd ["_law_cell", "_law_k"] spMixed := by
  refine F.ok sc_law_mixed (fun vs H Q E h => ?_) (fun cdv A outer s H vs Q E hr h => ?_)
  · obtain ⟨c, j, rfl, _⟩ := h; rfl
  · obtain ⟨c, j, rfl, hj, k⟩ := h
    refine ⟨_, (pss_cons (ps_set (i := 2) sc_law_mixed.nd rfl (by first | exact Or.inl rfl | exact Or.inr rfl) (pe_op op_add (pe_op op_add (pe_op op_mod (pv 0) pe_int) (pe_op op_mul pe_int (pv 1))) pe_int))
        (pss_one (ps_ret (pe_op op_fdiv (pe_op op_mod (pe_op op_mul (pe_op op_mod (pe_op op_mul (pv 2) (pv 2)) pe_int) (pv 2)) pe_int) pe_int)))), ?_⟩
    have hm := mixN_lt (c := c) hj
    have p1 : 0 ≤ mixN c j * mixN c j % 1000000007 := Int.emod_nonneg _ (by decide)
    have p2 : mixN c j * mixN c j % 1000000007 < 1000000007 := Int.emod_lt_of_pos _ (by decide)
    refine ⟨_, rfl, _, _, rfl, rfl, (by show (0 : Int) < 1000000007; decide), _, rfl, _, _, rfl, rfl, .inl ⟨by decide, by decide⟩, _, _, rfl, rfl, _, _, rfl, rfl, ?_⟩
    refine ⟨_, rfl, _, rfl, _, _, rfl, rfl, .inl ⟨?_, ?_⟩, _, _, rfl, rfl, (by show (0 : Int) < 1000000007; decide), _, rfl, _, _, rfl, rfl, .inl ⟨?_, ?_⟩, _, _, rfl, rfl, (by show (0 : Int) < 998244353; decide), _, _, rfl, rfl, ⟨by decide, by decide⟩, k⟩
    · show -(2 ^ 64) < mixN c j; omega
    · show mixN c j < 2 ^ 64; omega
    · show -(2 ^ 64) < mixN c j * mixN c j % 1000000007; omega
    · show mixN c j * mixN c j % 1000000007 < 2 ^ 64; omega
theorem sc_law_copied : FnScope ["_law_picture_here"] ["_law_picture_here"] (defScope s_law_copied) := ⟨rfl, rfl, rfl, by decide +kernel, rfl, by decide +kernel, by decide +kernel⟩
theorem ok_law_copied {f : Addr} {fd : FuncData} (F : FunD K "_law_copied" "_law_copied" s_law_copied .none f fd) (T : Txt K mg cFE cBP cBS cOP tS tC) : FnOk P w K mg base CX0 2 f fd ["_law_picture_here"] (spCopied K) := by
  refine F.ok sc_law_copied (fun vs H Q E h => ?_) (fun cdv A outer s H vs Q E hr h => ?_)
  · obtain ⟨a, ps, R, rfl, _⟩ := h; rfl
  · obtain ⟨a, ps, R, rfl, top, row, hl, k⟩ := h
    refine ⟨_, (pss_one (ps_ret (pe_comp (N := ["_law_row"]) (src := [none]) rfl ⟨rfl, rfl, rfl, rfl, rfl, by decide +kernel⟩ (piK K rfl (pv 0)) (fun s H C fp => pg_name (i := 0) (show (["_law_row"] : List Str).Nodup by decide +kernel) rfl (by first | exact Or.inl rfl | exact Or.inr rfl)) (fun s H C fp => pts_nil) (fun s H C fp => (pe_callTy (listK K rfl) rfl T.list PyProof.Rows.boot_list (pa_cons (pv 0) pa_nil)))))), ?_⟩
    refine ⟨_, rfl, a, rfl, ⟨_, SqL.of top⟩, fun D hD => ?_⟩
    let g : V → List V := fun v => match v with | .ref q => (match H q with | some (.lst r) => r | _ => []) | _ => []
    have gR : (ps.map V.ref).map g = R := by
      rw [List.map_map]
      have : ∀ {l : List Addr} {S : List (List V)}, Paired (fun p r => H p = some (.lst r)) l S → l.map (g ∘ V.ref) = S := by
        intro l S h
        induction h with
        | nil => rfl
        | cons r t ih =>
          rw [List.map_cons, ih]
          simp only [Function.comp, g, r]
      exact this row
    refine comp_rows (k := 0) g (src_list (SqL.of top)) (by rw [List.length_map, Paired.length row]; exact Nat.le_trans hl (by decide)) hD (fun x hx H' Q' sm kk => ?_) fun qs H' sm fr pic' => k D qs H' sm hD fr (by rw [gR] at pic'; exact pic')
    obtain ⟨q, hq, rfl⟩ := List.mem_map.mp hx
    obtain ⟨r, e⟩ : ∃ r, H q = some (.lst r) := by
      obtain ⟨i, hi⟩ := List.mem_iff_getElem?.mp hq
      obtain ⟨r, _, e⟩ := Paired.getL row hi
      exact ⟨r, e⟩
    have ge : g (.ref q) = r := by simp only [g, e]
    refine ⟨_, rfl, q, r, rfl, .inl (SqL.of (sm _ _ e)), fun l hl => kk l _ (same_new hl) hl ?_⟩
    rw [upd_same, ge]
end
theorem hues_at {i : Int} (h0 : 0 ≤ i) (h1 : i < 4) : ∃ h : Int, atI [V.int 16, .int 2, .int 3, .int 4] i = some (.int h) ∧ 0 < h ∧ h < 1073741824 := by
  have : i = 0 ∨ i = 1 ∨ i = 2 ∨ i = 3 := by omega
  rcases this with rfl | rfl | rfl | rfl
  · exact ⟨16, rfl, by decide, by decide⟩
  · exact ⟨2, rfl, by decide, by decide⟩
  · exact ⟨3, rfl, by decide, by decide⟩
  · exact ⟨4, rfl, by decide, by decide⟩
def pcell (bs c hu y x : Int) : Int := (bs + mixI c (24 * y + x) % hu) % 16
def prow (bs c hu : Int) (wn : Nat) (y : Int) : List Int := (List.range wn).map fun (x : Nat) => pcell bs c hu y (x : Int)
def pgrid (bs c hu : Int) (wn hn : Nat) : List (List Int) := (List.range hn).map fun (y : Nat) => prow bs c hu wn (y : Int)
theorem pgrid_good {bs c hu : Int} {wn hn : Nat} (w1 : 1 ≤ wn) (w24 : wn ≤ 24) (h1 : 1 ≤ hn) (h24 : hn ≤ 24) : Good (pgrid bs c hu wn hn) wn := by
  refine ⟨by simp [pgrid]; exact h1, by simp [pgrid]; exact h24, w1, w24, fun r hr => ?_⟩
  obtain ⟨y, _, rfl⟩ := List.mem_map.mp hr
  refine ⟨by simp [prow], fun d hd => ?_⟩
  obtain ⟨x, _, rfl⟩ := List.mem_map.mp hd
  unfold pcell
  have a1 := Int.emod_nonneg (bs + mixI c (24 * (y : Int) + (x : Int)) % hu) (show (16 : Int) ≠ 0 by decide)
  have a2 := Int.emod_lt_of_pos (bs + mixI c (24 * (y : Int) + (x : Int)) % hu) (show (0 : Int) < 16 by decide)
  omega
section
variable {P : Program} {w : World} {K : PySem.W.Frag} {mg : Str → Option Value} {base : Heap} {cFE cBP cBS cOP : Addr} {tS tC : Tok}
theorem sc_law_picture : FnScope ["_law_script", "_law_at", "_law_most", "_law_side", "_law_wide", "_law_high", "_law_hues", "_law_base", "_law_cells"] ["_law_script", "_law_at", "_law_most"] (defScope s_law_picture) := ⟨rfl, rfl, rfl, by decide +kernel, rfl, by decide +kernel, by decide +kernel⟩
theorem ok_law_picture {f : Addr} {fd : FuncData} (F : FunD K "_law_picture" "_law_picture" s_law_picture .none f fd) (T : Txt K mg cFE cBP cBS cOP tS tC) (g__law_cell_at : Def P w K mg base 2 "_law_cell_at" ["_law_script", "_law_k"] [] (spCell K))
    (g__law_mixed : Def P w K mg base 2 "_law_mixed" ["_law_cell", "_law_k"] [] spMixed) : FnOk P w K mg base CX0 3 f fd ["_law_script", "_law_at", "_law_most"] (spPicture K) := by
  refine F.ok sc_law_picture (fun vs H Q E h => ?_) (fun cdv A outer s H vs Q E hr h => ?_)
  · obtain ⟨a, ns, rfl, _⟩ := h; rfl
  · obtain ⟨a, ns, rfl, hS, k⟩ := h
    obtain ⟨tr, hrest, krest⟩ : ∃ tr, PSs ((cxOf CX0 P w K mg base ["_law_script", "_law_at", "_law_most", "_law_side", "_law_wide", "_law_high", "_law_hues", "_law_base", "_law_cells"] "_law_picture" (defScope s_law_picture) f cdv A outer s H E).nox) ((defBody s_law_picture).drop 4) tr ∧
        ∀ (sd : Int) (wn hn : Nat), 1 ≤ wn → wn ≤ 24 → 1 ≤ hn → hn ≤ 24 → tr { nx := fun _ H' => Q .non H', rt := Q } [some (.ref a), some (.int 0), some (.int 8), some (.int sd), some (.int (wn : Int)), some (.int (hn : Int)), none, none, none] H := by
      refine ⟨_, (pss_cons (ps_set (i := 6) sc_law_picture.nd rfl (by first | exact Or.inl rfl | exact Or.inr rfl) (pe_ix (ixK K rfl) (pe_lst (pa_cons pe_int (pa_cons pe_int (pa_cons pe_int (pa_cons pe_int pa_nil))))) (pe_op op_mod (pe_callD g__law_cell_at (hr.mono (by decide)) rfl (pa_cons (pv 0) (pa_cons (pe_op op_add (pv 1) pe_int) pa_nil))) pe_int) (fun _ _ => rfl)))
        (pss_cons (ps_set (i := 7) sc_law_picture.nd rfl (by first | exact Or.inl rfl | exact Or.inr rfl) (pe_op op_mod (pe_op op_fdiv (pe_callD g__law_cell_at (hr.mono (by decide)) rfl (pa_cons (pv 0) (pa_cons (pe_op op_add (pv 1) pe_int) pa_nil))) pe_int) pe_int))
        (pss_cons (ps_set (i := 8) sc_law_picture.nd rfl (by first | exact Or.inl rfl | exact Or.inr rfl) (pe_callD g__law_cell_at (hr.mono (by decide)) rfl (pa_cons (pv 0) (pa_cons (pe_op op_add (pv 1) pe_int) pa_nil))))
        (pss_one (ps_ret (pe_comp (N := ["_law_y", "_law_wide", "_law_base", "_law_cells", "_law_hues"]) (src := [none, some 4, some 7, some 8, some 6]) rfl ⟨rfl, rfl, rfl, rfl, rfl, by decide +kernel⟩ (pi_range1 rfl T.range (pa_cons (pv 5) pa_nil)) (fun s H C fp => pg_name (i := 0) (show (["_law_y", "_law_wide", "_law_base", "_law_cells", "_law_hues"] : List Str).Nodup by decide +kernel) rfl (by first | exact Or.inl rfl | exact Or.inr rfl)) (fun s H C fp => pts_nil) (fun s H C fp => (pe_comp (N := ["_law_x", "_law_base", "_law_cells", "_law_y", "_law_hues"]) (src := [none, some 2, some 3, some 0, some 4]) rfl ⟨rfl, rfl, rfl, rfl, rfl, by decide +kernel⟩ (pi_range1 rfl T.range (pa_cons (pv 1) pa_nil)) (fun s H C fp => pg_name (i := 0) (show (["_law_x", "_law_base", "_law_cells", "_law_y", "_law_hues"] : List Str).Nodup by decide +kernel) rfl (by first | exact Or.inl rfl | exact Or.inr rfl)) (fun s H C fp => pts_nil) (fun s H C fp => (pe_op op_mod (pe_op op_add (pv 1) (pe_op op_mod (pe_callD g__law_mixed (hr.mono (by decide)) rfl (pa_cons (pv 2) (pa_cons (pe_op op_add (pe_op op_mul pe_int (pv 3)) (pv 0)) pa_nil))) (pv 4))) pe_int)))))))))), ?_⟩
      intro sd wn hn w1 w24 h1 h24
      refine ⟨by show 4 ≤ sizeLine; decide, fun l hl => ?_⟩
      have hS1 : SqL K (upd H l (.lst [V.int 16, .int 2, .int 3, .int 4])) a (ns.map V.int) := hS.upd_new hl
      obtain ⟨hu, hu1, hu2, hu3⟩ := hues_at (i := ns.getD 1 0 % 4) (Int.emod_nonneg _ (by decide)) (Int.emod_lt_of_pos _ (by decide))
      refine ⟨_, rfl, _, rfl, _, _, rfl, rfl, a, ns, 1, rfl, hS1, _, _, rfl, rfl, (by show (0 : Int) < 4; decide), l, _, _, _, rfl, rfl, SqL.of upd_same, hu1, ?_⟩
      refine ⟨_, rfl, _, rfl, _, _, rfl, rfl, a, ns, 1, rfl, hS1, _, _, rfl, rfl, ⟨by decide, by decide⟩, _, _, rfl, rfl, (by show (0 : Int) < 16; decide), ?_⟩
      refine ⟨_, rfl, _, rfl, _, _, rfl, rfl, a, ns, 2, rfl, hS1, ?_⟩
      refine ⟨_, rfl, _, rfl, by omega, by omega, fun D hD => ?_⟩
      rw [Int.toNat_natCast]
      refine comp_rows (k := 0) (fun v => match v with | .int y => (prow (ns.getD 1 0 / 4 % 16) (ns.getD 2 0) hu wn y).map V.int | _ => []) src_range (by simp; exact Nat.le_trans h24 (by decide)) hD (fun x hx H' Q' sm kk => ?_) fun ps H' sm fr pic => ?_
      · obtain ⟨y, hy, rfl⟩ := List.mem_map.mp hx
        have hy' : y < hn := List.mem_range.mp hy
        refine ⟨_, rfl, _, rfl, by omega, by omega, fun D2 hD2 => ?_⟩
        rw [Int.toNat_natCast]
        refine comp_fm (k := 0) (fun v => match v with | .int x => .int (pcell (ns.getD 1 0 / 4 % 16) (ns.getD 2 0) hu (0 + (y : Int)) x) | _ => .non) (fun _ => true) src_range (by simp; exact Nat.le_trans w24 (by decide)) hD2 (fun x _ H2 Qb _ kb => kb H2 (Same.refl _)) (fun x hx2 _ H2 Q2 s2 k2 => ?_) fun H2 s2 hD2' => ?_
        · obtain ⟨x, hx, rfl⟩ := List.mem_map.mp hx2
          have hx' : x < wn := List.mem_range.mp hx
          refine ⟨_, rfl, _, rfl, _, rfl, _, _, rfl, rfl, .inl ⟨by decide, by decide⟩, _, rfl, _, _, rfl, rfl, _, _, rfl, ⟨by omega, by omega⟩, _, rfl, _, _, rfl, rfl, hu2, _, _, rfl, rfl, _, _, rfl, rfl, (by show (0 : Int) < 16; decide), ?_⟩
          exact k2 H2 (Same.refl _)
        · refine kk D2 H2 s2 hD2 ?_
          rw [hD2', filter_t, List.map_map]
          show some (HO.lst _) = some (HO.lst ((prow (ns.getD 1 0 / 4 % 16) (ns.getD 2 0) hu wn (0 + (y : Int))).map V.int))
          unfold prow
          rw [List.map_map]
          congr 2
          refine List.map_congr_left fun x _ => ?_
          show V.int (pcell (ns.getD 1 0 / 4 % 16) (ns.getD 2 0) hu (0 + (y : Int)) (0 + (x : Int))) = V.int (pcell (ns.getD 1 0 / 4 % 16) (ns.getD 2 0) hu (0 + (y : Int)) (x : Int))
          rw [Int.zero_add (x : Int)]
      · refine k D ps (pgrid (ns.getD 1 0 / 4 % 16) (ns.getD 2 0) hu wn hn) wn H' ((same_new hl).trans sm) ((same_new hl).free hD) (fun q hq => (same_new hl).free (fr q hq)) ?_ (pgrid_good w1 w24 h1 h24)
        have e : ir (pgrid (ns.getD 1 0 / 4 % 16) (ns.getD 2 0) hu wn hn) = ((List.range hn).map fun (i : Nat) => V.int (0 + (i : Int))).map (fun v => match v with | .int y => (prow (ns.getD 1 0 / 4 % 16) (ns.getD 2 0) hu wn y).map V.int | _ => []) := by
          unfold ir pgrid
          rw [List.map_map, List.map_map]
          refine List.map_congr_left fun y _ => ?_
          show (prow _ _ hu wn (y : Int)).map V.int = (prow _ _ hu wn (0 + (y : Int))).map V.int
          rw [Int.zero_add (y : Int)]
        rw [e]
        exact pic
    refine ⟨_, (pss_cons (ps_set (i := 3) sc_law_picture.nd rfl (by first | exact Or.inl rfl | exact Or.inr rfl) (pe_callD g__law_cell_at (hr.mono (by decide)) rfl (pa_cons (pv 0) (pa_cons (pv 1) pa_nil))))
        (pss_cons (ps_set (i := 4) sc_law_picture.nd rfl (by first | exact Or.inl rfl | exact Or.inr rfl) (pe_op op_add pe_int (pe_op op_mod (pv 3) (pv 2))))
        (pss_cons (ps_set (i := 5) sc_law_picture.nd rfl (by first | exact Or.inl rfl | exact Or.inr rfl) (pe_op op_add pe_int (pe_op op_mod (pe_op op_fdiv (pv 3) (pv 2)) (pv 2))))
        (pss_cons (ps_if (pt_cmpR op_eq (pe_op op_mod (pe_op op_fdiv (pe_op op_fdiv (pv 3) (pv 2)) (pv 2)) pe_int) pe_int (nomark _)) (pss_one (ps_set (i := 4) sc_law_picture.nd rfl (by first | exact Or.inl rfl | exact Or.inr rfl) (pe_op op_add pe_int (pe_op op_mod (pe_op op_fdiv (pe_op op_fdiv (pe_op op_fdiv (pv 3) (pv 2)) (pv 2)) pe_int) pe_int)))) (pss_one (ps_if (pt_cmpR op_eq (pe_op op_mod (pe_op op_fdiv (pe_op op_fdiv (pv 3) (pv 2)) (pv 2)) pe_int) pe_int (nomark _)) (pss_one (ps_set (i := 5) sc_law_picture.nd rfl (by first | exact Or.inl rfl | exact Or.inr rfl) (pe_op op_add pe_int (pe_op op_mod (pe_op op_fdiv (pe_op op_fdiv (pe_op op_fdiv (pv 3) (pv 2)) (pv 2)) pe_int) pe_int)))) pss_nil)))
        hrest)))), ?_⟩
    refine ⟨_, rfl, _, rfl, a, ns, 0, rfl, hS, ?_⟩
    generalize ns.getD 0 0 = sd
    refine ⟨_, rfl, _, rfl, _, _, rfl, rfl, (by show (0 : Int) < 8; decide), _, _, rfl, rfl, ?_⟩
    refine ⟨_, rfl, _, rfl, _, _, rfl, rfl, ⟨by decide, by decide⟩, _, rfl, _, _, rfl, rfl, (by show (0 : Int) < 8; decide), _, _, rfl, rfl, ?_⟩
    have nat1 : ∀ z : Int, 1 ≤ z → z ≤ 24 → ∃ n : Nat, z = (n : Int) ∧ 1 ≤ n ∧ n ≤ 24 := fun z h1 h2 => ⟨z.toNat, by omega, by omega, by omega⟩
    obtain ⟨wn, ew, w1, w24⟩ := nat1 (1 + sd % 8) (by omega) (by omega)
    obtain ⟨hn, eh, h1, h24⟩ := nat1 (1 + sd / 8 % 8) (by omega) (by omega)
    obtain ⟨bn, eb, b1, b24⟩ := nat1 (1 + sd / 8 / 8 / 8 % 24) (by omega) (by omega)
    refine ⟨_, rfl, _, rfl, _, _, rfl, rfl, ⟨by decide, by decide⟩, _, rfl, _, _, rfl, rfl, ⟨by decide, by decide⟩, _, _, rfl, rfl, (by show (0 : Int) < 8; decide), rfl, _, rfl, ite2 (fun _ => ?_) (fun _ => ?_)⟩
    · refine ⟨_, rfl, _, rfl, _, _, rfl, rfl, ⟨by decide, by decide⟩, _, rfl, _, _, rfl, rfl, ⟨by decide, by decide⟩, _, _, rfl, rfl, ⟨by decide, by decide⟩, _, _, rfl, rfl, (by show (0 : Int) < 24; decide), _, _, rfl, rfl, ?_⟩
      show tr _ [some (.ref a), some (.int 0), some (.int 8), some (.int sd), some (.int (1 + sd / 8 / 8 / 8 % 24)), some (.int (1 + sd / 8 % 8)), none, none, none] H
      rw [eb, eh]
      exact krest sd bn hn b1 b24 h1 h24
    refine ⟨_, rfl, _, rfl, _, _, rfl, rfl, ⟨by decide, by decide⟩, _, rfl, _, _, rfl, rfl, ⟨by decide, by decide⟩, _, _, rfl, rfl, (by show (0 : Int) < 8; decide), rfl, _, rfl, ite2 (fun _ => ?_) (fun _ => ?_)⟩
    · refine ⟨_, rfl, _, rfl, _, _, rfl, rfl, ⟨by decide, by decide⟩, _, rfl, _, _, rfl, rfl, ⟨by decide, by decide⟩, _, _, rfl, rfl, ⟨by decide, by decide⟩, _, _, rfl, rfl, (by show (0 : Int) < 24; decide), _, _, rfl, rfl, ?_⟩
      show tr _ [some (.ref a), some (.int 0), some (.int 8), some (.int sd), some (.int (1 + sd % 8)), some (.int (1 + sd / 8 / 8 / 8 % 24)), none, none, none] H
      rw [ew, eb]
      exact krest sd wn bn w1 w24 b1 b24
    · show tr _ [some (.ref a), some (.int 0), some (.int 8), some (.int sd), some (.int (1 + sd % 8)), some (.int (1 + sd / 8 % 8)), none, none, none] H
      rw [ew, eh]
      exact krest sd wn hn w1 w24 h1 h24
end
structure Mid (H0 H2 : Hp) (ps : List Addr) (R : List (List V)) (f : Nat → List V → List V) : Prop where
  keep : ∀ b o, H0 b = some o → b ∉ ps → H2 b = some o
  rows : ∀ (j : Nat) p r, ps[j]? = some p → R[j]? = some r → H2 p = some (.lst (f j r))
theorem Mid.same {H0 H2 H3 : Hp} {ps : List Addr} {R : List (List V)} {f : Nat → List V → List V} (m : Mid H0 H2 ps R f) (s : Same H2 H3) : Mid H0 H3 ps R f := ⟨fun b o e hb => s _ _ (m.keep b o e hb), fun j p r h1 h2 => s _ _ (m.rows j p r h1 h2)⟩
theorem nodup_at {ps : List Addr} (nd : ps.Nodup) {i j : Nat} {p : Addr} (h1 : ps[i]? = some p) (h2 : ps[j]? = some p) : i = j := by
  obtain ⟨a1, b1⟩ := List.getElem?_eq_some_iff.mp h1
  obtain ⟨a2, b2⟩ := List.getElem?_eq_some_iff.mp h2
  exact (List.getElem_inj nd).mp (b1.trans b2.symm)
theorem Mid.step {H0 H2 : Hp} {ps : List Addr} {R : List (List V)} {f g : Nat → List V → List V} {i : Nat} {q : Addr} {r xs : List V} (m : Mid H0 H2 ps R f) (nd : ps.Nodup) (hq : ps[i]? = some q) (hr : R[i]? = some r) (hx : xs = g i r) (hg : ∀ j r, j ≠ i → g j r = f j r) : Mid H0 (upd H2 q (.lst xs)) ps R g := by
  refine ⟨fun b o e hb => ?_, fun j p r' h1 h2 => ?_⟩
  · have ne : b ≠ q := fun z => hb (by rw [z]; exact List.mem_of_getElem? hq)
    rw [upd_ne ne]
    exact m.keep b o e hb
  · by_cases hj : j = i
    · subst hj
      rw [hq] at h1; cases h1
      rw [hr] at h2; cases h2
      rw [upd_same, hx]
    · have ne : p ≠ q := fun z => hj (nodup_at nd h1 (by rw [z]; exact hq))
      rw [upd_ne ne, hg j r' hj]
      exact m.rows j p r' h1 h2
theorem filter_none {ns : List Int} : ((ns.map V.int).filter fun x => !(isI x) || isB x).map (fun x => x) = [] := by
  induction ns with
  | nil => rfl
  | cons n r ih => rw [List.map_cons, List.filter_cons_of_neg (by simp [isI, isB])]; exact ih
theorem getElem?_ref {ps : List Addr} {i : Nat} {x : V} (h : (ps.map V.ref)[i]? = some x) : ∃ q, ps[i]? = some q ∧ x = .ref q := by
  rw [List.getElem?_map] at h
  cases e : ps[i]? with
  | none => rw [e] at h; cases h
  | some q => rw [e] at h; cases h; exact ⟨q, rfl, rfl⟩
theorem flat_ints {ns : List Int} : ∀ x ∈ ns.map V.int, flatV x = true ∨ ∃ a, x = .ref a := fun x hx => by
  obtain ⟨n, _, rfl⟩ := List.mem_map.mp hx
  exact .inl rfl
section
variable {P : Program} {w : World} {K : PySem.W.Frag} {mg : Str → Option Value} {base : Heap} {cFE cBP cBS cOP : Addr} {tS tC : Tok}
theorem t_odd {σ : St} {H : Hp} {Qb : Bool → Hp → Prop} {n : Int} {i : Nat} (hσ : σ[i]? = some (some (.int n))) (k : Qb false H) :
    tOr (tNot (tB (tCB (rIsX K) (tCons (tVar i) (tCons (L2.tC (.ty "int")) tNil))))) (tB (tCB (rIsX K) (tCons (tVar i) (tCons (L2.tC (.ty "bool")) tNil)))) σ H Qb :=
  ⟨_, hσ, true, (Kd.int n).isInt, _, rfl, ⟨_, hσ, false, (Kd.int n).isBool, _, rfl, k⟩⟩
theorem sc_law_is_like : FnScope ["_law_found", "_law_due", "_law_row", "_law_other", "_law_good"] ["_law_found", "_law_due"] (defScope s_law_is_like) := ⟨rfl, rfl, rfl, by decide +kernel, rfl, by decide +kernel, by decide +kernel⟩
theorem ok_law_is_like {f : Addr} {fd : FuncData} (F : FunD K "_law_is_like" "_law_is_like" s_law_is_like .none f fd) (T : Txt K mg cFE cBP cBS cOP tS tC) : FnOk P w K mg base CX0 2 f fd ["_law_found", "_law_due"] (spLike K) := by
  refine F.ok sc_law_is_like (fun vs H Q E h => ?_) (fun cdv A outer s H vs Q E hr h => ?_)
  · obtain ⟨a, b, ps, qs, rows, wd, rfl, _⟩ := h; rfl
  · obtain ⟨a, b, ps, qs, rows, wd, rfl, pa, pb, gd, dj, hb, k⟩ := h
    have hu : _ + 64 < cLine := hr.units
    refine ⟨_, (pss_cons (ps_if (PW.pt (pw_or (pt_not (pt_val (isiK K rfl (pv 0) rfl T.isinstance rfl T.list PyProof.Rows.boot_list))) (pw_or1 (pt_cmpR op_ne (pe_callB (lenK K rfl) rfl T.len PySem.boot_len (pa_cons (pv 0) pa_nil)) (pe_callB (lenK K rfl) rfl T.len PySem.boot_len (pa_cons (pv 1) pa_nil)) (nomark _))))) (pss_one (ps_ret pe_bl)) pss_nil)
        (pss_cons (ps_for PassesOwn.never rfl (pi_zip rfl T.zip (pa_cons (pv 0) (pa_cons (pv 1) pa_nil))) (pg_tup rfl (pgs_cons (pg_name (i := 2) sc_law_is_like.nd rfl (by first | exact Or.inl rfl | exact Or.inr rfl)) (pgs_cons (pg_name (i := 3) sc_law_is_like.nd rfl (by first | exact Or.inl rfl | exact Or.inr rfl)) pgs_nil))) (pss_cons (ps_if (PW.pt (pw_or (pt_not (pt_val (isiK K rfl (pv 2) rfl T.isinstance rfl T.list PyProof.Rows.boot_list))) (pw_or1 (pt_cmpR (neDK K rfl hu) (pv 2) (pv 3) (nomark _))))) (pss_one (ps_ret pe_bl)) pss_nil)
        (pss_one (ps_if (pt_cmpR (neDK K rfl hu) (pe_comp (N := ["_law_cell"]) (src := [none]) rfl ⟨rfl, rfl, rfl, rfl, rfl, by decide +kernel⟩ (piK K rfl (pv 2)) (fun s H C fp => pg_name (i := 0) (show (["_law_cell"] : List Str).Nodup by decide +kernel) rfl (by first | exact Or.inl rfl | exact Or.inr rfl)) (fun s H C fp => (pts_one (PW.pt (pw_or (pt_not (pt_val (isiK K rfl (pv 0) rfl T.isinstance rfl T.int PyProof.Rows.boot_int))) (pw_or1 (pt_val (isiK K rfl (pv 0) rfl T.isinstance rfl T.bool PyProof.Rows.boot_bool))))))) (fun s H C fp => (pv 0))) (pe_lst pa_nil) (nomark _)) (pss_one (ps_ret pe_bl)) pss_nil))))
        (pss_cons (ps_for PassesOwn.never rfl (piK K rfl (pv 0)) (pg_name (i := 2) sc_law_is_like.nd rfl (by first | exact Or.inl rfl | exact Or.inr rfl)) (pss_one (ps_expr (pe_bm PySem.F.plainAttrs_list PySem.F.slot_list_append PySem.F.type_list_append mt_append (pv 2) (pa_cons pe_int pa_nil)))))
        (pss_cons (ps_set (i := 4) sc_law_is_like.nd rfl (by first | exact Or.inl rfl | exact Or.inr rfl) (pe_cmpR (eqDK K rfl hu) (pe_comp (N := ["_law_row"]) (src := [none]) rfl ⟨rfl, rfl, rfl, rfl, rfl, by decide +kernel⟩ (piK K rfl (pv 0)) (fun s H C fp => pg_name (i := 0) (show (["_law_row"] : List Str).Nodup by decide +kernel) rfl (by first | exact Or.inl rfl | exact Or.inr rfl)) (fun s H C fp => pts_nil) (fun s H C fp => (pe_callB (lenK K rfl) rfl T.len PySem.boot_len (pa_cons (pv 0) pa_nil)))) (pe_comp (N := ["_law_row"]) (src := [none]) rfl ⟨rfl, rfl, rfl, rfl, rfl, by decide +kernel⟩ (piK K rfl (pv 1)) (fun s H C fp => pg_name (i := 0) (show (["_law_row"] : List Str).Nodup by decide +kernel) rfl (by first | exact Or.inl rfl | exact Or.inr rfl)) (fun s H C fp => pts_nil) (fun s H C fp => (pe_op op_add (pe_callB (lenK K rfl) rfl T.len PySem.boot_len (pa_cons (pv 0) pa_nil)) pe_int))) (nomark _)))
        (pss_cons (ps_for PassesOwn.never rfl (piK K rfl (pv 0)) (pg_name (i := 2) sc_law_is_like.nd rfl (by first | exact Or.inl rfl | exact Or.inr rfl)) (pss_one (ps_expr (pe_bm0 PySem.F.plainAttrs_list PySem.F.slot_list_pop PySem.F.type_list_pop mt_pop (pv 2)))))
        (pss_one (ps_ret (pv 4)))))))), ?_⟩
    have l1 : ps.length = rows.length := by rw [pa.len, ir_len]
    have l2 : qs.length = rows.length := by rw [pb.len, ir_len]
    have hlen : (ps.map V.ref).length = (qs.map V.ref).length := by rw [List.length_map, List.length_map, l1, l2]
    have hz : (ps.map V.ref).length ≤ sizeLine := by rw [List.length_map, l1]; exact Nat.le_trans gd.le (by decide)
    have hz2 : (qs.map V.ref).length ≤ sizeLine := by rw [← hlen]; exact hz
    refine ⟨_, rfl, true, isList_lst pa.top, _, rfl, ⟨_, rfl, a, _, rfl, .inl (SqL.of pa.top), _, rfl, b, _, rfl, .inl (SqL.of pb.top), rfl, _, rfl, ?_⟩⟩
    rw [hlen, decide_eq_true rfl]
    refine (⟨_, rfl, _, rfl, a, b, rfl, ⟨_, SqL.of pa.top⟩, ⟨_, SqL.of pb.top⟩, ?_⟩)
    refine for_zip (xs := ps.map V.ref) (ys := qs.map V.ref) hlen (fun i σ H2 => Same H H2 ∧ ∃ v2 v3, σ = [some (.ref a), some (.ref b), v2, v3, none]) ⟨Same.refl H, none, none, rfl⟩ (fun i σ H2 _ q => ⟨SqL.of (q.1 _ _ pa.top), SqL.of (q.1 _ _ pb.top)⟩) ?_ ?_
    · rintro i x y σ H2 Tt hx hy ⟨s2, v2, v3, rfl⟩ hT
      obtain ⟨p, hp, rfl⟩ := getElem?_ref hx
      obtain ⟨q, hq, rfl⟩ := getElem?_ref hy
      obtain ⟨r, hr1, hp2⟩ := pa.at hp
      obtain ⟨r', hr2, hq2⟩ := pb.at hq
      rw [hr1] at hr2; cases hr2
      obtain ⟨ns, rfl, hw, _, _⟩ := gd.at hr1
      have s3 : Same H (upd H2 Tt (.tup [.ref p, .ref q])) := s2.trans (same_new hT)
      refine ⟨Tt, _, rfl, SqT.of upd_same, rfl, _, _, rfl, _, _, rfl, rfl, ?_⟩
      refine ⟨_, rfl, true, isList_lst (s3 _ _ hp2), _, rfl, ⟨_, rfl, _, rfl, 0, p, q, true, by decide, rfl, rfl, EqL.same (.inl ⟨SqL.of (s3 _ _ hp2), SqL.of (s3 _ _ hq2)⟩) flat_ints, _, rfl, (?_)⟩⟩
      refine ⟨_, rfl, p, rfl, ⟨_, SqL.of (s3 _ _ hp2)⟩, fun D hD => ?_⟩
      refine comp_fm (k := 0) (fun x => x) (fun x => !(isI x) || isB x) (src_list (SqL.of (s3 _ _ hp2))) (by rw [List.length_map, hw]; exact Nat.le_trans gd.w24 (by decide)) hD (fun x hx H' Qb sm kk => ?_) (fun x hx _ H' Q' sm kk => ⟨_, rfl, kk H' (Same.refl _)⟩) fun H3 s4 hD3 => ?_
      · obtain ⟨n, _, rfl⟩ := List.mem_map.mp hx
        exact t_odd rfl (kk H' (Same.refl _))
      · rw [filter_none] at hD3
        refine ⟨Nat.zero_le _, fun q2 hq2' => ⟨0, D, q2, true, by decide, rfl, rfl, ?_, _, rfl, ⟨(s3.trans s4).trans (same_new hq2'), _, _, rfl⟩⟩⟩
        exact EqL.nil (xs := []) (SqL.of (same_new hq2' _ _ hD3)) (SqL.of upd_same)
    · rintro σ H1 ⟨s1, v2, v3, rfl⟩
      have pa1 := pa.mono s1
      have pb1 := pb.mono s1
      refine ⟨_, rfl, a, rfl, ⟨_, SqL.of pa1.top⟩, ?_⟩
      refine for_list (xs := ps.map V.ref) (fun i σ H2 => Mid H1 H2 ps (ir rows) (fun j r => if j < i then r ++ [V.int 0] else r) ∧ ∃ v2 v3, σ = [some (.ref a), some (.ref b), v2, v3, none]) ⟨⟨fun b o e _ => e, fun j p r h1 h2 => ?_⟩, _, _, rfl⟩ (fun i σ H2 _ q => SqL.of (q.1.keep _ _ pa1.top pa1.out)) ?_ ?_
      · obtain ⟨r', e1, e2⟩ := pa1.at h1
        rw [h2] at e1; cases e1
        rw [if_neg (by omega)]; exact e2
      · rintro i x σ H2 hx ⟨m, v2, v3, rfl⟩
        obtain ⟨p, hp, rfl⟩ := getElem?_ref hx
        obtain ⟨r, hr1, _⟩ := pa1.at hp
        obtain ⟨ns, rfl, hw, _, _⟩ := gd.at hr1
        have hp2 := m.rows i p _ hp hr1
        rw [if_neg (by omega)] at hp2
        refine ⟨_, rfl, .inl ⟨rfl, _, SqL.of hp2⟩, p, _, _, rfl, rfl, hp2, by rw [List.length_map, hw]; exact Nat.lt_of_le_of_lt gd.w24 (by decide), m.step pa1.nd hp hr1 (by rw [if_pos (by omega)]) (fun j r hj => ?_), _, _, rfl⟩
        by_cases h : j < i
        · rw [if_pos h, if_pos (by omega)]
        · rw [if_neg h, if_neg (by omega)]
      · rintro σ H2 ⟨m, v2, v3, rfl⟩
        rw [List.length_map] at m
        have lt : ∀ {j p}, ps[j]? = some p → j < ps.length := fun h => (List.getElem?_eq_some_iff.mp h).1
        have top2 : H2 a = some (.lst (ps.map V.ref)) := m.keep _ _ pa1.top pa1.out
        have topb2 : H2 b = some (.lst (qs.map V.ref)) := m.keep _ _ pb1.top hb
        refine ⟨_, rfl, a, rfl, ⟨_, SqL.of top2⟩, fun D hD => ?_⟩
        refine comp_fm (k := 0) (fun _ => .int ((wd : Int) + 1)) (fun _ => true) (src_list (SqL.of top2)) hz hD (fun x _ H' Qb _ kk => kk H' (Same.refl _)) (fun x hx _ H' Q' sm kk => ?_) fun H3 s3 hD3 => ?_
        · obtain ⟨p, hpm, rfl⟩ := List.mem_map.mp hx
          obtain ⟨i, hi⟩ := List.mem_iff_getElem?.mp hpm
          obtain ⟨r, hr1, _⟩ := pa1.at hi
          obtain ⟨ns, rfl, hw, _, _⟩ := gd.at hr1
          have hp2 := sm _ _ (m.rows i p _ hi hr1)
          rw [if_pos (lt hi)] at hp2
          refine ⟨_, rfl, p, _, rfl, .inl (SqL.of hp2), ?_⟩
          rw [List.length_append, List.length_map, hw]
          exact kk H' (Same.refl _)
        refine ⟨_, rfl, b, rfl, ⟨_, SqL.of (s3 _ _ topb2)⟩, fun D2 hD2 => ?_⟩
        refine comp_fm (k := 0) (fun _ => .int ((wd : Int) + 1)) (fun _ => true) (src_list (SqL.of (s3 _ _ topb2))) hz2 hD2 (fun x _ H' Qb _ kk => kk H' (Same.refl _)) (fun x hx _ H' Q' sm kk => ?_) fun H4 s4 hD4 => ?_
        · obtain ⟨q, hqm, rfl⟩ := List.mem_map.mp hx
          obtain ⟨ns, e1, hw, _⟩ := gd.mem pb1 hqm
          have e2 := sm _ _ (s3 _ _ (m.keep _ _ e1 (dj q hqm)))
          refine ⟨_, rfl, q, _, rfl, .inl (SqL.of e2), _, _, rfl, rfl, ?_⟩
          rw [List.length_map, hw]
          exact kk H' (Same.refl _)
        have eL : ((qs.map V.ref).filter fun _ => true).map (fun _ => V.int ((wd : Int) + 1)) = ((ps.map V.ref).filter fun _ => true).map (fun _ => V.int ((wd : Int) + 1)) := by
          rw [filter_t, filter_t, List.map_const', List.map_const', hlen]
        rw [eL] at hD4
        refine ⟨0, D, D2, true, by decide, rfl, rfl, EqL.same (.inl ⟨SqL.of (s4 _ _ hD3), SqL.of hD4⟩) (fun x hx => ?_), ?_⟩
        · obtain ⟨_, _, rfl⟩ := List.mem_map.mp hx
          exact .inl rfl
        have m4 := m.same (s3.trans s4)
        refine ⟨_, rfl, a, rfl, ⟨_, SqL.of ((s3.trans s4) _ _ top2)⟩, ?_⟩
        refine for_list (xs := ps.map V.ref) (fun i σ H5 => Mid H1 H5 ps (ir rows) (fun j r => if j < i then r else r ++ [V.int 0]) ∧ ∃ v2 v3, σ = [some (.ref a), some (.ref b), v2, v3, some (.bl true)]) ⟨⟨m4.keep, fun j p r h1 h2 => ?_⟩, _, _, rfl⟩ (fun i σ H5 _ q => SqL.of (q.1.keep _ _ pa1.top pa1.out)) ?_ ?_
        · have e := m4.rows j p r h1 h2
          rw [if_pos (lt h1)] at e
          rw [if_neg (by omega)]; exact e
        · rintro i x σ H5 hx ⟨m5, v2, v3, rfl⟩
          obtain ⟨p, hp, rfl⟩ := getElem?_ref hx
          obtain ⟨r, hr1, _⟩ := pa1.at hp
          have hp2 := m5.rows i p _ hp hr1
          rw [if_neg (by omega)] at hp2
          refine ⟨_, rfl, .inl ⟨rfl, _, SqL.of hp2⟩, p, _, .int 0, rfl, rfl, hp2, by simp, m5.step pa1.nd hp hr1 (by rw [if_pos (by omega)]; simp) (fun j r hj => ?_), _, _, rfl⟩
          by_cases h : j < i
          · rw [if_pos h, if_pos (by omega)]
          · rw [if_neg h, if_neg (by omega)]
        · rintro σ H5 ⟨m5, v2, v3, rfl⟩
          rw [List.length_map] at m5
          refine ⟨_, rfl, k H5 fun c o e => ?_⟩
          have e1 := s1 _ _ e
          by_cases hc : c ∈ ps
          · obtain ⟨i, hi⟩ := List.mem_iff_getElem?.mp hc
            obtain ⟨r, hr1, e2⟩ := pa1.at hi
            rw [e2] at e1
            cases e1
            have e3 := m5.rows i c r hi hr1
            rw [if_pos (lt hi)] at e3
            exact e3
          · exact m5.keep _ _ e1 hc
end
end K9
set_option Elab.async false
set_option linter.all false
set_option maxRecDepth 100000
set_option maxHeartbeats 1600000
namespace K9
open PySem L2 M4
def cAt (rows : List (List Int)) (x y : Nat) : Int := (rows.getD y []).getD x 0
def grid (wd hg : Nat) (f : Nat → Nat → Int) : List (List Int) := (List.range hg).map fun y => (List.range wd).map fun x => f x y
theorem getD_row {rows : List (List Int)} {y : Nat} (h : y < rows.length) : rows.getD y [] = rows[y] := by simp [List.getD, h]
theorem cAt_eq {rows : List (List Int)} {x y : Nat} (h : y < rows.length) (hx : x < rows[y].length) : cAt rows x y = rows[y][x] := by
  unfold cAt; rw [getD_row h]; simp [List.getD, hx]
theorem row_len {rows : List (List Int)} {wd y : Nat} (g : Good rows wd) (h : y < rows.length) : rows[y].length = wd := (g.row _ (List.getElem_mem h)).1
theorem ext_at {r1 r2 : List (List Int)} {wd : Nat} (h1 : ∀ r ∈ r1, r.length = wd) (h2 : ∀ r ∈ r2, r.length = wd) (hl : r1.length = r2.length) (h : ∀ x y, x < wd → y < r1.length → cAt r1 x y = cAt r2 x y) : r1 = r2 := by
  refine List.ext_getElem hl fun y a b => ?_
  have l1 := h1 _ (List.getElem_mem a)
  have l2 := h2 _ (List.getElem_mem b)
  refine List.ext_getElem (by rw [l1, l2]) fun x c d => ?_
  have := h x y (by omega) a
  rw [cAt_eq a c, cAt_eq b d] at this
  exact this
theorem Good.rows {rows : List (List Int)} {wd : Nat} (g : Good rows wd) : ∀ r ∈ rows, r.length = wd := fun r hr => (g.row r hr).1
theorem grid_len (wd hg : Nat) (f : Nat → Nat → Int) : (grid wd hg f).length = hg := by simp [grid]
theorem grid_row {wd hg : Nat} {f : Nat → Nat → Int} : ∀ r ∈ grid wd hg f, r.length = wd := fun r hr => by
  obtain ⟨y, _, rfl⟩ := List.mem_map.mp hr
  simp
theorem grid_at {wd hg : Nat} {f : Nat → Nat → Int} {x y : Nat} (hx : x < wd) (hy : y < hg) : cAt (grid wd hg f) x y = f x y := by
  unfold cAt grid
  simp [List.getD, hx, hy]
theorem cell_in {rows : List (List Int)} {wd x y : Nat} (g : Good rows wd) (hx : x < wd) (hy : y < rows.length) : 0 ≤ cAt rows x y ∧ cAt rows x y ≤ 15 := by
  have hx' : x < rows[y].length := by rw [row_len g hy]; exact hx
  rw [cAt_eq hy hx']
  exact (g.row _ (List.getElem_mem hy)).2 _ (List.getElem_mem hx')
theorem grid_good {wd hg : Nat} {f : Nat → Nat → Int} (w1 : 1 ≤ wd) (w24 : wd ≤ 24) (h1 : 1 ≤ hg) (h24 : hg ≤ 24) (hf : ∀ x y, x < wd → y < hg → 0 ≤ f x y ∧ f x y ≤ 15) : Good (grid wd hg f) wd := by
  refine ⟨by rw [grid_len]; exact h1, by rw [grid_len]; exact h24, w1, w24, fun r hr => ⟨grid_row r hr, fun c hc => ?_⟩⟩
  obtain ⟨y, hy, rfl⟩ := List.mem_map.mp hr
  obtain ⟨x, hx, rfl⟩ := List.mem_map.mp hc
  exact hf x y (List.mem_range.mp hx) (List.mem_range.mp hy)
theorem good_grid {rows : List (List Int)} {wd : Nat} (g : Good rows wd) : rows = grid wd rows.length (cAt rows) := by
  refine ext_at g.rows grid_row (grid_len ..).symm fun x y hx hy => ?_
  rw [grid_at hx hy]
theorem ixTK {X : Cx} (K : PySem.W.Frag) (h : X.K = K) : IxR X (rIxT K) := by subst h; exact ix_tup
theorem PicV.row_at {H : Hp} {a : Addr} {ps : List Addr} {rows : List (List Int)} {i : Nat} {r : List Int} (p : PicV H a ps (ir rows)) (h : rows[i]? = some r) : ∃ q, ps[i]? = some q ∧ H q = some (.lst (r.map V.int)) := by
  have hl : ps.length = rows.length := by rw [p.len, ir_len]
  have hi : i < ps.length := by rw [hl]; exact (List.getElem?_eq_some_iff.mp h).1
  have e : ps[i]? = some ps[i] := by simp [hi]
  obtain ⟨r', h1, h2⟩ := p.at e
  have e2 : (ir rows)[i]? = some (r.map V.int) := by unfold ir; rw [List.getElem?_map, h]; rfl
  rw [e2] at h1; cases h1
  exact ⟨_, e, h2⟩
theorem Good.get {rows : List (List Int)} {wd : Nat} (g : Good rows wd) {i : Nat} (h : i < rows.length) : ∃ r, rows[i]? = some r ∧ r.length = wd ∧ ∀ c ∈ r, 0 ≤ c ∧ c ≤ 15 := by
  have e : rows[i]? = some rows[i] := by simp [h]
  obtain ⟨h1, h2⟩ := g.row _ (List.getElem_mem h)
  exact ⟨_, e, h1, h2⟩
section
variable {K : PySem.W.Frag} {H : Hp} {a : Addr} {ps : List Addr} {rows : List (List Int)} {wd : Nat}
theorem th_good (p : PicV H a ps (ir rows)) (g : Good rows wd) : Th2 K H (.ref a) := by
  refine Th.pic p (by rw [ir_len]; exact Nat.le_trans g.le (by decide)) fun r hr => ?_
  obtain ⟨i, hi⟩ := List.mem_iff_getElem?.mp hr
  obtain ⟨ms, rfl, hw, _, _⟩ := g.at hi
  exact ⟨by rw [List.length_map, hw]; exact Nat.le_trans g.w24 (by decide), kd_ints⟩
theorem len_good (p : PicV H a ps (ir rows)) (g : Good rows wd) : ∀ x ∈ ps.map V.ref, lenOf H x = wd := fun x hx => by
  obtain ⟨q, hq, rfl⟩ := List.mem_map.mp hx
  obtain ⟨ns, e1, e2, _⟩ := g.mem p hq
  rw [lenOf_lst e1, List.length_map, e2]
theorem head_good (p : PicV H a ps (ir rows)) (g : Good rows wd) : lenOf H ((ps.map V.ref).headD .non) = wd := by
  obtain ⟨q, ns, e0, e1, e2⟩ := g.first p
  refine len_good p g _ ?_
  cases h : ps.map V.ref with
  | nil => rw [h] at e0; cases e0
  | cons z r => exact List.mem_cons_self
theorem picB_good (p : PicV H a ps (ir rows)) (g : Good rows wd) : picB H (.ref a) = true := by
  refine (picB_iff (rowOf_lst p.top)).mpr ⟨?_, fun x hx => ?_, fun x hx => by rw [len_good p g x hx, head_good p g]⟩
  · rw [List.length_map, p.len, ir_len]; exact wh_len g.ne g.le
  · obtain ⟨q, hq, rfl⟩ := List.mem_map.mp hx
    obtain ⟨ns, e1, e2, e3⟩ := g.mem p hq
    exact (rowQ_iff e1).mpr ⟨wh_cells e3, by rw [List.length_map, e2]; exact wh_len g.w1 g.w24⟩
theorem no_bad (p : PicV H a ps (ir rows)) (g : Good rows wd) (z : picB H (.ref a) = false) : False := by rw [picB_good p g] at z; cases z
end
theorem ixN_ok {n : Nat} {i : Int} (h0 : 0 ≤ i) (h1 : i < n) : ixN n i = some i.toNat := by
  unfold ixN
  rw [if_pos h0, if_pos h1]
theorem ixN_nat {n j : Nat} (h1 : j < n) : ixN n (j : Int) = some j := ixN_ok (by omega) (by omega)
def gOf (H : Hp) : V → List V := fun v => match v with | .ref q => (match H q with | some (.lst r) => r | _ => []) | _ => []
theorem gOf_at {H : Hp} {q : Addr} {r : List V} (e : H q = some (.lst r)) : gOf H (.ref q) = r := by simp only [gOf, e]
theorem gOf_map {H : Hp} : ∀ {l : List Addr} {S : List (List V)}, Paired (fun p r => H p = some (.lst r)) l S → (l.map V.ref).map (gOf H) = S
  | _, _, .nil => rfl
  | _, _, .cons r t => by rw [List.map_cons, List.map_cons, gOf_map t, gOf_at r]
theorem atI_nat0 {α : Type} {xs : List α} {j : Nat} {v : α} (h : xs[j]? = some v) : atI xs (0 + (j : Int)) = some v := by rw [Int.zero_add]; exact atI_nat h
theorem getD_at {α : Type} {xs : List α} {j : Nat} {v d : α} (h : xs[j]? = some v) : xs.getD j d = v := by simp [List.getD, h]
theorem EqL.pic {K : PySem.W.Frag} {H : Hp} {a b : Addr} {ps qs : List Addr} {rows : List (List Int)} (pa : PicV H a ps (ir rows)) (pb : PicV H b qs (ir rows)) : EqL K H (EqD K H 1) a b true := by
  refine ⟨ps.map V.ref, qs.map V.ref, .inr ⟨.inl ⟨SqL.of pa.top, SqL.of pb.top⟩, by rw [List.length_map, List.length_map, pa.len, pb.len], fun _ => true, fun i x y h1 h2 => ?_, (range_all fun _ _ => rfl).symm⟩⟩
  obtain ⟨p, hp, rfl⟩ := getElem?_ref h1
  obtain ⟨q, hq, rfl⟩ := getElem?_ref h2
  by_cases e : p = q
  · subst e; exact .inl (.inl ⟨p, rfl, rfl, rfl⟩)
  · obtain ⟨r, hr, e1⟩ := pa.at hp
    obtain ⟨r', hr', e2⟩ := pb.at hq
    rw [hr] at hr'; cases hr'
    refine .inr ⟨p, q, rfl, rfl, e, EqL.same (.inl ⟨SqL.of e1, SqL.of e2⟩) fun z hz => ?_⟩
    unfold ir at hr
    rw [List.getElem?_map] at hr
    cases hg : rows[i]? with
    | none => rw [hg] at hr; cases hr
    | some ns =>
      rw [hg] at hr; cases hr
      obtain ⟨n, _, rfl⟩ := List.mem_map.mp hz
      exact .inl rfl
theorem PicV.push {H H3 : Hp} {S q : Addr} {qs : List Addr} {R : List (List V)} {r : List V} (pic : PicV H S qs R) (s : Same H H3) (hq : H q = none) (e : H3 q = some (.lst r)) : PicV (upd H3 S (.lst (qs.map V.ref ++ [.ref q]))) S (qs ++ [q]) (R ++ [r]) := by
  have nq : q ∉ qs := fun z => by
    obtain ⟨r', _, e'⟩ := pic.mem z
    rw [hq] at e'; cases e'
  have nS : S ≠ q := ne_of_none pic.top hq
  refine ⟨by rw [upd_same, List.map_append]; rfl, ?_, ?_, ?_⟩
  · refine Paired.app (Paired.mapI pic.row fun c r hc e1 => ?_) (.cons ?_ .nil)
    · rw [upd_ne (fun z => pic.out (by rw [← z]; exact hc))]
      exact s _ _ e1
    · rw [upd_ne (Ne.symm nS)]; exact e
  · rw [List.nodup_append]
    exact ⟨pic.nd, by simp, fun c hc d hd z => by
      cases List.mem_singleton.mp hd
      subst z
      exact nq hc⟩
  · intro z
    rcases List.mem_append.mp z with z | z
    · exact pic.out z
    · exact nS (by simpa using z)
theorem fresh_out {H : Hp} {a : Addr} {ps qs : List Addr} {R : List (List V)} (p : PicV H a ps R) (fr : Fresh H qs) : (∀ q ∈ ps, q ∉ qs) ∧ a ∉ qs := by
  refine ⟨fun q hq hm => ?_, fun hm => ?_⟩
  · obtain ⟨r, _, e⟩ := p.mem hq
    rw [fr q hm] at e; cases e
  · have e := p.top
    rw [fr a hm] at e; cases e
def NewP (H : Hp) (Q : VK) (R : List (List Int)) : Prop := ∀ p qs H', Same H H' → H p = none → Fresh H qs → PicV H' p qs (ir R) → Q (.ref p) H'
theorem NewP.same {H H1 : Hp} {Q : VK} {R : List (List Int)} (n : NewP H Q R) (s : Same H H1) : NewP H1 Q R := fun p qs H' s' hp fr pic => n p qs H' (s.trans s') (s.free hp) (fun q hq => s.free (fr q hq)) pic
theorem getD_int {r : List Int} {x : Nat} (h : x < r.length) : (r.map V.int)[x]? = some (.int (r.getD x 0)) := by simp [List.getD, h]
def spMarked (K : PySem.W.Frag) : Sp := fun vs H Q _ => ∃ a ps rows wd, vs = [.ref a] ∧ PicV H a ps (ir rows) ∧ Good rows wd ∧ ∀ H', (∀ b o, H b = some o → b ∉ ps → H' b = some o) → Q (.bl true) H'
section
variable {P : Program} {w : World} {K : PySem.W.Frag} {mg : Str → Option Value} {base : Heap} {cFE cBP cBS cOP : Addr} {tS tC : Tok}
theorem sc_law_marked : FnScope ["_law_found", "_law_row"] ["_law_found"] (defScope s_law_marked) := ⟨rfl, rfl, rfl, by decide +kernel, rfl, by decide +kernel, by decide +kernel⟩
theorem ok_law_marked {f : Addr} {fd' : FuncData} (F : FunD K "_law_marked" "_law_marked" s_law_marked .none f fd') (T : Txt K mg cFE cBP cBS cOP tS tC) : FnOk P w K mg base CX0 1 f fd' ["_law_found"] (spMarked K) := by
  refine F.ok sc_law_marked (fun vs H Q E h => ?_) (fun cdv A outer s H vs Q E hr h => ?_)
  · obtain ⟨a, ps, rows, wd, rfl, _⟩ := h; rfl
  · obtain ⟨a, ps, rows, wd, rfl, pic, gd, k⟩ := h
    refine ⟨_, (pss_cons (ps_for PassesOwn.never rfl (piK K rfl (pv 0)) (pg_name (i := 1) sc_law_marked.nd rfl (by first | exact Or.inl rfl | exact Or.inr rfl)) (pss_one (ps_asg pe_int (pg_sub (pv 1) pe_int set_list))))
        (pss_one (ps_ret pe_bl))), ?_⟩
    refine ⟨_, rfl, a, rfl, ⟨_, SqL.of pic.top⟩, ?_⟩
    refine for_list (xs := ps.map V.ref) (fun i σ H2 => (∀ b o, H b = some o → b ∉ ps → H2 b = some o) ∧ (∀ q ∈ ps, ∃ xs, H2 q = some (.lst xs) ∧ 0 < xs.length) ∧ ∃ v, σ = [some (.ref a), v]) ⟨fun b o e _ => e, fun q hq => ?_, _, rfl⟩ (fun i σ H2 _ q => SqL.of (q.1 _ _ pic.top pic.out)) ?_ ?_
    · obtain ⟨r, e1, e2, _⟩ := gd.mem pic hq
      exact ⟨_, e1, by rw [List.length_map, e2]; exact gd.w1⟩
    · rintro i x σ H2 hx ⟨kp, ne, v, rfl⟩
      obtain ⟨q, hq, rfl⟩ := getElem?_ref hx
      have hqm := List.mem_of_getElem? hq
      obtain ⟨xs, e, hl⟩ := ne q hqm
      refine ⟨_, rfl, q, _, _, 0, rfl, rfl, e, ixN_nat (j := 0) hl, fun b o eb hb => ?_, fun q' hq' => ?_, _, rfl⟩
      · rw [upd_ne (fun z => hb (by rw [z]; exact hqm))]
        exact kp b o eb hb
      · by_cases z : q' = q
        · subst z; exact ⟨_, upd_same, by rw [List.length_set]; exact hl⟩
        · obtain ⟨ys, e', hl'⟩ := ne q' hq'
          exact ⟨ys, by rw [upd_ne z]; exact e', hl'⟩
    · rintro σ H2 ⟨kp, ne, v, rfl⟩
      exact k H2 kp
end
theorem grid_congr {wd hg : Nat} {f g : Nat → Nat → Int} (h : ∀ x y, x < wd → y < hg → f x y = g x y) : grid wd hg f = grid wd hg g := by
  unfold grid
  exact List.map_congr_left fun y hy => List.map_congr_left fun x hx => h x y (List.mem_range.mp hx) (List.mem_range.mp hy)
theorem lenF {H : Hp} {a : Addr} {ps : List Addr} {R : List (List Int)} (p : PicV H a ps (ir R)) : (ps.map V.ref).length = R.length := by rw [List.length_map, p.len, ir_len]
theorem row_of {H : Hp} {a : Addr} {ps : List Addr} {R : List (List Int)} {wd y : Nat} (p : PicV H a ps (ir R)) (g : Good R wd) (hy : y < R.length) : ∃ (q : Addr) (r : List Int), (ps.map V.ref)[y]? = some (.ref q) ∧ H q = some (.lst (r.map V.int)) ∧ r.length = wd ∧ ∀ x, x < wd → (r.map V.int)[x]? = some (.int (cAt R x y)) := by
  obtain ⟨r, hr, hl, _⟩ := g.get hy
  obtain ⟨q, hq, e⟩ := PicV.row_at p hr
  refine ⟨q, r, by rw [List.getElem?_map, hq]; rfl, e, hl, fun x hx => ?_⟩
  rw [getD_int (by rw [hl]; exact hx)]
  unfold cAt
  rw [getD_at hr]
theorem PicV.keep {H H' : Hp} {a : Addr} {ps fq : List Addr} {R : List (List V)} (k : ∀ b o, H b = some o → b ∉ fq → H' b = some o) (p : PicV H a ps R) (ha : a ∉ fq) (hp : ∀ q ∈ ps, q ∉ fq) : PicV H' a ps R := ⟨k _ _ p.top ha, Paired.mapI p.row fun q _ hq e => k _ _ e (hp q hq), p.nd, p.out⟩
theorem not_new {H : Hp} {a D : Addr} {ps : List Addr} {R : List (List V)} (p : PicV H a ps R) (h : H D = none) : D ∉ ps := fun z => by
  obtain ⟨_, _, e⟩ := p.mem z
  rw [h] at e; cases e
section
variable {P : Program} {w : World} {K : PySem.W.Frag} {mg : Str → Option Value} {base : Heap} {cFE cBP cBS cOP : Addr} {tS tC : Tok}
theorem sc_need_sides : FnScope ["wide", "high"] ["wide", "high"] (defScope s_need_sides) := ⟨rfl, rfl, rfl, by decide +kernel, rfl, by decide +kernel, by decide +kernel⟩
theorem ok_need_sides {f : Addr} {fd : FuncData} (F : FunD K "need_sides" "need_sides" s_need_sides .none f fd) (T : Txt K mg cFE cBP cBS cOP tS tC) (g_is_side : Def P w K mg base 3 "is_side" ["thing"] [] (spSide K)) : FnOk P w K mg base (CX1 P w) 4 f fd ["wide", "high"] (spNeedS K cBS) := by
  refine F.okX sc_need_sides (fun vs H Q E h => ?_) (fun cdv A outer s H vs Q E hr h => ?_)
  · obtain ⟨wd, hg, rfl, _⟩ := h; rfl
  · obtain ⟨wd, hg, rfl, kw, kh, kY, kN⟩ := h
    refine ⟨_, (pss_one (ps_if (PW.pt (pw_or (pt_not (pt_val (pe_callD g_is_side (hr.mono (by decide)) rfl (pa_cons (pv 0) pa_nil)))) (pw_or1 (pt_not (pt_val (pe_callD g_is_side (hr.mono (by decide)) rfl (pa_cons (pv 1) pa_nil))))))) (pss_one (ps_raise rfl raises1 rfl T.BadSize T.xBadSize (pa_cons pe_str pa_nil))) pss_nil)), ?_⟩
    exact ⟨_, rfl, wd, rfl, kw, _, rfl, iteN (fun h1 => ⟨by show 1 ≤ sizeLine; decide, kN (by rw [h1]; rfl)⟩) (fun h1 => ⟨_, rfl, hg, rfl, kh, _, rfl, iteN (fun h2 => ⟨by show 1 ≤ sizeLine; decide, kN (by rw [h1, h2]; rfl)⟩) (fun h2 => kY (by rw [h1, h2]; rfl))⟩)⟩
end
theorem cut_nat {xs : List V} {a b : Nat} {hi : Int} (h : a + b ≤ xs.length) (e : hi = ((a + b : Nat) : Int)) : cutV xs (some (a : Int)) (some hi) = (xs.drop a).take b := by
  subst e
  unfold cutV
  rw [HT.sIx_nat, HT.sIx_nat, Nat.min_eq_left h, Nat.min_eq_left (show a ≤ xs.length by omega)]
  congr 1; omega
def cutF (R : List (List Int)) (l t wd hg : Nat) : List (List Int) := grid wd hg fun x y => cAt R (l + x) (t + y)
def spCut (K : PySem.W.Frag) : Sp := fun vs H Q _ => ∃ (a : Addr) (ps : List Addr) (R : List (List Int)) (w : Nat) (l t wd hg : Nat), vs = [.ref a, .int (l : Int), .int (t : Int), .int (wd : Int), .int (hg : Int)] ∧ PicV H a ps (ir R) ∧ Good R w ∧ l + wd ≤ w ∧ t + hg ≤ R.length ∧ NewP H Q (cutF R l t wd hg)
theorem cut_good {R : List (List Int)} {w l t wd hg : Nat} (g : Good R w) (h1 : l + wd ≤ w) (h2 : t + hg ≤ R.length) (w1 : 1 ≤ wd) (h3 : 1 ≤ hg) : Good (cutF R l t wd hg) wd := by
  have a := g.w24
  have b := g.le
  exact grid_good w1 (by omega) h3 (by omega) fun x y hx hy => cell_in g (by omega) (by omega)
def isN : V → Bool
  | .int _ => true
  | _ => false
def spIsN (K : PySem.W.Frag) : Sp := fun vs H Q _ => ∃ x, vs = [x] ∧ Kd K H x ∧ Q (.bl (isN x)) H
theorem take_grid {wd hg y : Nat} {f : Nat → Nat → Int} (hy : y < hg) : (ir (grid wd hg f)).take y ++ [((List.range wd).map fun x => f x y).map V.int] = (ir (grid wd hg f)).take (y + 1) := by
  have hy2 : y < (ir (grid wd hg f)).length := by rw [ir_len, grid_len]; exact hy
  have eg : (ir (grid wd hg f))[y] = ((List.range wd).map fun x => f x y).map V.int := by
    simp only [ir, grid, List.getElem_map, List.getElem_range]
  rw [List.take_succ_eq_append_getElem hy2, eg]
theorem take_all {wd hg : Nat} {f : Nat → Nat → Int} : (ir (grid wd hg f)).take hg = ir (grid wd hg f) := List.take_of_length_le (by rw [ir_len, grid_len]; exact Nat.le_refl _)
section
variable {P : Program} {w : World} {K : PySem.W.Frag} {mg : Str → Option Value} {base : Heap} {cFE cBP cBS cOP : Addr} {tS tC : Tok}
theorem sc_rows_cut_out : FnScope ["picture", "left", "top", "wide", "high"] ["picture", "left", "top", "wide", "high"] (defScope s_rows_cut_out) := ⟨rfl, rfl, rfl, by decide +kernel, rfl, by decide +kernel, by decide +kernel⟩
theorem ok_rows_cut_out {f : Addr} {fd : FuncData} (F : FunD K "rows_cut_out" "rows_cut_out" s_rows_cut_out .none f fd) (T : Txt K mg cFE cBP cBS cOP tS tC) : FnOk P w K mg base CX0 1 f fd ["picture", "left", "top", "wide", "high"] (spCut K) := by
  refine F.ok sc_rows_cut_out (fun vs H Q E h => ?_) (fun cdv A outer s H vs Q E hr h => ?_)
  · obtain ⟨a, ps, R, w, l, t, wd, hg, rfl, _⟩ := h; rfl
  · obtain ⟨a, ps, R, w, l, t, wd, hg, rfl, pic, gd, hw, hh, k⟩ := h
    refine ⟨_, (pss_one (ps_ret (pe_comp (N := ["row", "left", "wide"]) (src := [none, some 1, some 3]) rfl ⟨rfl, rfl, rfl, rfl, rfl, by decide +kernel⟩ (piK K rfl (pe_slice (slK K rfl) (pv 0) (po_some (pv 2)) (po_some (pe_op op_add (pv 2) (pv 4))))) (fun s H C fp => pg_name (i := 0) (show (["row", "left", "wide"] : List Str).Nodup by decide +kernel) rfl (by first | exact Or.inl rfl | exact Or.inr rfl)) (fun s H C fp => pts_nil) (fun s H C fp => (pe_slice (slK K rfl) (pv 0) (po_some (pv 1)) (po_some (pe_op op_add (pv 1) (pv 2)))))))), ?_⟩
    have hlen := lenF pic
    refine ⟨_, rfl, _, rfl, _, rfl, _, rfl, _, rfl, _, _, rfl, rfl, _, rfl, a, _, rfl, SqL.of pic.top, fun S hS => ?_⟩
    rw [cut_nat (b := hg) (by rw [hlen]; exact hh) (by omega)]
    have z1 := same_new (o := HO.lst (((ps.map V.ref).drop t).take hg)) hS
    have eS := upd_same (H := H) (a := S) (o := HO.lst (((ps.map V.ref).drop t).take hg))
    generalize upd H S (.lst (((ps.map V.ref).drop t).take hg)) = H1 at z1 eS ⊢
    have p1 := pic.mono z1
    refine ⟨S, rfl, ⟨_, SqL.of eS⟩, fun D hD => ?_⟩
    have hgl : (((ps.map V.ref).drop t).take hg).length = hg := by rw [List.length_take, List.length_drop, hlen]; omega
    have h24 := gd.le
    refine comp_rows (k := 0) (fun v => ((gOf H1 v).drop l).take wd) (src_list (SqL.of eS)) (by rw [hgl]; exact Nat.le_trans (show hg ≤ 24 by omega) (by decide)) hD (fun z hz H' Q' sm kk => ?_) fun qs H2 s2 fr pic2 => ?_
    · obtain ⟨q, hq, rfl⟩ := List.mem_map.mp (List.mem_of_mem_drop (List.mem_of_mem_take hz))
      obtain ⟨ns, e1, e2, _⟩ := gd.mem p1 hq
      refine ⟨_, rfl, _, rfl, _, rfl, _, rfl, _, rfl, _, _, rfl, rfl, _, rfl, q, _, rfl, SqL.of (sm _ _ e1), fun L hL => ?_⟩
      rw [cut_nat (b := wd) (by rw [List.length_map, e2]; exact hw) (by omega)]
      refine kk L _ (same_new hL) hL ?_
      rw [upd_same, gOf_at e1]
    · refine k.same z1 D qs H2 s2 hD fr ?_
      have e : (((ps.map V.ref).drop t).take hg).map (fun v => ((gOf H1 v).drop l).take wd) = ir (cutF R l t wd hg) := by
        have e1 : (((ps.map V.ref).drop t).take hg).map (fun v => ((gOf H1 v).drop l).take wd) = (((ir R).drop t).take hg).map fun r => (r.drop l).take wd := by
          rw [← gOf_map p1.row]
          simp only [List.map_drop, List.map_take, List.map_map]
          rfl
        rw [e1]
        unfold ir cutF grid
        refine List.ext_getElem ?_ fun y a1 a2 => ?_
        · simp only [List.length_map, List.length_take, List.length_drop, List.length_range]; omega
        · simp only [List.length_map, List.length_range] at a2
          simp only [List.getElem_map, List.getElem_take, List.getElem_drop, List.getElem_range]
          have hy : t + y < R.length := by omega
          have lr := row_len gd hy
          refine List.ext_getElem ?_ fun x b1 b2 => ?_
          · simp only [List.length_map, List.length_take, List.length_drop, List.length_range, lr]; omega
          · simp only [List.length_map, List.length_range] at b2
            simp only [List.getElem_map, List.getElem_take, List.getElem_drop, List.getElem_range]
            rw [cAt_eq hy (by rw [lr]; omega)]
      rw [e] at pic2
      exact pic2
theorem sc_law_is_number : FnScope ["_law_thing"] ["_law_thing"] (defScope s_law_is_number) := ⟨rfl, rfl, rfl, by decide +kernel, rfl, by decide +kernel, by decide +kernel⟩
theorem ok_law_is_number {f : Addr} {fd : FuncData} (F : FunD K "_law_is_number" "_law_is_number" s_law_is_number .none f fd) (T : Txt K mg cFE cBP cBS cOP tS tC) : FnOk P w K mg base CX0 1 f fd ["_law_thing"] (spIsN K) := by
  refine F.ok sc_law_is_number (fun vs H Q E h => ?_) (fun cdv A outer s H vs Q E hr h => ?_)
  · obtain ⟨x, rfl, _⟩ := h; rfl
  · obtain ⟨x, rfl, kd, k⟩ := h
    refine ⟨_, (pss_one (ps_ret (pe_and (isiK K rfl (pv 0) rfl T.isinstance rfl T.int PyProof.Rows.boot_int) (pe_one (pe_not (isiK K rfl (pv 0) rfl T.isinstance rfl T.bool PyProof.Rows.boot_bool)))))), ?_⟩
    refine ⟨_, rfl, _, kd.isInt, _, rfl, iteB (fun hI => ⟨_, rfl, _, kd.isBool, ?_⟩) (fun hI => ?_)⟩
    · cases x with
      | int i => exact ⟨_, rfl, k⟩
      | bl b => exact ⟨_, rfl, k⟩
      | _ => cases hI
    · cases x with
      | int i => cases hI
      | bl b => cases hI
      | _ => exact k
end
end K9
set_option Elab.async false
set_option linter.all false
set_option maxRecDepth 100000
set_option maxHeartbeats 1600000
namespace K9
open PySem L2 M4
def lies (n : Nat) : V → V → Bool
  | .int a, .int b => decide (0 ≤ a) && (decide (1 ≤ b) && decide (a + b ≤ (n : Int)))
  | _, _ => false
theorem lies_nat {n : Nat} {u v : V} (h : lies n u v = true) : ∃ a b : Nat, u = .int (a : Int) ∧ v = .int (b : Int) ∧ 1 ≤ b ∧ a + b ≤ n := by
  cases u with
  | int a =>
    cases v with
    | int b =>
      simp only [lies, Bool.and_eq_true, decide_eq_true_eq] at h
      exact ⟨a.toNat, b.toNat, by congr 1; omega, by congr 1; omega, by omega, by omega⟩
    | _ => cases h
  | _ => cases h
def spLies (K : PySem.W.Frag) : Sp := fun vs H Q _ => ∃ (u v : V) (n : Nat), vs = [u, v, .int (n : Int)] ∧ Kd K H u ∧ Kd K H v ∧ Q (.bl (lies n u v)) H
def spCutOut (K : PySem.W.Frag) (cBP cOP : Addr) : Sp := fun vs H Q E => ∃ (v x0 x1 x2 x3 : V), vs = [v, x0, x1, x2, x3] ∧
  ((Th K H v ∧ picB H v = false ∧ ∀ H', Same H H' → E (.ref cBP) none H') ∨
   (∃ a ps R w, v = .ref a ∧ PicV H a ps (ir R) ∧ Good R w ∧ Kd K H x0 ∧ Kd K H x1 ∧ Kd K H x2 ∧ Kd K H x3 ∧
     ((lies w x0 x2 && lies R.length x1 x3) = false → ∀ H', Same H H' → E (.ref cOP) none H') ∧
     (∀ l t wd hg : Nat, x0 = .int (l : Int) → x1 = .int (t : Int) → x2 = .int (wd : Int) → x3 = .int (hg : Int) → 1 ≤ wd → 1 ≤ hg → l + wd ≤ w → t + hg ≤ R.length → NewP H Q (cutF R l t wd hg))))
def spSteps (K : PySem.W.Frag) (cBS : Addr) : Sp := fun vs H Q E => ∃ (u v : V), vs = [u, v] ∧ Kd K H u ∧ Kd K H v ∧ ((isWf 1 u && isWf 1 v) = true → Q .non H) ∧ ((isWf 1 u && isWf 1 v) = false → E (.ref cBS) none H)
def thinF (R : List (List Int)) (w a d : Nat) : List (List Int) := grid ((w - 1) / a + 1) ((R.length - 1) / d + 1) fun x y => cAt R (x * a) (y * d)
def wideF (R : List (List Int)) (w a d : Nat) : List (List Int) := grid (w * a) (R.length * d) fun x y => cAt R (x / a) (y / d)
def spThinRow : Sp := fun vs H Q _ => ∃ (q : Addr) (r : List Int) (a : Nat), vs = [.ref q, .int (a : Int)] ∧ H q = some (.lst (r.map V.int)) ∧ 1 ≤ r.length ∧ r.length ≤ 24 ∧ 1 ≤ a ∧ a < 2 ^ 100 ∧ ∀ p H', Same H H' → H p = none → H' p = some (.lst (((List.range ((r.length - 1) / a + 1)).map fun x => r.getD (x * a) 0).map V.int)) → Q (.ref p) H'
def spWideRow : Sp := fun vs H Q _ => ∃ (q : Addr) (r : List Int) (a : Nat), vs = [.ref q, .int (a : Int)] ∧ H q = some (.lst (r.map V.int)) ∧ 1 ≤ r.length ∧ r.length * a ≤ 24 ∧ 1 ≤ a ∧ ∀ p H', Same H H' → H p = none → H' p = some (.lst (((List.range (r.length * a)).map fun x => r.getD (x / a) 0).map V.int)) → Q (.ref p) H'
def StepsR (K : PySem.W.Frag) (H : Hp) (u v : V) (ok : Nat → Nat → Prop) (no : Prop) : Prop := (Kd K H u ∧ Kd K H v ∧ (isWf 1 u && isWf 1 v) = false ∧ no) ∨ ∃ a d : Nat, u = .int (a : Int) ∧ v = .int (d : Int) ∧ 1 ≤ a ∧ 1 ≤ d ∧ a < 2 ^ 100 ∧ d < 2 ^ 100 ∧ ok a d
def spThinned (K : PySem.W.Frag) (cBP cBS : Addr) : Sp := fun vs H Q E => ∃ (v u1 u2 : V), vs = [v, u1, u2] ∧
  ((Th K H v ∧ picB H v = false ∧ ∀ H', Same H H' → E (.ref cBP) none H') ∨
   (∃ a ps R w, v = .ref a ∧ PicV H a ps (ir R) ∧ Good R w ∧ StepsR K H u1 u2 (fun s1 s2 => NewP H Q (thinF R w s1 s2)) (∀ H', Same H H' → E (.ref cBS) none H')))
def spWidened (K : PySem.W.Frag) (cBP cBS : Addr) : Sp := fun vs H Q E => ∃ (v u1 u2 : V), vs = [v, u1, u2] ∧
  ((Th K H v ∧ picB H v = false ∧ ∀ H', Same H H' → E (.ref cBP) none H') ∨
   (∃ a ps R w, v = .ref a ∧ PicV H a ps (ir R) ∧ Good R w ∧ StepsR K H u1 u2 (fun s1 s2 => (¬ (w * s1 ≤ 24 ∧ R.length * s2 ≤ 24) → ∀ H', Same H H' → E (.ref cBS) none H') ∧ (w * s1 ≤ 24 → R.length * s2 ≤ 24 → NewP H Q (wideF R w s1 s2))) (∀ H', Same H H' → E (.ref cBS) none H')))
theorem log_100 {a : Nat} (h : a < 2 ^ 100) : ((a : Int).natAbs).log2 < 9000 := by
  rw [Int.natAbs_natCast]
  by_cases h0 : a = 0
  · subst h0; decide +kernel
  · have : a.log2 < 100 := (Nat.log2_lt h0).mpr h
    omega
theorem size_nat {n a : Nat} (h1 : 1 ≤ n) (h2 : 1 ≤ a) : Builtin.Range.rangeSize 0 (n : Int) (a : Int) = (((n - 1) / a + 1 : Nat) : Int) := by
  unfold Builtin.Range.rangeSize
  rw [if_pos (by omega), if_pos (by omega)]
  have e : (n : Int) - 0 - 1 = ((n - 1 : Nat) : Int) := by omega
  rw [e]
  push_cast
  rfl
theorem mul_lt_of {n a i : Nat} (h1 : 1 ≤ n) (ha : 1 ≤ a) (hi : i < (n - 1) / a + 1) : i * a < n := by
  have : i * a ≤ (n - 1) / a * a := Nat.mul_le_mul_right a (by omega)
  have h3 := Nat.div_mul_le_self (n - 1) a
  omega
theorem wf1 {n : Nat} (h : 1 ≤ n) : isWf 1 (.int (n : Int)) = true := by show decide ((1 : Int) ≤ (n : Int)) = true; exact decide_eq_true (by omega)
section
variable {P : Program} {w : World} {K : PySem.W.Frag} {mg : Str → Option Value} {base : Heap} {cFE cBP cBS cOP : Addr} {tS tC : Tok}
theorem sc_lies_within : FnScope ["start", "many", "side"] ["start", "many", "side"] (defScope s_lies_within) := ⟨rfl, rfl, rfl, by decide +kernel, rfl, by decide +kernel, by decide +kernel⟩
theorem ok_lies_within {f : Addr} {fd : FuncData} (F : FunD K "lies_within" "lies_within" s_lies_within .none f fd) (g_is_whole_from : Def P w K mg base 1 "is_whole_from" ["thing", "least"] [] (spWf K)) : FnOk P w K mg base CX0 2 f fd ["start", "many", "side"] (spLies K) := by
  refine F.ok sc_lies_within (fun vs H Q E h => ?_) (fun cdv A outer s H vs Q E hr h => ?_)
  · obtain ⟨u, v, n, rfl, _⟩ := h; rfl
  · obtain ⟨u, v, n, rfl, ku, kv, k⟩ := h
    refine ⟨_, (pss_one (ps_ret (pe_and (pe_callD g_is_whole_from (hr.mono (by decide)) rfl (pa_cons (pv 0) (pa_cons pe_int pa_nil))) (pe_and (pe_callD g_is_whole_from (hr.mono (by decide)) rfl (pa_cons (pv 1) (pa_cons pe_int pa_nil))) (pe_one (pe_cmpR op_le (pe_op op_add (pv 0) (pv 1)) (pv 2) (nomark _))))))), ?_⟩
    refine ⟨_, rfl, u, 0, rfl, ku, _, rfl, iteB (fun h1 => ?_) (fun h1 => ?_)⟩
    rotate_left
    · have e : lies n u v = false := by
        cases u with
        | int a =>
          have h1' : decide ((0 : Int) ≤ a) = false := h1
          cases v with
          | int b => simp only [lies, h1', Bool.false_and]
          | _ => rfl
        | _ => rfl
      rw [e] at k; exact k
    refine ⟨_, rfl, v, 1, rfl, kv, _, rfl, iteB (fun h2 => ?_) (fun h2 => ?_)⟩
    rotate_left
    · have e : lies n u v = false := by
        cases u with
        | int a =>
          cases v with
          | int b =>
            have h2' : decide ((1 : Int) ≤ b) = false := h2
            simp only [lies, h2', Bool.false_and, Bool.and_false]
          | _ => rfl
        | _ => rfl
      rw [e] at k; exact k
    cases u with
    | int a =>
      cases v with
      | int b =>
        have h1' : decide ((0 : Int) ≤ a) = true := h1
        have h2' : decide ((1 : Int) ≤ b) = true := h2
        have e : lies n (.int a) (.int b) = decide (a + b ≤ (n : Int)) := by simp only [lies, h1', h2', Bool.true_and]
        rw [e] at k
        exact ⟨_, rfl, _, rfl, _, _, rfl, rfl, _, rfl, _, _, rfl, rfl, k⟩
      | _ => cases h2
    | _ => cases h1
theorem sc_cut_out : FnScope ["picture", "left", "top", "wide", "high", "size"] ["picture", "left", "top", "wide", "high"] (defScope s_cut_out) := ⟨rfl, rfl, rfl, by decide +kernel, rfl, by decide +kernel, by decide +kernel⟩
theorem ok_cut_out {f : Addr} {fd : FuncData} (F : FunD K "cut_out" "cut_out" s_cut_out .none f fd) (T : Txt K mg cFE cBP cBS cOP tS tC) (g_size_of : DefX P w K mg base 8 "size_of" ["picture"] [] (spSize K cBP)) (g_lies_within : Def P w K mg base 2 "lies_within" ["start", "many", "side"] [] (spLies K)) (g_rows_cut_out : Def P w K mg base 1 "rows_cut_out" ["picture", "left", "top", "wide", "high"] [] (spCut K)) : FnOk P w K mg base (CX1 P w) 9 f fd ["picture", "left", "top", "wide", "high"] (spCutOut K cBP cOP) := by
  refine F.okX sc_cut_out (fun vs H Q E h => ?_) (fun cdv A outer s H vs Q E hr h => ?_)
  · obtain ⟨v, x0, x1, x2, x3, rfl, _⟩ := h; rfl
  · obtain ⟨v, x0, x1, x2, x3, rfl, h⟩ := h
    refine ⟨_, (pss_cons (ps_set (i := 5) sc_cut_out.nd rfl (by first | exact Or.inl rfl | exact Or.inr rfl) (pe_callX g_size_of (hr.mono (by decide)) passes1R rfl (pa_cons (pv 0) pa_nil)))
        (pss_cons (ps_if (PW.pt (pw_or (pt_not (pt_val (pe_callD g_lies_within (hr.mono (by decide)) rfl (pa_cons (pv 1) (pa_cons (pv 3) (pa_cons (pe_ix (ixTK K rfl) (pv 5) pe_int (fun _ _ => rfl)) pa_nil)))))) (pw_or1 (pt_not (pt_val (pe_callD g_lies_within (hr.mono (by decide)) rfl (pa_cons (pv 2) (pa_cons (pv 4) (pa_cons (pe_ix (ixTK K rfl) (pv 5) pe_int (fun _ _ => rfl)) pa_nil))))))))) (pss_one (ps_raise rfl raises1 rfl T.OutOfPlace T.xOutOfPlace (pa_cons pe_str pa_nil))) pss_nil)
        (pss_one (ps_ret (pe_callD g_rows_cut_out (hr.mono (by decide)) rfl (pa_cons (pv 0) (pa_cons (pv 1) (pa_cons (pv 2) (pa_cons (pv 3) (pa_cons (pv 4) pa_nil)))))))))), ?_⟩
    rcases h with ⟨th, hb, kB⟩ | ⟨a, ps, R, wd, rfl, pic, gd, k0, k1, k2, k3, kO, kY⟩
    · exact ⟨_, rfl, v, rfl, th, fun z => (by rw [hb] at z; cases z), fun _ => kB⟩
    refine ⟨_, rfl, .ref a, rfl, (th_good pic gd).1, fun _ xs tp H1 hxs s1 htp etp => ?_, fun z => (no_bad pic gd z).elim⟩
    rw [rowOf_lst pic.top] at hxs; cases hxs
    rw [head_good pic gd, lenF pic] at etp
    have pic1 := pic.mono s1
    refine ⟨_, rfl, _, rfl, _, rfl, tp, _, _, _, rfl, rfl, SqT.of etp, atI_nat (j := 0) rfl, x0, x2, wd, rfl, k0.mono s1, k2.mono s1, _, rfl, iteN (fun h1 => ⟨by show 1 ≤ sizeLine; decide, kO (by rw [h1]; rfl) H1 s1⟩) (fun h1 => ?_)⟩
    refine ⟨_, rfl, _, rfl, _, rfl, tp, _, _, _, rfl, rfl, SqT.of etp, atI_nat (j := 1) rfl, x1, x3, R.length, rfl, k1.mono s1, k3.mono s1, _, rfl, iteN (fun h2 => ⟨by show 1 ≤ sizeLine; decide, kO (by rw [h2, Bool.and_false]) H1 s1⟩) (fun h2 => ?_)⟩
    obtain ⟨l, wn, rfl, rfl, w1, w2⟩ := lies_nat h1
    obtain ⟨t, hn, rfl, rfl, g1, g2⟩ := lies_nat h2
    exact ⟨_, rfl, _, rfl, _, rfl, _, rfl, _, rfl, a, ps, R, wd, l, t, wn, hn, rfl, pic1, gd, w2, g2, (kY l t wn hn rfl rfl rfl rfl w1 g1 w2 g2).same s1⟩
theorem sc_need_steps : FnScope ["across", "down"] ["across", "down"] (defScope s_need_steps) := ⟨rfl, rfl, rfl, by decide +kernel, rfl, by decide +kernel, by decide +kernel⟩
theorem ok_need_steps {f : Addr} {fd : FuncData} (F : FunD K "need_steps" "need_steps" s_need_steps .none f fd) (T : Txt K mg cFE cBP cBS cOP tS tC) (g_is_whole_from : Def P w K mg base 1 "is_whole_from" ["thing", "least"] [] (spWf K)) : FnOk P w K mg base (CX1 P w) 2 f fd ["across", "down"] (spSteps K cBS) := by
  refine F.okX sc_need_steps (fun vs H Q E h => ?_) (fun cdv A outer s H vs Q E hr h => ?_)
  · obtain ⟨u, v, rfl, _⟩ := h; rfl
  · obtain ⟨u, v, rfl, ku, kv, kY, kN⟩ := h
    refine ⟨_, (pss_one (ps_if (PW.pt (pw_or (pt_not (pt_val (pe_callD g_is_whole_from (hr.mono (by decide)) rfl (pa_cons (pv 0) (pa_cons pe_int pa_nil))))) (pw_or1 (pt_not (pt_val (pe_callD g_is_whole_from (hr.mono (by decide)) rfl (pa_cons (pv 1) (pa_cons pe_int pa_nil)))))))) (pss_one (ps_raise rfl raises1 rfl T.BadSize T.xBadSize (pa_cons pe_str pa_nil))) pss_nil)), ?_⟩
    refine ⟨_, rfl, u, 1, rfl, ku, _, rfl, iteN (fun h1 => ⟨by show 1 ≤ sizeLine; decide, kN (by rw [h1]; rfl)⟩) (fun h1 => ?_)⟩
    exact ⟨_, rfl, v, 1, rfl, kv, _, rfl, iteN (fun h2 => ⟨by show 1 ≤ sizeLine; decide, kN (by rw [h2, Bool.and_false])⟩) (fun h2 => kY (by rw [h1, h2]; rfl))⟩
theorem sc_thinned_row : FnScope ["row", "across"] ["row", "across"] (defScope s_thinned_row) := ⟨rfl, rfl, rfl, by decide +kernel, rfl, by decide +kernel, by decide +kernel⟩
theorem ok_thinned_row {f : Addr} {fd : FuncData} (F : FunD K "thinned_row" "thinned_row" s_thinned_row .none f fd) (T : Txt K mg cFE cBP cBS cOP tS tC) : FnOk P w K mg base CX0 1 f fd ["row", "across"] spThinRow := by
  refine F.ok sc_thinned_row (fun vs H Q E h => ?_) (fun cdv A outer s H vs Q E hr h => ?_)
  · obtain ⟨q, r, a, rfl, _⟩ := h; rfl
  · obtain ⟨q, r, a, rfl, e, l1, l24, a1, a100, k⟩ := h
    refine ⟨_, (pss_one (ps_ret (pe_comp (N := ["x", "row"]) (src := [none, some 0]) rfl ⟨rfl, rfl, rfl, rfl, rfl, by decide +kernel⟩ (pi_range3B rfl T.range (pa_cons pe_int (pa_cons (pe_callB (lenK K rfl) rfl T.len PySem.boot_len (pa_cons (pv 0) pa_nil)) (pa_cons (pv 1) pa_nil)))) (fun s H C fp => pg_name (i := 0) (show (["x", "row"] : List Str).Nodup by decide +kernel) rfl (by first | exact Or.inl rfl | exact Or.inr rfl)) (fun s H C fp => pts_nil) (fun s H C fp => (pe_ix (ixK K rfl) (pv 1) (pv 0) (fun _ _ => rfl)))))), ?_⟩
    have hn : (r.length - 1) / a + 1 ≤ 24 := Nat.le_trans (Nat.add_le_add_right (Nat.div_le_self _ _) 1) (by omega)
    refine ⟨_, rfl, q, _, rfl, .inl (SqL.of e), _, rfl, 0, (r.length : Int), (a : Int), (r.length - 1) / a + 1, (by rw [List.length_map]), by omega, log_100 a100, size_nat l1 a1, fun D hD => ?_⟩
    refine comp_fm (k := 0) (fun v => match v with | .int x => .int (r.getD x.toNat 0) | _ => .non) (fun _ => true) src_range3 (by simp; exact Nat.le_trans hn (by decide)) hD (fun x _ H2 Qb _ kb => kb H2 (Same.refl _)) (fun z hz _ H2 Q2 s2 k2 => ?_) fun H2 s2 h2 => ?_
    · obtain ⟨i, hi, rfl⟩ := List.mem_map.mp hz
      have hi' := mul_lt_of l1 a1 (List.mem_range.mp hi)
      have ei : (0 : Int) + (i : Int) * (a : Int) = ((i * a : Nat) : Int) := by push_cast; omega
      refine ⟨_, rfl, _, rfl, q, _, _, _, rfl, rfl, SqL.of (s2 _ _ e), (by rw [ei]; exact atI_nat (getD_int hi')), ?_⟩
      have := k2 H2 (Same.refl _)
      dsimp only at this
      rw [ei, Int.toNat_natCast] at this
      exact this
    · refine k D H2 s2 hD ?_
      rw [h2, filter_t, List.map_map, List.map_map]
      congr 2
      refine List.map_congr_left fun i _ => ?_
      show V.int (r.getD ((0 : Int) + (i : Int) * (a : Int)).toNat 0) = V.int (r.getD (i * a) 0)
      rw [show (0 : Int) + (i : Int) * (a : Int) = ((i * a : Nat) : Int) by push_cast; omega, Int.toNat_natCast]
theorem sc_widened_row : FnScope ["row", "across"] ["row", "across"] (defScope s_widened_row) := ⟨rfl, rfl, rfl, by decide +kernel, rfl, by decide +kernel, by decide +kernel⟩
theorem ok_widened_row {f : Addr} {fd : FuncData} (F : FunD K "widened_row" "widened_row" s_widened_row .none f fd) (T : Txt K mg cFE cBP cBS cOP tS tC) : FnOk P w K mg base CX0 1 f fd ["row", "across"] spWideRow := by
  refine F.ok sc_widened_row (fun vs H Q E h => ?_) (fun cdv A outer s H vs Q E hr h => ?_)
  · obtain ⟨q, r, a, rfl, _⟩ := h; rfl
  · obtain ⟨q, r, a, rfl, e, l1, l24, a1, k⟩ := h
    refine ⟨_, (pss_one (ps_ret (pe_comp (N := ["x", "row", "across"]) (src := [none, some 0, some 1]) rfl ⟨rfl, rfl, rfl, rfl, rfl, by decide +kernel⟩ (pi_range1 rfl T.range (pa_cons (pe_op op_mul (pe_callB (lenK K rfl) rfl T.len PySem.boot_len (pa_cons (pv 0) pa_nil)) (pv 1)) pa_nil)) (fun s H C fp => pg_name (i := 0) (show (["x", "row", "across"] : List Str).Nodup by decide +kernel) rfl (by first | exact Or.inl rfl | exact Or.inr rfl)) (fun s H C fp => pts_nil) (fun s H C fp => (pe_ix (ixK K rfl) (pv 1) (pe_op op_fdiv (pv 0) (pv 2)) (fun _ _ => rfl)))))), ?_⟩
    have a24 : a ≤ 24 := Nat.le_trans (Nat.le_mul_of_pos_left a l1) l24
    have r24 : r.length ≤ 24 := Nat.le_trans (Nat.le_mul_of_pos_right _ a1) l24
    have em : ((r.map V.int).length : Int) * (a : Int) = ((r.length * a : Nat) : Int) := by rw [List.length_map]; push_cast; rfl
    refine ⟨_, rfl, q, _, rfl, .inl (SqL.of e), _, rfl, _, _, rfl, rfl, .inl ⟨by rw [List.length_map]; omega, by rw [List.length_map]; omega⟩, ((r.length * a : Nat) : Int), (by show [V.int (((r.map V.int).length : Int) * (a : Int))] = _; rw [em]), by omega, by omega, fun D hD => ?_⟩
    rw [Int.toNat_natCast]
    refine comp_fm (k := 0) (fun v => match v with | .int x => .int (r.getD (x.toNat / a) 0) | _ => .non) (fun _ => true) src_range (by simp; exact Nat.le_trans l24 (by decide)) hD (fun x _ H2 Qb _ kb => kb H2 (Same.refl _)) (fun z hz _ H2 Q2 s2 k2 => ?_) fun H2 s2 h2 => ?_
    · obtain ⟨i, hi, rfl⟩ := List.mem_map.mp hz
      have hi' : i / a < r.length := Nat.div_lt_of_lt_mul (by rw [Nat.mul_comm]; exact List.mem_range.mp hi)
      have ei : ((0 : Int) + (i : Int)) / (a : Int) = ((i / a : Nat) : Int) := by rw [Int.zero_add]; push_cast; rfl
      refine ⟨_, rfl, _, rfl, _, rfl, _, _, rfl, rfl, ⟨by omega, by omega⟩, q, _, _, _, rfl, rfl, SqL.of (s2 _ _ e), (by show atI _ (((0 : Int) + (i : Int)) / (a : Int)) = _; rw [ei]; exact atI_nat (getD_int hi')), ?_⟩
      have := k2 H2 (Same.refl _)
      dsimp only at this
      rw [show ((0 : Int) + (i : Int)).toNat = i by omega] at this
      exact this
    · refine k D H2 s2 hD ?_
      rw [h2, filter_t, List.map_map, List.map_map]
      congr 2
      refine List.map_congr_left fun i _ => ?_
      show V.int (r.getD (((0 : Int) + (i : Int)).toNat / a) 0) = V.int (r.getD (i / a) 0)
      rw [show ((0 : Int) + (i : Int)).toNat = i by omega]
end
end K9
set_option Elab.async false
set_option linter.all false
set_option maxRecDepth 100000
set_option maxHeartbeats 1600000
namespace K9
open PySem L2 M4
theorem thin_good {R : List (List Int)} {w a d : Nat} (g : Good R w) (ha : 1 ≤ a) (hd : 1 ≤ d) : Good (thinF R w a d) ((w - 1) / a + 1) := by
  have h1 := g.w1
  have h2 := g.ne
  have h3 := g.w24
  have h4 := g.le
  refine grid_good (Nat.le_add_left _ _) (Nat.le_trans (Nat.add_le_add_right (Nat.div_le_self _ _) 1) (by omega)) (Nat.le_add_left _ _) (Nat.le_trans (Nat.add_le_add_right (Nat.div_le_self _ _) 1) (by omega)) fun x y hx hy => cell_in g (mul_lt_of h1 ha hx) (mul_lt_of h2 hd hy)
theorem wide_good {R : List (List Int)} {w a d : Nat} (g : Good R w) (ha : 1 ≤ a) (hd : 1 ≤ d) (hw : w * a ≤ 24) (hh : R.length * d ≤ 24) : Good (wideF R w a d) (w * a) := by
  refine grid_good (Nat.mul_pos g.w1 ha) hw (Nat.mul_pos g.ne hd) hh fun x y hx hy => cell_in g (Nat.div_lt_of_lt_mul (by rw [Nat.mul_comm]; exact hx)) (Nat.div_lt_of_lt_mul (by rw [Nat.mul_comm]; exact hy))
theorem thin_wide {R : List (List Int)} {w a d : Nat} (g : Good R w) (ha : 1 ≤ a) (hd : 1 ≤ d) : thinF (wideF R w a d) (w * a) a d = R := by
  have h1 := g.w1
  have h2 := g.ne
  have lenW : (wideF R w a d).length = R.length * d := grid_len ..
  have e1 : (w * a - 1) / a + 1 = w := by
    obtain ⟨k, rfl⟩ : ∃ k, w = k + 1 := ⟨w - 1, by omega⟩
    have : (k + 1) * a - 1 = a * k + (a - 1) := by rw [Nat.add_mul, Nat.one_mul, Nat.mul_comm]; omega
    rw [this, Nat.mul_add_div (by omega), Nat.div_eq_of_lt (by omega)]
  have e2 : (R.length * d - 1) / d + 1 = R.length := by
    obtain ⟨k, hk⟩ : ∃ k, R.length = k + 1 := ⟨R.length - 1, by omega⟩
    rw [hk]
    have : (k + 1) * d - 1 = d * k + (d - 1) := by rw [Nat.add_mul, Nat.one_mul, Nat.mul_comm]; omega
    rw [this, Nat.mul_add_div (by omega), Nat.div_eq_of_lt (by omega)]
  unfold thinF
  rw [lenW, e1, e2]
  refine Eq.trans (grid_congr fun x y hx hy => ?_) (good_grid g).symm
  unfold wideF
  rw [grid_at (Nat.mul_lt_mul_of_pos_right hx (by omega)) (Nat.mul_lt_mul_of_pos_right hy (by omega)), Nat.mul_div_cancel _ (by omega), Nat.mul_div_cancel _ (by omega)]
theorem row_getD {H : Hp} {a : Addr} {ps : List Addr} {R : List (List Int)} {wd y : Nat} (p : PicV H a ps (ir R)) (g : Good R wd) (hy : y < R.length) : ∃ q, (ps.map V.ref)[y]? = some (.ref q) ∧ H q = some (.lst (R[y].map V.int)) ∧ R[y].length = wd := by
  have hrr : R[y]? = some R[y] := by simp [hy]
  obtain ⟨q, hq, e⟩ := PicV.row_at p hrr
  exact ⟨q, by rw [List.getElem?_map, hq]; rfl, e, row_len g hy⟩
section
variable {P : Program} {w : World} {K : PySem.W.Frag} {mg : Str → Option Value} {base : Heap} {cFE cBP cBS cOP : Addr} {tS tC : Tok}
theorem sc_thinned : FnScope ["picture", "across", "down"] ["picture", "across", "down"] (defScope s_thinned) := ⟨rfl, rfl, rfl, by decide +kernel, rfl, by decide +kernel, by decide +kernel⟩
theorem ok_thinned {f : Addr} {fd : FuncData} (F : FunD K "thinned" "thinned" s_thinned .none f fd) (T : Txt K mg cFE cBP cBS cOP tS tC) (g_need_picture : DefX P w K mg base 7 "need_picture" ["picture"] [] (spNeed K cBP)) (g_need_steps : DefX P w K mg base 2 "need_steps" ["across", "down"] [] (spSteps K cBS)) (g_thinned_row : Def P w K mg base 1 "thinned_row" ["row", "across"] [] spThinRow) : FnOk P w K mg base (CX1 P w) 8 f fd ["picture", "across", "down"] (spThinned K cBP cBS) := by
  refine F.okX sc_thinned (fun vs H Q E h => ?_) (fun cdv A outer s H vs Q E hr h => ?_)
  · obtain ⟨v, u1, u2, rfl, _⟩ := h; rfl
  · obtain ⟨v, u1, u2, rfl, h⟩ := h
    refine ⟨_, (pss_cons (ps_expr (pe_callX g_need_picture (hr.mono (by decide)) passes1R rfl (pa_cons (pv 0) pa_nil)))
        (pss_cons (ps_expr (pe_callX g_need_steps (hr.mono (by decide)) passes1R rfl (pa_cons (pv 1) (pa_cons (pv 2) pa_nil))))
        (pss_one (ps_ret (pe_comp (N := ["y", "picture", "across"]) (src := [none, some 0, some 1]) rfl ⟨rfl, rfl, rfl, rfl, rfl, by decide +kernel⟩ (pi_range3B rfl T.range (pa_cons pe_int (pa_cons (pe_callB (lenK K rfl) rfl T.len PySem.boot_len (pa_cons (pv 0) pa_nil)) (pa_cons (pv 2) pa_nil)))) (fun s H C fp => pg_name (i := 0) (show (["y", "picture", "across"] : List Str).Nodup by decide +kernel) rfl (by first | exact Or.inl rfl | exact Or.inr rfl)) (fun s H C fp => pts_nil) (fun s H C fp => (pe_callD g_thinned_row (hr.mono (by decide)) rfl (pa_cons (pe_ix (ixK K rfl) (pv 1) (pv 0) (fun _ _ => rfl)) (pa_cons (pv 2) pa_nil))))))))), ?_⟩
    rcases h with ⟨th, hb, kB⟩ | ⟨a, ps, R, wd, rfl, pic, gd, h⟩
    · exact ⟨_, rfl, v, rfl, th, fun z => (by rw [hb] at z; cases z), fun _ => kB⟩
    refine ⟨_, rfl, .ref a, rfl, (th_good pic gd).1, fun _ H1 s1 => ?_, fun z => (no_bad pic gd z).elim⟩
    rcases h with ⟨ku, kv, hw, kS⟩ | ⟨c, d, rfl, rfl, c1, d1, c100, d100, kY⟩
    · exact ⟨_, rfl, _, rfl, u1, u2, rfl, ku.mono s1, kv.mono s1, fun z => (by rw [hw] at z; cases z), fun _ => kS H1 s1⟩
    refine ⟨_, rfl, _, rfl, _, _, rfl, .int _, .int _, fun _ => ?_, fun z => (by rw [wf1 c1, wf1 d1] at z; cases z)⟩
    have pic1 := pic.mono s1
    have h24 := gd.le
    have w24 := gd.w24
    have hn : (R.length - 1) / d + 1 ≤ 24 := Nat.le_trans (Nat.add_le_add_right (Nat.div_le_self _ _) 1) (by have := gd.ne; omega)
    refine ⟨_, rfl, a, _, rfl, .inl (SqL.of pic1.top), _, rfl, 0, (R.length : Int), (d : Int), (R.length - 1) / d + 1, (by rw [lenF pic1]), by omega, log_100 d100, size_nat gd.ne d1, fun D hD => ?_⟩
    refine comp_rows (k := 0) (fun v => match v with | .int y => ((List.range ((wd - 1) / c + 1)).map fun x => cAt R (x * c) y.toNat).map V.int | _ => []) src_range3 (by simp; exact Nat.le_trans hn (by decide)) hD (fun z hz H' Q' sm kk => ?_) fun qs H2 s2 fr pic2 => ?_
    · obtain ⟨i, hi, rfl⟩ := List.mem_map.mp hz
      have hi' := mul_lt_of gd.ne d1 (List.mem_range.mp hi)
      have ei : (0 : Int) + (i : Int) * (d : Int) = ((i * d : Nat) : Int) := by push_cast; omega
      have pic' := pic1.mono sm
      obtain ⟨q, e1, e2, lr⟩ := row_getD pic' gd hi'
      refine ⟨_, rfl, _, rfl, a, _, _, _, rfl, rfl, SqL.of pic'.top, (by rw [ei]; exact atI_nat e1), _, rfl, q, R[i * d], c, rfl, e2, by rw [lr]; exact gd.w1, by rw [lr]; exact w24, c1, c100, fun p3 H3 s3 hp3 e3 => kk p3 H3 s3 hp3 ?_⟩
      rw [e3, lr]
      show _ = some (HO.lst (((List.range ((wd - 1) / c + 1)).map fun x => cAt R (x * c) ((0 : Int) + (i : Int) * (d : Int)).toNat).map V.int))
      rw [ei, Int.toNat_natCast]
      congr 3
      refine List.map_congr_left fun x _ => ?_
      unfold cAt
      rw [getD_row hi']
    · refine (kY.same s1) D qs H2 s2 hD fr ?_
      have e : ((List.range ((R.length - 1) / d + 1)).map fun (i : Nat) => V.int ((0 : Int) + (i : Int) * (d : Int))).map (fun v => match v with | .int y => ((List.range ((wd - 1) / c + 1)).map fun x => cAt R (x * c) y.toNat).map V.int | _ => []) = ir (thinF R wd c d) := by
        unfold ir thinF grid
        rw [List.map_map, List.map_map]
        refine List.map_congr_left fun i _ => ?_
        show ((List.range ((wd - 1) / c + 1)).map fun x => cAt R (x * c) ((0 : Int) + (i : Int) * (d : Int)).toNat).map V.int = _
        rw [show (0 : Int) + (i : Int) * (d : Int) = ((i * d : Nat) : Int) by push_cast; omega, Int.toNat_natCast]
        rfl
      rw [e] at pic2
      exact pic2
theorem sc_widened : FnScope ["picture", "across", "down", "size"] ["picture", "across", "down"] (defScope s_widened) := ⟨rfl, rfl, rfl, by decide +kernel, rfl, by decide +kernel, by decide +kernel⟩
theorem ok_widened {f : Addr} {fd : FuncData} (F : FunD K "widened" "widened" s_widened .none f fd) (T : Txt K mg cFE cBP cBS cOP tS tC) (g_size_of : DefX P w K mg base 8 "size_of" ["picture"] [] (spSize K cBP)) (g_need_steps : DefX P w K mg base 2 "need_steps" ["across", "down"] [] (spSteps K cBS)) (g_need_sides : DefX P w K mg base 4 "need_sides" ["wide", "high"] [] (spNeedS K cBS)) (g_widened_row : Def P w K mg base 1 "widened_row" ["row", "across"] [] spWideRow) : FnOk P w K mg base (CX1 P w) 9 f fd ["picture", "across", "down"] (spWidened K cBP cBS) := by
  refine F.okX sc_widened (fun vs H Q E h => ?_) (fun cdv A outer s H vs Q E hr h => ?_)
  · obtain ⟨v, u1, u2, rfl, _⟩ := h; rfl
  · obtain ⟨v, u1, u2, rfl, h⟩ := h
    refine ⟨_, (pss_cons (ps_set (i := 3) sc_widened.nd rfl (by first | exact Or.inl rfl | exact Or.inr rfl) (pe_callX g_size_of (hr.mono (by decide)) passes1R rfl (pa_cons (pv 0) pa_nil)))
        (pss_cons (ps_expr (pe_callX g_need_steps (hr.mono (by decide)) passes1R rfl (pa_cons (pv 1) (pa_cons (pv 2) pa_nil))))
        (pss_cons (ps_expr (pe_callX g_need_sides (hr.mono (by decide)) passes1R rfl (pa_cons (pe_op op_mul (pe_ix (ixTK K rfl) (pv 3) pe_int (fun _ _ => rfl)) (pv 1)) (pa_cons (pe_op op_mul (pe_ix (ixTK K rfl) (pv 3) pe_int (fun _ _ => rfl)) (pv 2)) pa_nil))))
        (pss_one (ps_ret (pe_comp (N := ["y", "picture", "down", "across"]) (src := [none, some 0, some 2, some 1]) rfl ⟨rfl, rfl, rfl, rfl, rfl, by decide +kernel⟩ (pi_range1 rfl T.range (pa_cons (pe_op op_mul (pe_ix (ixTK K rfl) (pv 3) pe_int (fun _ _ => rfl)) (pv 2)) pa_nil)) (fun s H C fp => pg_name (i := 0) (show (["y", "picture", "down", "across"] : List Str).Nodup by decide +kernel) rfl (by first | exact Or.inl rfl | exact Or.inr rfl)) (fun s H C fp => pts_nil) (fun s H C fp => (pe_callD g_widened_row (hr.mono (by decide)) rfl (pa_cons (pe_ix (ixK K rfl) (pv 1) (pe_op op_fdiv (pv 0) (pv 2)) (fun _ _ => rfl)) (pa_cons (pv 3) pa_nil)))))))))), ?_⟩
    rcases h with ⟨th, hb, kB⟩ | ⟨a, ps, R, wd, rfl, pic, gd, h⟩
    · exact ⟨_, rfl, v, rfl, th, fun z => (by rw [hb] at z; cases z), fun _ => kB⟩
    refine ⟨_, rfl, .ref a, rfl, (th_good pic gd).1, fun _ xs tp H1 hxs s1 htp etp => ?_, fun z => (no_bad pic gd z).elim⟩
    rw [rowOf_lst pic.top] at hxs; cases hxs
    rw [head_good pic gd, lenF pic] at etp
    rcases h with ⟨ku, kv, hw, kS⟩ | ⟨c, d, rfl, rfl, c1, d1, c100, d100, kN, kY⟩
    · exact ⟨_, rfl, _, rfl, u1, u2, rfl, ku.mono s1, kv.mono s1, fun z => (by rw [hw] at z; cases z), fun _ => kS H1 s1⟩
    refine ⟨_, rfl, _, rfl, _, _, rfl, .int _, .int _, fun _ => ?_, fun z => (by rw [wf1 c1, wf1 d1] at z; cases z)⟩
    have pic1 := pic.mono s1
    have h24 := gd.le
    have w24 := gd.w24
    have w1 := gd.w1
    have hn1 := gd.ne
    have eW : (wd : Int) * (c : Int) = ((wd * c : Nat) : Int) := by push_cast; rfl
    have eH : (R.length : Int) * (d : Int) = ((R.length * d : Nat) : Int) := by push_cast; rfl
    have side : ∀ m : Nat, 1 ≤ m → (isWh 1 24 (.int (m : Int)) = true ↔ m ≤ 24) := fun m hm => by
      simp only [isWh, Bool.and_eq_true, decide_eq_true_eq]; omega
    have pW : 1 ≤ wd * c := Nat.mul_pos w1 c1
    have pH : 1 ≤ R.length * d := Nat.mul_pos hn1 d1
    refine ⟨_, rfl, tp, _, _, _, rfl, rfl, SqT.of etp, atI_nat (j := 0) rfl, _, rfl, _, _, rfl, rfl, .inl ⟨by omega, by omega⟩, _, rfl, tp, _, _, _, rfl, rfl, SqT.of etp, atI_nat (j := 1) rfl, _, rfl, _, _, rfl, rfl, .inl ⟨by omega, by omega⟩, .int ((wd * c : Nat) : Int), .int ((R.length * d : Nat) : Int), (by show [V.int ((wd : Int) * (c : Int)), V.int ((R.length : Int) * (d : Int))] = _; rw [eW, eH]), .int _, .int _, fun z => ?_, fun z => kN (fun g => by rw [(side _ pW).mpr g.1, (side _ pH).mpr g.2] at z; cases z) H1 s1⟩
    rw [Bool.and_eq_true, side _ pW, side _ pH] at z
    obtain ⟨g1, g2⟩ := z
    have d24 : d ≤ 24 := Nat.le_trans (Nat.le_mul_of_pos_left d hn1) g2
    refine ⟨_, rfl, tp, _, _, _, rfl, rfl, SqT.of etp, atI_nat (j := 1) rfl, _, rfl, _, _, rfl, rfl, .inl ⟨by omega, by omega⟩, ((R.length * d : Nat) : Int), (by show [V.int ((R.length : Int) * (d : Int))] = _; rw [eH]), by omega, by omega, fun D hD => ?_⟩
    rw [Int.toNat_natCast]
    refine comp_rows (k := 0) (fun v => match v with | .int y => ((List.range (wd * c)).map fun x => cAt R (x / c) (y.toNat / d)).map V.int | _ => []) src_range (by simp; exact Nat.le_trans g2 (by decide)) hD (fun z hz H' Q' sm kk => ?_) fun qs H2 s2 fr pic2 => ?_
    · obtain ⟨i, hi, rfl⟩ := List.mem_map.mp hz
      have hi' : i / d < R.length := Nat.div_lt_of_lt_mul (by rw [Nat.mul_comm]; exact List.mem_range.mp hi)
      have ei : ((0 : Int) + (i : Int)) / (d : Int) = ((i / d : Nat) : Int) := by rw [Int.zero_add]; push_cast; rfl
      have pic' := pic1.mono sm
      obtain ⟨q, e1, e2, lr⟩ := row_getD pic' gd hi'
      refine ⟨_, rfl, _, rfl, _, rfl, _, _, rfl, rfl, ⟨by omega, by omega⟩, a, _, _, _, rfl, rfl, SqL.of pic'.top, (by show atI _ (((0 : Int) + (i : Int)) / (d : Int)) = _; rw [ei]; exact atI_nat e1), _, rfl, q, R[i / d], c, rfl, e2, by rw [lr]; exact w1, by rw [lr]; exact g1, c1, fun p3 H3 s3 hp3 e3 => kk p3 H3 s3 hp3 ?_⟩
      rw [e3, lr]
      show _ = some (HO.lst (((List.range (wd * c)).map fun x => cAt R (x / c) (((0 : Int) + (i : Int)).toNat / d)).map V.int))
      rw [show ((0 : Int) + (i : Int)).toNat = i by omega]
      congr 3
      refine List.map_congr_left fun x _ => ?_
      unfold cAt
      rw [getD_row hi']
    · refine ((kY g1 g2).same s1) D qs H2 s2 hD fr ?_
      have e : ((List.range (R.length * d)).map fun (i : Nat) => V.int ((0 : Int) + (i : Int))).map (fun v => match v with | .int y => ((List.range (wd * c)).map fun x => cAt R (x / c) (y.toNat / d)).map V.int | _ => []) = ir (wideF R wd c d) := by
        unfold ir wideF grid
        rw [List.map_map, List.map_map]
        refine List.map_congr_left fun i _ => ?_
        show ((List.range (wd * c)).map fun x => cAt R (x / c) (((0 : Int) + (i : Int)).toNat / d)).map V.int = _
        rw [show ((0 : Int) + (i : Int)).toNat = i by omega]
        rfl
      rw [e] at pic2
      exact pic2
end
end K9
set_option Elab.async false
set_option linter.all false
set_option maxRecDepth 100000
set_option maxHeartbeats 1600000
namespace K9
open PySem L2 M4
def small (v : V) : Prop := ∀ i, v = .int i → i < 2 ^ 100
def spStep (K : PySem.W.Frag) : Sp := fun vs H Q _ => ∃ c : Int, vs = [.int c] ∧ ∀ v H', Same H H' → Kd K H' v → small v → Q v H'
def spPart (K : PySem.W.Frag) : Sp := fun vs H Q _ => ∃ (a : Addr) (ns : List Int) (w h : Nat), vs = [.ref a, .int (w : Int), .int (h : Int)] ∧ SqL K H a (ns.map V.int) ∧ 1 ≤ w ∧ w ≤ 24 ∧ 1 ≤ h ∧ h ≤ 24 ∧
  ∀ l x0 x1 x2 x3 H', Same H H' → H l = none → H' l = some (.lst [x0, x1, x2, x3]) → Kd K H' x0 → Kd K H' x1 → Kd K H' x2 → Kd K H' x3 → Q (.ref l) H'
def spCutL (K : PySem.W.Frag) : Sp := fun vs H Q _ => ∃ (a l : Addr) (ps : List Addr) (R : List (List Int)) (w : Nat) (x0 x1 x2 x3 : V), vs = [.ref a, .ref l] ∧ PicV H a ps (ir R) ∧ Good R w ∧ H l = some (.lst [x0, x1, x2, x3]) ∧ Kd K H x0 ∧ Kd K H x1 ∧ Kd K H x2 ∧ Kd K H x3 ∧
  ((lies w x0 x2 && lies R.length x1 x3) = false → ∀ H', Same H H' → Q .non H') ∧
  (∀ l t wd hg : Nat, x0 = .int (l : Int) → x1 = .int (t : Int) → x2 = .int (wd : Int) → x3 = .int (hg : Int) → 1 ≤ wd → 1 ≤ hg → l + wd ≤ w → t + hg ≤ R.length → NewP H Q (cutF R l t wd hg))
def spThin (K : PySem.W.Frag) : Sp := fun vs H Q _ => ∃ (a : Addr) (ps : List Addr) (R : List (List Int)) (w c d : Nat), vs = [.ref a, .int (c : Int), .int (d : Int)] ∧ PicV H a ps (ir R) ∧ Good R w ∧ 1 ≤ c ∧ 1 ≤ d ∧ NewP H Q (thinF R w c d)
theorem mults {d : Nat} (hd : 1 ≤ d) : ∀ n, 1 ≤ n → (List.range n).filter (fun i => decide (i % d = 0)) = (List.range ((n - 1) / d + 1)).map fun i => i * d := by
  intro n hn
  induction n with
  | zero => omega
  | succ n ih =>
    by_cases h0 : n = 0
    · subst h0
      have : (1 - 1) / d + 1 = 1 := by simp
      rw [show 0 + 1 - 1 = 0 from rfl, Nat.zero_div]
      simp [List.range_succ]
    · rw [List.range_succ, List.filter_append, ih (by omega)]
      have hdm := Nat.div_add_mod (n - 1) d
      have hml := Nat.mod_lt (n - 1) (show d > 0 by omega)
      by_cases hm : n % d = 0
      · obtain ⟨k, hk⟩ := Nat.dvd_of_mod_eq_zero hm
        have hk0 : 1 ≤ k := by
          rcases Nat.eq_zero_or_pos k with z | z
          · subst z; omega
          · exact z
        have e1 : (n - 1) / d + 1 = k := by
          obtain ⟨j, rfl⟩ : ∃ j, k = j + 1 := ⟨k - 1, by omega⟩
          have : n - 1 = d * j + (d - 1) := by rw [hk, Nat.mul_add, Nat.mul_one]; omega
          rw [this, Nat.mul_add_div (by omega), Nat.div_eq_of_lt (by omega)]
        have e2 : (n + 1 - 1) / d + 1 = k + 1 := by rw [Nat.add_sub_cancel, hk, Nat.mul_div_cancel_left _ (by omega)]
        rw [e1, e2, List.range_succ, List.map_append]
        congr 1
        simp only [List.filter_cons, List.filter_nil, hm, decide_true, if_true, List.map_cons, List.map_nil]
        rw [hk, Nat.mul_comm]
      · have e2 : (n + 1 - 1) / d = (n - 1) / d := by
          rw [Nat.add_sub_cancel]
          obtain ⟨m, rfl⟩ : ∃ m, n = m + 1 := ⟨n - 1, by omega⟩
          rw [Nat.add_sub_cancel]
          exact Nat.succ_div_of_mod_ne_zero hm
        rw [e2]
        simp [hm]
section
variable {P : Program} {w : World} {K : PySem.W.Frag} {mg : Str → Option Value} {base : Heap} {cFE cBP cBS cOP : Addr} {tS tC : Tok}
theorem sc_law_step : FnScope ["_law_cell"] ["_law_cell"] (defScope s_law_step) := ⟨rfl, rfl, rfl, by decide +kernel, rfl, by decide +kernel, by decide +kernel⟩
theorem ok_law_step {f : Addr} {fd : FuncData} (F : FunD K "_law_step" "_law_step" s_law_step .none f fd) : FnOk P w K mg base CX0 1 f fd ["_law_cell"] (spStep K) := by
  refine F.ok sc_law_step (fun vs H Q E h => ?_) (fun cdv A outer s H vs Q E hr h => ?_)
  · obtain ⟨c, rfl, _⟩ := h; rfl
  · obtain ⟨c, rfl, k⟩ := h
    refine ⟨_, (pss_cons (ps_if (pt_cmpR op_eq (pe_op op_mod (pv 0) pe_int) pe_int (nomark _)) (pss_one (ps_ret (pe_ix (ixK K rfl) (pe_lst (pa_cons pe_int (pa_cons (pe_un un_neg pe_int) (pa_cons pe_bl (pa_cons pe_non (pa_cons pe_str (pa_cons (pe_lst (pa_cons pe_int pa_nil)) (pa_cons (pe_op op_sub (pe_un un_neg pe_int) (pe_op op_mod (pe_op op_fdiv (pv 0) pe_int) (pe_op op_pow pe_int pe_int))) pa_nil)))))))) (pe_op op_mod (pe_op op_fdiv (pv 0) pe_int) pe_int) (fun _ _ => rfl)))) pss_nil)
        (pss_one (ps_ret (pe_ix (ixK K rfl) (pe_lst (pa_cons (pe_op op_add pe_int (pe_op op_mod (pe_op op_fdiv (pv 0) pe_int) pe_int)) (pa_cons (pe_op op_add pe_int (pe_op op_mod (pe_op op_fdiv (pv 0) pe_int) pe_int)) (pa_cons (pe_op op_add pe_int (pe_op op_mod (pe_op op_fdiv (pv 0) pe_int) pe_int)) (pa_cons (pe_op op_add pe_int (pe_op op_mod (pe_op op_fdiv (pv 0) pe_int) (pe_op op_pow pe_int pe_int))) pa_nil))))) (pe_op op_mod (pv 0) pe_int) (fun _ _ => rfl))))), ?_⟩
    refine ⟨_, rfl, _, _, rfl, rfl, (by show (0 : Int) < 8; decide), rfl, _, rfl, ite2 (fun _ => ?_) (fun hn => ?_)⟩
    · have f0 := Int.emod_nonneg (c / 56) (show (10 ^ 20 : Int) ≠ 0 by decide)
      refine ⟨_, rfl, (by show 1 ≤ sizeLine; decide), fun z hz => ⟨_, rfl, _, rfl, _, _, rfl, rfl, ⟨by decide, by decide⟩, _, _, rfl, rfl, ⟨by decide, by decide, by decide⟩, _, _, rfl, rfl, (by show (0 : Int) < 10 ^ 20; decide), _, _, rfl, rfl, (by show 7 ≤ sizeLine; decide), fun o ho => ?_⟩⟩
      obtain ⟨v, hv, hvm⟩ : ∃ v, atI [V.int 0, .int (-1), .bl true, .non, .str "2", .ref z, .int (-1 - c / 56 % 10 ^ 20)] (c / 8 % 7) = some v ∧ v ∈ [V.int 0, .int (-1), .bl true, .non, .str "2", .ref z, .int (-1 - c / 56 % 10 ^ 20)] := atI_mem (Int.emod_nonneg _ (by decide)) (Int.emod_lt_of_pos _ (by decide))
      refine ⟨_, rfl, _, _, rfl, rfl, ⟨by decide, by decide⟩, _, _, rfl, rfl, (by show (0 : Int) < 7; decide), o, _, _, v, rfl, rfl, SqL.of upd_same, hv, ?_⟩
      simp only [List.mem_cons, List.not_mem_nil, or_false] at hvm
      have ss := (same_new (o := HO.lst [V.int 1]) hz).trans (same_new (o := HO.lst [V.int 0, .int (-1), .bl true, .non, .str "2", .ref z, .int (-1 - c / 56 % 10 ^ 20)]) ho)
      rcases hvm with rfl | rfl | rfl | rfl | rfl | rfl | rfl
      · exact k _ _ ss (.int _) fun i e => by cases e; decide
      · exact k _ _ ss (.int _) fun i e => by cases e; decide
      · exact k _ _ ss (.bl _) fun i e => by cases e
      · exact k _ _ ss .non fun i e => by cases e
      · exact k _ _ ss (.str _) fun i e => by cases e
      · exact k _ _ ss (.lst (same_new ho _ _ upd_same)) fun i e => by cases e
      · exact k _ _ ss (.int _) fun i e => by cases e; omega
    · have f0 := Int.emod_nonneg (c / 8) (show (9 : Int) ≠ 0 by decide)
      have f1 := Int.emod_lt_of_pos (c / 8) (show (0 : Int) < 9 by decide)
      have f2 := Int.emod_lt_of_pos (c / 8) (show (0 : Int) < 3 by decide)
      have f3 := Int.emod_lt_of_pos (c / 8) (show (0 : Int) < 10 ^ 20 by decide)
      have big : (10 : Int) ^ 20 = 100000000000000000000 := by decide
      refine ⟨_, rfl, _, _, rfl, rfl, ⟨by decide, by decide⟩, _, _, rfl, rfl, (by show (0 : Int) < 9; decide), _, _, rfl, rfl, _, rfl, _, _, rfl, rfl, ⟨by decide, by decide⟩, _, _, rfl, rfl, (by show (0 : Int) < 3; decide), _, _, rfl, rfl, _, rfl, _, _, rfl, rfl, ⟨by decide, by decide⟩, _, _, rfl, rfl, (by show (0 : Int) < 3; decide), _, _, rfl, rfl, _, rfl, _, _, rfl, rfl, ⟨by decide, by decide⟩, _, _, rfl, rfl, ⟨by decide, by decide, by decide⟩, _, _, rfl, rfl, (by show (0 : Int) < 10 ^ 20; decide), _, _, rfl, rfl, (by show 4 ≤ sizeLine; decide), fun o ho => ?_⟩
      obtain ⟨v, hv, hvm⟩ : ∃ v, atI [V.int (1 + c / 8 % 9), .int (1 + c / 8 % 3), .int (1 + c / 8 % 3), .int (24 + c / 8 % 10 ^ 20)] (c % 4) = some v ∧ v ∈ [V.int (1 + c / 8 % 9), .int (1 + c / 8 % 3), .int (1 + c / 8 % 3), .int (24 + c / 8 % 10 ^ 20)] := atI_mem (Int.emod_nonneg _ (by decide)) (Int.emod_lt_of_pos _ (by decide))
      refine ⟨_, rfl, _, _, rfl, rfl, (by show (0 : Int) < 4; decide), o, _, _, v, rfl, rfl, SqL.of upd_same, hv, ?_⟩
      simp only [List.mem_cons, List.not_mem_nil, or_false] at hvm
      rcases hvm with rfl | rfl | rfl | rfl
      · exact k _ _ (same_new ho) (.int _) fun i e => by cases e; omega
      · exact k _ _ (same_new ho) (.int _) fun i e => by cases e; omega
      · exact k _ _ (same_new ho) (.int _) fun i e => by cases e; omega
      · exact k _ _ (same_new ho) (.int _) fun i e => by cases e; omega
theorem sc_law_part : FnScope ["_law_script", "_law_wide", "_law_high", "_law_cell", "_law_left", "_law_top", "_law_more", "_law_part_here", "_law_bent", "_law_at", "_law_far", "_law_odd"] ["_law_script", "_law_wide", "_law_high"] (defScope s_law_part) := ⟨rfl, rfl, rfl, by decide +kernel, rfl, by decide +kernel, by decide +kernel⟩
theorem ok_law_part {f : Addr} {fd : FuncData} (F : FunD K "_law_part" "_law_part" s_law_part .none f fd) (g__law_cell_at : Def P w K mg base 2 "_law_cell_at" ["_law_script", "_law_k"] [] (spCell K)) : FnOk P w K mg base CX0 3 f fd ["_law_script", "_law_wide", "_law_high"] (spPart K) := by
  refine F.ok sc_law_part (fun vs H Q E h => ?_) (fun cdv A outer s H vs Q E hr h => ?_)
  · obtain ⟨a, ns, wd, hg, rfl, _⟩ := h; rfl
  · obtain ⟨a, ns, wd, hg, rfl, hS, w1, w24, g1, g24, k⟩ := h
    refine ⟨_, (pss_cons (ps_set (i := 3) sc_law_part.nd rfl (by first | exact Or.inl rfl | exact Or.inr rfl) (pe_callD g__law_cell_at (hr.mono (by decide)) rfl (pa_cons (pv 0) (pa_cons pe_int pa_nil))))
        (pss_cons (ps_set (i := 4) sc_law_part.nd rfl (by first | exact Or.inl rfl | exact Or.inr rfl) (pe_op op_mod (pv 3) (pv 1)))
        (pss_cons (ps_set (i := 5) sc_law_part.nd rfl (by first | exact Or.inl rfl | exact Or.inr rfl) (pe_op op_mod (pe_op op_fdiv (pv 3) (pv 1)) (pv 2)))
        (pss_cons (ps_set (i := 6) sc_law_part.nd rfl (by first | exact Or.inl rfl | exact Or.inr rfl) (pe_callD g__law_cell_at (hr.mono (by decide)) rfl (pa_cons (pv 0) (pa_cons pe_int pa_nil))))
        (pss_cons (ps_set (i := 7) sc_law_part.nd rfl (by first | exact Or.inl rfl | exact Or.inr rfl) (pe_lst (pa_cons (pv 4) (pa_cons (pv 5) (pa_cons (pe_op op_add pe_int (pe_op op_mod (pv 6) (pe_op op_sub (pv 1) (pv 4)))) (pa_cons (pe_op op_add pe_int (pe_op op_mod (pe_op op_fdiv (pv 6) pe_int) (pe_op op_sub (pv 2) (pv 5)))) pa_nil))))))
        (pss_cons (ps_set (i := 8) sc_law_part.nd rfl (by first | exact Or.inl rfl | exact Or.inr rfl) (pe_callD g__law_cell_at (hr.mono (by decide)) rfl (pa_cons (pv 0) (pa_cons pe_int pa_nil))))
        (pss_cons (ps_if (pt_cmpR op_eq (pe_op op_mod (pv 8) pe_int) pe_int (nomark _)) (pss_cons (ps_set (i := 9) sc_law_part.nd rfl (by first | exact Or.inl rfl | exact Or.inr rfl) (pe_op op_mod (pe_op op_fdiv (pv 8) pe_int) pe_int))
        (pss_cons (ps_set (i := 10) sc_law_part.nd rfl (by first | exact Or.inl rfl | exact Or.inr rfl) (pe_op op_mod (pe_op op_fdiv (pv 8) pe_int) (pe_op op_pow pe_int pe_int)))
        (pss_cons (ps_set (i := 11) sc_law_part.nd rfl (by first | exact Or.inl rfl | exact Or.inr rfl) (pe_lst (pa_cons (pe_un un_neg pe_int) (pa_cons (pe_ix (ixK K rfl) (pe_lst (pa_cons (pv 1) (pa_cons (pv 2) (pa_cons (pe_op op_add (pe_op op_sub (pv 1) (pv 4)) pe_int) (pa_cons (pe_op op_add (pe_op op_sub (pv 2) (pv 5)) pe_int) pa_nil))))) (pv 9) (fun _ _ => rfl)) (pa_cons (pe_op op_sub pe_int (pe_op op_mulB pe_int (pe_cmpR op_lt (pv 9) pe_int (nomark _)))) (pa_cons (pe_op op_add pe_int (pv 10)) (pa_cons pe_bl (pa_cons pe_non (pa_cons pe_str (pa_cons (pe_lst (pa_cons pe_int pa_nil)) pa_nil))))))))))
        (pss_one (ps_asg (pe_ix (ixK K rfl) (pv 11) (pe_op op_mod (pe_op op_fdiv (pv 8) pe_int) pe_int) (fun _ _ => rfl)) (pg_sub (pv 7) (pv 9) set_list)))))) pss_nil)
        (pss_one (ps_ret (pv 7)))))))))), ?_⟩
    refine ⟨_, rfl, a, ns, 3, rfl, hS, ?_⟩
    generalize ns.getD 3 0 = ce
    have l0 := Int.emod_nonneg ce (show (wd : Int) ≠ 0 by omega)
    have l1 := Int.emod_lt_of_pos ce (show (0 : Int) < (wd : Int) by omega)
    have t0 := Int.emod_nonneg (ce / (wd : Int)) (show (hg : Int) ≠ 0 by omega)
    have t1 := Int.emod_lt_of_pos (ce / (wd : Int)) (show (0 : Int) < (hg : Int) by omega)
    refine ⟨_, rfl, _, rfl, _, _, rfl, rfl, (by show (0 : Int) < (wd : Int); omega), ?_⟩
    refine ⟨_, rfl, _, rfl, _, _, rfl, rfl, ⟨by omega, by omega⟩, _, rfl, _, _, rfl, rfl, (by show (0 : Int) < (hg : Int); omega), ?_⟩
    refine ⟨_, rfl, a, ns, 4, rfl, hS, ?_⟩
    generalize ns.getD 4 0 = mo
    refine ⟨_, rfl, _, rfl, _, rfl, _, rfl, _, rfl, _, _, rfl, rfl, _, _, rfl, rfl, (by show (0 : Int) < (wd : Int) - ce % (wd : Int); omega), _, _, rfl, rfl, _, rfl, _, _, rfl, rfl, ⟨by decide, by decide⟩, _, rfl, _, rfl, _, _, rfl, rfl, _, _, rfl, rfl, (by show (0 : Int) < (hg : Int) - ce / (wd : Int) % (hg : Int); omega), _, _, rfl, rfl, (by show 4 ≤ sizeLine; decide), fun L hL => ?_⟩
    have zL := same_new (o := HO.lst [V.int (ce % (wd : Int)), .int (ce / (wd : Int) % (hg : Int)), .int (1 + mo % ((wd : Int) - ce % (wd : Int))), .int (1 + mo / 24 % ((hg : Int) - ce / (wd : Int) % (hg : Int)))]) hL
    refine ⟨_, rfl, a, ns, 5, rfl, zL.seq hS, ?_⟩
    generalize ns.getD 5 0 = be
    refine ⟨_, rfl, _, _, rfl, rfl, (by show (0 : Int) < 3; decide), rfl, _, rfl, ite2 (fun _ => ?_) (fun _ => ?_)⟩
    rotate_left
    · exact ⟨_, rfl, k L _ _ _ _ _ zL hL upd_same (.int _) (.int _) (.int _) (.int _)⟩
    have eL := upd_same (H := H) (a := L) (o := HO.lst [V.int (ce % (wd : Int)), .int (ce / (wd : Int) % (hg : Int)), .int (1 + mo % ((wd : Int) - ce % (wd : Int))), .int (1 + mo / 24 % ((hg : Int) - ce / (wd : Int) % (hg : Int)))])
    generalize upd H L (.lst [V.int (ce % (wd : Int)), .int (ce / (wd : Int) % (hg : Int)), .int (1 + mo % ((wd : Int) - ce % (wd : Int))), .int (1 + mo / 24 % ((hg : Int) - ce / (wd : Int) % (hg : Int)))]) = H1 at zL eL ⊢
    generalize ey0 : V.int (ce % (wd : Int)) = y0 at eL
    generalize ey1 : V.int (ce / (wd : Int) % (hg : Int)) = y1 at eL
    generalize ey2 : V.int (1 + mo % ((wd : Int) - ce % (wd : Int))) = y2 at eL
    generalize ey3 : V.int (1 + mo / 24 % ((hg : Int) - ce / (wd : Int) % (hg : Int))) = y3 at eL
    have k0 : ∀ H, Kd K H y0 := fun H => by rw [← ey0]; exact .int _
    have k1 : ∀ H, Kd K H y1 := fun H => by rw [← ey1]; exact .int _
    have k2 : ∀ H, Kd K H y2 := fun H => by rw [← ey2]; exact .int _
    have k3 : ∀ H, Kd K H y3 := fun H => by rw [← ey3]; exact .int _
    clear ey0 ey1 ey2 ey3
    have b0 := Int.emod_nonneg (be / 3) (show (4 : Int) ≠ 0 by decide)
    have b1 := Int.emod_lt_of_pos (be / 3) (show (0 : Int) < 4 by decide)
    refine ⟨_, rfl, _, _, rfl, rfl, ⟨by decide, by decide⟩, _, _, rfl, rfl, (by show (0 : Int) < 4; decide), ?_⟩
    obtain ⟨j, ej, hj⟩ : ∃ j : Nat, be / 3 % 4 = (j : Int) ∧ j < 4 := ⟨(be / 3 % 4).toNat, by omega, by omega⟩
    show gName 9 (.int (be / 3 % 4)) _ _ _
    rw [ej]
    refine ⟨_, rfl, _, _, rfl, rfl, ⟨by decide, by decide⟩, _, _, rfl, rfl, ⟨by decide, by decide, by decide⟩, _, _, rfl, rfl, (by show (0 : Int) < 10 ^ 20; decide), ?_⟩
    refine ⟨_, rfl, _, rfl, _, rfl, _, rfl, _, rfl, _, _, rfl, rfl, _, _, rfl, rfl, _, rfl, _, rfl, _, _, rfl, rfl, _, _, rfl, rfl, (by show 4 ≤ sizeLine; decide), fun i hi => ?_⟩
    obtain ⟨v1, hv1, hvm1⟩ : ∃ v, atI [V.int (wd : Int), .int (hg : Int), .int ((wd : Int) - ce % (wd : Int) + 1), .int ((hg : Int) - ce / (wd : Int) % (hg : Int) + 1)] (j : Int) = some v ∧ v ∈ [V.int (wd : Int), .int (hg : Int), .int ((wd : Int) - ce % (wd : Int) + 1), .int ((hg : Int) - ce / (wd : Int) % (hg : Int) + 1)] := atI_mem (by omega) (by show (j : Int) < 4; omega)
    have kv1 : ∀ H, Kd K H v1 := fun H => by
      simp only [List.mem_cons, List.not_mem_nil, or_false] at hvm1
      rcases hvm1 with rfl | rfl | rfl | rfl <;> exact .int _
    refine ⟨_, rfl, i, _, _, v1, rfl, rfl, SqL.of upd_same, hv1, _, rfl, _, _, rfl, rfl, _, _, rfl, rfl, _, _, rfl, rfl, _, rfl, _, _, rfl, rfl, (by show 1 ≤ sizeLine; decide), fun z hz => ⟨(by show 8 ≤ sizeLine; decide), fun o ho => ?_⟩⟩
    refine ⟨_, rfl, _, rfl, _, _, rfl, rfl, ⟨by decide, by decide⟩, _, _, rfl, rfl, (by show (0 : Int) < 8; decide), ?_⟩
    obtain ⟨v8, hv8, hvm8⟩ := atI_mem (xs := [V.int (-1), v1, .int (0 - 2 * if decide ((j : Int) < 2) = true then (1 : Int) else 0), .int (25 + be / 96 % 10 ^ 20), .bl true, .non, .str "1", .ref z]) (i := be / 12 % 8) (Int.emod_nonneg _ (by decide)) (Int.emod_lt_of_pos _ (by decide))
    refine ⟨o, _, _, v8, rfl, rfl, SqL.of upd_same, hv8, ?_⟩
    have n1 := same_new (o := HO.lst [V.int (wd : Int), .int (hg : Int), .int ((wd : Int) - ce % (wd : Int) + 1), .int ((hg : Int) - ce / (wd : Int) % (hg : Int) + 1)]) hi
    have n2 := same_new (o := HO.lst [V.int 1]) hz
    have n3 := same_new (o := HO.lst [V.int (-1), v1, .int (0 - 2 * if decide ((j : Int) < 2) = true then (1 : Int) else 0), .int (25 + be / 96 % 10 ^ 20), .bl true, .non, .str "1", .ref z]) ho
    have ez := n3 _ _ (upd_same (o := HO.lst [V.int 1]) (a := z))
    have s14 := n1.trans (n2.trans n3)
    have eL4 := s14 _ _ eL
    have kv8 : ∀ {Hx : Hp}, Hx z = some (.lst [V.int 1]) → Kd K Hx v8 := fun {Hx} e => by
      simp only [List.mem_cons, List.not_mem_nil, or_false] at hvm8
      rcases hvm8 with rfl | rfl | rfl | rfl | rfl | rfl | rfl | rfl
      · exact .int _
      · exact kv1 _
      · exact .int _
      · exact .int _
      · exact .bl _
      · exact .non
      · exact .str _
      · exact .lst e
    have nz : z ≠ L := fun e => by
      rw [e] at hz
      rw [n1 _ _ eL] at hz; cases hz
    refine ⟨_, rfl, _, rfl, L, _, _, j, rfl, rfl, eL4, ixN_nat hj, _, rfl, ?_⟩
    have fin := fun x0 x1 x2 x3 (e : [y0, y1, y2, y3].set j v8 = [x0, x1, x2, x3]) a1 a2 a3 a4 => k L x0 x1 x2 x3 _ (same_upd (o := HO.lst ([y0, y1, y2, y3].set j v8)) (zL.trans s14) hL) hL (by rw [upd_same, e]) a1 a2 a3 a4
    have kz : ∀ {xs : List V}, Kd K (upd (upd (upd (upd H1 i (.lst [V.int (wd : Int), .int (hg : Int), .int ((wd : Int) - ce % (wd : Int) + 1), .int ((hg : Int) - ce / (wd : Int) % (hg : Int) + 1)])) z (.lst [V.int 1])) o (.lst [V.int (-1), v1, .int (0 - 2 * if decide ((j : Int) < 2) = true then (1 : Int) else 0), .int (25 + be / 96 % 10 ^ 20), .bl true, .non, .str "1", .ref z])) L (.lst xs)) v8 := fun {xs} => kv8 (by rw [upd_ne nz]; exact ez)
    match j, hj with
    | 0, _ => exact fin v8 y1 y2 y3 rfl kz (k1 _) (k2 _) (k3 _)
    | 1, _ => exact fin y0 v8 y2 y3 rfl (k0 _) kz (k2 _) (k3 _)
    | 2, _ => exact fin y0 y1 v8 y3 rfl (k0 _) (k1 _) kz (k3 _)
    | 3, _ => exact fin y0 y1 y2 v8 rfl (k0 _) (k1 _) (k2 _) kz
end
end K9
set_option Elab.async false
set_option linter.all false
set_option maxRecDepth 100000
set_option maxHeartbeats 1600000
namespace K9
open PySem L2 M4
theorem empty_any {α : Type} (l : List α) (g : α → Bool) (f : α → V) : ((l.filter g).map f).isEmpty = !(l.any g) := by
  induction l with
  | nil => rfl
  | cons a r ih =>
    rw [List.filter_cons, List.any_cons]
    cases g a with
    | true => rfl
    | false => exact ih
theorem isN_int {v : V} (h : isN v = true) : ∃ i, v = .int i := by
  cases v with
  | int i => exact ⟨i, rfl⟩
  | _ => cases h
def rowT (R : List (List Int)) (w c y : Nat) : List Int := ((List.range w).filter fun x => decide (x % c = 0)).map fun x => cAt R x y
theorem rowT_eq {R : List (List Int)} {w c y : Nat} (hw : 1 ≤ w) (hc : 1 ≤ c) : rowT R w c y = (List.range ((w - 1) / c + 1)).map fun x => cAt R (x * c) y := by
  unfold rowT
  rw [mults hc w hw, List.map_map]; rfl
theorem thin_eq {R : List (List Int)} {w c d : Nat} (hw : 1 ≤ w) (hh : 1 ≤ R.length) (hc : 1 ≤ c) (hd : 1 ≤ d) : ((List.range R.length).filter fun y => decide (y % d = 0)).map (rowT R w c) = thinF R w c d := by
  rw [mults hd R.length hh, List.map_map]
  unfold thinF grid
  refine List.map_congr_left fun y _ => ?_
  show rowT R w c (y * d) = _
  rw [rowT_eq hw hc]
theorem filter_rngT (w c : Nat) (g : V → Bool) (f : V → V) (F : Nat → Int) (h : ∀ i : Nat, g (.int (0 + (i : Int))) = decide (i % c = 0)) (hf : ∀ i : Nat, f (.int (0 + (i : Int))) = .int (F i)) : (((List.range w).map fun (i : Nat) => V.int (0 + (i : Int))).filter g).map f = (((List.range w).filter fun x => decide (x % c = 0)).map F).map V.int := by
  have e : ∀ l : List Nat, ((l.map fun (i : Nat) => V.int (0 + (i : Int))).filter g).map f = ((l.filter fun x => decide (x % c = 0)).map F).map V.int := by
    intro l
    induction l with
    | nil => rfl
    | cons a r ih =>
      rw [List.map_cons, List.filter_cons, List.filter_cons, h a]
      cases hd : decide (a % c = 0) with
      | true =>
        rw [if_pos rfl, if_pos rfl, List.map_cons, List.map_cons, List.map_cons, ih, hf a]
      | false => exact ih
  exact e _
theorem mod_nat {i c : Nat} : (decide (V.int (((0 : Int) + (i : Int)) % (c : Int)) = V.int 0)) = decide (i % c = 0) := by
  rw [Int.zero_add]
  have e : (i : Int) % (c : Int) = ((i % c : Nat) : Int) := by push_cast; rfl
  rw [e, Bool.eq_iff_iff, decide_eq_true_eq, decide_eq_true_eq]
  constructor
  · intro z; injection z with z; omega
  · intro z; rw [z]; rfl
section
variable {P : Program} {w : World} {K : PySem.W.Frag} {mg : Str → Option Value} {base : Heap} {cFE cBP cBS cOP : Addr} {tS tC : Tok}
theorem sc_law_thin : FnScope ["_law_picture_here", "_law_across", "_law_down", "_law_found", "_law_y"] ["_law_picture_here", "_law_across", "_law_down"] (defScope s_law_thin) := ⟨rfl, rfl, rfl, by decide +kernel, rfl, by decide +kernel, by decide +kernel⟩
theorem ok_law_thin {f : Addr} {fd : FuncData} (F : FunD K "_law_thin" "_law_thin" s_law_thin .none f fd) (T : Txt K mg cFE cBP cBS cOP tS tC) : FnOk P w K mg base CX0 1 f fd ["_law_picture_here", "_law_across", "_law_down"] (spThin K) := by
  refine F.ok sc_law_thin (fun vs H Q E h => ?_) (fun cdv A outer s H vs Q E hr h => ?_)
  · obtain ⟨a, ps, R, wd, c, d, rfl, _⟩ := h; rfl
  · obtain ⟨a, ps, R, wd, c, d, rfl, pic, gd, c1, d1, kY⟩ := h
    refine ⟨_, (pss_cons (ps_set (i := 3) sc_law_thin.nd rfl (by first | exact Or.inl rfl | exact Or.inr rfl) (pe_lst pa_nil))
        (pss_cons (ps_for PassesOwn.never rfl (pi_range1 rfl T.range (pa_cons (pe_callB (lenK K rfl) rfl T.len PySem.boot_len (pa_cons (pv 0) pa_nil)) pa_nil)) (pg_name (i := 4) sc_law_thin.nd rfl (by first | exact Or.inl rfl | exact Or.inr rfl)) (pss_one (ps_if (pt_cmpR op_eq (pe_op op_mod (pv 4) (pv 2)) pe_int (nomark _)) (pss_one (ps_expr (pe_bm PySem.F.plainAttrs_list PySem.F.slot_list_append PySem.F.type_list_append mt_append (pv 3) (pa_cons (pe_comp (N := ["_law_x", "_law_across", "_law_picture_here", "_law_y"]) (src := [none, some 1, some 0, some 4]) rfl ⟨rfl, rfl, rfl, rfl, rfl, by decide +kernel⟩ (pi_range1 rfl T.range (pa_cons (pe_callB (lenK K rfl) rfl T.len PySem.boot_len (pa_cons (pe_ix (ixK K rfl) (pv 0) pe_int (fun _ _ => rfl)) pa_nil)) pa_nil)) (fun s H C fp => pg_name (i := 0) (show (["_law_x", "_law_across", "_law_picture_here", "_law_y"] : List Str).Nodup by decide +kernel) rfl (by first | exact Or.inl rfl | exact Or.inr rfl)) (fun s H C fp => (pts_one (pt_cmpR op_eq (pe_op op_mod (pv 0) (pv 1)) pe_int (nomark _)))) (fun s H C fp => (pe_ix (ixK K rfl) (pe_ix (ixK K rfl) (pv 2) (pv 3) (fun _ _ => rfl)) (pv 0) (fun _ _ => rfl)))) pa_nil)))) pss_nil)))
        (pss_one (ps_ret (pv 3))))), ?_⟩
    have h24 := gd.le
    have w24 := gd.w24
    refine ⟨Nat.zero_le _, fun S hS => ?_⟩
    have z1 := same_new (o := HO.lst []) hS
    have eS := upd_same (H := H) (a := S) (o := HO.lst [])
    refine ⟨_, rfl, a, _, rfl, .inl (SqL.of (z1 _ _ pic.top)), ?_⟩
    rw [lenF pic]
    refine ⟨_, rfl, by omega, by omega, ?_⟩
    refine for_range (n := R.length) (fun y σ H2 => Same H H2 ∧ ∃ (rs : List Addr) (v4 : Option V), Fresh H rs ∧ PicV H2 S rs (ir (((List.range y).filter fun y => decide (y % d = 0)).map (rowT R wd c))) ∧ σ = [some (.ref a), some (.int (c : Int)), some (.int (d : Int)), some (.ref S), v4]) ⟨z1, [], none, (fun q h => nomatch h), ⟨by rw [eS]; rfl, .nil, List.nodup_nil, by simp⟩, rfl⟩ ?_ ?_
    · rintro y σ H2 hy ⟨s2, rs, v4, fr, picS, rfl⟩
      have pic2 := pic.mono s2
      refine ⟨_, rfl, _, rfl, _, _, rfl, rfl, (by show (0 : Int) < (d : Int); omega), rfl, _, rfl, ?_⟩
      show if (decide (V.int (((0 : Int) + (y : Int)) % (d : Int)) = V.int 0)) = true then _ else _
      rw [mod_nat]
      refine ite2 (fun hm => ?_) (fun hm => ?_)
      rotate_left
      · refine ⟨s2, rs, _, fr, ?_, rfl⟩
        rw [List.range_succ, List.filter_append]
        have hm' : ¬ y % d = 0 := fun z => hm (decide_eq_true z)
        have : [y].filter (fun y => decide (y % d = 0)) = [] := by simp [hm']
        rw [this, List.append_nil]
        exact picS
      obtain ⟨q, r, e1, e2, lr, ec⟩ := row_of pic2 gd hy
      obtain ⟨q0, r0, e0, hr0, l0, _⟩ := row_of pic2 gd gd.ne
      refine ⟨_, rfl, .inl ⟨rfl, _, SqL.of picS.top⟩, ?_⟩
      refine ⟨_, rfl, a, _, _, _, rfl, rfl, SqL.of pic2.top, atI_nat (j := 0) e0, q0, _, rfl, .inl (SqL.of hr0), _, rfl, by rw [List.length_map, l0]; omega, by rw [List.length_map, l0]; omega, fun D hD => ?_⟩
      rw [List.length_map, l0, Int.toNat_natCast]
      refine comp_fm (k := 0) (fun v => match v with | .int x => .int (cAt R x.toNat y) | _ => .non) (fun v => match v with | .int x => decide (V.int (x % (c : Int)) = V.int 0) | _ => false) src_range (by simp; exact Nat.le_trans w24 (by decide)) hD (fun z hz H' Qb sm kk => ?_) (fun z hz _ H' Q' sm kk => ?_) fun H3 s3 h3 => ?_
      · obtain ⟨x, hx, rfl⟩ := List.mem_map.mp hz
        exact ⟨_, rfl, _, rfl, _, _, rfl, rfl, (by show (0 : Int) < (c : Int); omega), rfl, _, rfl, kk H' (Same.refl _)⟩
      · obtain ⟨x, hx, rfl⟩ := List.mem_map.mp hz
        have hx' := List.mem_range.mp hx
        refine ⟨_, rfl, _, rfl, a, _, _, _, rfl, rfl, SqL.of (sm _ _ pic2.top), atI_nat0 e1, _, rfl, q, _, _, _, rfl, rfl, SqL.of (sm _ _ e2), atI_nat0 (ec x hx'), ?_⟩
        have := kk H' (Same.refl _)
        dsimp only at this
        rw [show ((0 : Int) + (x : Int)).toNat = x by omega] at this
        exact this
      have er : H3 D = some (.lst ((rowT R wd c y).map V.int)) := by
        rw [h3]
        congr 2
        exact filter_rngT wd c _ _ (fun x => cAt R x y) (fun i => mod_nat) (fun i => by show V.int (cAt R ((0 : Int) + (i : Int)).toNat y) = _; rw [show ((0 : Int) + (i : Int)).toNat = i by omega])
      have hrl : (rs.map V.ref).length ≤ 24 := by
        rw [List.length_map, picS.len, ir_len, List.length_map]
        exact Nat.le_trans (List.length_filter_le _ _) (by rw [List.length_range]; omega)
      refine ⟨S, _, _, rfl, rfl, (picS.mono s3).top, Nat.lt_of_le_of_lt hrl (by decide), same_upd (s2.trans s3) hS, rs ++ [D], _, fun q hq => ?_, ?_, rfl⟩
      · rcases List.mem_append.mp hq with z | z
        · exact fr q z
        · rw [List.mem_singleton.mp z]; exact s2.free hD
      · have pp := PicV.push picS s3 hD er
        have e : ir (((List.range y).filter fun y => decide (y % d = 0)).map (rowT R wd c)) ++ [(rowT R wd c y).map V.int] = ir (((List.range (y + 1)).filter fun y => decide (y % d = 0)).map (rowT R wd c)) := by
          rw [List.range_succ, List.filter_append]
          have hm' : y % d = 0 := of_decide_eq_true hm
          have : [y].filter (fun y => decide (y % d = 0)) = [y] := by simp [hm']
          rw [this, List.map_append]
          unfold ir
          rw [List.map_append]; rfl
        rw [e] at pp
        exact pp
    · rintro σ H2 ⟨s2, rs, v4, fr, picS, rfl⟩
      rw [thin_eq gd.w1 gd.ne c1 d1] at picS
      exact ⟨_, rfl, kY S rs H2 s2 hS fr picS⟩
theorem sc_law_cut : FnScope ["_law_picture_here", "_law_part_here", "_law_left", "_law_top", "_law_wide", "_law_high"] ["_law_picture_here", "_law_part_here"] (defScope s_law_cut) := ⟨rfl, rfl, rfl, by decide +kernel, rfl, by decide +kernel, by decide +kernel⟩
theorem ok_law_cut {f : Addr} {fd : FuncData} (F : FunD K "_law_cut" "_law_cut" s_law_cut .none f fd) (T : Txt K mg cFE cBP cBS cOP tS tC) (g__law_is_number : Def P w K mg base 1 "_law_is_number" ["_law_thing"] [] (spIsN K)) : FnOk P w K mg base CX0 2 f fd ["_law_picture_here", "_law_part_here"] (spCutL K) := by
  refine F.ok sc_law_cut (fun vs H Q E h => ?_) (fun cdv A outer s H vs Q E hr h => ?_)
  · obtain ⟨a, l, ps, R, wd, x0, x1, x2, x3, rfl, _⟩ := h; rfl
  · obtain ⟨a, l, ps, R, wd, x0, x1, x2, x3, rfl, pic, gd, el, k0, k1, k2, k3, kN, kY⟩ := h
    have hu : _ + 64 < cLine := hr.units
    refine ⟨_, (pss_cons (ps_if (pt_cmpR (neDK K rfl hu) (pe_comp (N := ["_law_one"]) (src := [none]) rfl ⟨rfl, rfl, rfl, rfl, rfl, by decide +kernel⟩ (piK K rfl (pv 1)) (fun s H C fp => pg_name (i := 0) (show (["_law_one"] : List Str).Nodup by decide +kernel) rfl (by first | exact Or.inl rfl | exact Or.inr rfl)) (fun s H C fp => (pts_one (pt_not (pt_val (pe_callD g__law_is_number (hr.mono (by decide)) rfl (pa_cons (pv 0) pa_nil)))))) (fun s H C fp => (pv 0))) (pe_lst pa_nil) (nomark _)) (pss_one (ps_ret pe_non)) pss_nil)
        (pss_cons (ps_asg (pv 1) (pg_lstT K rfl rfl (pgs_cons (pg_name (i := 2) sc_law_cut.nd rfl (by first | exact Or.inl rfl | exact Or.inr rfl)) (pgs_cons (pg_name (i := 3) sc_law_cut.nd rfl (by first | exact Or.inl rfl | exact Or.inr rfl)) (pgs_cons (pg_name (i := 4) sc_law_cut.nd rfl (by first | exact Or.inl rfl | exact Or.inr rfl)) (pgs_cons (pg_name (i := 5) sc_law_cut.nd rfl (by first | exact Or.inl rfl | exact Or.inr rfl)) pgs_nil))))))
        (pss_cons (ps_if (PW.pt (pw_or (pt_cmpR op_lt (pv 2) pe_int (nomark _)) (pw_or (pt_cmpR op_lt (pv 3) pe_int (nomark _)) (pw_or (pt_cmpR op_lt (pv 4) pe_int (nomark _)) (pw_or (pt_cmpR op_lt (pv 5) pe_int (nomark _)) (pw_or (pt_cmpR op_gt (pe_op op_add (pv 2) (pv 4)) (pe_callB (lenK K rfl) rfl T.len PySem.boot_len (pa_cons (pe_ix (ixK K rfl) (pv 0) pe_int (fun _ _ => rfl)) pa_nil)) (nomark _)) (pw_or1 (pt_cmpR op_gt (pe_op op_add (pv 3) (pv 5)) (pe_callB (lenK K rfl) rfl T.len PySem.boot_len (pa_cons (pv 0) pa_nil)) (nomark _))))))))) (pss_one (ps_ret pe_non)) pss_nil)
        (pss_one (ps_ret (pe_comp (N := ["_law_y", "_law_wide", "_law_picture_here", "_law_top", "_law_left"]) (src := [none, some 4, some 0, some 3, some 2]) rfl ⟨rfl, rfl, rfl, rfl, rfl, by decide +kernel⟩ (pi_range1 rfl T.range (pa_cons (pv 5) pa_nil)) (fun s H C fp => pg_name (i := 0) (show (["_law_y", "_law_wide", "_law_picture_here", "_law_top", "_law_left"] : List Str).Nodup by decide +kernel) rfl (by first | exact Or.inl rfl | exact Or.inr rfl)) (fun s H C fp => pts_nil) (fun s H C fp => (pe_comp (N := ["_law_x", "_law_picture_here", "_law_top", "_law_y", "_law_left"]) (src := [none, some 2, some 3, some 0, some 4]) rfl ⟨rfl, rfl, rfl, rfl, rfl, by decide +kernel⟩ (pi_range1 rfl T.range (pa_cons (pv 1) pa_nil)) (fun s H C fp => pg_name (i := 0) (show (["_law_x", "_law_picture_here", "_law_top", "_law_y", "_law_left"] : List Str).Nodup by decide +kernel) rfl (by first | exact Or.inl rfl | exact Or.inr rfl)) (fun s H C fp => pts_nil) (fun s H C fp => (pe_ix (ixK K rfl) (pe_ix (ixK K rfl) (pv 1) (pe_op op_add (pv 2) (pv 3)) (fun _ _ => rfl)) (pe_op op_add (pv 4) (pv 0)) (fun _ _ => rfl))))))))))), ?_⟩
    have kk4 : ∀ x ∈ [x0, x1, x2, x3], Kd K H x := fun x hx => by
      simp only [List.mem_cons, List.not_mem_nil, or_false] at hx
      rcases hx with rfl | rfl | rfl | rfl <;> assumption
    refine ⟨_, rfl, l, rfl, ⟨_, SqL.of el⟩, fun D hD => ?_⟩
    refine comp_fm (k := 0) (fun v => v) (fun v => !(isN v)) (src_list (SqL.of el)) (by show 4 ≤ sizeLine; decide) hD (fun z hz H' Qb sm kk => ?_) (fun x hx _ H' Q' sm kk => ⟨_, rfl, kk H' (Same.refl _)⟩) fun H1 s1 h1 => ?_
    · exact ⟨_, rfl, z, rfl, (kk4 z hz).mono sm, _, rfl, kk H' (Same.refl _)⟩
    refine ⟨Nat.zero_le _, fun L hL => ⟨0, D, L, _, by decide, rfl, rfl, EqL.nil (SqL.of (same_new hL _ _ h1)) (SqL.of upd_same), _, rfl, ?_⟩⟩
    have zL := same_new (o := HO.lst []) hL
    have s2 := s1.trans zL
    generalize upd H1 L (.lst []) = H2 at zL s2 ⊢
    rw [empty_any]
    cases hany : [x0, x1, x2, x3].any (fun v => !(isN v)) with
    | true =>
      refine kN ?_ H2 s2
      cases hl : (lies wd x0 x2 && lies R.length x1 x3) with
      | false => rfl
      | true =>
        exfalso
        rw [Bool.and_eq_true] at hl
        obtain ⟨_, _, rfl, rfl, _, _⟩ := lies_nat hl.1
        obtain ⟨_, _, rfl, rfl, _, _⟩ := lies_nat hl.2
        cases hany
    | false =>
      have all : ∀ x ∈ [x0, x1, x2, x3], isN x = true := fun x hx => by
        have := List.any_eq_false.mp hany x hx
        simpa using this
      obtain ⟨i0, rfl⟩ := isN_int (all x0 (by simp))
      obtain ⟨i1, rfl⟩ := isN_int (all x1 (by simp))
      obtain ⟨i2, rfl⟩ := isN_int (all x2 (by simp))
      obtain ⟨i3, rfl⟩ := isN_int (all x3 (by simp))
      have no : ¬ (0 ≤ i0 ∧ 1 ≤ i2 ∧ i0 + i2 ≤ wd ∧ 0 ≤ i1 ∧ 1 ≤ i3 ∧ i1 + i3 ≤ R.length) → Q .non H2 := fun hh => kN (by
        cases hl : (lies wd (.int i0) (.int i2) && lies R.length (.int i1) (.int i3)) with
        | false => rfl
        | true =>
          exfalso
          simp only [lies, Bool.and_eq_true, decide_eq_true_eq] at hl
          exact hh (by omega)) H2 s2
      have pic2 := pic.mono s2
      refine ⟨_, rfl, l, _, rfl, SqL.of (s2 _ _ el), rfl, _, _, rfl, _, _, rfl, _, _, rfl, _, _, rfl, rfl, ?_⟩
      refine ⟨_, rfl, _, _, rfl, rfl, _, rfl, iteB (fun z => no (by have := of_decide_eq_true z; omega)) (fun z0 => ?_)⟩
      refine ⟨_, rfl, _, _, rfl, rfl, _, rfl, iteB (fun z => no (by have := of_decide_eq_true z; omega)) (fun z1 => ?_)⟩
      refine ⟨_, rfl, _, _, rfl, rfl, _, rfl, iteB (fun z => no (by have := of_decide_eq_true z; omega)) (fun z2 => ?_)⟩
      refine ⟨_, rfl, _, _, rfl, rfl, _, rfl, iteB (fun z => no (by have := of_decide_eq_true z; omega)) (fun z3 => ?_)⟩
      obtain ⟨q0, r0, e0, hr0, l0, _⟩ := row_of pic2 gd gd.ne
      refine ⟨_, rfl, _, rfl, _, _, rfl, rfl, _, rfl, a, _, _, _, rfl, rfl, SqL.of pic2.top, atI_nat (j := 0) e0, q0, _, rfl, .inl (SqL.of hr0), _, _, rfl, rfl, _, rfl, iteB (fun z => no (by have := of_decide_eq_true z; rw [List.length_map, l0] at this; omega)) (fun z4 => ?_)⟩
      refine ⟨_, rfl, _, rfl, _, _, rfl, rfl, _, rfl, a, _, rfl, .inl (SqL.of pic2.top), _, _, rfl, rfl, _, rfl, iteB (fun z => no (by have := of_decide_eq_true z; rw [lenF pic2] at this; omega)) (fun z5 => ?_)⟩
      have y0 := of_decide_eq_false z0
      have y1 := of_decide_eq_false z1
      have y2 := of_decide_eq_false z2
      have y3 := of_decide_eq_false z3
      have y4 := of_decide_eq_false z4
      have y5 := of_decide_eq_false z5
      rw [List.length_map, l0] at y4
      rw [lenF pic2] at y5
      obtain ⟨lf, rfl⟩ : ∃ n : Nat, i0 = (n : Int) := ⟨i0.toNat, by omega⟩
      obtain ⟨tp, rfl⟩ : ∃ n : Nat, i1 = (n : Int) := ⟨i1.toNat, by omega⟩
      obtain ⟨wn, rfl⟩ : ∃ n : Nat, i2 = (n : Int) := ⟨i2.toNat, by omega⟩
      obtain ⟨hn, rfl⟩ : ∃ n : Nat, i3 = (n : Int) := ⟨i3.toNat, by omega⟩
      have w24 := gd.w24
      have h24 := gd.le
      refine ⟨_, rfl, _, rfl, by omega, by omega, fun D3 hD3 => ?_⟩
      rw [Int.toNat_natCast]
      refine comp_rows (k := 0) (fun v => match v with | .int y => ((List.range wn).map fun x => cAt R (lf + x) (tp + y.toNat)).map V.int | _ => []) src_range (by simp; exact Nat.le_trans (show hn ≤ 24 by omega) (by decide)) hD3 (fun z hz H' Q' sm kk => ?_) fun qs H3 s3 fr pic3 => ?_
      · obtain ⟨y, hy, rfl⟩ := List.mem_map.mp hz
        have hy' := List.mem_range.mp hy
        have pic' := pic2.mono sm
        obtain ⟨q, r, e1, e2, lr, ec⟩ := row_of pic' gd (y := tp + y) (by omega)
        refine ⟨_, rfl, _, rfl, by omega, by omega, fun D4 hD4 => ?_⟩
        rw [Int.toNat_natCast]
        refine comp_fm (k := 0) (fun v => match v with | .int x => .int (cAt R (lf + x.toNat) (tp + y)) | _ => .non) (fun _ => true) src_range (by simp; exact Nat.le_trans (show wn ≤ 24 by omega) (by decide)) hD4 (fun x _ H2 Qb _ kb => kb H2 (Same.refl _)) (fun z hz2 _ H4 Q4 s4 k4 => ?_) fun H4 s4 h4 => ?_
        · obtain ⟨x, hx, rfl⟩ := List.mem_map.mp hz2
          have hx' := List.mem_range.mp hx
          refine ⟨_, rfl, _, rfl, _, rfl, _, _, rfl, rfl, a, _, _, _, rfl, rfl, SqL.of (s4 _ _ pic'.top), (by show atI _ ((tp : Int) + ((0 : Int) + (y : Int))) = _; rw [show (tp : Int) + ((0 : Int) + (y : Int)) = ((tp + y : Nat) : Int) by omega]; exact atI_nat e1), _, rfl, _, rfl, _, _, rfl, rfl, q, _, _, _, rfl, rfl, SqL.of (s4 _ _ e2), (by show atI _ ((lf : Int) + ((0 : Int) + (x : Int))) = _; rw [show (lf : Int) + ((0 : Int) + (x : Int)) = ((lf + x : Nat) : Int) by omega]; exact atI_nat (ec (lf + x) (by omega))), ?_⟩
          have := k4 H4 (Same.refl _)
          dsimp only at this
          rw [show ((0 : Int) + (x : Int)).toNat = x by omega] at this
          exact this
        · refine kk D4 H4 s4 hD4 ?_
          rw [h4, filter_t, List.map_map]
          show some (HO.lst _) = some (HO.lst (((List.range wn).map fun x => cAt R (lf + x) (tp + ((0 : Int) + (y : Int)).toNat)).map V.int))
          rw [show ((0 : Int) + (y : Int)).toNat = y by omega, List.map_map]
          congr 2
          refine List.map_congr_left fun x _ => ?_
          show V.int (cAt R (lf + ((0 : Int) + (x : Int)).toNat) (tp + y)) = V.int (cAt R (lf + x) (tp + y))
          rw [show ((0 : Int) + (x : Int)).toNat = x by omega]
      · refine (kY lf tp wn hn rfl rfl rfl rfl (by omega) (by omega) (by omega) (by omega)).same s2 D3 qs H3 s3 hD3 fr ?_
        have e : ((List.range hn).map fun (i : Nat) => V.int ((0 : Int) + (i : Int))).map (fun v => match v with | .int y => ((List.range wn).map fun x => cAt R (lf + x) (tp + y.toNat)).map V.int | _ => []) = ir (cutF R lf tp wn hn) := by
          unfold ir cutF grid
          rw [List.map_map, List.map_map]
          refine List.map_congr_left fun i _ => ?_
          show ((List.range wn).map fun x => cAt R (lf + x) (tp + ((0 : Int) + (i : Int)).toNat)).map V.int = _
          rw [show ((0 : Int) + (i : Int)).toNat = i by omega]
          rfl
        rw [e] at pic3
        exact pic3
end
end K9
set_option Elab.async false
set_option linter.all false
set_option maxRecDepth 100000
set_option maxHeartbeats 1600000
namespace K9
open PySem L2 M4
def NT (H H' : Hp) : Prop := ∀ b o, (∀ ps, o ≠ .tbl ps) → H b = some o → H' b = some o
section
variable {K : PySem.W.Frag} {H H' : Hp}
theorem NT.lst {a : Addr} {xs : List V} (s : NT H H') (e : H a = some (.lst xs)) : H' a = some (.lst xs) := s _ _ (fun _ z => by cases z) e
theorem NT.tup {a : Addr} {xs : List V} (s : NT H H') (e : H a = some (.tup xs)) : H' a = some (.tup xs) := s _ _ (fun _ z => by cases z) e
theorem NT.sq {a : Addr} {xs : List V} (s : NT H H') (h : SqL K H a xs) : SqL K H' a xs := by
  rcases h with (h | ⟨o, h⟩) | h
  · exact .inl (.inl (s.lst h))
  · exact .inl (.inr ⟨o, s _ _ (fun _ z => by cases z) h⟩)
  · exact .inr h
theorem NT.pic {a : Addr} {ps : List Addr} {R : List (List V)} (s : NT H H') (p : PicV H a ps R) : PicV H' a ps R := ⟨s.lst p.top, Paired.mapI p.row fun _ _ _ e => s.lst e, p.nd, p.out⟩
end
section
variable {K : PySem.W.Frag} {H H' : Hp} {x : V}
theorem NT.kd (s : NT H H') (k : Kd K H x) : Kd K H' x := by
  cases k with
  | non => exact .non
  | bl b => exact .bl b
  | int i => exact .int i
  | str y => exact .str y
  | lst e => exact .lst (s.lst e)
  | tup e => exact .tup (s.tup e)
  | dict e => exact .dict (s _ _ (fun _ z => by unfold DictO at z; cases z) e)
theorem NT.rowOf (s : NT H H') (k : Kd K H x) : rowOf H' x = rowOf H x := by
  cases k with
  | lst e => rw [rowOf_lst e, rowOf_lst (s.lst e)]
  | tup e => simp only [K9.rowOf, e, s.tup e]
  | dict e =>
    have e2 := s _ _ (fun _ z => by unfold DictO at z; cases z) e
    simp only [K9.rowOf, e, e2, DictO]
  | _ => rfl
theorem NT.rw (s : NT H H') (r : Rw K H x) : Rw K H' x := by
  have e := s.rowOf r.kd
  exact ⟨s.kd r.kd, fun ys h => r.len ys (by rw [← e]; exact h), fun ys h y hy => s.kd (r.it ys (by rw [← e]; exact h) y hy)⟩
theorem NT.th (s : NT H H') (t : Th K H x) : Th K H' x := by
  have e := s.rowOf t.kd
  exact ⟨s.kd t.kd, fun ys h => t.len ys (by rw [← e]; exact h), fun ys h y hy => s.rw (t.it ys (by rw [← e]; exact h) y hy)⟩
theorem NT.picB (s : NT H H') (t : Th K H x) : picB H' x = picB H x := by
  have e := s.rowOf t.kd
  unfold K9.picB
  rw [e]
  cases h : K9.rowOf H x with
  | none => rfl
  | some xs =>
    have q : ∀ y ∈ xs, K9.rowOf H' y = K9.rowOf H y := fun y hy => s.rowOf (t.it xs h y hy).kd
    have q1 : ∀ y ∈ xs, rowQ H' y = rowQ H y := fun y hy => by unfold rowQ; rw [q y hy]
    have q2 : ∀ y ∈ xs, lenOf H' y = lenOf H y := fun y hy => by unfold lenOf; rw [q y hy]
    dsimp only
    cases xs with
    | nil => rfl
    | cons z r =>
      have h1 : (z :: r).all (rowQ H') = (z :: r).all (rowQ H) := by
        rw [Bool.eq_iff_iff, List.all_eq_true, List.all_eq_true]
        exact ⟨fun hh y hy => by rw [← q1 y hy]; exact hh y hy, fun hh y hy => by rw [q1 y hy]; exact hh y hy⟩
      have h2 : ((z :: r).all fun x => decide (lenOf H' x = lenOf H' ((z :: r).headD .non))) = (z :: r).all fun x => decide (lenOf H x = lenOf H ((z :: r).headD .non)) := by
        rw [Bool.eq_iff_iff, List.all_eq_true, List.all_eq_true]
        have hz : lenOf H' ((z :: r).headD .non) = lenOf H ((z :: r).headD .non) := q2 z List.mem_cons_self
        exact ⟨fun hh y hy => by have := hh y hy; rw [hz, q2 y hy] at this; exact this, fun hh y hy => by rw [hz, q2 y hy]; exact hh y hy⟩
      rw [h1, h2]
end
abbrev q1 : Str := ("_law_steps_right" ++ ".<locals>.") ++ "<lambda>"
abbrev lq : Str := ("law" ++ ".<locals>.") ++ "<lambda>"
structure AllG (p1 p2 : Addr) (H : Hp) : Prop where
  t1 : TabG [p1, p2] p1 q1 H
  t2 : TabG [p1, p2] p2 lq H
theorem AllG.mono {p1 p2 : Addr} {H H' : Hp} (g : AllG p1 p2 H) (s : Same H H') : AllG p1 p2 H' := ⟨g.t1.mono s, g.t2.mono s⟩
theorem AllG.hts {p1 p2 : Addr} {H : Hp} (g : AllG p1 p2 H) : ∀ t ∈ [p1, p2], H t ≠ none := fun t ht => by
  simp only [List.mem_cons, List.not_mem_nil, or_false] at ht
  rcases ht with rfl | rfl
  · obtain ⟨ps, e, _⟩ := g.t1; rw [e]; simp
  · obtain ⟨ps, e, _⟩ := g.t2; rw [e]; simp
theorem AllG.nt {p1 p2 : Addr} {H H' : Hp} (g : AllG p1 p2 H) (b : ButL [p1, p2] H H') : NT H H' := fun c o n e => b c o (fun z => by
  simp only [List.mem_cons, List.not_mem_nil, or_false] at z
  rcases z with rfl | rfl
  · obtain ⟨ps, e2, _⟩ := g.t1
    rw [e] at e2; cases e2
    exact n ps rfl
  · obtain ⟨ps, e2, _⟩ := g.t2
    rw [e] at e2; cases e2
    exact n ps rfl) e
theorem AllG.st1 {p1 p2 : Addr} {H H' : Hp} (ne : p1 ≠ p2) (g : AllG p1 p2 H) (b : ButL [p1, p2] H H') (o : ∀ t ∈ [p1, p2], t ≠ p1 → H' t = H t) (t : TabG [p1, p2] p1 q1 H') : AllG p1 p2 H' := ⟨t, g.t2.but (o p2 (by simp) (Ne.symm ne)) fun c u n e => b c u n e⟩
theorem AllG.st2 {p1 p2 : Addr} {H H' : Hp} (ne : p1 ≠ p2) (g : AllG p1 p2 H) (b : ButL [p1, p2] H H') (o : ∀ t ∈ [p1, p2], t ≠ p2 → H' t = H t) (t : TabG [p1, p2] p2 lq H') : AllG p1 p2 H' := ⟨g.t1.but (o p1 (by simp) ne) (fun c u n e => b c u n e), t⟩
theorem TabG.keep {ts fq : List Addr} {p : Addr} {q : Str} {H H' : Hp} (t : TabG ts p q H) (k : ∀ b o, H b = some o → b ∉ fq → H' b = some o) (hf : ∀ x ∈ fq, ∃ r, H x = some (.lst r)) : TabG ts p q H' := by
  obtain ⟨ps, e, o, kk⟩ := t
  refine ⟨ps, k _ _ e fun z => ?_, o, fun pos cv hq => ?_⟩
  · obtain ⟨r, e2⟩ := hf _ z
    rw [e] at e2; cases e2
  · obtain ⟨c, e1, e2, e3⟩ := kk pos cv hq
    refine ⟨c, e1, e2, k _ _ e3 fun z => ?_⟩
    obtain ⟨r, e4⟩ := hf _ z
    rw [e3] at e4
    unfold CodeO at e4; cases e4
theorem AllG.keep {fq : List Addr} {p1 p2 : Addr} {H H' : Hp} (g : AllG p1 p2 H) (k : ∀ b o, H b = some o → b ∉ fq → H' b = some o) (hf : ∀ x ∈ fq, ∃ r, H x = some (.lst r)) : AllG p1 p2 H' := ⟨TabG.keep g.t1 k hf, TabG.keep g.t2 k hf⟩
def RefT (H : Hp) (Q : VK) (b0 b1 b2 : Bool) : Prop := ∀ n p H', Same H H' → H n = none → H p = none → H' n = some (.lst [.bl b0, .bl b1, .bl b2]) → H' p = some (.tup [.str "refused", .ref n, .bl true]) → Q (.ref p) H'
def spRef (P : Program) (w : World) (K : PySem.W.Frag) (mg : Str → Option Value) (cBP cBS cOP : Addr) (base : Heap) : Sp := fun vs H Q _ => ∃ f L sp0, vs = [.ref f] ∧ H f = some (LamOC f L) ∧ LamX P w K mg base 10 f sp0 ∧
  ∀ E' : XK, (∀ H1, RefT H1 Q true false false → E' (.ref cBP) none H1) → (∀ H1, RefT H1 Q false true false → E' (.ref cOP) none H1) → (∀ H1, RefT H1 Q false false true → E' (.ref cBS) none H1) → sp0 H Q E'
section
variable {P : Program} {w : World} {K : PySem.W.Frag} {mg : Str → Option Value} {base : Heap} {cFE cBP cBS cOP : Addr} {tS tC : Tok}
theorem sc_law_refused : FnScope ["_law_deed", "e", "_law_names"] ["_law_deed"] (defScope s_law_refused) := ⟨rfl, rfl, rfl, by decide +kernel, rfl, by decide +kernel, by decide +kernel⟩
theorem ok_law_refused {f : Addr} {fd : FuncData} (F : FunD K "_law_refused" "_law_refused" s_law_refused .none f fd) (T : Txt K mg cFE cBP cBS cOP tS tC) : FnOk P w K mg base CX0 11 f fd ["_law_deed"] (spRef P w K mg cBP cBS cOP base) := by
  refine F.ok sc_law_refused (fun vs H Q E h => ?_) (fun cdv A outer s H vs Q E hr h => ?_)
  · obtain ⟨fl, L, sp0, rfl, _⟩ := h; rfl
  · obtain ⟨fl, L, sp0, rfl, hf, LX, h⟩ := h
    refine ⟨_, (pss_one (ps_try2 (i := 1) sc_law_refused.nd rfl rfl rfl T.FolioError rfl rfl (fun pn XE R hx => (pss_one (ps_ret (pe_callL0K P w K mg base rfl rfl rfl rfl rfl 0 10 (hr.mono (by decide)) hx)))) (fun ea => (pss_cons (ps_set (i := 2) sc_law_refused.nd rfl (by first | exact Or.inl rfl | exact Or.inr rfl) (pe_lst (pa_cons (isiCK K rfl (pv 1) rfl T.isinstance rfl T.BadPicture) (pa_cons (isiCK K rfl (pv 1) rfl T.isinstance rfl T.OutOfPlace) (pa_cons (isiCK K rfl (pv 1) rfl T.isinstance rfl T.BadSize) pa_nil)))))
        (pss_one (ps_ret (pe_tup (pa_cons pe_str (pa_cons (pv 2) (pa_cons (isiK K rfl (pv 1) rfl T.isinstance rfl T.ValueError boot_VE) pa_nil)))))))))), ?_⟩
    refine ⟨fl, L, _, rfl, hf, LX, h _ (fun H1 r => ⟨cBP, rfl, T.eP, fun ea hea => ?_⟩) (fun H1 r => ⟨cOP, rfl, T.eO, fun ea hea => ?_⟩) (fun H1 r => ⟨cBS, rfl, T.eS, fun ea hea => ?_⟩)⟩
    · have ex : upd H1 ea (ExcO ea cBP) ea = some (ExcO ea cBP) := upd_same
      refine ⟨_, rfl, true, ⟨_, .exc ex T.kP, T.iPP⟩, _, rfl, false, ⟨_, .exc ex T.kP, T.iPO⟩, _, rfl, false, ⟨_, .exc ex T.kP, T.iPS⟩, (by show 3 ≤ sizeLine; decide), fun n hn => ?_⟩
      have ex2 := same_new (o := HO.lst [.bl true, .bl false, .bl false]) hn _ _ ex
      refine ⟨_, rfl, _, rfl, true, ⟨_, .exc ex2 T.kP, T.iPV⟩, (by show 3 ≤ sizeLine; decide), fun p hp => ?_⟩
      have s1 := same_new (o := ExcO ea cBP) hea
      have s2 := s1.trans (same_new (o := HO.lst [.bl true, .bl false, .bl false]) hn)
      exact r n p _ (s2.trans (same_new hp)) (s1.free hn) (s2.free hp) (same_new hp _ _ upd_same) upd_same
    · have ex : upd H1 ea (ExcO ea cOP) ea = some (ExcO ea cOP) := upd_same
      refine ⟨_, rfl, false, ⟨_, .exc ex T.kO, T.iOP⟩, _, rfl, true, ⟨_, .exc ex T.kO, T.iOO⟩, _, rfl, false, ⟨_, .exc ex T.kO, T.iOS⟩, (by show 3 ≤ sizeLine; decide), fun n hn => ?_⟩
      have ex2 := same_new (o := HO.lst [.bl false, .bl true, .bl false]) hn _ _ ex
      refine ⟨_, rfl, _, rfl, true, ⟨_, .exc ex2 T.kO, T.iOV⟩, (by show 3 ≤ sizeLine; decide), fun p hp => ?_⟩
      have s1 := same_new (o := ExcO ea cOP) hea
      have s2 := s1.trans (same_new (o := HO.lst [.bl false, .bl true, .bl false]) hn)
      exact r n p _ (s2.trans (same_new hp)) (s1.free hn) (s2.free hp) (same_new hp _ _ upd_same) upd_same
    · have ex : upd H1 ea (ExcO ea cBS) ea = some (ExcO ea cBS) := upd_same
      refine ⟨_, rfl, false, ⟨_, .exc ex T.kS, T.iSP⟩, _, rfl, false, ⟨_, .exc ex T.kS, T.iSO⟩, _, rfl, true, ⟨_, .exc ex T.kS, T.iSS⟩, (by show 3 ≤ sizeLine; decide), fun n hn => ?_⟩
      have ex2 := same_new (o := HO.lst [.bl false, .bl false, .bl true]) hn _ _ ex
      refine ⟨_, rfl, _, rfl, true, ⟨_, .exc ex2 T.kS, T.iSV⟩, (by show 3 ≤ sizeLine; decide), fun p hp => ?_⟩
      have s1 := same_new (o := ExcO ea cBS) hea
      have s2 := s1.trans (same_new (o := HO.lst [.bl false, .bl false, .bl true]) hn)
      exact r n p _ (s2.trans (same_new hp)) (s1.free hn) (s2.free hp) (same_new hp _ _ upd_same) upd_same
end
def stAt (st : Stmt) (i : Nat) : Stmt := (defBody st).getD i (.Pass ⟨0, 0, 0, 0⟩)
def lamPrm : Expr → Option Arguments
  | .Lambda p _ _ _ => some p
  | _ => none
def lamBody : Expr → Expr
  | .Lambda _ b _ _ => b
  | e => e
def lamSc (d : Scope) : Expr → Scope
  | .Lambda _ _ s _ => s
  | _ => d
def argOf : Expr → Expr
  | .Call _ (l :: _) _ _ => l
  | e => e
def lamA : Stmt → Expr
  | .Assign _ e _ => argOf e
  | _ => .Name "" ⟨0, 0, 0, 0⟩
def lamF : Stmt → Expr
  | .For _ _ (s :: _) _ _ => lamA s
  | _ => .Name "" ⟨0, 0, 0, 0⟩
def lamC (i : Nat) : Stmt → Expr
  | .Assign _ (.List es _) _ => argOf (es.getD i (.Name "" ⟨0, 0, 0, 0⟩))
  | _ => .Name "" ⟨0, 0, 0, 0⟩
def lamX : Stmt → Expr
  | .Expr e _ => argOf (argOf e)
  | _ => .Name "" ⟨0, 0, 0, 0⟩
def lA : Expr := lamA (stAt s_law_steps_right 1)
def scA : Scope := lamSc (defScope s_law_steps_right) lA
theorem lsA : LamSc ["_law_handed", "_law_across", "_law_down"] scA := ⟨rfl, rfl, rfl, by decide +kernel, by decide +kernel⟩
theorem fhA : ∀ y ∈ scA.names, y.2 = NameKind.free → (defScope s_law_steps_right).names.lookup y.1 = some .cell := by decide +kernel
def lB : Expr := lamA (stAt s_law_steps_right 2)
def scB : Scope := lamSc (defScope s_law_steps_right) lB
theorem lsB : LamSc ["_law_handed", "_law_across", "_law_down"] scB := ⟨rfl, rfl, rfl, by decide +kernel, by decide +kernel⟩
theorem fhB : ∀ y ∈ scB.names, y.2 = NameKind.free → (defScope s_law_steps_right).names.lookup y.1 = some .cell := by decide +kernel
def lC : Expr := lamF (stAt s_law 4)
def scC : Scope := lamSc (defScope s_law) lC
theorem lsC : LamSc ["_law_handed", "_law_part_here"] scC := ⟨rfl, rfl, rfl, by decide +kernel, by decide +kernel⟩
theorem fhC : ∀ y ∈ scC.names, y.2 = NameKind.free → (defScope s_law).names.lookup y.1 = some .cell := by decide +kernel
def lD : Expr := lamC 0 (stAt s_law 9)
def scD : Scope := lamSc (defScope s_law) lD
theorem lsD : LamSc ["_law_bad"] scD := ⟨rfl, rfl, rfl, by decide +kernel, by decide +kernel⟩
theorem fhD : ∀ y ∈ scD.names, y.2 = NameKind.free → (defScope s_law).names.lookup y.1 = some .cell := by decide +kernel
def lE : Expr := lamC 1 (stAt s_law 9)
def scE : Scope := lamSc (defScope s_law) lE
theorem lsE : LamSc ["_law_bad"] scE := ⟨rfl, rfl, rfl, by decide +kernel, by decide +kernel⟩
theorem fhE : ∀ y ∈ scE.names, y.2 = NameKind.free → (defScope s_law).names.lookup y.1 = some .cell := by decide +kernel
def lG : Expr := lamX (stAt s_law 10)
def scG : Scope := lamSc (defScope s_law) lG
theorem lsG : LamSc ["_law_bad"] scG := ⟨rfl, rfl, rfl, by decide +kernel, by decide +kernel⟩
theorem fhG : ∀ y ∈ scG.names, y.2 = NameKind.free → (defScope s_law).names.lookup y.1 = some .cell := by decide +kernel
section
variable {P : Program} {w : World} {K : PySem.W.Frag} {mg : Str → Option Value} {base : Heap} {cFE cBP cBS cOP : Addr} {tS tC : Tok}
theorem lamXA {prm : Arguments} (hp : lamPrm lA = some prm) {f c : Addr} {cl : List (Str × Addr)} {v u1 u2 : V} (g : DefX P w K mg base 8 "thinned" ["picture", "across", "down"] [] (spThinned K cBP cBS)) (hhas : ∀ x, scA.names.lookup x = some .free → ∃ c, cl.lookup x = some c) (hce : CellsAt base ["_law_handed", "_law_across", "_law_down"] cl [some v, some u1, some u2]) :
    LamX P w K mg base 10 f (fun H Q E => H f = some (LamOC f ⟨prm, lamBody lA, scA, q1, cl, .none, c⟩) ∧ H c = some (CodeO c q1) ∧ spThinned K cBP cBS [v, u1, u2] H Q E) := by
  cases hp
  refine lamX_of (k := 9) (H0 := fun _ => True) lsA hhas hce (fun H Q E h => ⟨h.1, h.2.1, trivial⟩) (fun s H doc pm ctv _ _ => bind_none (fun _ _ _ => rfl) s doc pm ctv) fun A outer s H Q E hr h => ?_
  obtain ⟨_, _, h⟩ := h
  refine ⟨_, (pe_callX g (hr.mono (by decide)) passesL rfl (pa_cons (pv 0) (pa_cons (pv 1) (pa_cons (pv 2) pa_nil)))), ?_⟩
  exact ⟨_, rfl, _, rfl, _, rfl, h⟩
theorem lamXB {prm : Arguments} (hp : lamPrm lB = some prm) {f c T : Addr} {cl : List (Str × Addr)} {v u1 u2 : V} (g : DefX P w K mg base 9 "widened" ["picture", "across", "down"] [] (spWidened K cBP cBS)) (hhas : ∀ x, scB.names.lookup x = some .free → ∃ c, cl.lookup x = some c) (hce : CellsAt base ["_law_handed", "_law_across", "_law_down"] cl [some v, some u1, some u2]) :
    LamX P w K mg base 10 f (fun H Q E => H f = some (LamOC f ⟨prm, lamBody lB, scB, q1, cl, .ref T, c⟩) ∧ H c = some (CodeO c q1) ∧ H T = some (.tup [.int 0]) ∧ spWidened K cBP cBS [v, u1, u2] H Q E) := by
  cases hp
  refine lamX_of (k := 9) (H0 := fun H => H T = some (.tup [.int 0])) lsB hhas hce (fun H Q E h => ⟨h.1, h.2.1, h.2.2.1⟩) (fun s H doc pm ctv ok hT => bind_one (x := "_law_more") rfl hT rfl (fun _ _ _ => ⟨_, rfl, fun _ => rfl⟩) s doc pm ctv ok) fun A outer s H Q E hr h => ?_
  obtain ⟨_, _, _, h⟩ := h
  refine ⟨_, (pe_callX g (hr.mono (by decide)) passesL rfl (pa_cons (pv 0) (pa_cons (pv 1) (pa_cons (pv 2) pa_nil)))), ?_⟩
  exact ⟨_, rfl, _, rfl, _, rfl, h⟩
theorem lamXC {prm : Arguments} (hp : lamPrm lC = some prm) {f c : Addr} {cl : List (Str × Addr)} {hd pt : Addr}  (g : DefX P w K mg base 9 "cut_out" ["picture", "left", "top", "wide", "high"] [] (spCutOut K cBP cOP)) (hhas : ∀ x, scC.names.lookup x = some .free → ∃ c, cl.lookup x = some c) (hce : CellsAt base ["_law_handed", "_law_part_here"] cl [some (.ref hd), some (.ref pt)]) :
    LamX P w K mg base 10 f (fun H Q E => H f = some (LamOC f ⟨prm, lamBody lC, scC, lq, cl, .none, c⟩) ∧ H c = some (CodeO c lq) ∧ ∃ x0 x1 x2 x3, H pt = some (.lst [x0, x1, x2, x3]) ∧ spCutOut K cBP cOP [.ref hd, x0, x1, x2, x3] H Q E) := by
  cases hp
  refine lamX_of (k := 9) (H0 := fun _ => True) lsC hhas hce (fun H Q E h => ⟨h.1, h.2.1, trivial⟩) (fun s H doc pm ctv _ _ => bind_none (fun _ _ _ => rfl) s doc pm ctv) fun A outer s H Q E hr h => ?_
  obtain ⟨_, _, x0, x1, x2, x3, ep, h⟩ := h
  refine ⟨_, (pe_callX g (hr.mono (by decide)) passesL rfl (pa_cons (pv 0) (pa_cons (pe_ix (ixK K rfl) (pv 1) pe_int (fun _ _ => rfl)) (pa_cons (pe_ix (ixK K rfl) (pv 1) pe_int (fun _ _ => rfl)) (pa_cons (pe_ix (ixK K rfl) (pv 1) pe_int (fun _ _ => rfl)) (pa_cons (pe_ix (ixK K rfl) (pv 1) pe_int (fun _ _ => rfl)) pa_nil)))))), ?_⟩
  exact ⟨_, rfl, _, rfl, pt, _, _, _, rfl, rfl, SqL.of ep, atI_nat (j := 0) rfl, _, rfl, pt, _, _, _, rfl, rfl, SqL.of ep, atI_nat (j := 1) rfl, _, rfl, pt, _, _, _, rfl, rfl, SqL.of ep, atI_nat (j := 2) rfl, _, rfl, pt, _, _, _, rfl, rfl, SqL.of ep, atI_nat (j := 3) rfl, h⟩
theorem lamXD {prm : Arguments} (hp : lamPrm lD = some prm) {f c : Addr} {cl : List (Str × Addr)} {v : V} (g : DefX P w K mg base 9 "cut_out" ["picture", "left", "top", "wide", "high"] [] (spCutOut K cBP cOP)) (hhas : ∀ x, scD.names.lookup x = some .free → ∃ c, cl.lookup x = some c) (hce : CellsAt base ["_law_bad"] cl [some v]) :
    LamX P w K mg base 10 f (fun H Q E => H f = some (LamOC f ⟨prm, lamBody lD, scD, lq, cl, .none, c⟩) ∧ H c = some (CodeO c lq) ∧ spCutOut K cBP cOP [v, .non, .int 0, .int 0, .int 0] H Q E) := by
  cases hp
  refine lamX_of (k := 9) (H0 := fun _ => True) lsD hhas hce (fun H Q E h => ⟨h.1, h.2.1, trivial⟩) (fun s H doc pm ctv _ _ => bind_none (fun _ _ _ => rfl) s doc pm ctv) fun A outer s H Q E hr h => ?_
  obtain ⟨_, _, h⟩ := h
  refine ⟨_, (pe_callX g (hr.mono (by decide)) passesL rfl (pa_cons (pv 0) (pa_cons pe_non (pa_cons pe_int (pa_cons pe_int (pa_cons pe_int pa_nil)))))), ?_⟩
  exact ⟨_, rfl, h⟩
theorem lamXE {prm : Arguments} (hp : lamPrm lE = some prm) {f c T : Addr} {cl : List (Str × Addr)} {v : V} (g : DefX P w K mg base 8 "thinned" ["picture", "across", "down"] [] (spThinned K cBP cBS)) (hhas : ∀ x, scE.names.lookup x = some .free → ∃ c, cl.lookup x = some c) (hce : CellsAt base ["_law_bad"] cl [some v]) :
    LamX P w K mg base 10 f (fun H Q E => H f = some (LamOC f ⟨prm, lamBody lE, scE, lq, cl, .ref T, c⟩) ∧ H c = some (CodeO c lq) ∧ H T = some (.tup [.int 0]) ∧ spThinned K cBP cBS [v, .int 0, .int 0] H Q E) := by
  cases hp
  refine lamX_of (k := 9) (H0 := fun H => H T = some (.tup [.int 0])) lsE hhas hce (fun H Q E h => ⟨h.1, h.2.1, h.2.2.1⟩) (fun s H doc pm ctv ok hT => bind_one (x := "_law_one") rfl hT rfl (fun _ _ _ => ⟨_, rfl, fun _ => rfl⟩) s doc pm ctv ok) fun A outer s H Q E hr h => ?_
  obtain ⟨_, _, _, h⟩ := h
  refine ⟨_, (pe_callX g (hr.mono (by decide)) passesL rfl (pa_cons (pv 0) (pa_cons pe_int (pa_cons pe_int pa_nil)))), ?_⟩
  exact ⟨_, rfl, h⟩
theorem lamXG {prm : Arguments} (hp : lamPrm lG = some prm) {f c T : Addr} {cl : List (Str × Addr)} {v : V} (g : DefX P w K mg base 9 "widened" ["picture", "across", "down"] [] (spWidened K cBP cBS)) (hhas : ∀ x, scG.names.lookup x = some .free → ∃ c, cl.lookup x = some c) (hce : CellsAt base ["_law_bad"] cl [some v]) :
    LamX P w K mg base 10 f (fun H Q E => H f = some (LamOC f ⟨prm, lamBody lG, scG, lq, cl, .ref T, c⟩) ∧ H c = some (CodeO c lq) ∧ H T = some (.tup [.int 0]) ∧ spWidened K cBP cBS [v, .int 0, .int 0] H Q E) := by
  cases hp
  refine lamX_of (k := 9) (H0 := fun H => H T = some (.tup [.int 0])) lsG hhas hce (fun H Q E h => ⟨h.1, h.2.1, h.2.2.1⟩) (fun s H doc pm ctv ok hT => bind_one (x := "_law_two") rfl hT rfl (fun _ _ _ => ⟨_, rfl, fun _ => rfl⟩) s doc pm ctv ok) fun A outer s H Q E hr h => ?_
  obtain ⟨_, _, _, h⟩ := h
  refine ⟨_, (pe_callX g (hr.mono (by decide)) passesL rfl (pa_cons (pv 0) (pa_cons pe_int (pa_cons pe_int pa_nil)))), ?_⟩
  exact ⟨_, rfl, h⟩
end
end K9
set_option Elab.async false
set_option linter.all false
set_option maxRecDepth 100000
set_option maxHeartbeats 4000000
namespace K9
open PySem L2 M4
structure Told (H : Hp) (p t : Addr) (b0 b1 b2 : Bool) : Prop where
  top : H p = some (.tup [.str "refused", .ref t, .bl true])
  row : H t = some (.lst [.bl b0, .bl b1, .bl b2])
theorem Told.mono {H H' : Hp} {p t : Addr} {b0 b1 b2 : Bool} (h : Told H p t b0 b1 b2) (s : Same H H') : Told H' p t b0 b1 b2 := ⟨s _ _ h.top, s _ _ h.row⟩
theorem EqL.told {K : PySem.W.Frag} {H : Hp} {p q t u : Addr} {b0 b1 b2 : Bool} (h1 : Told H p t b0 b1 b2) (h2 : Told H q u b0 b1 b2) : EqL K H (EqD K H 1) p q true := by
  refine ⟨_, _, .inr ⟨.inr ⟨SqT.of h1.top, SqT.of h2.top⟩, rfl, fun _ => true, fun i x y e1 e2 => ?_, rfl⟩⟩
  match i, e1, e2 with
  | 0, e1, e2 => cases e1; cases e2; exact .inl (.inr ⟨rfl, rfl, rfl⟩)
  | 1, e1, e2 =>
    cases e1; cases e2
    by_cases e : t = u
    · subst e; exact .inl (.inl ⟨t, rfl, rfl, rfl⟩)
    · exact .inr ⟨t, u, rfl, rfl, e, EqL.same (.inl ⟨SqL.of h1.row, SqL.of h2.row⟩) fun z hz => by simp only [List.mem_cons, List.not_mem_nil, or_false] at hz; rcases hz with rfl | rfl | rfl <;> exact .inl rfl⟩
  | 2, e1, e2 => cases e1; cases e2; exact .inl (.inr ⟨rfl, rfl, rfl⟩)
  | i + 3, e1, e2 => cases e1
theorem EqD.self {K : PySem.W.Frag} {H : Hp} {a : Addr} : ∀ n, EqD K H n (.ref a) (.ref a) true
  | 0 => .inl ⟨a, rfl, rfl, rfl⟩
  | n + 1 => .inl (EqD.self n)
theorem EqL.two {K : PySem.W.Frag} {H : Hp} {n : Nat} {p q x1 x2 y1 y2 : Addr} (hp : H p = some (.lst [.ref x1, .ref x2])) (hq : H q = some (.lst [.ref y1, .ref y2])) (h1 : EqL K H (EqD K H n) x1 y1 true) (h2 : EqL K H (EqD K H n) x2 y2 true) : EqL K H (EqD K H (n + 1)) p q true := by
  refine ⟨_, _, .inr ⟨.inl ⟨SqL.of hp, SqL.of hq⟩, rfl, fun _ => true, fun i x y e1 e2 => ?_, rfl⟩⟩
  match i, e1, e2 with
  | 0, e1, e2 =>
    cases e1; cases e2
    by_cases e : x1 = y1
    · subst e; exact .inl (EqD.self _)
    · exact .inr ⟨x1, y1, rfl, rfl, e, h1⟩
  | 1, e1, e2 =>
    cases e1; cases e2
    by_cases e : x2 = y2
    · subst e; exact .inl (EqD.self _)
    · exact .inr ⟨x2, y2, rfl, rfl, e, h2⟩
  | i + 2, e1, e2 => cases e1
def spSR (K : PySem.W.Frag) (p1 p2 : Addr) : Sp := fun vs H Q _ => ∃ (a h : Addr) (ps qs : List Addr) (R : List (List Int)) (w : Nat) (u1 u2 : V), vs = [.ref a, .ref h, u1, u2] ∧ PicV H a ps (ir R) ∧ PicV H h qs (ir R) ∧ Good R w ∧ Kd K H u1 ∧ Kd K H u2 ∧ small u1 ∧ small u2 ∧ AllG p1 p2 H ∧ ∀ H', NT H H' → AllG p1 p2 H' → Q (.bl true) H'
structure Ok2 (p1 p2 : Addr) (H H' : Hp) : Prop where
  but : ButL [p1, p2] H H'
  tab : AllG p1 p2 H'
section
variable {p1 p2 : Addr} {H H1 H2 : Hp}
theorem Ok2.same (o : Ok2 p1 p2 H H1) (s : Same H1 H2) : Ok2 p1 p2 H H2 := ⟨o.but.trans (ButL.of s), o.tab.mono s⟩
theorem Ok2.back (o : Ok2 p1 p2 H H1) {q : Addr} (h : H1 q = none) : H q = none := by
  cases e : H q with
  | none => rfl
  | some u =>
    by_cases hz : q ∈ [p1, p2]
    · exact absurd h (o.tab.hts q hz)
    · rw [o.but q u hz e] at h; cases h
theorem Ok2.mark {fq : List Addr} {F : Addr} {R : List (List V)} (o : Ok2 p1 p2 H H1) (p : PicV H1 F fq R) (fr : ∀ q ∈ fq, H q = none) (k : ∀ b u, H1 b = some u → b ∉ fq → H2 b = some u) : Ok2 p1 p2 H H2 :=
  ⟨fun b u n e => k b u (o.but b u n e) fun z => (by have := fr b z; rw [e] at this; cases this), o.tab.keep k fun x hx => (by obtain ⟨r, _, e⟩ := p.mem hx; exact ⟨r, e⟩)⟩
theorem Ok2.pic {F : Addr} {fq : List Addr} {R : List (List V)} (o : Ok2 p1 p2 H H1) (t : AllG p1 p2 H) (p : PicV H F fq R) : PicV H1 F fq R := (t.nt o.but).pic p
end
theorem good_of {u1 u2 : V} (h : (isWf 1 u1 && isWf 1 u2) = true) (s1 : small u1) (s2 : small u2) : ∃ c d : Nat, u1 = .int (c : Int) ∧ u2 = .int (d : Int) ∧ 1 ≤ c ∧ 1 ≤ d ∧ c < 2 ^ 100 ∧ d < 2 ^ 100 := by
  rw [Bool.and_eq_true] at h
  have one : ∀ {u : V}, isWf 1 u = true → small u → ∃ c : Nat, u = .int (c : Int) ∧ 1 ≤ c ∧ c < 2 ^ 100 := fun {u} h s => by
    cases u with
    | int i =>
      have h1 := of_decide_eq_true (show decide ((1 : Int) ≤ i) = true from h)
      have h2 := s i rfl
      exact ⟨i.toNat, by congr 1; omega, by omega, by omega⟩
    | _ => cases h
  obtain ⟨c, e1, c1, c2⟩ := one h.1 s1
  obtain ⟨d, e2, d1, d2⟩ := one h.2 s2
  exact ⟨c, d, e1, e2, c1, d1, c2, d2⟩
section
variable {P : Program} {w : World} {K : PySem.W.Frag} {mg : Str → Option Value} {base : Heap} {cFE cBP cBS cOP : Addr} {tS tC : Tok}
theorem sc_law_steps_right : FnScope ["_law_picture_here", "_law_handed", "_law_across", "_law_down", "_law_good", "_law_thin_here", "_law_wide", "_law_due", "_law_y"] ["_law_picture_here", "_law_handed", "_law_across", "_law_down"] (defScope s_law_steps_right) := ⟨rfl, rfl, rfl, by decide +kernel, rfl, by decide +kernel, by decide +kernel⟩
theorem ok_law_steps_right {f c0 p p2 : Addr} {fd : FuncData} (F : FunD K "_law_steps_right" "_law_steps_right" s_law_steps_right .none f fd) (hc : fd.code = .ref c0) (hC : PySem.W.CodeHd base c0 p) (hB : BMain mg base) (ne : p ≠ p2) (T : Txt K mg cFE cBP cBS cOP tS tC)
    (gB : ∀ base', BaseOk K mg base' → Def P w K mg base' 11 "_law_refused" ["_law_deed"] [] (spRef P w K mg cBP cBS cOP base')) (gT : ∀ base', BaseOk K mg base' → DefX P w K mg base' 8 "thinned" ["picture", "across", "down"] [] (spThinned K cBP cBS)) (gW : ∀ base', BaseOk K mg base' → DefX P w K mg base' 9 "widened" ["picture", "across", "down"] [] (spWidened K cBP cBS))
    (g_thinned : DefX P w K mg base 8 "thinned" ["picture", "across", "down"] [] (spThinned K cBP cBS)) (g__law_marked : Def P w K mg base 1 "_law_marked" ["_law_found"] [] (spMarked K)) (g__law_is_like : Def P w K mg base 2 "_law_is_like" ["_law_found", "_law_due"] [] (spLike K)) (g__law_is_number : Def P w K mg base 1 "_law_is_number" ["_law_thing"] [] (spIsN K)) (g__law_thin : Def P w K mg base 1 "_law_thin" ["_law_picture_here", "_law_across", "_law_down"] [] (spThin K)) :
    FnOk P w K mg base CX0 12 f fd ["_law_picture_here", "_law_handed", "_law_across", "_law_down"] (spSR K p p2) := by
  refine F.okT hc sc_law_steps_right (fun vs H Q E h => ?_) (fun cdv hcdv A outer s H vs Q E hr h => ?_)
  · obtain ⟨a, h, ps, qs, R, wd, u1, u2, rfl, _⟩ := h; rfl
  · obtain ⟨a, h, ps, qs, R, wd, u1, u2, rfl, pa, ph, gd, ku1, ku2, sm1, sm2, tab, k⟩ := h
    have hu : _ + 64 < cLine := hr.units
    have w1 := gd.w1
    have w24 := gd.w24
    have h1 := gd.ne
    have h24 := gd.le
    obtain ⟨t7, r7, k7⟩ : ∃ tr, PSs ((cxOf CX0 P w K mg base ["_law_picture_here", "_law_handed", "_law_across", "_law_down", "_law_good", "_law_thin_here", "_law_wide", "_law_due", "_law_y"] "_law_steps_right" (defScope s_law_steps_right) f cdv A outer s H E).nox) ((defBody s_law_steps_right).drop 7) tr ∧
        ∀ (c d : Nat) (W : Addr) (wq : List Addr) (v4 v5 : Option V) (H1 : Hp), 1 ≤ c → 1 ≤ d → wd * c ≤ 24 → R.length * d ≤ 24 → Ok2 p p2 H H1 → PicV H1 W wq (ir (wideF R wd c d)) → (∀ q ∈ wq, H q = none) →
          tr { nx := fun _ H' => Q .non H', rt := Q } [some (.ref a), some (.ref h), some (.int (c : Int)), some (.int (d : Int)), v4, v5, some (.ref W), none, none] H1 := by
      refine ⟨_, (pss_cons (ps_set (i := 7) sc_law_steps_right.nd rfl (by first | exact Or.inl rfl | exact Or.inr rfl) (pe_lst pa_nil))
        (pss_cons (ps_for PassesOwn.never rfl (pi_range1 rfl T.range (pa_cons (pe_op op_mul (pe_callB (lenK K rfl) rfl T.len PySem.boot_len (pa_cons (pv 0) pa_nil)) (pv 3)) pa_nil)) (pg_name (i := 8) sc_law_steps_right.nd rfl (by first | exact Or.inl rfl | exact Or.inr rfl)) (pss_one (ps_expr (pe_bm PySem.F.plainAttrs_list PySem.F.slot_list_append PySem.F.type_list_append mt_append (pv 7) (pa_cons (pe_comp (N := ["_law_x", "_law_picture_here", "_law_y", "_law_down", "_law_across"]) (src := [none, some 0, some 8, some 3, some 2]) rfl ⟨rfl, rfl, rfl, rfl, rfl, by decide +kernel⟩ (pi_range1 rfl T.range (pa_cons (pe_op op_mul (pe_callB (lenK K rfl) rfl T.len PySem.boot_len (pa_cons (pe_ix (ixK K rfl) (pv 0) pe_int (fun _ _ => rfl)) pa_nil)) (pv 2)) pa_nil)) (fun s H C fp => pg_name (i := 0) (show (["_law_x", "_law_picture_here", "_law_y", "_law_down", "_law_across"] : List Str).Nodup by decide +kernel) rfl (by first | exact Or.inl rfl | exact Or.inr rfl)) (fun s H C fp => pts_nil) (fun s H C fp => (pe_ix (ixK K rfl) (pe_ix (ixK K rfl) (pv 1) (pe_op op_fdiv (pv 2) (pv 3)) (fun _ _ => rfl)) (pe_op op_fdiv (pv 0) (pv 4)) (fun _ _ => rfl)))) pa_nil)))))
        (pss_cons (ps_if (PW.pt (pw_or (pt_not (pt_val (pe_callD g__law_is_like (hr.mono (by decide)) rfl (pa_cons (pv 6) (pa_cons (pv 7) pa_nil))))) (pw_or1 (pt_not (pt_val (pe_callD g__law_is_like (hr.mono (by decide)) rfl (pa_cons (pe_callX g_thinned (hr.mono (by decide)) passF rfl (pa_cons (pv 6) (pa_cons (pv 2) (pa_cons (pv 3) pa_nil)))) (pa_cons (pv 0) pa_nil)))))))) (pss_one (ps_ret pe_bl)) pss_nil)
        (pss_one (ps_ret (pe_and (pe_callD g__law_marked (hr.mono (by decide)) rfl (pa_cons (pv 6) pa_nil)) (pe_one (pe_cmpR (eqDK K rfl hu) (pv 1) (pv 0) (nomark _))))))))), ?_⟩
      intro c d W wq v4 v5 H1 c1 d1 gw gh ok1 picW frW
      have gW0 := wide_good gd c1 d1 gw gh
      have c24 : c ≤ 24 := Nat.le_trans (Nat.le_mul_of_pos_left c w1) gw
      have d24 : d ≤ 24 := Nat.le_trans (Nat.le_mul_of_pos_left d h1) gh
      refine ⟨Nat.zero_le _, fun S hS => ?_⟩
      have z1 := same_new (o := HO.lst []) hS
      have eS := upd_same (H := H1) (a := S) (o := HO.lst [])
      have ok2 := ok1.same z1
      have pa2 := ok2.pic tab pa
      have eH : (R.length : Int) * (d : Int) = ((R.length * d : Nat) : Int) := by push_cast; rfl
      have eW : (wd : Int) * (c : Int) = ((wd * c : Nat) : Int) := by push_cast; rfl
      refine ⟨_, rfl, a, _, rfl, .inl (SqL.of pa2.top), _, rfl, _, _, rfl, rfl, .inl ⟨by rw [lenF pa2]; omega, by rw [lenF pa2]; omega⟩, ((R.length * d : Nat) : Int), (by show [V.int (((ps.map V.ref).length : Int) * (d : Int))] = _; rw [lenF pa2, eH]), by omega, by omega, ?_⟩
      refine for_range (n := R.length * d) (fun y σ H2 => Same H1 H2 ∧ ∃ (rs : List Addr) (v8 : Option V), Fresh H1 rs ∧ PicV H2 S rs ((ir (wideF R wd c d)).take y) ∧ σ = [some (.ref a), some (.ref h), some (.int (c : Int)), some (.int (d : Int)), v4, v5, some (.ref W), some (.ref S), v8]) ⟨z1, [], none, (fun q h => nomatch h), ⟨by rw [eS]; rfl, .nil, List.nodup_nil, by simp⟩, rfl⟩ ?_ ?_
      · rintro y σ H2 hy ⟨s2, rs, v8, fr, picS, rfl⟩
        have pa3 := (ok1.same s2).pic tab pa
        obtain ⟨q0, r0, e0, hr0, l0, _⟩ := row_of pa3 gd gd.ne
        have hy' : y / d < R.length := Nat.div_lt_of_lt_mul (by rw [Nat.mul_comm]; exact hy)
        refine ⟨_, rfl, .inl ⟨rfl, _, SqL.of picS.top⟩, ?_⟩
        refine ⟨_, rfl, a, _, _, _, rfl, rfl, SqL.of pa3.top, atI_nat (j := 0) e0, q0, _, rfl, .inl (SqL.of hr0), _, rfl, _, _, rfl, rfl, .inl ⟨by rw [List.length_map, l0]; omega, by rw [List.length_map, l0]; omega⟩, ((wd * c : Nat) : Int), (by show [V.int (((r0.map V.int).length : Int) * (c : Int))] = _; rw [List.length_map, l0, eW]), by omega, by omega, fun D hD => ?_⟩
        rw [Int.toNat_natCast]
        obtain ⟨q, r, e1, e2, lr, ec⟩ := row_of pa3 gd hy'
        have ey : ((0 : Int) + (y : Int)) / (d : Int) = ((y / d : Nat) : Int) := by rw [Int.zero_add]; push_cast; rfl
        refine comp_fm (k := 0) (fun v => match v with | .int x => .int (cAt R (x.toNat / c) (y / d)) | _ => .non) (fun _ => true) src_range (by simp; exact Nat.le_trans gw (by decide)) hD (fun x _ H2 Qb _ kb => kb H2 (Same.refl _)) (fun z hz2 _ H4 Q4 s4 k4 => ?_) fun H4 s4 h4 => ?_
        · obtain ⟨x, hx, rfl⟩ := List.mem_map.mp hz2
          have hx' : x / c < wd := Nat.div_lt_of_lt_mul (by rw [Nat.mul_comm]; exact List.mem_range.mp hx)
          have ex : ((0 : Int) + (x : Int)) / (c : Int) = ((x / c : Nat) : Int) := by rw [Int.zero_add]; push_cast; rfl
          refine ⟨_, rfl, _, rfl, _, rfl, _, _, rfl, rfl, ⟨by omega, by omega⟩, a, _, _, _, rfl, rfl, SqL.of (s4 _ _ pa3.top), (by show atI _ (((0 : Int) + (y : Int)) / (d : Int)) = _; rw [ey]; exact atI_nat e1), _, rfl, _, rfl, _, _, rfl, rfl, ⟨by omega, by omega⟩, q, _, _, _, rfl, rfl, SqL.of (s4 _ _ e2), (by show atI _ (((0 : Int) + (x : Int)) / (c : Int)) = _; rw [ex]; exact atI_nat (ec (x / c) hx')), ?_⟩
          have := k4 H4 (Same.refl _)
          dsimp only at this
          rw [show ((0 : Int) + (x : Int)).toNat = x by omega] at this
          exact this
        · have er : H4 D = some (.lst (((List.range (wd * c)).map fun x => cAt R (x / c) (y / d)).map V.int)) := by
            rw [h4, filter_t, List.map_map, List.map_map]
            congr 2
            refine List.map_congr_left fun x _ => ?_
            show V.int (cAt R (((0 : Int) + (x : Int)).toNat / c) (y / d)) = V.int (cAt R (x / c) (y / d))
            rw [show ((0 : Int) + (x : Int)).toNat = x by omega]
          have hrl : (rs.map V.ref).length = y := by
            rw [List.length_map, picS.len, List.length_take, ir_len]
            show min y (grid ..).length = y
            rw [grid_len]; omega
          refine ⟨S, _, _, rfl, rfl, (picS.mono s4).top, (by rw [hrl]; exact Nat.lt_of_lt_of_le (show y < 25 by omega) (by decide)), same_upd (s2.trans s4) hS, rs ++ [D], _, fun q hq => ?_, ?_, rfl⟩
          · rcases List.mem_append.mp hq with z | z
            · exact fr q z
            · rw [List.mem_singleton.mp z]; exact s2.free hD
          · have pp := PicV.push picS s4 hD er
            have tg := take_grid (wd := wd * c) (hg := R.length * d) (f := fun x y => cAt R (x / c) (y / d)) hy
            have e : (ir (wideF R wd c d)).take y ++ [((List.range (wd * c)).map fun x => cAt R (x / c) (y / d)).map V.int] = (ir (wideF R wd c d)).take (y + 1) := tg
            rw [e] at pp
            exact pp
      · rintro σ H2 ⟨s2, rs, v8, fr, picS, rfl⟩
        have ta : (ir (wideF R wd c d)).take (R.length * d) = ir (wideF R wd c d) := take_all
        rw [ta] at picS
        have picW2 := picW.mono s2
        refine ⟨_, rfl, _, rfl, W, S, wq, rs, _, _, rfl, picW2, picS, gW0, fun q hq hz => (fresh_out picW fr).1 q hz hq, not_new picW hS, fun H3 s3 => ⟨_, rfl, ?_⟩⟩
        have picW3 := picW2.mono s3
        have ok3 := ok1.same (s2.trans s3)
        refine ⟨_, rfl, _, rfl, _, rfl, .ref W, .int (c : Int), .int (d : Int), rfl, .inr ⟨W, wq, wideF R wd c d, wd * c, rfl, picW3, gW0, .inr ⟨c, d, rfl, rfl, c1, d1, by omega, by omega, fun Tn tq H4 s4 hTn frT picT => ?_⟩⟩⟩
        rw [thin_wide gd c1 d1] at picT
        have ok4 := ok3.same s4
        have pa3 := ok3.pic tab pa
        refine ⟨_, rfl, Tn, a, tq, ps, R, wd, rfl, picT, pa3.mono s4, gd, (fresh_out pa3 frT).1, (fresh_out pa3 frT).2, fun H5 s5 => ⟨_, rfl, ?_⟩⟩
        have ok5 := ok4.same s5
        have picW5 := picW3.mono (s4.trans s5)
        refine ⟨_, rfl, W, wq, _, _, rfl, picW5, gW0, fun H6 k6 => ⟨_, rfl, ?_⟩⟩
        have ok6 := ok5.mark picW5 frW k6
        exact ⟨_, rfl, _, rfl, 1, h, a, true, by decide, rfl, rfl, EqL.pic (ok6.pic tab ph) (ok6.pic tab pa), k H6 (tab.nt ok6.but) ok6.tab⟩
    obtain ⟨t3, r3, k3b, k3⟩ : ∃ tr, PSs ((cxOf CX0 P w K mg base ["_law_picture_here", "_law_handed", "_law_across", "_law_down", "_law_good", "_law_thin_here", "_law_wide", "_law_due", "_law_y"] "_law_steps_right" (defScope s_law_steps_right) f cdv A outer s H E).nox) ((defBody s_law_steps_right).drop 3) tr ∧
        (∀ (tt W nn nn2 : Addr) (H1 : Hp), Ok2 p p2 H H1 → Told H1 tt nn false false true → Told H1 W nn2 false false true → tr { nx := fun _ H' => Q .non H', rt := Q } [some (.ref a), some (.ref h), some u1, some u2, some (.bl false), some (.ref tt), some (.ref W), none, none] H1) ∧
        ∀ (c d : Nat) (Tn W : Addr) (tq : List Addr) (H1 : Hp), 1 ≤ c → 1 ≤ d → Ok2 p p2 H H1 → PicV H1 Tn tq (ir (thinF R wd c d)) → (∀ q ∈ tq, H q = none) →
          ((wd * c ≤ 24 ∧ R.length * d ≤ 24 ∧ W ∉ tq ∧ ∃ wq, PicV H1 W wq (ir (wideF R wd c d)) ∧ (∀ q ∈ wq, H q = none) ∧ ∀ q ∈ wq, q ∉ tq) ∨ (¬ (wd * c ≤ 24 ∧ R.length * d ≤ 24) ∧ W ∉ tq ∧ ∃ nn, Told H1 W nn false false true ∧ nn ∉ tq)) →
          tr { nx := fun _ H' => Q .non H', rt := Q } [some (.ref a), some (.ref h), some (.int (c : Int)), some (.int (d : Int)), some (.bl true), some (.ref Tn), some (.ref W), none, none] H1 := by
      refine ⟨_, (pss_cons (ps_if (pt_not (pt_val (pv 4))) (pss_one (ps_ret (pe_cmpR (eqDK K rfl hu) (pe_lst (pa_cons (pv 5) (pa_cons (pv 6) pa_nil))) (pe_op op_rep (pe_lst (pa_cons (pe_tup (pa_cons pe_str (pa_cons (pe_lst (pa_cons pe_bl (pa_cons pe_bl (pa_cons pe_bl pa_nil)))) (pa_cons pe_bl pa_nil)))) pa_nil)) pe_int) (nomark _)))) pss_nil)
        (pss_cons (ps_if (pt_not (pt_val (pe_callD g__law_is_like (hr.mono (by decide)) rfl (pa_cons (pv 5) (pa_cons (pe_callD g__law_thin (hr.mono (by decide)) rfl (pa_cons (pv 0) (pa_cons (pv 2) (pa_cons (pv 3) pa_nil)))) pa_nil))))) (pss_one (ps_ret pe_bl)) pss_nil)
        (pss_cons (ps_expr (pe_callD g__law_marked (hr.mono (by decide)) rfl (pa_cons (pv 5) pa_nil)))
        (pss_cons (ps_if (PW.pt (pw_or (pt_cmpR op_gt (pe_op op_mul (pe_callB (lenK K rfl) rfl T.len PySem.boot_len (pa_cons (pe_ix (ixK K rfl) (pv 0) pe_int (fun _ _ => rfl)) pa_nil)) (pv 2)) pe_int (nomark _)) (pw_or1 (pt_cmpR op_gt (pe_op op_mul (pe_callB (lenK K rfl) rfl T.len PySem.boot_len (pa_cons (pv 0) pa_nil)) (pv 3)) pe_int (nomark _))))) (pss_one (ps_ret (pe_cmpR (eqDK K rfl hu) (pv 6) (pe_tup (pa_cons pe_str (pa_cons (pe_lst (pa_cons pe_bl (pa_cons pe_bl (pa_cons pe_bl pa_nil)))) (pa_cons pe_bl pa_nil)))) (nomark _)))) pss_nil)
        (@r7))))), ?_, ?_⟩
      · intro tt W nn nn2 H1 ok1 a1 a2
        refine ⟨_, rfl, _, rfl, ?_⟩
        refine ⟨_, rfl, _, rfl, (by show 2 ≤ sizeLine; decide), fun L hL => ?_⟩
        have z12 := same_new (o := HO.lst [V.ref tt, .ref W]) hL
        have b1 := a1.mono z12
        have b2 := a2.mono z12
        have ok2 := ok1.same z12
        have eLe := upd_same (H := H1) (a := L) (o := HO.lst [V.ref tt, .ref W])
        generalize upd H1 L (.lst [V.ref tt, .ref W]) = H12 at b1 b2 ok2 eLe ⊢
        refine ⟨(by show 3 ≤ sizeLine; decide), fun m hm => ⟨(by show 3 ≤ sizeLine; decide), fun u hu' => ⟨(by show 1 ≤ sizeLine; decide), fun g hg => ⟨g, 2, _, rfl, rfl, upd_same, by decide, by decide, (by show 1 * 2 ≤ sizeLine; decide), fun r hr' => ?_⟩⟩⟩⟩
        have y4 := same_new (o := HO.lst (List.replicate (2 : Int).toNat [V.ref u]).flatten) hr'
        have y3 := (same_new (o := HO.lst [V.ref u]) hg).trans y4
        have y2 := (same_new (o := HO.tup [V.str "refused", .ref m, .bl true]) hu').trans y3
        have y1 := (same_new (o := HO.lst [V.bl false, .bl false, .bl true]) hm).trans y2
        have e0 : Told _ u m false false true := ⟨y3 _ _ upd_same, y2 _ _ upd_same⟩
        have ok3 := ok2.same y1
        exact ⟨2, L, r, true, by decide, rfl, rfl, EqL.two (y1 _ _ eLe) upd_same (EqL.told (b1.mono y1) e0) (EqL.told (b2.mono y1) e0), k _ (tab.nt ok3.but) ok3.tab⟩
      intro c d Tn W tq H1 c1 d1 ok1 picT frT hW
      have gT0 := thin_good gd c1 d1
      have pa1 := ok1.pic tab pa
      refine ⟨_, rfl, _, rfl, ?_⟩
      refine ⟨_, rfl, _, rfl, _, rfl, _, rfl, a, ps, R, wd, c, d, rfl, pa1, gd, c1, d1, fun D dq H2 s2 hD frD picD => ?_⟩
      refine ⟨Tn, D, tq, dq, _, _, rfl, picT.mono s2, picD, gT0, fun q hq hz => (fresh_out picT frD).1 q hz hq, not_new picT hD, fun H3 s3 => ⟨_, rfl, ?_⟩⟩
      have s13 := s2.trans s3
      have picT3 := picT.mono s13
      have ok3 := ok1.same s13
      refine ⟨_, rfl, Tn, tq, _, _, rfl, picT3, gT0, fun H4 k4 => ?_⟩
      have ok4 := ok3.mark picT3 frT k4
      have pa4 := ok4.pic tab pa
      obtain ⟨q0, r0, e0, hr0, l0, _⟩ := row_of pa4 gd gd.ne
      have eH : (R.length : Int) * (d : Int) = ((R.length * d : Nat) : Int) := by push_cast; rfl
      have eW : (wd : Int) * (c : Int) = ((wd * c : Nat) : Int) := by push_cast; rfl
      have fin : ¬ (wd * c ≤ 24 ∧ R.length * d ≤ 24) → ∃ nn, Told H4 W nn false false true := fun nf => by
        rcases hW with ⟨g1, g2, _⟩ | ⟨_, w1, nn, td, w2⟩
        · exact (nf ⟨g1, g2⟩).elim
        · exact ⟨nn, k4 _ _ (s13 _ _ td.top) w1, k4 _ _ (s13 _ _ td.row) w2⟩
      refine ⟨_, rfl, a, _, _, _, rfl, rfl, SqL.of pa4.top, atI_nat (j := 0) e0, q0, _, rfl, .inl (SqL.of hr0), _, rfl, _, _, rfl, rfl, .inl ⟨by rw [List.length_map, l0]; omega, by rw [List.length_map, l0]; omega⟩, _, _, rfl, rfl, _, rfl, iteB (fun z => ?_) (fun z => ?_)⟩
      · rw [List.length_map, l0, eW] at z
        obtain ⟨nn, td⟩ := fin fun g => by have := of_decide_eq_true z; omega
        refine ⟨_, rfl, (by show 3 ≤ sizeLine; decide), fun m hm => ⟨(by show 3 ≤ sizeLine; decide), fun u hu' => ?_⟩⟩
        have y2 := same_new (o := HO.tup [V.str "refused", .ref m, .bl true]) hu'
        have y1 := (same_new (o := HO.lst [V.bl false, .bl false, .bl true]) hm).trans y2
        have ok5 := ok4.same y1
        exact ⟨1, W, u, true, by decide, rfl, rfl, EqL.told (td.mono y1) ⟨upd_same, y2 _ _ upd_same⟩, k _ (tab.nt ok5.but) ok5.tab⟩
      · rw [List.length_map, l0, eW] at z
        refine ⟨_, rfl, a, _, rfl, .inl (SqL.of pa4.top), _, rfl, _, _, rfl, rfl, .inl ⟨by rw [lenF pa4]; omega, by rw [lenF pa4]; omega⟩, _, _, rfl, rfl, _, rfl, iteB (fun z2 => ?_) (fun z2 => ?_)⟩
        · rw [lenF pa4, eH] at z2
          obtain ⟨nn, td⟩ := fin fun g => by have := of_decide_eq_true z2; omega
          refine ⟨_, rfl, (by show 3 ≤ sizeLine; decide), fun m hm => ⟨(by show 3 ≤ sizeLine; decide), fun u hu' => ?_⟩⟩
          have y2 := same_new (o := HO.tup [V.str "refused", .ref m, .bl true]) hu'
          have y1 := (same_new (o := HO.lst [V.bl false, .bl false, .bl true]) hm).trans y2
          have ok5 := ok4.same y1
          exact ⟨1, W, u, true, by decide, rfl, rfl, EqL.told (td.mono y1) ⟨upd_same, y2 _ _ upd_same⟩, k _ (tab.nt ok5.but) ok5.tab⟩
        · rw [lenF pa4, eH] at z2
          have f1 : wd * c ≤ 24 := by have := of_decide_eq_false z; omega
          have f2 : R.length * d ≤ 24 := by have := of_decide_eq_false z2; omega
          rcases hW with ⟨g1, g2, w1, wq, picW, frW, w2⟩ | ⟨nf, _⟩
          · exact k7 c d W wq _ _ H4 c1 d1 g1 g2 ok4 (PicV.keep k4 (picW.mono s13) w1 w2) frW
          · exact (nf ⟨f1, f2⟩).elim
    obtain ⟨t1, r1, k1⟩ : ∃ tr, PSs ((cxOf CX0 P w K mg base ["_law_picture_here", "_law_handed", "_law_across", "_law_down", "_law_good", "_law_thin_here", "_law_wide", "_law_due", "_law_y"] "_law_steps_right" (defScope s_law_steps_right) f cdv A outer s H E).nox) ((defBody s_law_steps_right).drop 1) tr ∧ tr { nx := fun _ H' => Q .non H', rt := Q } [some (.ref a), some (.ref h), some u1, some u2, some (.bl (isWf 1 u1 && isWf 1 u2)), none, none, none, none] H := by
      refine ⟨_, (pss_cons (ps_set (i := 5) sc_law_steps_right.nd rfl (by first | exact Or.inl rfl | exact Or.inr rfl) (pe_callR0 gB hB (hr.mono (by decide)) rfl (pa_cons (pe_lamC hcdv hC hB (FreeHas.of fhA)) pa_nil)))
        (pss_cons (ps_set (i := 6) sc_law_steps_right.nd rfl (by first | exact Or.inl rfl | exact Or.inr rfl) (pe_callR0 gB hB (hr.mono (by decide)) rfl (pa_cons (pe_lamD hcdv hC hB (FreeHas.of fhB) rfl) pa_nil)))
        (@r3))), ?_⟩
      dsimp only [tSeq, tAsg, tCallR0, tCons, tLamC]
      refine tLamW_of (ts := [p, p2]) (by simp) tab.hts tab.t1 fun f1 c1 H1 bt1 ot1 tb1 hf1 hc1 base' ok cap => ?_
      have ok1 : Ok2 p p2 H H1 := ⟨bt1, AllG.st1 ne tab bt1 ot1 tb1⟩
      have n1 := tab.nt bt1
      have ph1 := n1.pic ph
      refine ⟨f1, _, _, rfl, hf1, lamXA rfl (gT base' ok) clOf_hasL (cells_of cap (FreeHas.of fhA) rfl fun i x y e1 e2 => ?_), fun E' kP kO kS => ⟨hf1, hc1, .ref h, u1, u2, rfl, .inr ⟨h, qs, R, wd, rfl, ph1, gd, ?_⟩⟩⟩
      · match i, e1, e2 with
        | 0, e1, e2 => cases e1; cases e2; exact ⟨by decide +kernel, rfl, 1, rfl, rfl⟩
        | 1, e1, e2 => cases e1; cases e2; exact ⟨by decide +kernel, rfl, 2, rfl, rfl⟩
        | 2, e1, e2 => cases e1; cases e2; exact ⟨by decide +kernel, rfl, 3, rfl, rfl⟩
        | i + 3, e1, e2 => cases e1
      cases hg : (isWf 1 u1 && isWf 1 u2) with
      | false =>
        refine .inl ⟨n1.kd ku1, n1.kd ku2, hg, fun H2 s2 => kS H2 fun nn tt H3 s3 hn ht en et => ?_⟩
        have s13 := s2.trans s3
        have told : Told H3 tt nn false false true := ⟨et, en⟩
        have ok3 := ok1.same s13
        intro T1 hT1
        have z5 := same_new (o := HO.tup [V.int 0]) hT1
        have told5 := told.mono z5
        have ok5 := ok3.same z5
        have eT1 := upd_same (H := H3) (a := T1) (o := HO.tup [V.int 0])
        generalize upd H3 T1 (.tup [.int 0]) = H5 at told5 ok5 eT1 ⊢
        refine tLamW_of (ts := [p, p2]) (by simp) ok5.tab.hts ok5.tab.t1 fun f6 c6 H6 bt6 ot6 tb6 hf6 hc6 base' ok cap => ?_
        have m6 := ok5.tab.nt bt6
        have ok6 : Ok2 p p2 H H6 := ⟨ok5.but.trans bt6, AllG.st1 ne ok5.tab bt6 ot6 tb6⟩
        have n6 := tab.nt ok6.but
        refine ⟨f6, _, _, rfl, hf6, lamXB rfl (gW base' ok) clOf_hasL (cells_of cap (FreeHas.of fhB) rfl fun i x y e1 e2 => ?_), fun E'' kP' kO' kS' => ⟨hf6, hc6, m6.tup eT1, .ref h, u1, u2, rfl, .inr ⟨h, qs, R, wd, rfl, n6.pic ph, gd, .inl ⟨n6.kd ku1, n6.kd ku2, hg, fun H7 s7 => kS' H7 fun nn2 tt2 H8 s8 hn2 ht2 en2 et2 => ?_⟩⟩⟩⟩
        · match i, e1, e2 with
          | 0, e1, e2 => cases e1; cases e2; exact ⟨by decide +kernel, rfl, 1, rfl, rfl⟩
          | 1, e1, e2 => cases e1; cases e2; exact ⟨by decide +kernel, rfl, 2, rfl, rfl⟩
          | 2, e1, e2 => cases e1; cases e2; exact ⟨by decide +kernel, rfl, 3, rfl, rfl⟩
          | i + 3, e1, e2 => cases e1
        have s68 := s7.trans s8
        have a1 : Told H8 tt nn false false true := ⟨s68 _ _ (m6.tup told5.top), s68 _ _ (m6.lst told5.row)⟩
        have a2 : Told H8 tt2 nn2 false false true := ⟨et2, en2⟩
        have kk := k3b tt tt2 nn nn2 H8 (ok6.same s68) a1 a2
        rw [← hg] at kk
        exact kk
      | true =>
        obtain ⟨c, d, rfl, rfl, cc1, dd1, c100, d100⟩ := good_of hg sm1 sm2
        refine .inr ⟨c, d, rfl, rfl, cc1, dd1, c100, d100, fun Tn tq H2 s2 hTn frT picT => ?_⟩
        have ok2 := ok1.same s2
        intro T1 hT1
        have z5 := same_new (o := HO.tup [V.int 0]) hT1
        have picT5 := picT.mono z5
        have ok5 := ok2.same z5
        have eT1 := upd_same (H := H2) (a := T1) (o := HO.tup [V.int 0])
        generalize upd H2 T1 (.tup [.int 0]) = H5 at picT5 ok5 eT1 ⊢
        refine tLamW_of (ts := [p, p2]) (by simp) ok5.tab.hts ok5.tab.t1 fun f6 c6 H6 bt6 ot6 tb6 hf6 hc6 base' ok cap => ?_
        have m6 := ok5.tab.nt bt6
        have ok6 : Ok2 p p2 H H6 := ⟨ok5.but.trans bt6, AllG.st1 ne ok5.tab bt6 ot6 tb6⟩
        have picT6 := m6.pic picT5
        refine ⟨f6, _, _, rfl, hf6, lamXB rfl (gW base' ok) clOf_hasL (cells_of cap (FreeHas.of fhB) rfl fun i x y e1 e2 => ?_), fun E'' kP' kO' kS' => ⟨hf6, hc6, m6.tup eT1, .ref h, _, _, rfl, .inr ⟨h, qs, R, wd, rfl, ok6.pic tab ph, gd, .inr ⟨c, d, rfl, rfl, cc1, dd1, c100, d100, fun nf H7 s7 => kS' H7 fun nn2 tt2 H8 s8 hn2 ht2 en2 et2 => ?_, fun g1 g2 W wq H8 s8 hW frW picW => ?_⟩⟩⟩⟩
        · match i, e1, e2 with
          | 0, e1, e2 => cases e1; cases e2; exact ⟨by decide +kernel, rfl, 1, rfl, rfl⟩
          | 1, e1, e2 => cases e1; cases e2; exact ⟨by decide +kernel, rfl, 2, rfl, rfl⟩
          | 2, e1, e2 => cases e1; cases e2; exact ⟨by decide +kernel, rfl, 3, rfl, rfl⟩
          | i + 3, e1, e2 => cases e1
        · have s68 := s7.trans s8
          exact k3 c d Tn tt2 tq H8 cc1 dd1 (ok6.same s68) (picT6.mono s68) (fun q hq => ok1.back (frT q hq)) (.inr ⟨nf, not_new picT6 (s7.free ht2), nn2, ⟨et2, en2⟩, not_new picT6 (s7.free hn2)⟩)
        · exact k3 c d Tn W tq H8 cc1 dd1 (ok6.same s8) (picT6.mono s8) (fun q hq => ok1.back (frT q hq)) (.inl ⟨g1, g2, not_new picT6 hW, wq, picW, fun q hq => ok6.back (frW q hq), fun q hq hz => (fresh_out picT6 frW).1 q hz hq⟩)
    refine ⟨_, (pss_cons (ps_set (i := 4) sc_law_steps_right.nd rfl (by first | exact Or.inl rfl | exact Or.inr rfl) (pe_and (pe_callD g__law_is_number (hr.mono (by decide)) rfl (pa_cons (pv 2) pa_nil)) (pe_and (pe_callD g__law_is_number (hr.mono (by decide)) rfl (pa_cons (pv 3) pa_nil)) (pe_and (pe_cmpR op_gt (pv 2) pe_int (nomark _)) (pe_one (pe_cmpR op_gt (pv 3) pe_int (nomark _)))))))
        (@r1)), ?_⟩
    refine ⟨_, rfl, u1, rfl, ku1, _, rfl, iteB (fun hI => ?_) (fun hI => ?_)⟩
    · cases u1 with
      | int i =>
        refine ⟨_, rfl, u2, rfl, ku2, _, rfl, iteB (fun hJ => ?_) (fun hJ => ?_)⟩
        · cases u2 with
          | int j =>
            refine ⟨_, rfl, _, _, rfl, rfl, _, rfl, iteB (fun h1 => ⟨_, rfl, _, _, rfl, rfl, ?_⟩) (fun h1 => ?_)⟩
            · have e : (isWf 1 (.int i) && isWf 1 (.int j)) = decide (0 < j) := by
                have := of_decide_eq_true h1
                simp only [isWf]
                rw [Bool.eq_iff_iff]; simp; omega
              rw [e] at k1; exact k1
            · have e : (isWf 1 (.int i) && isWf 1 (.int j)) = false := by
                have := of_decide_eq_false h1
                simp only [isWf]
                simp; omega
              rw [e] at k1; exact k1
          | _ => cases hJ
        · have e : (isWf 1 (.int i) && isWf 1 u2) = false := by cases u2 <;> first | (simp [isWf]; done) | cases hJ
          rw [e] at k1; exact k1
      | _ => cases hI
    · have e : (isWf 1 u1 && isWf 1 u2) = false := by cases u1 <;> first | rfl | cases hI
      rw [e] at k1; exact k1
end
end K9
set_option Elab.async false
set_option linter.all false
set_option maxRecDepth 100000
set_option maxHeartbeats 4000000
namespace K9
open PySem L2 M4
def spLaw (p1 p2 : Addr) (K : PySem.W.Frag) : Sp := fun vs H Q _ => ∃ (a : Addr) (ns : List Int), vs = [.ref a] ∧ SqL K H a (ns.map V.int) ∧ H p1 = some (.tbl #[]) ∧ H p2 = some (.tbl #[]) ∧ ∀ H', Q (.bl true) H'
theorem odd_bad {K : PySem.W.Frag} {H : Hp} {l1 l4 l5 l6 l7 l8 : Addr} {v : V} (e1 : H l1 = some (.lst [])) (e4 : H l4 = some (.lst [.int 16])) (e5 : H l5 = some (.lst [.ref l4]))
    (e6 : H l6 = some (.lst [.int 1])) (e7 : H l7 = some (.lst [.int 1, .int 2])) (e8 : H l8 = some (.lst [.ref l6, .ref l7])) (h : v ∈ [V.non, .ref l1, .ref l5, .ref l8, .str "0"]) : Th K H v ∧ picB H v = false := by
  have bad : ∀ {v}, (picB H v = true → False) → picB H v = false := fun {v} hf => by
    cases hb : picB H v with
    | false => rfl
    | true => exact (hf hb).elim
  have kin : ∀ (ms : List Int), ∀ y ∈ ms.map V.int, Kd K H y := fun ms => kd_ints
  simp only [List.mem_cons, List.not_mem_nil, or_false] at h
  rcases h with rfl | rfl | rfl | rfl | rfl
  · exact ⟨⟨.non, fun xs z => (by cases z), fun xs z => (by cases z)⟩, rfl⟩
  · refine ⟨(Th.lst e1 (Nat.zero_le _) fun x hx => nomatch hx).1, ?_⟩
    unfold picB; rw [rowOf_lst e1]; rfl
  · refine ⟨(Th.lst e5 (by show 1 ≤ 1000; decide) fun x hx => ?_).1, bad fun hb => ?_⟩
    · rw [List.mem_singleton.mp hx]; exact Rw.lst e4 (by decide) (kin [16])
    · have q := ((picB_iff (rowOf_lst e5)).mp hb).2.1 (.ref l4) (by simp)
      have q2 := ((rowQ_iff e4).mp q).1
      cases q2
  · refine ⟨(Th.lst e8 (by show 2 ≤ 1000; decide) fun x hx => ?_).1, bad fun hb => ?_⟩
    · simp only [List.mem_cons, List.not_mem_nil, or_false] at hx
      rcases hx with rfl | rfl
      · exact Rw.lst e6 (by decide) (kin [1])
      · exact Rw.lst e7 (by decide) (kin [1, 2])
    · have q := ((picB_iff (rowOf_lst e8)).mp hb).2.2 (.ref l7) (by simp)
      rw [lenOf_lst e7, show [V.ref l6, .ref l7].headD .non = V.ref l6 from rfl, lenOf_lst e6] at q
      cases q
  · exact ⟨⟨.str _, fun xs z => (by cases z), fun xs z => (by cases z)⟩, rfl⟩
theorem EqL.three {K : PySem.W.Frag} {H : Hp} {n : Nat} {p q x1 x2 x3 y1 y2 y3 : Addr} (hp : H p = some (.lst [.ref x1, .ref x2, .ref x3])) (hq : H q = some (.lst [.ref y1, .ref y2, .ref y3])) (h1 : EqL K H (EqD K H n) x1 y1 true) (h2 : EqL K H (EqD K H n) x2 y2 true) (h3 : EqL K H (EqD K H n) x3 y3 true) : EqL K H (EqD K H (n + 1)) p q true := by
  refine ⟨_, _, .inr ⟨.inl ⟨SqL.of hp, SqL.of hq⟩, rfl, fun _ => true, fun i x y e1 e2 => ?_, rfl⟩⟩
  have one : ∀ {x y : Addr}, EqL K H (EqD K H n) x y true → EqD K H (n + 1) (.ref x) (.ref y) true := fun {x y} e => by
    by_cases h : x = y
    · subst h; exact .inl (EqD.self _)
    · exact .inr ⟨x, y, rfl, rfl, h, e⟩
  match i, e1, e2 with
  | 0, e1, e2 => cases e1; cases e2; exact one h1
  | 1, e1, e2 => cases e1; cases e2; exact one h2
  | 2, e1, e2 => cases e1; cases e2; exact one h3
  | i + 3, e1, e2 => cases e1
theorem lies_int {n a b : Nat} (h1 : 1 ≤ b) (h2 : a + b ≤ n) : lies n (.int (a : Int)) (.int (b : Int)) = true := by
  simp only [lies, Bool.and_eq_true, decide_eq_true_eq]; omega
def CutD (H : Hp) (R : List (List Int)) (wd : Nat) (x0 x1 x2 x3 due : V) : Prop :=
  (due = .non ∧ (lies wd x0 x2 && lies R.length x1 x3) = false) ∨
  ∃ (D : Addr) (dq : List Addr) (l t w' h' : Nat), due = .ref D ∧ x0 = .int (l : Int) ∧ x1 = .int (t : Int) ∧ x2 = .int (w' : Int) ∧ x3 = .int (h' : Int) ∧ 1 ≤ w' ∧ 1 ≤ h' ∧ l + w' ≤ wd ∧ t + h' ≤ R.length ∧ PicV H D dq (ir (cutF R l t w' h'))
section
variable {P : Program} {w : World} {K : PySem.W.Frag} {mg : Str → Option Value} {base : Heap} {cFE cBP cBS cOP : Addr} {tS tC : Tok}
theorem sc_law : FnScope ["_law_script", "_law_picture_here", "_law_handed", "_law_part_here", "_law_due", "_law_turn", "_law_found", "_law_across", "_law_down", "_law_bad", "_law_told"] ["_law_script"] (defScope s_law) := ⟨rfl, rfl, rfl, by decide +kernel, rfl, by decide +kernel, by decide +kernel⟩
theorem ok_law {f c p1 p : Addr} {fd : FuncData} (F : FunD K "law" "law" s_law .none f fd) (hc : fd.code = .ref c) (hC : PySem.W.CodeHd base c p) (hB : BMain mg base) (ne : p1 ≠ p) (T : Txt K mg cFE cBP cBS cOP tS tC)
    (gB : ∀ base', BaseOk K mg base' → Def P w K mg base' 11 "_law_refused" ["_law_deed"] [] (spRef P w K mg cBP cBS cOP base')) (gT : ∀ base', BaseOk K mg base' → DefX P w K mg base' 8 "thinned" ["picture", "across", "down"] [] (spThinned K cBP cBS)) (gW : ∀ base', BaseOk K mg base' → DefX P w K mg base' 9 "widened" ["picture", "across", "down"] [] (spWidened K cBP cBS)) (gC : ∀ base', BaseOk K mg base' → DefX P w K mg base' 9 "cut_out" ["picture", "left", "top", "wide", "high"] [] (spCutOut K cBP cOP))
    (g__law_cell_at : Def P w K mg base 2 "_law_cell_at" ["_law_script", "_law_k"] [] (spCell K)) (g__law_picture : Def P w K mg base 3 "_law_picture" ["_law_script", "_law_at", "_law_most"] [] (spPicture K)) (g__law_copied : Def P w K mg base 2 "_law_copied" ["_law_picture_here"] [] (spCopied K)) (g__law_part : Def P w K mg base 3 "_law_part" ["_law_script", "_law_wide", "_law_high"] [] (spPart K)) (g__law_cut : Def P w K mg base 2 "_law_cut" ["_law_picture_here", "_law_part_here"] [] (spCutL K))
    (g__law_marked : Def P w K mg base 1 "_law_marked" ["_law_found"] [] (spMarked K)) (g__law_is_like : Def P w K mg base 2 "_law_is_like" ["_law_found", "_law_due"] [] (spLike K)) (g__law_step : Def P w K mg base 1 "_law_step" ["_law_cell"] [] (spStep K)) (g__law_steps_right : Def P w K mg base 12 "_law_steps_right" ["_law_picture_here", "_law_handed", "_law_across", "_law_down"] [] (spSR K p1 p)) :
    FnOk P w K mg base CX0 13 f fd ["_law_script"] (spLaw p1 p K) := by
  refine F.okT hc sc_law (fun vs H Q E h => ?_) (fun cdv hcdv A outer s H vs Q E hr h => ?_)
  · obtain ⟨a, ns, rfl, _⟩ := h; rfl
  · obtain ⟨a, ns, rfl, hS, hp1, hp, k⟩ := h
    have hu : _ + 64 < cLine := hr.units
    obtain ⟨t9, r9, k9⟩ : ∃ tr, PSs ((cxOf CX0 P w K mg base ["_law_script", "_law_picture_here", "_law_handed", "_law_part_here", "_law_due", "_law_turn", "_law_found", "_law_across", "_law_down", "_law_bad", "_law_told"] "law" (defScope s_law) f cdv A outer s H E).nox) ((defBody s_law).drop 9) tr ∧
        ∀ (v1 v2 v3 v4 v5 v6 v7 v8 : Option V) (v : V) (H2 : Hp), AllG p1 p H2 → Th K H2 v → picB H2 v = false →
          tr { nx := fun _ H' => Q .non H', rt := Q } [some (.ref a), v1, v2, v3, v4, v5, v6, v7, v8, some v, none] H2 := by
      refine ⟨_, (pss_cons (ps_set (i := 10) sc_law.nd rfl (by first | exact Or.inl rfl | exact Or.inr rfl) (pe_lst (pa_cons (pe_callR0 gB hB (hr.mono (by decide)) rfl (pa_cons (pe_lamC hcdv hC hB (FreeHas.of fhD)) pa_nil)) (pa_cons (pe_callR0 gB hB (hr.mono (by decide)) rfl (pa_cons (pe_lamD hcdv hC hB (FreeHas.of fhE) rfl) pa_nil)) pa_nil))))
        (pss_cons (ps_expr (pe_bm PySem.F.plainAttrs_list PySem.F.slot_list_append PySem.F.type_list_append mt_append (pv 10) (pa_cons (pe_callR0 gB hB (hr.mono (by decide)) rfl (pa_cons (pe_lamD hcdv hC hB (FreeHas.of fhG) rfl) pa_nil)) pa_nil)))
        (pss_one (ps_ret (pe_cmpR (eqDK K rfl hu) (pv 10) (pe_op op_rep (pe_lst (pa_cons (pe_tup (pa_cons pe_str (pa_cons (pe_lst (pa_cons pe_bl (pa_cons pe_bl (pa_cons pe_bl pa_nil)))) (pa_cons pe_bl pa_nil)))) pa_nil)) pe_int) (nomark _)))))), ?_⟩
      intro v1 v2 v3 v4 v5 v6 v7 v8 v H2 tab th hb
      dsimp only [tSeq, tAsg, tLst, tCallR0, tCons, tLamC]
      refine tLamW_of (ts := [p1, p]) (by simp) tab.hts tab.t2 fun f1 c1 H4 bt4 ot4 tb4 hf4 hc4 base' ok cap => ?_
      have n4 := tab.nt bt4
      have tab4 := AllG.st2 ne tab bt4 ot4 tb4
      have th4 := n4.th th
      have hb4 : picB H4 v = false := by rw [n4.picB th]; exact hb
      refine ⟨f1, _, _, rfl, hf4, lamXD rfl (gC base' ok) clOf_hasL (cells_of cap (FreeHas.of fhD) rfl fun i x y e1 e2 => ?_), fun E' kP kO kS => ⟨hf4, hc4, v, .non, .int 0, .int 0, .int 0, rfl, .inl ⟨th4, hb4, fun H5 s5 => kP H5 fun n1 t1 H6 s6 hn1 ht1 en1 et1 => ?_⟩⟩⟩
      · match i, e1, e2 with
        | 0, e1, e2 => cases e1; cases e2; exact ⟨by decide +kernel, rfl, 9, rfl, rfl⟩
        | i + 1, e1, e2 => cases e1
      have s46 := s5.trans s6
      have tab6 := tab4.mono s46
      have th6 := th4.mono s46
      have hb6 : picB H6 v = false := by rw [picB_mono th4 s46]; exact hb4
      have told1 : Told H6 t1 n1 true false false := ⟨et1, en1⟩
      intro T2 hT2
      have z8 := same_new (o := HO.tup [V.int 0]) hT2
      have tab8 := tab6.mono z8
      have th8 := th6.mono z8
      have hb8 : picB (upd H6 T2 (.tup [.int 0])) v = false := by rw [picB_mono th6 z8]; exact hb6
      have told8 := told1.mono z8
      have eT2 := upd_same (H := H6) (a := T2) (o := HO.tup [V.int 0])
      generalize upd H6 T2 (.tup [.int 0]) = H8 at tab8 th8 hb8 told8 eT2 ⊢
      refine tLamW_of (ts := [p1, p]) (by simp) tab8.hts tab8.t2 fun f2 c2 H9 bt9 ot9 tb9 hf9 hc9 base' ok cap => ?_
      have n9 := tab8.nt bt9
      have tab9 := AllG.st2 ne tab8 bt9 ot9 tb9
      have th9 := n9.th th8
      have hb9 : picB H9 v = false := by rw [n9.picB th8]; exact hb8
      refine ⟨f2, _, _, rfl, hf9, lamXE rfl (gT base' ok) clOf_hasL (cells_of cap (FreeHas.of fhE) rfl fun i x y e1 e2 => ?_), fun E' kP kO kS => ⟨hf9, hc9, n9.tup eT2, v, .int 0, .int 0, rfl, .inl ⟨th9, hb9, fun H10 s10 => kP H10 fun n2 t2 H11 s11 hn2 ht2 en2 et2 => ?_⟩⟩⟩
      · match i, e1, e2 with
        | 0, e1, e2 => cases e1; cases e2; exact ⟨by decide +kernel, rfl, 9, rfl, rfl⟩
        | i + 1, e1, e2 => cases e1
      have s911 := s10.trans s11
      have tab11 := tab9.mono s911
      have th11 := th9.mono s911
      have hb11 : picB H11 v = false := by rw [picB_mono th9 s911]; exact hb9
      have a1 : Told H11 t1 n1 true false false := ⟨s911 _ _ (n9.tup told8.top), s911 _ _ (n9.lst told8.row)⟩
      have a2 : Told H11 t2 n2 true false false := ⟨et2, en2⟩
      refine ⟨(by show 2 ≤ sizeLine; decide), fun L hL => ?_⟩
      have z12 := same_new (o := HO.lst [V.ref t1, .ref t2]) hL
      have b1 := a1.mono z12
      have b2 := a2.mono z12
      have tab12 := tab11.mono z12
      have th12 := th11.mono z12
      have hb12 : picB (upd H11 L (.lst [V.ref t1, .ref t2])) v = false := by rw [picB_mono th11 z12]; exact hb11
      have eLe := upd_same (H := H11) (a := L) (o := HO.lst [V.ref t1, .ref t2])
      generalize upd H11 L (.lst [V.ref t1, .ref t2]) = H12 at b1 b2 tab12 th12 hb12 eLe ⊢
      refine ⟨_, rfl, .inl ⟨rfl, _, SqL.of eLe⟩, ?_⟩
      dsimp only [tCallR0, tCons, tLamC]
      intro T3 hT3
      have z13 := same_new (o := HO.tup [V.int 0]) hT3
      have tab13 := tab12.mono z13
      have th13 := th12.mono z13
      have hb13 : picB (upd H12 T3 (.tup [.int 0])) v = false := by rw [picB_mono th12 z13]; exact hb12
      have c1' := b1.mono z13
      have c2' := b2.mono z13
      have eL13 := z13 _ _ eLe
      have eT3 := upd_same (H := H12) (a := T3) (o := HO.tup [V.int 0])
      generalize upd H12 T3 (.tup [.int 0]) = H13 at tab13 th13 hb13 c1' c2' eL13 eT3 ⊢
      refine tLamW_of (ts := [p1, p]) (by simp) tab13.hts tab13.t2 fun f3 c3 H14 bt14 ot14 tb14 hf14 hc14 base' ok cap => ?_
      have n14 := tab13.nt bt14
      have th14 := n14.th th13
      have hb14 : picB H14 v = false := by rw [n14.picB th13]; exact hb13
      refine ⟨f3, _, _, rfl, hf14, lamXG rfl (gW base' ok) clOf_hasL (cells_of cap (FreeHas.of fhG) rfl fun i x y e1 e2 => ?_), fun E' kP kO kS => ⟨hf14, hc14, n14.tup eT3, v, .int 0, .int 0, rfl, .inl ⟨th14, hb14, fun H15 s15 => kP H15 fun n3 t3 H16 s16 hn3 ht3 en3 et3 => ?_⟩⟩⟩
      · match i, e1, e2 with
        | 0, e1, e2 => cases e1; cases e2; exact ⟨by decide +kernel, rfl, 9, rfl, rfl⟩
        | i + 1, e1, e2 => cases e1
      have s1416 := s15.trans s16
      have d1 : Told H16 t1 n1 true false false := ⟨s1416 _ _ (n14.tup c1'.top), s1416 _ _ (n14.lst c1'.row)⟩
      have d2 : Told H16 t2 n2 true false false := ⟨s1416 _ _ (n14.tup c2'.top), s1416 _ _ (n14.lst c2'.row)⟩
      have d3 : Told H16 t3 n3 true false false := ⟨et3, en3⟩
      have eL16 := s1416 _ _ (n14.lst eL13)
      have other : ∀ {tt nn : Addr}, Told H16 tt nn true false false → Told (upd H16 L (.lst ([V.ref t1, .ref t2] ++ [.ref t3]))) tt nn true false false := fun {tt nn} h => by
        have n1 : tt ≠ L := fun z => by have e := h.top; rw [z, eL16] at e; cases e
        have n2 : nn ≠ L := fun z => by have e := h.row; rw [z, eL16] at e; cases e
        exact ⟨by rw [upd_ne n1]; exact h.top, by rw [upd_ne n2]; exact h.row⟩
      refine ⟨L, _, _, rfl, rfl, eL16, (by show 2 < sizeLine; decide), ?_⟩
      have f1' := other d1
      have f2' := other d2
      have f3' := other d3
      have eLf := upd_same (H := H16) (a := L) (o := HO.lst ([V.ref t1, .ref t2] ++ [.ref t3]))
      generalize upd H16 L (.lst ([V.ref t1, .ref t2] ++ [.ref t3])) = H17 at f1' f2' f3' eLf ⊢
      refine ⟨_, rfl, (by show 3 ≤ sizeLine; decide), fun m hm => ⟨(by show 3 ≤ sizeLine; decide), fun u hu' => ⟨(by show 1 ≤ sizeLine; decide), fun g hg => ⟨g, 3, _, rfl, rfl, upd_same, by decide, by decide, (by show 1 * 3 ≤ sizeLine; decide), fun r hr' => ?_⟩⟩⟩⟩
      have y4 := same_new (o := HO.lst (List.replicate (3 : Int).toNat [V.ref u]).flatten) hr'
      have y3 := (same_new (o := HO.lst [V.ref u]) hg).trans y4
      have y2 := (same_new (o := HO.tup [V.str "refused", .ref m, .bl true]) hu').trans y3
      have y1 := (same_new (o := HO.lst [V.bl true, .bl false, .bl false]) hm).trans y2
      have e0 : Told _ u m true false false := ⟨y3 _ _ upd_same, y2 _ _ upd_same⟩
      exact ⟨2, L, r, true, by decide, rfl, rfl, EqL.three (y1 _ _ eLf) upd_same (EqL.told (f1'.mono y1) e0) (EqL.told (f2'.mono y1) e0) (EqL.told (f3'.mono y1) e0), k _⟩
    obtain ⟨px, q1, q2, q3, z1, z2, z3, z4, z5, z6, j1, j2, e1, e2, e3, e4, e5, hsh, l1, l2, l3, l4, l5⟩ : ∃ (px q1 q2 q3 z1 z2 z3 z4 z5 z6 : Pos) (j1 j2 : Nat) (e1 e2 e3 e4 e5 : PySem.Expr), (defBody s_law)[8]? = some (.Assign [.Name "_law_bad" px] (.Subscript (.List [e1, e2, e3, e4, e5] q1) (.BinOp (.Call (.Name "_law_cell_at" z1) [(.Name "_law_script" z2), (.Constant (.int 8) j1 z3)] [] z4) .Mod (.Constant (.int 5) j2 z5) z6) q2) q3) ∧ LitE e1 (L2.tC .non) ∧ LitE e2 (tLst tNil) ∧ LitE e3 (tLst (tCons (tLst (tCons (L2.tC (.int 16)) tNil)) tNil)) ∧ LitE e4 (tLst (tCons (tLst (tCons (L2.tC (.int 1)) tNil)) (tCons (tLst (tCons (L2.tC (.int 1)) (tCons (L2.tC (.int 2)) tNil))) tNil))) ∧ LitE e5 (L2.tC (.str "0")) := ⟨_, _, _, _, _, _, _, _, _, _, _, _, _, _, _, _, _, rfl, lit_non, (lit_lst la_nil), (lit_lst (la_cons (lit_lst (la_cons lit_int la_nil)) la_nil)), (lit_lst (la_cons (lit_lst (la_cons lit_int la_nil)) (la_cons (lit_lst (la_cons lit_int (la_cons lit_int la_nil))) la_nil))), lit_str⟩
    have hx : PE (cxOf CX0 P w K mg base ["_law_script", "_law_picture_here", "_law_handed", "_law_part_here", "_law_due", "_law_turn", "_law_found", "_law_across", "_law_down", "_law_bad", "_law_told"] "law" (defScope s_law) f cdv A outer s H E).nox (.BinOp (.Call (.Name "_law_cell_at" z1) [(.Name "_law_script" z2), (.Constant (.int 8) j1 z3)] [] z4) .Mod (.Constant (.int 5) j2 z5) z6) _ := (pe_op op_mod (pe_callD g__law_cell_at (hr.mono (by decide)) rfl (pa_cons (pv 0) (pa_cons pe_int pa_nil))) pe_int)
    have h8 := ps_set (X := (cxOf CX0 P w K mg base ["_law_script", "_law_picture_here", "_law_handed", "_law_part_here", "_law_due", "_law_turn", "_law_found", "_law_across", "_law_down", "_law_bad", "_law_told"] "law" (defScope s_law) f cdv A outer s H E).nox) (i := 9) (x := "_law_bad") (pos' := px) (pos := q3) sc_law.nd rfl (by first | exact Or.inl rfl | exact Or.inr rfl) (pe_ix (pos := q2) (ixK K rfl) (pe_lst (pos := q1) ((la_cons l1 (la_cons l2 (la_cons l3 (la_cons l4 (la_cons l5 la_nil))))).pa _)) hx (fun _ _ => rfl))
    obtain ⟨bd, hbd⟩ : ∃ bd, bd = defBody s_law := ⟨_, rfl⟩
    rw [← hbd] at hsh r9
    have r8 := pss_at 9 hsh rfl (@h8) (@r9)
    subst hbd
    obtain ⟨t5, r5, k5⟩ : ∃ tr, PSs ((cxOf CX0 P w K mg base ["_law_script", "_law_picture_here", "_law_handed", "_law_part_here", "_law_due", "_law_turn", "_law_found", "_law_across", "_law_down", "_law_bad", "_law_told"] "law" (defScope s_law) f cdv A outer s H E).nox) ((defBody s_law).drop 5) tr ∧
        ∀ (A1 h0 : Addr) (p1' q1' : List Addr) (R : List (List Int)) (wd : Nat) (v3 v4 v5 v6 : Option V) (H2 : Hp), SqL K H2 a (ns.map V.int) → PicV H2 A1 p1' (ir R) → PicV H2 h0 q1' (ir R) → Good R wd → AllG p1 p H2 →
          tr { nx := fun _ H' => Q .non H', rt := Q } [some (.ref a), some (.ref A1), some (.ref h0), v3, v4, v5, v6, none, none, none, none] H2 := by
      refine ⟨_, (pss_cons (ps_set (i := 7) sc_law.nd rfl (by first | exact Or.inl rfl | exact Or.inr rfl) (pe_callD g__law_step (hr.mono (by decide)) rfl (pa_cons (pe_callD g__law_cell_at (hr.mono (by decide)) rfl (pa_cons (pv 0) (pa_cons pe_int pa_nil))) pa_nil)))
        (pss_cons (ps_set (i := 8) sc_law.nd rfl (by first | exact Or.inl rfl | exact Or.inr rfl) (pe_callD g__law_step (hr.mono (by decide)) rfl (pa_cons (pe_callD g__law_cell_at (hr.mono (by decide)) rfl (pa_cons (pv 0) (pa_cons pe_int pa_nil))) pa_nil)))
        (pss_cons (ps_if (PW.pt (pw_or (pt_not (pt_val (pe_callD g__law_steps_right (hr.mono (by decide)) rfl (pa_cons (pv 1) (pa_cons (pv 2) (pa_cons (pv 7) (pa_cons (pv 8) pa_nil))))))) (pw_or1 (pt_cmpR (neDK K rfl hu) (pv 2) (pv 1) (nomark _))))) (pss_one (ps_ret pe_bl)) pss_nil)
        (@r8)))), ?_⟩
      intro A1 h0 ps qs R wd v3 v4 v5 v6 H2 sq2 pa ph gd tab
      refine ⟨_, rfl, a, ns, 6, rfl, sq2, _, rfl, fun u1 H3 s3 ku1 sm1 => ?_⟩
      refine ⟨_, rfl, a, ns, 7, rfl, s3.seq sq2, _, rfl, fun u2 H3' s3' ku2 sm2 => ?_⟩
      have s23 := s3.trans s3'
      refine ⟨_, rfl, _, rfl, _, rfl, _, rfl, A1, h0, ps, qs, R, wd, u1, u2, rfl, pa.mono s23, ph.mono s23, gd, ku1.mono s3', ku2, sm1, sm2, tab.mono s23, fun H4 n4 tab4 => ⟨_, rfl, ?_⟩⟩
      have pa4 := n4.pic (pa.mono s23)
      have ph4 := n4.pic (ph.mono s23)
      have sq4 := n4.sq (s23.seq sq2)
      refine ⟨_, rfl, _, rfl, 1, h0, A1, true, by decide, rfl, rfl, EqL.pic ph4 pa4, _, rfl, ?_⟩
      refine ⟨Nat.zero_le _, fun l1 g1 => ⟨(by show 1 ≤ sizeLine; decide), fun l4 g4 => ⟨(by show 1 ≤ sizeLine; decide), fun l5 g5 => ⟨(by show 1 ≤ sizeLine; decide), fun l6 g6 => ⟨(by show 2 ≤ sizeLine; decide), fun l7 g7 => ⟨(by show 2 ≤ sizeLine; decide), fun l8 g8 => ⟨(by show 5 ≤ sizeLine; decide), fun l9 g9 => ?_⟩⟩⟩⟩⟩⟩⟩
      have y9 := same_new (o := HO.lst [V.non, .ref l1, .ref l5, .ref l8, .str "0"]) g9
      have y8 := (same_new (o := HO.lst [.ref l6, .ref l7]) g8).trans y9
      have y7 := (same_new (o := HO.lst [.int 1, .int 2]) g7).trans y8
      have y6 := (same_new (o := HO.lst [.int 1]) g6).trans y7
      have y5 := (same_new (o := HO.lst [.ref l4]) g5).trans y6
      have y4 := (same_new (o := HO.lst [.int 16]) g4).trans y5
      have y1 := (same_new (o := HO.lst []) g1).trans y4
      have e1 := y4 _ _ (upd_same (o := HO.lst []))
      have e4 := y5 _ _ (upd_same (o := HO.lst [.int 16]))
      have e5 := y6 _ _ (upd_same (o := HO.lst [.ref l4]))
      have e6 := y7 _ _ (upd_same (o := HO.lst [.int 1]))
      have e7 := y8 _ _ (upd_same (o := HO.lst [.int 1, .int 2]))
      have e8 := y9 _ _ (upd_same (o := HO.lst [.ref l6, .ref l7]))
      have e9 := upd_same (H := upd (upd (upd (upd (upd (upd H4 l1 (.lst [])) l4 (.lst [.int 16])) l5 (.lst [.ref l4])) l6 (.lst [.int 1])) l7 (.lst [.int 1, .int 2])) l8 (.lst [.ref l6, .ref l7])) (a := l9) (o := HO.lst [V.non, .ref l1, .ref l5, .ref l8, .str "0"])
      have tab10 := tab4.mono y1
      have sq10 := y1.seq sq4
      generalize upd (upd (upd (upd (upd (upd (upd H4 l1 (.lst [])) l4 (.lst [.int 16])) l5 (.lst [.ref l4])) l6 (.lst [.int 1])) l7 (.lst [.int 1, .int 2])) l8 (.lst [.ref l6, .ref l7])) l9 (.lst [V.non, .ref l1, .ref l5, .ref l8, .str "0"]) = H10 at e1 e4 e5 e6 e7 e8 e9 tab10 sq10 ⊢
      obtain ⟨v, hv', hvm⟩ : ∃ v, atI [V.non, .ref l1, .ref l5, .ref l8, .str "0"] (ns.getD 8 0 % 5) = some v ∧ v ∈ [V.non, .ref l1, .ref l5, .ref l8, .str "0"] := atI_mem (Int.emod_nonneg _ (by decide)) (Int.emod_lt_of_pos _ (by decide))
      obtain ⟨th, hb⟩ := odd_bad (K := K) e1 e4 e5 e6 e7 e8 hvm
      refine ⟨_, rfl, a, ns, 8, rfl, sq10, _, _, rfl, rfl, (by show (0 : Int) < 5; decide), l9, _, _, v, rfl, rfl, SqL.of e9, hv', ?_⟩
      exact k9 _ _ _ _ _ _ _ _ v H10 tab10 th hb
    obtain ⟨t4, r4, k4⟩ : ∃ tr, PSs ((cxOf CX0 P w K mg base ["_law_script", "_law_picture_here", "_law_handed", "_law_part_here", "_law_due", "_law_turn", "_law_found", "_law_across", "_law_down", "_law_bad", "_law_told"] "law" (defScope s_law) f cdv A outer s H E).nox) ((defBody s_law).drop 4) tr ∧
        ∀ (A1 h0 pt : Addr) (ps qs : List Addr) (R : List (List Int)) (wd : Nat) (x0 x1 x2 x3 due : V) (H2 : Hp), SqL K H2 a (ns.map V.int) → PicV H2 A1 ps (ir R) → PicV H2 h0 qs (ir R) → Good R wd → H2 pt = some (.lst [x0, x1, x2, x3]) → Kd K H2 x0 → Kd K H2 x1 → Kd K H2 x2 → Kd K H2 x3 → CutD H2 R wd x0 x1 x2 x3 due → AllG p1 p H2 →
          tr { nx := fun _ H' => Q .non H', rt := Q } [some (.ref a), some (.ref A1), some (.ref h0), some (.ref pt), some due, none, none, none, none, none, none] H2 := by
      refine ⟨_, (pss_cons (ps_for PassesOwn.never rfl (pi_range1 rfl T.range (pa_cons pe_int pa_nil)) (pg_name (i := 5) sc_law.nd rfl (by first | exact Or.inl rfl | exact Or.inr rfl)) (pss_cons (ps_set (i := 6) sc_law.nd rfl (by first | exact Or.inl rfl | exact Or.inr rfl) (pe_callR0 gB hB (hr.mono (by decide)) rfl (pa_cons (pe_lamC hcdv hC hB (FreeHas.of fhC)) pa_nil)))
        (pss_one (ps_if (pt_cmp (pc_isN (pv 4))) (pss_one (ps_if (pt_cmpR (neDK K rfl hu) (pv 6) (pe_tup (pa_cons pe_str (pa_cons (pe_lst (pa_cons pe_bl (pa_cons pe_bl (pa_cons pe_bl pa_nil)))) (pa_cons pe_bl pa_nil)))) (nomark _)) (pss_one (ps_ret pe_bl)) pss_nil)) (pss_one (ps_if (pt_not (pt_val (pe_callD g__law_is_like (hr.mono (by decide)) rfl (pa_cons (pv 6) (pa_cons (pv 4) pa_nil))))) (pss_one (ps_ret pe_bl)) (pss_one (ps_expr (pe_callD g__law_marked (hr.mono (by decide)) rfl (pa_cons (pv 6) pa_nil))))))))))
        (@r5)), ?_⟩
      intro A1 h0 pt ps qs R wd x0 x1 x2 x3 due H2 sq2 pa ph gd ept e0 e1 e2 e3 hd tab
      refine ⟨2, rfl, by decide, by decide, ?_⟩
      refine for_range (n := 2) (fun i σ H3 => Ok2 p1 p H2 H3 ∧ ∃ (v5 v6 : Option V), σ = [some (.ref a), some (.ref A1), some (.ref h0), some (.ref pt), some due, v5, v6, none, none, none, none]) ⟨⟨ButL.of (Same.refl _), tab⟩, none, none, rfl⟩ ?_ ?_
      · rintro i σ H3 hi ⟨ok3, v5, v6, rfl⟩
        dsimp only [tSeq, tAsg, tCallR0, tCons, tLamC, gName, List.set_cons_zero, List.set_cons_succ]
        refine tLamW_of (ts := [p1, p]) (by simp) ok3.tab.hts ok3.tab.t2 fun f1 c1 H4 bt4 ot4 tb4 hf4 hc4 base' ok cap => ?_
        have ok4 : Ok2 p1 p H2 H4 := ⟨ok3.but.trans bt4, AllG.st2 ne ok3.tab bt4 ot4 tb4⟩
        have n4 := tab.nt ok4.but
        rcases hd with ⟨rfl, hl⟩ | ⟨D, dq, l, t, w', h', rfl, rfl, rfl, rfl, rfl, b1, b2, b3, b4, picD⟩
        · refine ⟨f1, _, _, rfl, hf4, lamXC rfl (gC base' ok) clOf_hasL (cells_of cap (FreeHas.of fhC) rfl fun i x y e1 e2 => ?_), fun E' kP kO kS => ⟨hf4, hc4, x0, x1, x2, x3, n4.lst ept, .ref h0, x0, x1, x2, x3, rfl, .inr ⟨h0, qs, R, wd, rfl, n4.pic ph, gd, n4.kd e0, n4.kd e1, n4.kd e2, n4.kd e3, fun _ H5 s5 => kO H5 fun nn tt H6 s6 hn ht en et => ?_, fun l t w' h' y0 y1 y2 y3 b1 b2 b3 b4 => ?_⟩⟩⟩
          · match i, e1, e2 with
            | 0, e1, e2 => cases e1; cases e2; exact ⟨by decide +kernel, rfl, 2, rfl, rfl⟩
            | 1, e1, e2 => cases e1; cases e2; exact ⟨by decide +kernel, rfl, 3, rfl, rfl⟩
            | i + 2, e1, e2 => cases e1
          · have told : Told H6 tt nn false true false := ⟨et, en⟩
            refine ⟨_, rfl, _, rfl, ?_⟩
            refine ⟨_, rfl, (by show 3 ≤ sizeLine; decide), fun m hm => ⟨(by show 3 ≤ sizeLine; decide), fun u hu' => ?_⟩⟩
            have y2 := same_new (o := HO.tup [V.str "refused", .ref m, .bl true]) hu'
            have y1 := (same_new (o := HO.lst [V.bl false, .bl true, .bl false]) hm).trans y2
            exact ⟨1, tt, u, true, by decide, rfl, rfl, EqL.told (told.mono y1) ⟨upd_same, y2 _ _ upd_same⟩, _, rfl, ok4.same ((s5.trans s6).trans y1), _, _, rfl⟩
          · subst y0 y1 y2 y3
            rw [lies_int b1 b3, lies_int b2 b4] at hl; cases hl
        · refine ⟨f1, _, _, rfl, hf4, lamXC rfl (gC base' ok) clOf_hasL (cells_of cap (FreeHas.of fhC) rfl fun i x y e1 e2 => ?_), fun E' kP kO kS => ⟨hf4, hc4, _, _, _, _, n4.lst ept, .ref h0, _, _, _, _, rfl, .inr ⟨h0, qs, R, wd, rfl, n4.pic ph, gd, .int _, .int _, .int _, .int _, fun hl => ?_, fun l2 t2 w2 h2 y0 y1 y2 y3 _ _ _ _ Fd fq H5 s5 hFd frF picF => ?_⟩⟩⟩
          · match i, e1, e2 with
            | 0, e1, e2 => cases e1; cases e2; exact ⟨by decide +kernel, rfl, 2, rfl, rfl⟩
            | 1, e1, e2 => cases e1; cases e2; exact ⟨by decide +kernel, rfl, 3, rfl, rfl⟩
            | i + 2, e1, e2 => cases e1
          · rw [lies_int b1 b3, lies_int b2 b4] at hl; cases hl
          · have x0 : l = l2 := by cases y0; rfl
            have x1 : t = t2 := by cases y1; rfl
            have x2 : w' = w2 := by cases y2; rfl
            have x3 : h' = h2 := by cases y3; rfl
            subst x0 x1 x2 x3
            have gC0 := cut_good gd b3 b4 b1 b2
            have picD4 := n4.pic picD
            refine ⟨_, rfl, _, rfl, ?_⟩
            refine ⟨_, rfl, _, rfl, Fd, D, fq, dq, _, _, rfl, picF, picD4.mono s5, gC0, (fresh_out picD4 frF).1, (fresh_out picD4 frF).2, fun H6 s6 => ⟨_, rfl, ?_⟩⟩
            refine ⟨_, rfl, Fd, fq, _, _, rfl, picF.mono s6, gC0, fun H7 k7 => ⟨((ok4.same s5).same s6).mark (picF.mono s6) (fun q hq => ok4.back (frF q hq)) k7, _, _, rfl⟩⟩
      · rintro σ H3 ⟨ok3, v5, v6, rfl⟩
        exact k5 A1 h0 ps qs R wd _ _ _ _ H3 ((tab.nt ok3.but).sq sq2) (ok3.pic tab pa) (ok3.pic tab ph) gd ok3.tab
    refine ⟨_, (pss_cons (ps_set (i := 1) sc_law.nd rfl (by first | exact Or.inl rfl | exact Or.inr rfl) (pe_callD g__law_picture (hr.mono (by decide)) rfl (pa_cons (pv 0) (pa_cons pe_int (pa_cons pe_int pa_nil)))))
        (pss_cons (ps_set (i := 2) sc_law.nd rfl (by first | exact Or.inl rfl | exact Or.inr rfl) (pe_callD g__law_copied (hr.mono (by decide)) rfl (pa_cons (pv 1) pa_nil)))
        (pss_cons (ps_set (i := 3) sc_law.nd rfl (by first | exact Or.inl rfl | exact Or.inr rfl) (pe_callD g__law_part (hr.mono (by decide)) rfl (pa_cons (pv 0) (pa_cons (pe_callB (lenK K rfl) rfl T.len PySem.boot_len (pa_cons (pe_ix (ixK K rfl) (pv 1) pe_int (fun _ _ => rfl)) pa_nil)) (pa_cons (pe_callB (lenK K rfl) rfl T.len PySem.boot_len (pa_cons (pv 1) pa_nil)) pa_nil)))))
        (pss_cons (ps_set (i := 4) sc_law.nd rfl (by first | exact Or.inl rfl | exact Or.inr rfl) (pe_callD g__law_cut (hr.mono (by decide)) rfl (pa_cons (pv 1) (pa_cons (pv 3) pa_nil))))
        (@r4))))), ?_⟩
    have tab0 : AllG p1 p H := ⟨TabG.start hp1, TabG.start hp⟩
    refine ⟨_, rfl, a, ns, rfl, hS, fun A1 ps R wd H1 s1 hA1 fr1 pa gd => ?_⟩
    refine ⟨_, rfl, A1, ps, ir R, rfl, pa.top, pa.row, by rw [ir_len]; exact Nat.le_trans gd.le (by decide), fun h0 qs H2 s2 hh0 fr2 ph => ?_⟩
    have pa2 := pa.mono s2
    obtain ⟨q0, r0, e0, hr0, l0, _⟩ := row_of pa2 gd gd.ne
    have s02 := s1.trans s2
    have hargs : [V.ref a, .int ((r0.map V.int).length : Int), .int ((ps.map V.ref).length : Int)] = [V.ref a, .int (wd : Int), .int (R.length : Int)] := by rw [lenF pa2, List.length_map, l0]
    refine ⟨_, rfl, _, rfl, A1, _, _, _, rfl, rfl, SqL.of pa2.top, atI_nat (j := 0) e0, q0, _, rfl, .inl (SqL.of hr0), _, rfl, A1, _, rfl, .inl (SqL.of pa2.top), a, ns, wd, R.length, hargs, s02.seq hS, gd.w1, gd.w24, gd.ne, gd.le, fun pt x0 x1 x2 x3 H3 s3 hpt ept g0 g1 g2 g3 => ?_⟩
    have s03 := s02.trans s3
    refine ⟨_, rfl, _, rfl, A1, pt, ps, R, wd, x0, x1, x2, x3, rfl, pa2.mono s3, gd, ept, g0, g1, g2, g3, fun hl H4 s4 => ?_, fun l t w' h' y0 y1 y2 y3 b1 b2 b3 b4 D dq H4 s4 hD frD picD => ?_⟩
    · have s24 := s3.trans s4
      exact k4 A1 h0 pt ps qs R wd x0 x1 x2 x3 .non H4 ((s03.trans s4).seq hS) (pa2.mono s24) (ph.mono s24) gd (s4 _ _ ept) (g0.mono s4) (g1.mono s4) (g2.mono s4) (g3.mono s4) (.inl ⟨rfl, hl⟩) (tab0.mono (s03.trans s4))
    · have s24 := s3.trans s4
      exact k4 A1 h0 pt ps qs R wd x0 x1 x2 x3 (.ref D) H4 ((s03.trans s4).seq hS) (pa2.mono s24) (ph.mono s24) gd (s4 _ _ ept) (g0.mono s4) (g1.mono s4) (g2.mono s4) (g3.mono s4) (.inr ⟨D, dq, l, t, w', h', rfl, y0, y1, y2, y3, b1, b2, b3, b4, picD⟩) (tab0.mono (s03.trans s4))
end
end K9
set_option Elab.async false
set_option linter.all false
namespace L2
open PySem
theorem len0 {us : List Value} (h : us.length = 0) : us = [] := List.eq_nil_of_length_eq_zero h
theorem lenS {us : List Value} {n : Nat} (h : us.length = n + 1) : ∃ a r, us = a :: r ∧ r.length = n := by
  cases us with
  | nil => exact absurd h (Nat.succ_ne_zero n).symm
  | cons a r => exact ⟨a, r, rfl, Nat.succ.inj h⟩
theorem len1 {us : List Value} (h : us.length = 1) : ∃ a, us = [a] := by
  obtain ⟨a, r, rfl, h2⟩ := lenS h; cases len0 h2; exact ⟨a, rfl⟩
theorem len2 {us : List Value} (h : us.length = 2) : ∃ a b, us = [a, b] := by
  obtain ⟨a, r, rfl, h2⟩ := lenS h; obtain ⟨b, rfl⟩ := len1 h2; exact ⟨a, b, rfl⟩
theorem len3 {us : List Value} (h : us.length = 3) : ∃ a b c, us = [a, b, c] := by
  obtain ⟨a, r, rfl, h2⟩ := lenS h; obtain ⟨b, c, rfl⟩ := len2 h2; exact ⟨a, b, c, rfl⟩
theorem len4 {us : List Value} (h : us.length = 4) : ∃ a b c d, us = [a, b, c, d] := by
  obtain ⟨a, r, rfl, h2⟩ := lenS h; obtain ⟨b, c, d, rfl⟩ := len3 h2; exact ⟨a, b, c, d, rfl⟩
theorem len5 {us : List Value} (h : us.length = 5) : ∃ a b c d e, us = [a, b, c, d, e] := by
  obtain ⟨a, r, rfl, h2⟩ := lenS h; obtain ⟨b, c, d, e, rfl⟩ := len4 h2; exact ⟨a, b, c, d, e, rfl⟩
end L2
set_option Elab.async false
set_option linter.all false
set_option maxRecDepth 100000
set_option maxHeartbeats 8000000
namespace K9
open PySem L2
theorem all_mk {l : PySem.W.OpenLaw} {w : World} {K : PySem.W.Frag} {h : Heap} {mg : Str → Option Value} {fa : Addr} (X : K.In h) (G : h.Ns mainGlobals mg) (hfa : mg "law" = some (.ref fa)) {cR pR cL pL : Addr}
    {f1 f2 f3 f4 f5 f6 f7 f8 f9 f10 f11 f12 f13 f14 f15 f16 f17 f18 f19 f20 f21 f22 f23 f24 f25 f26 f27 f28 f29 f30 f31 f32 cFE cBP cBS cOP : Addr} {tS tC : Tok} {od1 an1 od2 an2 od3 an3 od4 an4 od5 an5 od6 an6 od7 an7 od8 an8 od9 an9 od10 an10 od11 an11 od12 an12 od13 an13 od14 an14 od15 an15 od16 an16 od17 an17 od18 an18 od19 an19 od20 an20 od21 an21 od22 an22 od23 an23 od24 an24 od25 an25 od26 an26 od27 an27 od28 an28 od29 an29 od30 an30 od31 an31 od32 an32 : Option Addr} {sl1 sl2 sl3 sl4 sl5 sl6 sl7 sl8 sl9 sl10 sl11 sl12 sl13 sl14 sl15 sl16 sl17 sl18 sl19 sl20 sl21 sl22 sl23 sl24 sl25 sl26 sl27 sl28 sl29 sl30 sl31 sl32 : Array (Option Value)} {oc1 kV1 dc1 pm1 cd1 ct1 oc2 kV2 dc2 pm2 cd2 ct2 oc3 kV3 dc3 pm3 cd3 ct3 oc4 kV4 dc4 pm4 cd4 ct4 oc5 kV5 dc5 pm5 cd5 ct5 oc6 kV6 dc6 pm6 cd6 ct6 oc7 kV7 dc7 pm7 cd7 ct7 oc8 kV8 dc8 pm8 cd8 ct8 oc9 kV9 dc9 pm9 cd9 ct9 oc10 kV10 dc10 pm10 cd10 ct10 oc11 kV11 dc11 pm11 cd11 ct11 oc12 kV12 dc12 pm12 cd12 ct12 oc13 kV13 dc13 pm13 cd13 ct13 oc14 kV14 dc14 pm14 cd14 ct14 oc15 kV15 dc15 pm15 cd15 ct15 oc16 kV16 dc16 pm16 cd16 ct16 oc17 kV17 dc17 pm17 cd17 ct17 oc18 kV18 dc18 pm18 cd18 ct18 oc19 kV19 dc19 pm19 cd19 ct19 oc20 kV20 dc20 pm20 cd20 ct20 oc21 kV21 dc21 pm21 cd21 ct21 oc22 kV22 dc22 pm22 cd22 ct22 oc23 kV23 dc23 pm23 cd23 ct23 oc24 kV24 dc24 pm24 cd24 ct24 oc25 kV25 dc25 pm25 cd25 ct25 oc26 kV26 dc26 pm26 cd26 ct26 oc27 kV27 dc27 pm27 cd27 ct27 oc28 kV28 dc28 pm28 cd28 ct28 oc29 kV29 dc29 pm29 cd29 ct29 oc30 kV30 dc30 pm30 cd30 ct30 oc31 kV31 dc31 pm31 cd31 ct31 oc32 kV32 dc32 pm32 cd32 ct32 : Value}
    (a1 : PySem.W.nsIn K mainGlobals "is_whole_from" = some (some (.ref f1))) (l1 : K.lookup f1 = some ⟨oc1, od1, .func (PySem.W.fnOf "is_whole_from" "is_whole_from" (defArgs s_is_whole_from) (defBody s_is_whole_from) (defScope s_is_whole_from) .none kV1 dc1 pm1 an1 cd1 ct1), sl1⟩) (c1 : PySem.W.codeIn K cd1 "is_whole_from" = true) (k1 : PySem.W.keepIn K (.ref f1) = true)
    (a2 : PySem.W.nsIn K mainGlobals "is_whole_within" = some (some (.ref f2))) (l2 : K.lookup f2 = some ⟨oc2, od2, .func (PySem.W.fnOf "is_whole_within" "is_whole_within" (defArgs s_is_whole_within) (defBody s_is_whole_within) (defScope s_is_whole_within) .none kV2 dc2 pm2 an2 cd2 ct2), sl2⟩) (c2 : PySem.W.codeIn K cd2 "is_whole_within" = true) (k2 : PySem.W.keepIn K (.ref f2) = true)
    (a3 : PySem.W.nsIn K mainGlobals "is_cell" = some (some (.ref f3))) (l3 : K.lookup f3 = some ⟨oc3, od3, .func (PySem.W.fnOf "is_cell" "is_cell" (defArgs s_is_cell) (defBody s_is_cell) (defScope s_is_cell) .none kV3 dc3 pm3 an3 cd3 ct3), sl3⟩) (c3 : PySem.W.codeIn K cd3 "is_cell" = true) (k3 : PySem.W.keepIn K (.ref f3) = true)
    (a4 : PySem.W.nsIn K mainGlobals "is_side" = some (some (.ref f4))) (l4 : K.lookup f4 = some ⟨oc4, od4, .func (PySem.W.fnOf "is_side" "is_side" (defArgs s_is_side) (defBody s_is_side) (defScope s_is_side) .none kV4 dc4 pm4 an4 cd4 ct4), sl4⟩) (c4 : PySem.W.codeIn K cd4 "is_side" = true) (k4 : PySem.W.keepIn K (.ref f4) = true)
    (a5 : PySem.W.nsIn K mainGlobals "is_list_of" = some (some (.ref f5))) (l5 : K.lookup f5 = some ⟨oc5, od5, .func (PySem.W.fnOf "is_list_of" "is_list_of" (defArgs s_is_list_of) (defBody s_is_list_of) (defScope s_is_list_of) .none kV5 dc5 pm5 an5 cd5 ct5), sl5⟩) (c5 : PySem.W.codeIn K cd5 "is_list_of" = true) (k5 : PySem.W.keepIn K (.ref f5) = true)
    (a6 : PySem.W.nsIn K mainGlobals "are_rows_of" = some (some (.ref f6))) (l6 : K.lookup f6 = some ⟨oc6, od6, .func (PySem.W.fnOf "are_rows_of" "are_rows_of" (defArgs s_are_rows_of) (defBody s_are_rows_of) (defScope s_are_rows_of) .none kV6 dc6 pm6 an6 cd6 ct6), sl6⟩) (c6 : PySem.W.codeIn K cd6 "are_rows_of" = true) (k6 : PySem.W.keepIn K (.ref f6) = true)
    (a7 : PySem.W.nsIn K mainGlobals "is_picture" = some (some (.ref f7))) (l7 : K.lookup f7 = some ⟨oc7, od7, .func (PySem.W.fnOf "is_picture" "is_picture" (defArgs s_is_picture) (defBody s_is_picture) (defScope s_is_picture) .none kV7 dc7 pm7 an7 cd7 ct7), sl7⟩) (c7 : PySem.W.codeIn K cd7 "is_picture" = true) (k7 : PySem.W.keepIn K (.ref f7) = true)
    (a8 : PySem.W.nsIn K mainGlobals "need_picture" = some (some (.ref f8))) (l8 : K.lookup f8 = some ⟨oc8, od8, .func (PySem.W.fnOf "need_picture" "need_picture" (defArgs s_need_picture) (defBody s_need_picture) (defScope s_need_picture) .none kV8 dc8 pm8 an8 cd8 ct8), sl8⟩) (c8 : PySem.W.codeIn K cd8 "need_picture" = true) (k8 : PySem.W.keepIn K (.ref f8) = true)
    (a9 : PySem.W.nsIn K mainGlobals "need_sides" = some (some (.ref f9))) (l9 : K.lookup f9 = some ⟨oc9, od9, .func (PySem.W.fnOf "need_sides" "need_sides" (defArgs s_need_sides) (defBody s_need_sides) (defScope s_need_sides) .none kV9 dc9 pm9 an9 cd9 ct9), sl9⟩) (c9 : PySem.W.codeIn K cd9 "need_sides" = true) (k9 : PySem.W.keepIn K (.ref f9) = true)
    (a10 : PySem.W.nsIn K mainGlobals "size_of" = some (some (.ref f10))) (l10 : K.lookup f10 = some ⟨oc10, od10, .func (PySem.W.fnOf "size_of" "size_of" (defArgs s_size_of) (defBody s_size_of) (defScope s_size_of) .none kV10 dc10 pm10 an10 cd10 ct10), sl10⟩) (c10 : PySem.W.codeIn K cd10 "size_of" = true) (k10 : PySem.W.keepIn K (.ref f10) = true)
    (a11 : PySem.W.nsIn K mainGlobals "rows_cut_out" = some (some (.ref f11))) (l11 : K.lookup f11 = some ⟨oc11, od11, .func (PySem.W.fnOf "rows_cut_out" "rows_cut_out" (defArgs s_rows_cut_out) (defBody s_rows_cut_out) (defScope s_rows_cut_out) .none kV11 dc11 pm11 an11 cd11 ct11), sl11⟩) (c11 : PySem.W.codeIn K cd11 "rows_cut_out" = true) (k11 : PySem.W.keepIn K (.ref f11) = true)
    (a12 : PySem.W.nsIn K mainGlobals "lies_within" = some (some (.ref f12))) (l12 : K.lookup f12 = some ⟨oc12, od12, .func (PySem.W.fnOf "lies_within" "lies_within" (defArgs s_lies_within) (defBody s_lies_within) (defScope s_lies_within) .none kV12 dc12 pm12 an12 cd12 ct12), sl12⟩) (c12 : PySem.W.codeIn K cd12 "lies_within" = true) (k12 : PySem.W.keepIn K (.ref f12) = true)
    (a13 : PySem.W.nsIn K mainGlobals "cut_out" = some (some (.ref f13))) (l13 : K.lookup f13 = some ⟨oc13, od13, .func (PySem.W.fnOf "cut_out" "cut_out" (defArgs s_cut_out) (defBody s_cut_out) (defScope s_cut_out) .none kV13 dc13 pm13 an13 cd13 ct13), sl13⟩) (c13 : PySem.W.codeIn K cd13 "cut_out" = true) (k13 : PySem.W.keepIn K (.ref f13) = true)
    (a14 : PySem.W.nsIn K mainGlobals "need_steps" = some (some (.ref f14))) (l14 : K.lookup f14 = some ⟨oc14, od14, .func (PySem.W.fnOf "need_steps" "need_steps" (defArgs s_need_steps) (defBody s_need_steps) (defScope s_need_steps) .none kV14 dc14 pm14 an14 cd14 ct14), sl14⟩) (c14 : PySem.W.codeIn K cd14 "need_steps" = true) (k14 : PySem.W.keepIn K (.ref f14) = true)
    (a15 : PySem.W.nsIn K mainGlobals "thinned_row" = some (some (.ref f15))) (l15 : K.lookup f15 = some ⟨oc15, od15, .func (PySem.W.fnOf "thinned_row" "thinned_row" (defArgs s_thinned_row) (defBody s_thinned_row) (defScope s_thinned_row) .none kV15 dc15 pm15 an15 cd15 ct15), sl15⟩) (c15 : PySem.W.codeIn K cd15 "thinned_row" = true) (k15 : PySem.W.keepIn K (.ref f15) = true)
    (a16 : PySem.W.nsIn K mainGlobals "thinned" = some (some (.ref f16))) (l16 : K.lookup f16 = some ⟨oc16, od16, .func (PySem.W.fnOf "thinned" "thinned" (defArgs s_thinned) (defBody s_thinned) (defScope s_thinned) .none kV16 dc16 pm16 an16 cd16 ct16), sl16⟩) (c16 : PySem.W.codeIn K cd16 "thinned" = true) (k16 : PySem.W.keepIn K (.ref f16) = true)
    (a17 : PySem.W.nsIn K mainGlobals "widened_row" = some (some (.ref f17))) (l17 : K.lookup f17 = some ⟨oc17, od17, .func (PySem.W.fnOf "widened_row" "widened_row" (defArgs s_widened_row) (defBody s_widened_row) (defScope s_widened_row) .none kV17 dc17 pm17 an17 cd17 ct17), sl17⟩) (c17 : PySem.W.codeIn K cd17 "widened_row" = true) (k17 : PySem.W.keepIn K (.ref f17) = true)
    (a18 : PySem.W.nsIn K mainGlobals "widened" = some (some (.ref f18))) (l18 : K.lookup f18 = some ⟨oc18, od18, .func (PySem.W.fnOf "widened" "widened" (defArgs s_widened) (defBody s_widened) (defScope s_widened) .none kV18 dc18 pm18 an18 cd18 ct18), sl18⟩) (c18 : PySem.W.codeIn K cd18 "widened" = true) (k18 : PySem.W.keepIn K (.ref f18) = true)
    (a19 : PySem.W.nsIn K mainGlobals "_law_refused" = some (some (.ref f19))) (l19 : K.lookup f19 = some ⟨oc19, od19, .func (PySem.W.fnOf "_law_refused" "_law_refused" (defArgs s_law_refused) (defBody s_law_refused) (defScope s_law_refused) .none kV19 dc19 pm19 an19 cd19 ct19), sl19⟩) (c19 : PySem.W.codeIn K cd19 "_law_refused" = true) (k19 : PySem.W.keepIn K (.ref f19) = true)
    (a20 : PySem.W.nsIn K mainGlobals "_law_cell_at" = some (some (.ref f20))) (l20 : K.lookup f20 = some ⟨oc20, od20, .func (PySem.W.fnOf "_law_cell_at" "_law_cell_at" (defArgs s_law_cell_at) (defBody s_law_cell_at) (defScope s_law_cell_at) .none kV20 dc20 pm20 an20 cd20 ct20), sl20⟩) (c20 : PySem.W.codeIn K cd20 "_law_cell_at" = true) (k20 : PySem.W.keepIn K (.ref f20) = true)
    (a21 : PySem.W.nsIn K mainGlobals "_law_mixed" = some (some (.ref f21))) (l21 : K.lookup f21 = some ⟨oc21, od21, .func (PySem.W.fnOf "_law_mixed" "_law_mixed" (defArgs s_law_mixed) (defBody s_law_mixed) (defScope s_law_mixed) .none kV21 dc21 pm21 an21 cd21 ct21), sl21⟩) (c21 : PySem.W.codeIn K cd21 "_law_mixed" = true) (k21 : PySem.W.keepIn K (.ref f21) = true)
    (a22 : PySem.W.nsIn K mainGlobals "_law_picture" = some (some (.ref f22))) (l22 : K.lookup f22 = some ⟨oc22, od22, .func (PySem.W.fnOf "_law_picture" "_law_picture" (defArgs s_law_picture) (defBody s_law_picture) (defScope s_law_picture) .none kV22 dc22 pm22 an22 cd22 ct22), sl22⟩) (c22 : PySem.W.codeIn K cd22 "_law_picture" = true) (k22 : PySem.W.keepIn K (.ref f22) = true)
    (a23 : PySem.W.nsIn K mainGlobals "_law_copied" = some (some (.ref f23))) (l23 : K.lookup f23 = some ⟨oc23, od23, .func (PySem.W.fnOf "_law_copied" "_law_copied" (defArgs s_law_copied) (defBody s_law_copied) (defScope s_law_copied) .none kV23 dc23 pm23 an23 cd23 ct23), sl23⟩) (c23 : PySem.W.codeIn K cd23 "_law_copied" = true) (k23 : PySem.W.keepIn K (.ref f23) = true)
    (a24 : PySem.W.nsIn K mainGlobals "_law_marked" = some (some (.ref f24))) (l24 : K.lookup f24 = some ⟨oc24, od24, .func (PySem.W.fnOf "_law_marked" "_law_marked" (defArgs s_law_marked) (defBody s_law_marked) (defScope s_law_marked) .none kV24 dc24 pm24 an24 cd24 ct24), sl24⟩) (c24 : PySem.W.codeIn K cd24 "_law_marked" = true) (k24 : PySem.W.keepIn K (.ref f24) = true)
    (a25 : PySem.W.nsIn K mainGlobals "_law_is_like" = some (some (.ref f25))) (l25 : K.lookup f25 = some ⟨oc25, od25, .func (PySem.W.fnOf "_law_is_like" "_law_is_like" (defArgs s_law_is_like) (defBody s_law_is_like) (defScope s_law_is_like) .none kV25 dc25 pm25 an25 cd25 ct25), sl25⟩) (c25 : PySem.W.codeIn K cd25 "_law_is_like" = true) (k25 : PySem.W.keepIn K (.ref f25) = true)
    (a26 : PySem.W.nsIn K mainGlobals "_law_part" = some (some (.ref f26))) (l26 : K.lookup f26 = some ⟨oc26, od26, .func (PySem.W.fnOf "_law_part" "_law_part" (defArgs s_law_part) (defBody s_law_part) (defScope s_law_part) .none kV26 dc26 pm26 an26 cd26 ct26), sl26⟩) (c26 : PySem.W.codeIn K cd26 "_law_part" = true) (k26 : PySem.W.keepIn K (.ref f26) = true)
    (a27 : PySem.W.nsIn K mainGlobals "_law_is_number" = some (some (.ref f27))) (l27 : K.lookup f27 = some ⟨oc27, od27, .func (PySem.W.fnOf "_law_is_number" "_law_is_number" (defArgs s_law_is_number) (defBody s_law_is_number) (defScope s_law_is_number) .none kV27 dc27 pm27 an27 cd27 ct27), sl27⟩) (c27 : PySem.W.codeIn K cd27 "_law_is_number" = true) (k27 : PySem.W.keepIn K (.ref f27) = true)
    (a28 : PySem.W.nsIn K mainGlobals "_law_cut" = some (some (.ref f28))) (l28 : K.lookup f28 = some ⟨oc28, od28, .func (PySem.W.fnOf "_law_cut" "_law_cut" (defArgs s_law_cut) (defBody s_law_cut) (defScope s_law_cut) .none kV28 dc28 pm28 an28 cd28 ct28), sl28⟩) (c28 : PySem.W.codeIn K cd28 "_law_cut" = true) (k28 : PySem.W.keepIn K (.ref f28) = true)
    (a29 : PySem.W.nsIn K mainGlobals "_law_step" = some (some (.ref f29))) (l29 : K.lookup f29 = some ⟨oc29, od29, .func (PySem.W.fnOf "_law_step" "_law_step" (defArgs s_law_step) (defBody s_law_step) (defScope s_law_step) .none kV29 dc29 pm29 an29 cd29 ct29), sl29⟩) (c29 : PySem.W.codeIn K cd29 "_law_step" = true) (k29 : PySem.W.keepIn K (.ref f29) = true)
    (a30 : PySem.W.nsIn K mainGlobals "_law_thin" = some (some (.ref f30))) (l30 : K.lookup f30 = some ⟨oc30, od30, .func (PySem.W.fnOf "_law_thin" "_law_thin" (defArgs s_law_thin) (defBody s_law_thin) (defScope s_law_thin) .none kV30 dc30 pm30 an30 cd30 ct30), sl30⟩) (c30 : PySem.W.codeIn K cd30 "_law_thin" = true) (k30 : PySem.W.keepIn K (.ref f30) = true)
    (a31 : PySem.W.nsIn K mainGlobals "_law_steps_right" = some (some (.ref f31))) (l31 : K.lookup f31 = some ⟨oc31, od31, .func (PySem.W.fnOf "_law_steps_right" "_law_steps_right" (defArgs s_law_steps_right) (defBody s_law_steps_right) (defScope s_law_steps_right) .none kV31 dc31 pm31 an31 cd31 ct31), sl31⟩) (c31 : PySem.W.codeIn K cd31 "_law_steps_right" = true) (k31 : PySem.W.keepIn K (.ref f31) = true)
    (a32 : PySem.W.nsIn K mainGlobals "law" = some (some (.ref f32))) (l32 : K.lookup f32 = some ⟨oc32, od32, .func (PySem.W.fnOf "law" "law" (defArgs s_law) (defBody s_law) (defScope s_law) .none kV32 dc32 pm32 an32 cd32 ct32), sl32⟩) (c32 : PySem.W.codeIn K cd32 "law" = true) (k32 : PySem.W.keepIn K (.ref f32) = true)
    (z1 : PySem.W.nsIn K mainGlobals "len" = some none)
    (z2 : PySem.W.nsIn K mainGlobals "range" = some none)
    (z3 : PySem.W.nsIn K mainGlobals "isinstance" = some none)
    (z4 : PySem.W.nsIn K mainGlobals "int" = some none)
    (z5 : PySem.W.nsIn K mainGlobals "bool" = some none)
    (z6 : PySem.W.nsIn K mainGlobals "list" = some none)
    (z7 : PySem.W.nsIn K mainGlobals "all" = some none)
    (z8 : PySem.W.nsIn K mainGlobals "zip" = some none)
    (z9 : PySem.W.nsIn K mainGlobals "ValueError" = some none)
    (y1 : PySem.W.nsIn K mainGlobals "MOST_SIDE" = some (some (.int 24 tS)))
    (y2 : PySem.W.nsIn K mainGlobals "MOST_CELL" = some (some (.int 15 tC)))
    (x1 : PySem.W.nsIn K mainGlobals "FolioError" = some (some (.ref cFE)))
    (x2 : PySem.W.nsIn K mainGlobals "BadPicture" = some (some (.ref cBP)))
    (x3 : PySem.W.nsIn K mainGlobals "BadSize" = some (some (.ref cBS)))
    (x4 : PySem.W.nsIn K mainGlobals "OutOfPlace" = some (some (.ref cOP)))
    (q1 : PySem.W.excIn K cBP mroVE "ValueError.__new__" = true)
    (q2 : PySem.W.excIn K cBS mroVE "ValueError.__new__" = true)
    (q3 : PySem.W.excIn K cOP mroVE "ValueError.__new__" = true)
    (q4 : PySem.W.findIn K (.ref cBP) "__getattribute__" = some (some (.builtin "BaseException.__getattribute__")))
    (q5 : PySem.W.findIn K (.ref cBP) "__getattr__" = some none)
    (q6 : PySem.W.findIn K (.ref cBP) "__class__" = some (some (.builtin "object.__class__")))
    (q7 : PySem.W.mroIn K cBP (.type "BaseException") = some true)
    (q8 : PySem.W.mroIn K cBP (.type "object") = some true)
    (q9 : PySem.W.isClsIn K cBP = true)
    (q10 : PySem.W.findIn K (.ref cBS) "__getattribute__" = some (some (.builtin "BaseException.__getattribute__")))
    (q11 : PySem.W.findIn K (.ref cBS) "__getattr__" = some none)
    (q12 : PySem.W.findIn K (.ref cBS) "__class__" = some (some (.builtin "object.__class__")))
    (q13 : PySem.W.mroIn K cBS (.type "BaseException") = some true)
    (q14 : PySem.W.mroIn K cBS (.type "object") = some true)
    (q15 : PySem.W.isClsIn K cBS = true)
    (q16 : PySem.W.findIn K (.ref cOP) "__getattribute__" = some (some (.builtin "BaseException.__getattribute__")))
    (q17 : PySem.W.findIn K (.ref cOP) "__getattr__" = some none)
    (q18 : PySem.W.findIn K (.ref cOP) "__class__" = some (some (.builtin "object.__class__")))
    (q19 : PySem.W.mroIn K cOP (.type "BaseException") = some true)
    (q20 : PySem.W.mroIn K cOP (.type "object") = some true)
    (q21 : PySem.W.isClsIn K cOP = true)
    (q22 : PySem.W.subIn K (.ref cFE) (.type "BaseException") = some true)
    (q23 : PySem.W.isClsIn K cFE = true)
    (q24 : PySem.W.typeIn K (.ref cFE) = some (.type "type"))
    (q25 : PySem.W.subIn K (.ref cBP) (.ref cFE) = some true)
    (q26 : PySem.W.subIn K (.ref cBS) (.ref cFE) = some true)
    (q27 : PySem.W.subIn K (.ref cOP) (.ref cFE) = some true)
    (q28 : PySem.W.kitOne K (.ref cBP) (.ref cBP) = some true)
    (q29 : PySem.W.kitOne K (.ref cBP) (.ref cBS) = some false)
    (q30 : PySem.W.kitOne K (.ref cBP) (.ref cOP) = some false)
    (q31 : PySem.W.kitOne K (.ref cBP) (.type "ValueError") = some true)
    (q32 : PySem.W.kitOne K (.ref cBS) (.ref cBP) = some false)
    (q33 : PySem.W.kitOne K (.ref cBS) (.ref cBS) = some true)
    (q34 : PySem.W.kitOne K (.ref cBS) (.ref cOP) = some false)
    (q35 : PySem.W.kitOne K (.ref cBS) (.type "ValueError") = some true)
    (q36 : PySem.W.kitOne K (.ref cOP) (.ref cBP) = some false)
    (q37 : PySem.W.kitOne K (.ref cOP) (.ref cBS) = some false)
    (q38 : PySem.W.kitOne K (.ref cOP) (.ref cOP) = some true)
    (q39 : PySem.W.kitOne K (.ref cOP) (.type "ValueError") = some true)
    (uR : cd31 = .ref cR) (vR : PySem.W.codeHdIn K cR pR = true) (uL : cd32 = .ref cL) (vL : PySem.W.codeHdIn K cL pL = true) (nRL : pR ≠ pL)
    : ∃ fd : FuncData, (∀ (s : Shared) (v : Value), BindsTo s fd ⟨[v], []⟩ [("_law_script", v)]) ∧ ∀ base : Heap, K.In base → base.Ns mainGlobals mg → BMain mg base → FnOk l.prog w K mg base CX0 13 fa fd ["_law_script"] (spLaw pR pL K) := by
  have e := hfa.symm.trans (PySem.W.mg_of X G a32)
  cases e
  have T : Txt K mg cFE cBP cBS cOP tS tC := ⟨PySem.W.mg_none_of X G z1, PySem.W.mg_none_of X G z2, PySem.W.mg_none_of X G z3, PySem.W.mg_none_of X G z4, PySem.W.mg_none_of X G z5, PySem.W.mg_none_of X G z6, PySem.W.mg_none_of X G z7, PySem.W.mg_none_of X G z8, PySem.W.mg_none_of X G z9, PySem.W.mg_of X G y1, PySem.W.mg_of X G y2, PySem.W.mg_of X G x1, PySem.W.mg_of X G x2, PySem.W.mg_of X G x3, PySem.W.mg_of X G x4, q1, q2, q3, ⟨q4, q5, q6, q7, q8, q9⟩, ⟨q10, q11, q12, q13, q14, q15⟩, ⟨q16, q17, q18, q19, q20, q21⟩, exm_mk q22 q23 q24 q25, exm_mk q22 q23 q24 q26, exm_mk q22 q23 q24 q27, q28, q29, q30, q31, q32, q33, q34, q35, q36, q37, q38, q39⟩
  have F1 := funD_mk (st := s_is_whole_from) l1 c1 k1
  have F2 := funD_mk (st := s_is_whole_within) l2 c2 k2
  have F3 := funD_mk (st := s_is_cell) l3 c3 k3
  have F4 := funD_mk (st := s_is_side) l4 c4 k4
  have F5 := funD_mk (st := s_is_list_of) l5 c5 k5
  have F6 := funD_mk (st := s_are_rows_of) l6 c6 k6
  have F7 := funD_mk (st := s_is_picture) l7 c7 k7
  have F8 := funD_mk (st := s_need_picture) l8 c8 k8
  have F9 := funD_mk (st := s_need_sides) l9 c9 k9
  have F10 := funD_mk (st := s_size_of) l10 c10 k10
  have F11 := funD_mk (st := s_rows_cut_out) l11 c11 k11
  have F12 := funD_mk (st := s_lies_within) l12 c12 k12
  have F13 := funD_mk (st := s_cut_out) l13 c13 k13
  have F14 := funD_mk (st := s_need_steps) l14 c14 k14
  have F15 := funD_mk (st := s_thinned_row) l15 c15 k15
  have F16 := funD_mk (st := s_thinned) l16 c16 k16
  have F17 := funD_mk (st := s_widened_row) l17 c17 k17
  have F18 := funD_mk (st := s_widened) l18 c18 k18
  have F19 := funD_mk (st := s_law_refused) l19 c19 k19
  have F20 := funD_mk (st := s_law_cell_at) l20 c20 k20
  have F21 := funD_mk (st := s_law_mixed) l21 c21 k21
  have F22 := funD_mk (st := s_law_picture) l22 c22 k22
  have F23 := funD_mk (st := s_law_copied) l23 c23 k23
  have F24 := funD_mk (st := s_law_marked) l24 c24 k24
  have F25 := funD_mk (st := s_law_is_like) l25 c25 k25
  have F26 := funD_mk (st := s_law_part) l26 c26 k26
  have F27 := funD_mk (st := s_law_is_number) l27 c27 k27
  have F28 := funD_mk (st := s_law_cut) l28 c28 k28
  have F29 := funD_mk (st := s_law_step) l29 c29 k29
  have F30 := funD_mk (st := s_law_thin) l30 c30 k30
  have F31 := funD_mk (st := s_law_steps_right) l31 c31 k31
  have F32 := funD_mk (st := s_law) l32 c32 k32
  have gT : ∀ base : Heap, BaseOk K mg base → DefX l.prog w K mg base 8 "thinned" ["picture", "across", "down"] [] (spThinned K cBP cBS) := fun base ok => by
    have g1 := F1.def (P := l.prog) (w := w) (mg := mg) (base := base) (ok_is_whole_from F1 T) (PySem.W.mg_of X G a1) (fun _ _ _ _ _ _ us hl => (by obtain ⟨u0, u1, rfl⟩ := len2 hl; rfl))
    have g2 := F2.def (P := l.prog) (w := w) (mg := mg) (base := base) (ok_is_whole_within F2 g1) (PySem.W.mg_of X G a2) (fun _ _ _ _ _ _ us hl => (by obtain ⟨u0, u1, u2, rfl⟩ := len3 hl; rfl))
    have g3A := F3.defA (P := l.prog) (w := w) (mg := mg) (base := base) (ok_is_cell F3 T g2) (fun _ _ _ _ _ _ us hl => (by obtain ⟨u0, rfl⟩ := len1 hl; rfl))
    have g3 := F3.def (P := l.prog) (w := w) (mg := mg) (base := base) (ok_is_cell F3 T g2) (PySem.W.mg_of X G a3) (fun _ _ _ _ _ _ us hl => (by obtain ⟨u0, rfl⟩ := len1 hl; rfl))
    have g4 := F4.def (P := l.prog) (w := w) (mg := mg) (base := base) (ok_is_side F4 T g2) (PySem.W.mg_of X G a4) (fun _ _ _ _ _ _ us hl => (by obtain ⟨u0, rfl⟩ := len1 hl; rfl))
    have g5 := F5.def (P := l.prog) (w := w) (mg := mg) (base := base) (ok_is_list_of F5 T g3A) (PySem.W.mg_of X G a5) (fun _ _ _ _ _ _ us hl => (by obtain ⟨u0, u1, rfl⟩ := len2 hl; rfl))
    have g6 := F6.def (P := l.prog) (w := w) (mg := mg) (base := base) (ok_are_rows_of F6 T g5 g4) (PySem.W.mg_of X G a6) (fun _ _ _ _ _ _ us hl => (by obtain ⟨u0, u1, rfl⟩ := len2 hl; rfl))
    have g7 := F7.def (P := l.prog) (w := w) (mg := mg) (base := base) (ok_is_picture F7 (PySem.W.mg_of X G a3) g6) (PySem.W.mg_of X G a7) (fun _ _ _ _ _ _ us hl => (by obtain ⟨u0, rfl⟩ := len1 hl; rfl))
    have g8 := F8.defX (P := l.prog) (w := w) (mg := mg) (base := base) (ok_need_picture F8 T g7) (PySem.W.mg_of X G a8) (fun _ _ _ _ _ _ us hl => (by obtain ⟨u0, rfl⟩ := len1 hl; rfl))
    have g9 := F9.defX (P := l.prog) (w := w) (mg := mg) (base := base) (ok_need_sides F9 T g4) (PySem.W.mg_of X G a9) (fun _ _ _ _ _ _ us hl => (by obtain ⟨u0, u1, rfl⟩ := len2 hl; rfl))
    have g10 := F10.defX (P := l.prog) (w := w) (mg := mg) (base := base) (ok_size_of F10 T g8) (PySem.W.mg_of X G a10) (fun _ _ _ _ _ _ us hl => (by obtain ⟨u0, rfl⟩ := len1 hl; rfl))
    have g11 := F11.def (P := l.prog) (w := w) (mg := mg) (base := base) (ok_rows_cut_out F11 T) (PySem.W.mg_of X G a11) (fun _ _ _ _ _ _ us hl => (by obtain ⟨u0, u1, u2, u3, u4, rfl⟩ := len5 hl; rfl))
    have g12 := F12.def (P := l.prog) (w := w) (mg := mg) (base := base) (ok_lies_within F12 g1) (PySem.W.mg_of X G a12) (fun _ _ _ _ _ _ us hl => (by obtain ⟨u0, u1, u2, rfl⟩ := len3 hl; rfl))
    have g13 := F13.defX (P := l.prog) (w := w) (mg := mg) (base := base) (ok_cut_out F13 T g10 g12 g11) (PySem.W.mg_of X G a13) (fun _ _ _ _ _ _ us hl => (by obtain ⟨u0, u1, u2, u3, u4, rfl⟩ := len5 hl; rfl))
    have g14 := F14.defX (P := l.prog) (w := w) (mg := mg) (base := base) (ok_need_steps F14 T g1) (PySem.W.mg_of X G a14) (fun _ _ _ _ _ _ us hl => (by obtain ⟨u0, u1, rfl⟩ := len2 hl; rfl))
    have g15 := F15.def (P := l.prog) (w := w) (mg := mg) (base := base) (ok_thinned_row F15 T) (PySem.W.mg_of X G a15) (fun _ _ _ _ _ _ us hl => (by obtain ⟨u0, u1, rfl⟩ := len2 hl; rfl))
    have g16 := F16.defX (P := l.prog) (w := w) (mg := mg) (base := base) (ok_thinned F16 T g8 g14 g15) (PySem.W.mg_of X G a16) (fun _ _ _ _ _ _ us hl => (by obtain ⟨u0, u1, u2, rfl⟩ := len3 hl; rfl))
    exact g16
  have gW : ∀ base : Heap, BaseOk K mg base → DefX l.prog w K mg base 9 "widened" ["picture", "across", "down"] [] (spWidened K cBP cBS) := fun base ok => by
    have g1 := F1.def (P := l.prog) (w := w) (mg := mg) (base := base) (ok_is_whole_from F1 T) (PySem.W.mg_of X G a1) (fun _ _ _ _ _ _ us hl => (by obtain ⟨u0, u1, rfl⟩ := len2 hl; rfl))
    have g2 := F2.def (P := l.prog) (w := w) (mg := mg) (base := base) (ok_is_whole_within F2 g1) (PySem.W.mg_of X G a2) (fun _ _ _ _ _ _ us hl => (by obtain ⟨u0, u1, u2, rfl⟩ := len3 hl; rfl))
    have g3A := F3.defA (P := l.prog) (w := w) (mg := mg) (base := base) (ok_is_cell F3 T g2) (fun _ _ _ _ _ _ us hl => (by obtain ⟨u0, rfl⟩ := len1 hl; rfl))
    have g3 := F3.def (P := l.prog) (w := w) (mg := mg) (base := base) (ok_is_cell F3 T g2) (PySem.W.mg_of X G a3) (fun _ _ _ _ _ _ us hl => (by obtain ⟨u0, rfl⟩ := len1 hl; rfl))
    have g4 := F4.def (P := l.prog) (w := w) (mg := mg) (base := base) (ok_is_side F4 T g2) (PySem.W.mg_of X G a4) (fun _ _ _ _ _ _ us hl => (by obtain ⟨u0, rfl⟩ := len1 hl; rfl))
    have g5 := F5.def (P := l.prog) (w := w) (mg := mg) (base := base) (ok_is_list_of F5 T g3A) (PySem.W.mg_of X G a5) (fun _ _ _ _ _ _ us hl => (by obtain ⟨u0, u1, rfl⟩ := len2 hl; rfl))
    have g6 := F6.def (P := l.prog) (w := w) (mg := mg) (base := base) (ok_are_rows_of F6 T g5 g4) (PySem.W.mg_of X G a6) (fun _ _ _ _ _ _ us hl => (by obtain ⟨u0, u1, rfl⟩ := len2 hl; rfl))
    have g7 := F7.def (P := l.prog) (w := w) (mg := mg) (base := base) (ok_is_picture F7 (PySem.W.mg_of X G a3) g6) (PySem.W.mg_of X G a7) (fun _ _ _ _ _ _ us hl => (by obtain ⟨u0, rfl⟩ := len1 hl; rfl))
    have g8 := F8.defX (P := l.prog) (w := w) (mg := mg) (base := base) (ok_need_picture F8 T g7) (PySem.W.mg_of X G a8) (fun _ _ _ _ _ _ us hl => (by obtain ⟨u0, rfl⟩ := len1 hl; rfl))
    have g9 := F9.defX (P := l.prog) (w := w) (mg := mg) (base := base) (ok_need_sides F9 T g4) (PySem.W.mg_of X G a9) (fun _ _ _ _ _ _ us hl => (by obtain ⟨u0, u1, rfl⟩ := len2 hl; rfl))
    have g10 := F10.defX (P := l.prog) (w := w) (mg := mg) (base := base) (ok_size_of F10 T g8) (PySem.W.mg_of X G a10) (fun _ _ _ _ _ _ us hl => (by obtain ⟨u0, rfl⟩ := len1 hl; rfl))
    have g11 := F11.def (P := l.prog) (w := w) (mg := mg) (base := base) (ok_rows_cut_out F11 T) (PySem.W.mg_of X G a11) (fun _ _ _ _ _ _ us hl => (by obtain ⟨u0, u1, u2, u3, u4, rfl⟩ := len5 hl; rfl))
    have g12 := F12.def (P := l.prog) (w := w) (mg := mg) (base := base) (ok_lies_within F12 g1) (PySem.W.mg_of X G a12) (fun _ _ _ _ _ _ us hl => (by obtain ⟨u0, u1, u2, rfl⟩ := len3 hl; rfl))
    have g13 := F13.defX (P := l.prog) (w := w) (mg := mg) (base := base) (ok_cut_out F13 T g10 g12 g11) (PySem.W.mg_of X G a13) (fun _ _ _ _ _ _ us hl => (by obtain ⟨u0, u1, u2, u3, u4, rfl⟩ := len5 hl; rfl))
    have g14 := F14.defX (P := l.prog) (w := w) (mg := mg) (base := base) (ok_need_steps F14 T g1) (PySem.W.mg_of X G a14) (fun _ _ _ _ _ _ us hl => (by obtain ⟨u0, u1, rfl⟩ := len2 hl; rfl))
    have g15 := F15.def (P := l.prog) (w := w) (mg := mg) (base := base) (ok_thinned_row F15 T) (PySem.W.mg_of X G a15) (fun _ _ _ _ _ _ us hl => (by obtain ⟨u0, u1, rfl⟩ := len2 hl; rfl))
    have g16 := F16.defX (P := l.prog) (w := w) (mg := mg) (base := base) (ok_thinned F16 T g8 g14 g15) (PySem.W.mg_of X G a16) (fun _ _ _ _ _ _ us hl => (by obtain ⟨u0, u1, u2, rfl⟩ := len3 hl; rfl))
    have g17 := F17.def (P := l.prog) (w := w) (mg := mg) (base := base) (ok_widened_row F17 T) (PySem.W.mg_of X G a17) (fun _ _ _ _ _ _ us hl => (by obtain ⟨u0, u1, rfl⟩ := len2 hl; rfl))
    have g18 := F18.defX (P := l.prog) (w := w) (mg := mg) (base := base) (ok_widened F18 T g10 g14 g9 g17) (PySem.W.mg_of X G a18) (fun _ _ _ _ _ _ us hl => (by obtain ⟨u0, u1, u2, rfl⟩ := len3 hl; rfl))
    exact g18
  have gC : ∀ base : Heap, BaseOk K mg base → DefX l.prog w K mg base 9 "cut_out" ["picture", "left", "top", "wide", "high"] [] (spCutOut K cBP cOP) := fun base ok => by
    have g1 := F1.def (P := l.prog) (w := w) (mg := mg) (base := base) (ok_is_whole_from F1 T) (PySem.W.mg_of X G a1) (fun _ _ _ _ _ _ us hl => (by obtain ⟨u0, u1, rfl⟩ := len2 hl; rfl))
    have g2 := F2.def (P := l.prog) (w := w) (mg := mg) (base := base) (ok_is_whole_within F2 g1) (PySem.W.mg_of X G a2) (fun _ _ _ _ _ _ us hl => (by obtain ⟨u0, u1, u2, rfl⟩ := len3 hl; rfl))
    have g3A := F3.defA (P := l.prog) (w := w) (mg := mg) (base := base) (ok_is_cell F3 T g2) (fun _ _ _ _ _ _ us hl => (by obtain ⟨u0, rfl⟩ := len1 hl; rfl))
    have g3 := F3.def (P := l.prog) (w := w) (mg := mg) (base := base) (ok_is_cell F3 T g2) (PySem.W.mg_of X G a3) (fun _ _ _ _ _ _ us hl => (by obtain ⟨u0, rfl⟩ := len1 hl; rfl))
    have g4 := F4.def (P := l.prog) (w := w) (mg := mg) (base := base) (ok_is_side F4 T g2) (PySem.W.mg_of X G a4) (fun _ _ _ _ _ _ us hl => (by obtain ⟨u0, rfl⟩ := len1 hl; rfl))
    have g5 := F5.def (P := l.prog) (w := w) (mg := mg) (base := base) (ok_is_list_of F5 T g3A) (PySem.W.mg_of X G a5) (fun _ _ _ _ _ _ us hl => (by obtain ⟨u0, u1, rfl⟩ := len2 hl; rfl))
    have g6 := F6.def (P := l.prog) (w := w) (mg := mg) (base := base) (ok_are_rows_of F6 T g5 g4) (PySem.W.mg_of X G a6) (fun _ _ _ _ _ _ us hl => (by obtain ⟨u0, u1, rfl⟩ := len2 hl; rfl))
    have g7 := F7.def (P := l.prog) (w := w) (mg := mg) (base := base) (ok_is_picture F7 (PySem.W.mg_of X G a3) g6) (PySem.W.mg_of X G a7) (fun _ _ _ _ _ _ us hl => (by obtain ⟨u0, rfl⟩ := len1 hl; rfl))
    have g8 := F8.defX (P := l.prog) (w := w) (mg := mg) (base := base) (ok_need_picture F8 T g7) (PySem.W.mg_of X G a8) (fun _ _ _ _ _ _ us hl => (by obtain ⟨u0, rfl⟩ := len1 hl; rfl))
    have g9 := F9.defX (P := l.prog) (w := w) (mg := mg) (base := base) (ok_need_sides F9 T g4) (PySem.W.mg_of X G a9) (fun _ _ _ _ _ _ us hl => (by obtain ⟨u0, u1, rfl⟩ := len2 hl; rfl))
    have g10 := F10.defX (P := l.prog) (w := w) (mg := mg) (base := base) (ok_size_of F10 T g8) (PySem.W.mg_of X G a10) (fun _ _ _ _ _ _ us hl => (by obtain ⟨u0, rfl⟩ := len1 hl; rfl))
    have g11 := F11.def (P := l.prog) (w := w) (mg := mg) (base := base) (ok_rows_cut_out F11 T) (PySem.W.mg_of X G a11) (fun _ _ _ _ _ _ us hl => (by obtain ⟨u0, u1, u2, u3, u4, rfl⟩ := len5 hl; rfl))
    have g12 := F12.def (P := l.prog) (w := w) (mg := mg) (base := base) (ok_lies_within F12 g1) (PySem.W.mg_of X G a12) (fun _ _ _ _ _ _ us hl => (by obtain ⟨u0, u1, u2, rfl⟩ := len3 hl; rfl))
    have g13 := F13.defX (P := l.prog) (w := w) (mg := mg) (base := base) (ok_cut_out F13 T g10 g12 g11) (PySem.W.mg_of X G a13) (fun _ _ _ _ _ _ us hl => (by obtain ⟨u0, u1, u2, u3, u4, rfl⟩ := len5 hl; rfl))
    exact g13
  have gB : ∀ base : Heap, BaseOk K mg base → Def l.prog w K mg base 11 "_law_refused" ["_law_deed"] [] (spRef l.prog w K mg cBP cBS cOP base) := fun base ok => by
    have g19 := F19.def (P := l.prog) (w := w) (mg := mg) (base := base) (ok_law_refused F19 T) (PySem.W.mg_of X G a19) (fun _ _ _ _ _ _ us hl => (by obtain ⟨u0, rfl⟩ := len1 hl; rfl))
    exact g19
  refine ⟨PySem.W.fnOf "law" "law" (defArgs s_law) (defBody s_law) (defScope s_law) .none kV32 dc32 pm32 an32 cd32 ct32, fun s v => .of_eq rfl, fun base kb nb hB => ?_⟩
  have g1 := F1.def (P := l.prog) (w := w) (mg := mg) (base := base) (ok_is_whole_from F1 T) (PySem.W.mg_of X G a1) (fun _ _ _ _ _ _ us hl => (by obtain ⟨u0, u1, rfl⟩ := len2 hl; rfl))
  have g2 := F2.def (P := l.prog) (w := w) (mg := mg) (base := base) (ok_is_whole_within F2 g1) (PySem.W.mg_of X G a2) (fun _ _ _ _ _ _ us hl => (by obtain ⟨u0, u1, u2, rfl⟩ := len3 hl; rfl))
  have g3A := F3.defA (P := l.prog) (w := w) (mg := mg) (base := base) (ok_is_cell F3 T g2) (fun _ _ _ _ _ _ us hl => (by obtain ⟨u0, rfl⟩ := len1 hl; rfl))
  have g3 := F3.def (P := l.prog) (w := w) (mg := mg) (base := base) (ok_is_cell F3 T g2) (PySem.W.mg_of X G a3) (fun _ _ _ _ _ _ us hl => (by obtain ⟨u0, rfl⟩ := len1 hl; rfl))
  have g4 := F4.def (P := l.prog) (w := w) (mg := mg) (base := base) (ok_is_side F4 T g2) (PySem.W.mg_of X G a4) (fun _ _ _ _ _ _ us hl => (by obtain ⟨u0, rfl⟩ := len1 hl; rfl))
  have g5 := F5.def (P := l.prog) (w := w) (mg := mg) (base := base) (ok_is_list_of F5 T g3A) (PySem.W.mg_of X G a5) (fun _ _ _ _ _ _ us hl => (by obtain ⟨u0, u1, rfl⟩ := len2 hl; rfl))
  have g6 := F6.def (P := l.prog) (w := w) (mg := mg) (base := base) (ok_are_rows_of F6 T g5 g4) (PySem.W.mg_of X G a6) (fun _ _ _ _ _ _ us hl => (by obtain ⟨u0, u1, rfl⟩ := len2 hl; rfl))
  have g7 := F7.def (P := l.prog) (w := w) (mg := mg) (base := base) (ok_is_picture F7 (PySem.W.mg_of X G a3) g6) (PySem.W.mg_of X G a7) (fun _ _ _ _ _ _ us hl => (by obtain ⟨u0, rfl⟩ := len1 hl; rfl))
  have g8 := F8.defX (P := l.prog) (w := w) (mg := mg) (base := base) (ok_need_picture F8 T g7) (PySem.W.mg_of X G a8) (fun _ _ _ _ _ _ us hl => (by obtain ⟨u0, rfl⟩ := len1 hl; rfl))
  have g9 := F9.defX (P := l.prog) (w := w) (mg := mg) (base := base) (ok_need_sides F9 T g4) (PySem.W.mg_of X G a9) (fun _ _ _ _ _ _ us hl => (by obtain ⟨u0, u1, rfl⟩ := len2 hl; rfl))
  have g10 := F10.defX (P := l.prog) (w := w) (mg := mg) (base := base) (ok_size_of F10 T g8) (PySem.W.mg_of X G a10) (fun _ _ _ _ _ _ us hl => (by obtain ⟨u0, rfl⟩ := len1 hl; rfl))
  have g11 := F11.def (P := l.prog) (w := w) (mg := mg) (base := base) (ok_rows_cut_out F11 T) (PySem.W.mg_of X G a11) (fun _ _ _ _ _ _ us hl => (by obtain ⟨u0, u1, u2, u3, u4, rfl⟩ := len5 hl; rfl))
  have g12 := F12.def (P := l.prog) (w := w) (mg := mg) (base := base) (ok_lies_within F12 g1) (PySem.W.mg_of X G a12) (fun _ _ _ _ _ _ us hl => (by obtain ⟨u0, u1, u2, rfl⟩ := len3 hl; rfl))
  have g13 := F13.defX (P := l.prog) (w := w) (mg := mg) (base := base) (ok_cut_out F13 T g10 g12 g11) (PySem.W.mg_of X G a13) (fun _ _ _ _ _ _ us hl => (by obtain ⟨u0, u1, u2, u3, u4, rfl⟩ := len5 hl; rfl))
  have g14 := F14.defX (P := l.prog) (w := w) (mg := mg) (base := base) (ok_need_steps F14 T g1) (PySem.W.mg_of X G a14) (fun _ _ _ _ _ _ us hl => (by obtain ⟨u0, u1, rfl⟩ := len2 hl; rfl))
  have g15 := F15.def (P := l.prog) (w := w) (mg := mg) (base := base) (ok_thinned_row F15 T) (PySem.W.mg_of X G a15) (fun _ _ _ _ _ _ us hl => (by obtain ⟨u0, u1, rfl⟩ := len2 hl; rfl))
  have g16 := F16.defX (P := l.prog) (w := w) (mg := mg) (base := base) (ok_thinned F16 T g8 g14 g15) (PySem.W.mg_of X G a16) (fun _ _ _ _ _ _ us hl => (by obtain ⟨u0, u1, u2, rfl⟩ := len3 hl; rfl))
  have g17 := F17.def (P := l.prog) (w := w) (mg := mg) (base := base) (ok_widened_row F17 T) (PySem.W.mg_of X G a17) (fun _ _ _ _ _ _ us hl => (by obtain ⟨u0, u1, rfl⟩ := len2 hl; rfl))
  have g18 := F18.defX (P := l.prog) (w := w) (mg := mg) (base := base) (ok_widened F18 T g10 g14 g9 g17) (PySem.W.mg_of X G a18) (fun _ _ _ _ _ _ us hl => (by obtain ⟨u0, u1, u2, rfl⟩ := len3 hl; rfl))
  have g19 := F19.def (P := l.prog) (w := w) (mg := mg) (base := base) (ok_law_refused F19 T) (PySem.W.mg_of X G a19) (fun _ _ _ _ _ _ us hl => (by obtain ⟨u0, rfl⟩ := len1 hl; rfl))
  have g20 := F20.def (P := l.prog) (w := w) (mg := mg) (base := base) (ok_law_cell_at F20 T) (PySem.W.mg_of X G a20) (fun _ _ _ _ _ _ us hl => (by obtain ⟨u0, u1, rfl⟩ := len2 hl; rfl))
  have g21 := F21.def (P := l.prog) (w := w) (mg := mg) (base := base) (ok_law_mixed F21 ) (PySem.W.mg_of X G a21) (fun _ _ _ _ _ _ us hl => (by obtain ⟨u0, u1, rfl⟩ := len2 hl; rfl))
  have g22 := F22.def (P := l.prog) (w := w) (mg := mg) (base := base) (ok_law_picture F22 T g20 g21) (PySem.W.mg_of X G a22) (fun _ _ _ _ _ _ us hl => (by obtain ⟨u0, u1, u2, rfl⟩ := len3 hl; rfl))
  have g23 := F23.def (P := l.prog) (w := w) (mg := mg) (base := base) (ok_law_copied F23 T) (PySem.W.mg_of X G a23) (fun _ _ _ _ _ _ us hl => (by obtain ⟨u0, rfl⟩ := len1 hl; rfl))
  have g24 := F24.def (P := l.prog) (w := w) (mg := mg) (base := base) (ok_law_marked F24 T) (PySem.W.mg_of X G a24) (fun _ _ _ _ _ _ us hl => (by obtain ⟨u0, rfl⟩ := len1 hl; rfl))
  have g25 := F25.def (P := l.prog) (w := w) (mg := mg) (base := base) (ok_law_is_like F25 T) (PySem.W.mg_of X G a25) (fun _ _ _ _ _ _ us hl => (by obtain ⟨u0, u1, rfl⟩ := len2 hl; rfl))
  have g26 := F26.def (P := l.prog) (w := w) (mg := mg) (base := base) (ok_law_part F26 g20) (PySem.W.mg_of X G a26) (fun _ _ _ _ _ _ us hl => (by obtain ⟨u0, u1, u2, rfl⟩ := len3 hl; rfl))
  have g27 := F27.def (P := l.prog) (w := w) (mg := mg) (base := base) (ok_law_is_number F27 T) (PySem.W.mg_of X G a27) (fun _ _ _ _ _ _ us hl => (by obtain ⟨u0, rfl⟩ := len1 hl; rfl))
  have g28 := F28.def (P := l.prog) (w := w) (mg := mg) (base := base) (ok_law_cut F28 T g27) (PySem.W.mg_of X G a28) (fun _ _ _ _ _ _ us hl => (by obtain ⟨u0, u1, rfl⟩ := len2 hl; rfl))
  have g29 := F29.def (P := l.prog) (w := w) (mg := mg) (base := base) (ok_law_step F29 ) (PySem.W.mg_of X G a29) (fun _ _ _ _ _ _ us hl => (by obtain ⟨u0, rfl⟩ := len1 hl; rfl))
  have g30 := F30.def (P := l.prog) (w := w) (mg := mg) (base := base) (ok_law_thin F30 T) (PySem.W.mg_of X G a30) (fun _ _ _ _ _ _ us hl => (by obtain ⟨u0, u1, u2, rfl⟩ := len3 hl; rfl))
  have g31 := F31.def (P := l.prog) (w := w) (mg := mg) (base := base) (ok_law_steps_right F31 uR (PySem.W.codeHd_of_K kb vR) hB nRL T gB gT gW g16 g24 g25 g27 g30) (PySem.W.mg_of X G a31) (fun _ _ _ _ _ _ us hl => (by obtain ⟨u0, u1, u2, u3, rfl⟩ := len4 hl; rfl))
  exact ok_law F32 uL (PySem.W.codeHd_of_K kb vL) hB nRL T gB gT gW gC g20 g22 g23 g26 g28 g24 g25 g29 g31
theorem walk {l : PySem.W.OpenLaw} {q : Program} {loose : List Str} {XP : (Str → Option Value) → Heap → Prop} {YP : World → Heap → Prop} {d : DefRec} {K : Params → PySem.W.Frag} {pR pL : Addr} (hn : l.most = some 63) (hdf : d.params.defaults = [])
    (hY : ∀ (w : World) (h : Heap), YP w h → (K w.params).In h) (hT : ∀ (w : World) (h : Heap), YP w h → ∀ p ∈ [pR, pL], h.get? p = some (PySem.W.tabObj #[]))
    (hC : ∀ (w : World), ∀ p ∈ [pR, pL], ∃ c, PySem.W.codeHdIn (K w.params) c p = true) (hNT : ∀ w : World, PySem.W.noTabs (K w.params) = true)
    (F : ∀ (w : World) (mg : Str → Option Value) (fa : Addr) (h : Heap), (K w.params).In h → h.Ns mainGlobals mg → mg d.name = some (.ref fa) →
      ∃ fd : FuncData, (∀ (s : Shared) (u : Value), BindsTo s fd ⟨[u], []⟩ [("_law_script", u)]) ∧ ∀ base : Heap, (K w.params).In base → base.Ns mainGlobals mg → BMain mg base → FnOk l.prog w (K w.params) mg base CX0 13 fa fd ["_law_script"] (spLaw pR pL (K w.params))) :
    PySem.W.WalkO q loose XP YP l.row.toRowW d [] (fun f vs => PySem.call f vs) :=
  L2.walk_ofT (n := 63) (k := 13) (x := "_law_script") (CX := CX0) (ts := [pR, pL]) (sp := spLaw pR pL) hn (by decide) hdf ⟨rfl, by decide, by decide⟩ hY hT hC hNT F (fun _ H a ns _ hb hO hS => ⟨a, ns, rfl, hS, hO pR (by simp), hO pL (by simp), fun _ => rfl⟩) fun _ _ _ _ z => z
end K9
open PySem PySem.W PyProof.Rows
set_option Elab.async false
set_option maxRecDepth 100000 in
set_option maxHeartbeats 0 in
theorem PySem.Challenge.cw_cellfolio_k09_cut_and_thinned_holds : PySem.Challenge.rw_cellfolio_k09_cut_and_thinned.Holds := by
  w_on; o_law; k_head; (case hw => w_witness2)
  k_fill
  refine K9.walk (l := PySem.Challenge.rw_cellfolio_k09_cut_and_thinned) (pR := 251) (pL := 256) rfl rfl (fun w h Y => PySem.W.km_in_of Y) (fun w h Y p hp => PySem.W.km_tabs_of Y p (by simp only [List.mem_cons, List.not_mem_nil, or_false] at hp ⊢; rcases hp with h | h <;> simp [h])) (fun w p hp => by
    simp only [List.mem_cons, List.not_mem_nil, or_false] at hp
    rcases hp with rfl | rfl
    · exact ⟨253, by kernel_rfl⟩
    · exact ⟨260, by kernel_rfl⟩) (fun w => by kernel_rfl) ?F
  case F =>
    intro w mg fa h KX G hmg
    refine' K9.all_mk (pR := 251) (pL := 256) KX G hmg ?a1 ?l1 ?c1 ?k1 ?a2 ?l2 ?c2 ?k2 ?a3 ?l3 ?c3 ?k3 ?a4 ?l4 ?c4 ?k4 ?a5 ?l5 ?c5 ?k5 ?a6 ?l6 ?c6 ?k6 ?a7 ?l7 ?c7 ?k7 ?a8 ?l8 ?c8 ?k8 ?a9 ?l9 ?c9 ?k9 ?a10 ?l10 ?c10 ?k10 ?a11 ?l11 ?c11 ?k11 ?a12 ?l12 ?c12 ?k12 ?a13 ?l13 ?c13 ?k13 ?a14 ?l14 ?c14 ?k14 ?a15 ?l15 ?c15 ?k15 ?a16 ?l16 ?c16 ?k16 ?a17 ?l17 ?c17 ?k17 ?a18 ?l18 ?c18 ?k18 ?a19 ?l19 ?c19 ?k19 ?a20 ?l20 ?c20 ?k20 ?a21 ?l21 ?c21 ?k21 ?a22 ?l22 ?c22 ?k22 ?a23 ?l23 ?c23 ?k23 ?a24 ?l24 ?c24 ?k24 ?a25 ?l25 ?c25 ?k25 ?a26 ?l26 ?c26 ?k26 ?a27 ?l27 ?c27 ?k27 ?a28 ?l28 ?c28 ?k28 ?a29 ?l29 ?c29 ?k29 ?a30 ?l30 ?c30 ?k30 ?a31 ?l31 ?c31 ?k31 ?a32 ?l32 ?c32 ?k32 ?z1 ?z2 ?z3 ?z4 ?z5 ?z6 ?z7 ?z8 ?z9 ?y1 ?y2 ?x1 ?x2 ?x3 ?x4 ?q1 ?q2 ?q3 ?q4 ?q5 ?q6 ?q7 ?q8 ?q9 ?q10 ?q11 ?q12 ?q13 ?q14 ?q15 ?q16 ?q17 ?q18 ?q19 ?q20 ?q21 ?q22 ?q23 ?q24 ?q25 ?q26 ?q27 ?q28 ?q29 ?q30 ?q31 ?q32 ?q33 ?q34 ?q35 ?q36 ?q37 ?q38 ?q39 ?uR ?vR ?uL ?vL ?nRL
    (case a1 => k_is)
    (case l1 => k_is)
    (case c1 => k_is)
    (case k1 => k_is)
    (case a2 => k_is)
    (case l2 => k_is)
    (case c2 => k_is)
    (case k2 => k_is)
    (case a3 => k_is)
    (case l3 => k_is)
    (case c3 => k_is)
    (case k3 => k_is)
    (case a4 => k_is)
    (case l4 => k_is)
    (case c4 => k_is)
    (case k4 => k_is)
    (case a5 => k_is)
    (case l5 => k_is)
    (case c5 => k_is)
    (case k5 => k_is)
    (case a6 => k_is)
    (case l6 => k_is)
    (case c6 => k_is)
    (case k6 => k_is)
    (case a7 => k_is)
    (case l7 => k_is)
    (case c7 => k_is)
    (case k7 => k_is)
    (case a8 => k_is)
    (case l8 => k_is)
    (case c8 => k_is)
    (case k8 => k_is)
    (case a9 => k_is)
    (case l9 => k_is)
    (case c9 => k_is)
    (case k9 => k_is)
    (case a10 => k_is)
    (case l10 => k_is)
    (case c10 => k_is)
    (case k10 => k_is)
    (case a11 => k_is)
    (case l11 => k_is)
    (case c11 => k_is)
    (case k11 => k_is)
    (case a12 => k_is)
    (case l12 => k_is)
    (case c12 => k_is)
    (case k12 => k_is)
    (case a13 => k_is)
    (case l13 => k_is)
    (case c13 => k_is)
    (case k13 => k_is)
    (case a14 => k_is)
    (case l14 => k_is)
    (case c14 => k_is)
    (case k14 => k_is)
    (case a15 => k_is)
    (case l15 => k_is)
    (case c15 => k_is)
    (case k15 => k_is)
    (case a16 => k_is)
    (case l16 => k_is)
    (case c16 => k_is)
    (case k16 => k_is)
    (case a17 => k_is)
    (case l17 => k_is)
    (case c17 => k_is)
    (case k17 => k_is)
    (case a18 => k_is)
    (case l18 => k_is)
    (case c18 => k_is)
    (case k18 => k_is)
    (case a19 => k_is)
    (case l19 => k_is)
    (case c19 => k_is)
    (case k19 => k_is)
    (case a20 => k_is)
    (case l20 => k_is)
    (case c20 => k_is)
    (case k20 => k_is)
    (case a21 => k_is)
    (case l21 => k_is)
    (case c21 => k_is)
    (case k21 => k_is)
    (case a22 => k_is)
    (case l22 => k_is)
    (case c22 => k_is)
    (case k22 => k_is)
    (case a23 => k_is)
    (case l23 => k_is)
    (case c23 => k_is)
    (case k23 => k_is)
    (case a24 => k_is)
    (case l24 => k_is)
    (case c24 => k_is)
    (case k24 => k_is)
    (case a25 => k_is)
    (case l25 => k_is)
    (case c25 => k_is)
    (case k25 => k_is)
    (case a26 => k_is)
    (case l26 => k_is)
    (case c26 => k_is)
    (case k26 => k_is)
    (case a27 => k_is)
    (case l27 => k_is)
    (case c27 => k_is)
    (case k27 => k_is)
    (case a28 => k_is)
    (case l28 => k_is)
    (case c28 => k_is)
    (case k28 => k_is)
    (case a29 => k_is)
    (case l29 => k_is)
    (case c29 => k_is)
    (case k29 => k_is)
    (case a30 => k_is)
    (case l30 => k_is)
    (case c30 => k_is)
    (case k30 => k_is)
    (case a31 => k_is)
    (case l31 => k_is)
    (case c31 => k_is)
    (case k31 => k_is)
    (case a32 => k_is)
    (case l32 => k_is)
    (case c32 => k_is)
    (case k32 => k_is)
    (case z1 => k_is)
    (case z2 => k_is)
    (case z3 => k_is)
    (case z4 => k_is)
    (case z5 => k_is)
    (case z6 => k_is)
    (case z7 => k_is)
    (case z8 => k_is)
    (case z9 => k_is)
    (case y1 => k_is)
    (case y2 => k_is)
    (case x1 => k_is)
    (case x2 => k_is)
    (case x3 => k_is)
    (case x4 => k_is)
    (case q1 => k_exc)
    (case q2 => k_exc)
    (case q3 => k_exc)
    (case q4 => k_is)
    (case q5 => k_is)
    (case q6 => k_is)
    (case q7 => k_is)
    (case q8 => k_is)
    (case q9 => k_is)
    (case q10 => k_is)
    (case q11 => k_is)
    (case q12 => k_is)
    (case q13 => k_is)
    (case q14 => k_is)
    (case q15 => k_is)
    (case q16 => k_is)
    (case q17 => k_is)
    (case q18 => k_is)
    (case q19 => k_is)
    (case q20 => k_is)
    (case q21 => k_is)
    (case q22 => k_is)
    (case q23 => k_is)
    (case q24 => k_is)
    (case q25 => k_is)
    (case q26 => k_is)
    (case q27 => k_is)
    (case q28 => kit_is)
    (case q29 => kit_is)
    (case q30 => kit_is)
    (case q31 => kit_is)
    (case q32 => kit_is)
    (case q33 => kit_is)
    (case q34 => kit_is)
    (case q35 => kit_is)
    (case q36 => kit_is)
    (case q37 => kit_is)
    (case q38 => kit_is)
    (case q39 => kit_is)
    (case uR => first | exact rfl | k_is)
    (case vR => kernel_rfl)
    (case uL => first | exact rfl | k_is)
    (case vL => kernel_rfl)
    (case nRL => decide)
#print axioms PySem.Challenge.cw_cellfolio_k09_cut_and_thinned_holds
