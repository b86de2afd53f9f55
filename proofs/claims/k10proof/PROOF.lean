import PyProof.Rows.All
import Wide.All
import OpenK.AllK
import Wide.FinOn
import Lean
import PyProof.EqAt
import PyProof.EqKinds
import PyProof.TupleCall
import PySem.Challenge.RW_partrests_k10_whole_lists_of_two_kinds
set_option Elab.async false
set_option linter.all false
set_option maxRecDepth 100000
namespace L2
open PySem PySem.Spec PyProof.Rows
noncomputable abbrev Key := Sum Int Str
noncomputable def keyIs : Key → Value → Bool
  | .inl k, v => Value.isInt k v
  | .inr x, v => Value.isStrOf x v
noncomputable def keyH (w : World) : Key → Int
  | .inl k => hashInt k
  | .inr x => hashStr w x
theorem keyIs_shape : ∀ {k : Key} {v : Value}, keyIs k v = true → (∃ i t, k = Sum.inl i ∧ v = Value.int i t) ∨ (∃ x t, k = Sum.inr x ∧ v = Value.str x t)
  | .inl i, v, h => by
    obtain ⟨t, e⟩ := Value.isInt_shape (k := i) (v := v) h
    exact .inl ⟨i, t, rfl, e⟩
  | .inr x, v, h => by
    obtain ⟨t, e⟩ := Value.isStrOf_shape (x := x) (v := v) h
    exact .inr ⟨x, t, rfl, e⟩
theorem keyIs_int (i : Int) (t : Tok) : keyIs (.inl i) (.int i t) = true := by simp [keyIs, Value.isInt]
theorem keyIs_str (x : Str) (t : Tok) : keyIs (.inr x) (.str x t) = true := by simp [keyIs, Value.isStrOf]
theorem key_ll (a b : Int) : decide ((Sum.inl a : Key) = Sum.inl b) = (a == b) := by
  by_cases e : a = b
  · subst e; simp
  · have h : ¬ (Sum.inl a : Key) = Sum.inl b := fun q => e (Sum.inl.inj q)
    rw [decide_eq_false h]
    exact (beq_eq_false_iff_ne.mpr e).symm
theorem key_rr (a b : Str) : decide ((Sum.inr a : Key) = Sum.inr b) = decide (a = b) := by
  by_cases e : a = b
  · subst e; simp
  · have h : ¬ (Sum.inr a : Key) = Sum.inr b := fun q => e (Sum.inr.inj q)
    rw [decide_eq_false h, decide_eq_false e]
theorem key_lr (a : Int) (b : Str) : decide ((Sum.inl a : Key) = Sum.inr b) = false := decide_eq_false (fun q => nomatch q)
theorem key_rl (a : Str) (b : Int) : decide ((Sum.inr a : Key) = Sum.inl b) = false := decide_eq_false (fun q => nomatch q)

noncomputable def mixKind (prog : Program) (w : World) : PySem.KeyKind prog w Key where
  is := keyIs
  hash := keyH w
  inj := fun v a b ha hb => by
    rcases keyIs_shape ha with ⟨i, t, rfl, rfl⟩ | ⟨x, t, rfl, rfl⟩
    · rcases keyIs_shape hb with ⟨j, u, rfl, e⟩ | ⟨y, u, rfl, e⟩
      · injection e with e1 _; rw [e1]
      · exact nomatch e
    · rcases keyIs_shape hb with ⟨j, u, rfl, e⟩ | ⟨y, u, rfl, e⟩
      · exact nomatch e
      · injection e with e1 _; rw [e1]
  byValue := fun k v h => by
    rcases keyIs_shape h with ⟨i, t, rfl, rfl⟩ | ⟨x, t, rfl, rfl⟩ <;> rfl
  pyHash := fun hv h => by
    rcases keyIs_shape hv with ⟨i, t, rfl, rfl⟩ | ⟨x, t, rfl, rfl⟩
    · exact wpAny_pyHash_int h
    · exact wpAny_pyHash_str h
  eqBool := fun hu hv h => by
    rcases keyIs_shape hu with ⟨i, t, rfl, rfl⟩ | ⟨x, t, rfl, rfl⟩
    · rcases keyIs_shape hv with ⟨j, u, rfl, rfl⟩ | ⟨y, u, rfl, rfl⟩
      · rw [key_ll] at h; exact wpAny_eqBool_int h
      · rw [key_lr] at h; exact SeqAt.EqAt.int_str i t y u _ _ _ _ h
    · rcases keyIs_shape hv with ⟨j, u, rfl, rfl⟩ | ⟨y, u, rfl, rfl⟩
      · rw [key_rl] at h; exact SeqAt.EqAt.str_int x t j u _ _ _ _ h
      · rw [key_rr] at h; exact wpAny_eqBool_str h
  «strs» := fun k x t v h => by
    rcases keyIs_shape h with ⟨i, u, rfl, e⟩ | ⟨y, u, rfl, e⟩
    · exact nomatch e
    · injection e with e1 _
      subst e1
      cases v <;> rfl

theorem mixKind_int (prog : Program) (w : World) (i : Int) (t : Tok) : (mixKind prog w).is (.inl i) (.int i t) = true := keyIs_int i t
theorem mixKind_str (prog : Program) (w : World) (x : Str) (t : Tok) : (mixKind prog w).is (.inr x) (.str x t) = true := keyIs_str x t
end L2
namespace L2
open PySem PySem.Spec PyProof.Rows
inductive V where
  | non | bl (b : Bool) | int (i : Int) | str (x : Str) | byt (b : Array UInt8) | flt (b : UInt64) | ref (a : Addr) | ty (n : String)
  deriving DecidableEq

noncomputable def RelV : V → Value → Prop
  | .non, u => u = Value.none
  | .bl b, u => u = Value.bool b
  | .int i, u => ∃ t, u = Value.int i t
  | .str x, u => ∃ t, u = Value.str x t
  | .byt b, u => ∃ t, u = Value.bytes b t
  | .flt b, u => ∃ t, u = Value.float b t
  | .ref a, u => u = Value.ref a
  | .ty n, u => u = Value.type n

noncomputable abbrev Vals : List V → List Value → Prop := Paired RelV
theorem Vals.length {xs : List V} {us : List Value} (r : Vals xs us) : xs.length = us.length := Paired.length r
theorem Vals.get : ∀ {xs : List V} {us : List Value} {i : Nat} {x : V}, Vals xs us → xs[i]? = some x → ∃ u, us[i]? = some u ∧ RelV x u
  | _, _, _, _, .nil, e => by simp at e
  | _, _, 0, _, .cons r _, e => by simp at e; subst e; exact ⟨_, rfl, r⟩
  | _, _, i + 1, x, .cons _ t, e => by
    obtain ⟨u, h1, h2⟩ := Vals.get (i := i) (x := x) t (by simpa using e)
    exact ⟨u, by simpa using h1, h2⟩
theorem Vals.set {x : V} {u : Value} (r : RelV x u) : ∀ {xs : List V} {us : List Value} (i : Nat), Vals xs us → Vals (xs.set i x) (us.set i u)
  | _, _, _, .nil => .nil
  | _, _, 0, .cons _ t => .cons r t
  | _, _, i + 1, .cons q t => .cons q (Vals.set r i t)
theorem Vals.append : ∀ {xs ys : List V} {us ws : List Value}, Vals xs us → Vals ys ws → Vals (xs ++ ys) (us ++ ws)
  | _, _, _, _, .nil, s => s
  | _, _, _, _, .cons r t, s => .cons r (Vals.append t s)
noncomputable def TupD (h : Heap) (a : Addr) (items : Array Value) : Prop := ∃ n, h.get? a = some { cls := .type "tuple", data := .seq items n }
theorem TupD.tup {h : Heap} {a : Addr} {items : Array Value} (p : TupD h a items) : IsTup h a items := let ⟨n, e⟩ := p; ⟨_, e, rfl, n, rfl⟩
theorem TupD.new (h : Heap) (items : Array Value) : TupD (h.push { cls := .type "tuple", data := .seq items }) h.objs.size items := ⟨_, Heap.get?_push_size _ rfl⟩

noncomputable def RelO : Option V → Option Value → Prop
  | some v, some u => RelV v u
  | none, none => True
  | _, _ => False
noncomputable def KV {κ : Type} : List (κ × V) → List (κ × Value) → Prop := Paired fun (p : κ × V) (q : κ × Value) => p.1 = q.1 ∧ RelV p.2 q.2

noncomputable def kV : Key → V
  | .inl i => .int i
  | .inr x => .str x

inductive HO where
  /-- a list -/
  | lst (xs : List V)
  /-- a tuple (never changes) -/
  | tup (xs : List V)
  /-- a dict whose keys are ints and texts; one whose keys are tuples of ints and texts (the empty one is both) -/
  | dK (kvs : List (Key × V)) | dT (kvs : List (List Key × V))
  /-- a set of ints: its members, its size -/
  | set (S : Int → Bool) (n : Nat)
  /-- an instance of the class at C, its dict at dx, its attributes -/
  | ins (C dx : Addr) (fs : List (Str × V))
  /-- the dict of the instance at x -/
  | own (x : Addr)
  /-- the dict of an exception -/
  | xd (fs : List (Str × V))
  /-- a bound method, f of x -/
  | met (f x : Addr)
  /-- a range object lo, lo + 1, .. below hi -/
  | rng (lo hi : Int)
  /-- a thing that is known to the object (the script; a dict while a loop walks it): read, never written while it is so -/
  | frz (o : Obj) (u : HO)
  /-- a code object's table -/
  | tbl (ps : Array Value)
  /-- any other thing, by what is true of its one object (a def of one's own: SetO a S n := HO.ext fun h => ..) -/
  | ext (φ : Heap → Prop)

noncomputable abbrev Hp := Addr → Option HO
noncomputable def upd (H : Hp) (a : Addr) (o : HO) : Hp := fun b => if b = a then some o else H b
theorem upd_same {H : Hp} {a : Addr} {o : HO} : upd H a o a = some o := by unfold upd; rw [if_pos rfl]
theorem upd_ne {H : Hp} {a b : Addr} {o : HO} (h : b ≠ a) : upd H a o b = H b := by unfold upd; rw [if_neg h]
theorem ne_of {H : Hp} {a b : Addr} {o u : HO} (h : H a = some o) (h' : H b = some u) (d : o ≠ u) : a ≠ b := by
  intro e; subst e; rw [h] at h'; exact d (Option.some.inj h')
theorem ne_of_none {H : Hp} {a b : Addr} {o : HO} (h : H a = some o) (h' : H b = none) : a ≠ b := by
  intro e; subst e; rw [h] at h'; cases h'

section
variable (P : Program) (w : World)
noncomputable def ObjOk (H : Hp) (h : Heap) (a : Addr) : HO → Prop
  | .lst xs => xs.length ≤ sizeLine ∧ ∃ (its : List Value) (n : Nat), Vals xs its ∧ h.get? a = some { cls := .type "list", data := .seq its.toArray n }
  | .tup xs => xs.length ≤ sizeLine ∧ ∃ its : List Value, Vals xs its ∧ TupD h a its.toArray
  | .dK kvs => kvs.length ≤ sizeLine ∧ (a == sysModules) = false ∧ ∃ vs, KV kvs vs ∧ h.DictOf (mixKind P w) a vs
  | .dT kvs => kvs.length ≤ sizeLine ∧ (a == sysModules) = false ∧ ∃ xs : List (List Key × Addr × Value),
      Paired (fun (p : List Key × V) (q : List Key × Addr × Value) => p.1 = q.1 ∧ H q.2.1 = some (.tup (p.1.map kV)) ∧ RelV p.2 q.2.2) kvs xs ∧
      ∃ o es ep, h.get? a = some o ∧ o.ExactDict ∧ o.data = .dict es ep ∧ es.toList = xs.map (entryOfKey (tupleKind (mixKind P w))) ∧ (xs.map (·.1)).Nodup
  | .set S n => h.SetOf (intKind P w) a S n
  | .ins C dx fs => H dx = some (.own a) ∧ fs.length ≤ 1000 ∧ dx ≠ a ∧ h.get? a = some (PySem.W.instObj C dx) ∧
      ∃ mA, h.Ns1 dx mA ∧ (∀ f, RelO (fs.lookup f) (mA f)) ∧ PySem.Within mA (fs.map (·.1))
  | .own _ => ∃ o, h.get? a = some o
  | .xd fs => ∃ mA, h.Ns1 a mA ∧ ∀ f, RelO (fs.lookup f) (mA f)
  | .rng lo hi => ∃ t u v, h.get? a = some { cls := .type "range", data := .fields #[.int lo t, .int hi u, .int 1 v] }
  | .frz o u => h.get? a = some o ∧ ObjOk H h a u
  | .tbl ps => h.get? a = some { cls := .none, data := .fields ps }
  | .met f x => h.get? a = some (PySem.W.methodObj (.ref f) (.ref x))
  | .ext φ => φ h ∧ (∃ o, h.get? a = some o) ∧ ∀ h1 h2 : Heap, φ h1 → (∀ o, h1.get? a = some o → h2.get? a = some o) → φ h2
noncomputable def HOk (H : Hp) (h : Heap) : Prop := ∀ a o, H a = some o → ObjOk P w H h a o
end
section
variable {P : Program} {w : World} {H H' : Hp} {h h' : Heap} {a : Addr} {o : HO}
theorem ObjOk.lt (x : ObjOk P w H h a o) : a < h.objs.size := by
  cases o with
  | lst xs => obtain ⟨_, _, _, _, e⟩ := x; exact Heap.lt_size e
  | tup xs => obtain ⟨_, _, _, p⟩ := x; exact p.tup.lt
  | dK kvs => obtain ⟨_, _, _, _, o, _, _, e, _⟩ := x; exact Heap.lt_size e
  | dT kvs => obtain ⟨_, _, _, _, o, _, _, e, _⟩ := x; exact Heap.lt_size e
  | set S n => obtain ⟨o, _, _, _, e, _⟩ := x; exact Heap.lt_size e
  | ins C dx fs => obtain ⟨_, _, _, e, _⟩ := x; exact Heap.lt_size e
  | own y => obtain ⟨_, e⟩ := x; exact Heap.lt_size e
  | xd fs => obtain ⟨_, ⟨_, _, _, e, _⟩, _⟩ := x; exact Heap.lt_size e
  | rng lo hi => obtain ⟨_, _, _, e⟩ := x; exact Heap.lt_size e
  | frz ob u => obtain ⟨e, _⟩ := x; exact Heap.lt_size e
  | tbl ps => exact Heap.lt_size (show h.get? a = some _ from x)
  | met f y => exact Heap.lt_size (show h.get? a = some _ from x)
  | ext φ => obtain ⟨_, ⟨_, e⟩, _⟩ := x; exact Heap.lt_size e
theorem Paired.mapP {α β : Type} {F G : α → β → Prop} : ∀ {l₁ : List α} {l₂ : List β}, Paired F l₁ l₂ → (∀ a b, F a b → G a b) → Paired G l₁ l₂
  | _, _, .nil, _ => .nil
  | _, _, .cons r t, f => .cons (f _ _ r) (Paired.mapP t f)
theorem ObjOk.stay (x : ObjOk P w H h a o) (k : ∀ b u, (b = a ∨ H b = some (.own a)) → h.get? b = some u → h'.get? b = some u)
    (ho : ∀ b, H b = some (.own a) → H' b = some (.own a)) (ht : ∀ b xs, H b = some (.tup xs) → H' b = some (.tup xs)) : ObjOk P w H' h' a o := by
  induction o with
  | lst xs => obtain ⟨z, its, n, r, e⟩ := x; exact ⟨z, its, n, r, k _ _ (.inl rfl) e⟩
  | tup xs => obtain ⟨z, its, r, ob, e⟩ := x; exact ⟨z, its, r, ob, k _ _ (.inl rfl) e⟩
  | dK kvs => obtain ⟨z, y, vs, r, ob, es, ep, e, c⟩ := x; exact ⟨z, y, vs, r, ob, es, ep, k _ _ (.inl rfl) e, c⟩
  | dT kvs =>
    obtain ⟨z, y, xs, r, ob, es, ep, e, c⟩ := x
    exact ⟨z, y, xs, Paired.mapP r fun p q z => ⟨z.1, ht _ _ z.2.1, z.2.2⟩, ob, es, ep, k _ _ (.inl rfl) e, c⟩
  | set S n => obtain ⟨ob, es, ep, t, e, c⟩ := x; exact ⟨ob, es, ep, t, k _ _ (.inl rfl) e, c⟩
  | ins C dx fs =>
    obtain ⟨d, z, ne, e, mA, ⟨od, es, ep, e2, c⟩, r⟩ := x
    exact ⟨ho _ d, z, ne, k _ _ (.inl rfl) e, mA, ⟨od, es, ep, k _ _ (.inr d) e2, c⟩, r⟩
  | own y => obtain ⟨ob, e⟩ := x; exact ⟨ob, k _ _ (.inl rfl) e⟩
  | xd fs => obtain ⟨mA, ⟨od, es, ep, e, c⟩, r⟩ := x; exact ⟨mA, ⟨od, es, ep, k _ _ (.inl rfl) e, c⟩, r⟩
  | rng lo hi => obtain ⟨t, u, v, e⟩ := x; exact ⟨t, u, v, k _ _ (.inl rfl) e⟩
  | frz ob u ih => obtain ⟨e, q⟩ := x; exact ⟨k _ _ (.inl rfl) e, ih q⟩
  | tbl ps =>
    have e : h.get? a = some { cls := .none, data := .fields ps } := x
    show h'.get? a = some { cls := .none, data := .fields ps }
    exact k a _ (.inl rfl) e
  | met f y =>
    have e : h.get? a = some (PySem.W.methodObj (.ref f) (.ref y)) := x
    show h'.get? a = some (PySem.W.methodObj (.ref f) (.ref y))
    exact k a _ (.inl rfl) e
  | ext φ => obtain ⟨p, ⟨o, e⟩, st⟩ := x; exact ⟨st _ _ p fun o q => k _ _ (.inl rfl) q, ⟨o, k _ _ (.inl rfl) e⟩, st⟩
theorem HOk.lt (x : HOk P w H h) (e : H a = some o) : a < h.objs.size := (x a o e).lt
theorem HOk.fresh (x : HOk P w H h) (e : h.objs.size ≤ a) : H a = none := by
  cases q : H a with
  | none => rfl
  | some u => exact absurd (Nat.lt_of_lt_of_le (x.lt q) e) (Nat.lt_irrefl _)
theorem HOk.kept (x : HOk P w H h) (k : ∀ b u, h.get? b = some u → h'.get? b = some u) : HOk P w H h' := fun a o e =>
  (x a o e).stay (fun b u _ q => k b u q) (fun _ q => q) fun _ _ q => q
theorem HOk.laid (x : HOk P w H h) (k : ∀ b u, h.get? b = some u → h'.get? b = some u) (hp : h.objs.size ≤ a) (new : ObjOk P w (upd H a o) h' a o) : HOk P w (upd H a o) h' := fun b u e => by
  have hn := x.fresh hp
  by_cases hb : b = a
  · subst hb; rw [upd_same] at e; cases e; exact new
  · rw [upd_ne hb] at e
    exact (x b u e).stay (fun c v _ q => k c v q) (fun c q => by rw [upd_ne (ne_of_none q hn)]; exact q) fun c xs q => by rw [upd_ne (ne_of_none q hn)]; exact q
end
noncomputable def Rd (H : Hp) (a : Addr) (u : HO) : Prop := H a = some u ∨ ∃ o, H a = some (.frz o u)
theorem Rd.ok {P : Program} {w : World} {H : Hp} {h : Heap} {a : Addr} {u : HO} (r : Rd H a u) (x : HOk P w H h) : ObjOk P w H h a u := by
  rcases r with r | ⟨o, r⟩
  · exact x a u r
  · obtain ⟨_, q⟩ := x a _ r
    exact q
noncomputable def Mut : Option HO → Prop
  | some (.lst _) => True
  | some (.dK _) => True
  | some (.dT _) => True
  | some (.set _ _) => True
  | some (.ins _ _ _) => True
  | some (.ext _) => True
  | _ => False
section
variable {P : Program} {w : World} {H : Hp} {h h' : Heap} {x e : Addr} {o' : HO}
theorem HOk.write (ok : HOk P w H h) (mu : Mut (H x)) (he : e = x ∨ H e = some (.own x)) (k : ∀ b u, b ≠ e → h.get? b = some u → h'.get? b = some u) (heo : ∃ u, h'.get? e = some u)
    (new : ObjOk P w (upd H x o') h' x o') : HOk P w (upd H x o') h' := fun b u q => by
  have nown : ∀ c y, H c = some (.own y) → c ≠ x := fun c y r z => by subst z; rw [r] at mu; exact mu
  have ntup : ∀ c xs, H c = some (.tup xs) → c ≠ x := fun c xs r z => by subst z; rw [r] at mu; exact mu
  by_cases hb : b = x
  · subst hb; rw [upd_same] at q; cases q; exact new
  · rw [upd_ne hb] at q
    by_cases hbe : b = e
    · have q' : H b = some (.own x) := by
        rcases he with z | z
        · exact absurd (hbe.trans z) hb
        · rw [hbe]; exact z
      rw [q] at q'; cases q'
      obtain ⟨v, hv⟩ := heo
      exact ⟨v, by rw [hbe]; exact hv⟩
    · refine (ok b u q).stay (fun c v hc r => k c v ?_ r) (fun c r => by rw [upd_ne (nown c b r)]; exact r) fun c xs r => by rw [upd_ne (ntup c xs r)]; exact r
      rcases hc with rfl | hc
      · exact hbe
      · rintro rfl
        rcases he with z | z
        · exact nown c b hc z
        · rw [hc] at z; cases z; exact hb rfl
end
structure Un (fs ex : List Addr) (H H' : Hp) (h h' : Heap) : Prop where
  keep : ∀ b o, h.get? b = some o → H b = none → b ∉ fs → b ∉ ex → h'.get? b = some o
  slot : ∀ b o, h.get? b = some o → H b = none → b ∈ fs → b ∉ ex → ∃ sl, h'.get? b = some { o with slots := sl }
  free : ∀ b o, h.get? b = some o → H b = none → b ∉ ex → H' b = none
  there : ∀ b o, h.get? b = some o → b ∉ ex → ∃ o', h'.get? b = some o'
  tups : ∀ b xs, H b = some (.tup xs) → H' b = some (.tup xs)
  frzs : ∀ b o u, H b = some (.frz o u) → H' b = some (.frz o u)
  tbls : ∀ b ps, H b = some (.tbl ps) → ∃ more, H' b = some (.tbl (ps ++ more))
section
variable {fs fs' ex ex' : List Addr} {H H1 H2 : Hp} {h h1 h2 h' : Heap} {a x e : Addr} {o : HO}
theorem Un.any (u : Un fs ex H H1 h h1) {b : Addr} {ob : Obj} (q : h.get? b = some ob) (n : H b = none) (hx : b ∉ ex) : ∃ sl, h1.get? b = some { ob with slots := sl } := by
  by_cases hb : b ∈ fs
  · exact u.slot b ob q n hb hx
  · exact ⟨ob.slots, u.keep b ob q n hb hx⟩
theorem Un.kept (k : ∀ b u, h.get? b = some u → h'.get? b = some u) : Un fs ex H H h h' :=
  ⟨fun b ob q _ _ _ => k b ob q, fun b ob q _ _ _ => ⟨ob.slots, k b ob q⟩, fun _ _ _ n _ => n, fun b ob q _ => ⟨ob, k b ob q⟩, fun _ _ q => q, fun _ _ _ q => q, fun _ ps q => ⟨#[], by rw [q]; simp⟩⟩
theorem Un.refl : Un fs ex H H h h := Un.kept fun _ _ q => q
theorem Un.laid (k : ∀ b u, h.get? b = some u → h'.get? b = some u) (hp : h.objs.size ≤ a) (hn : H a = none) : Un fs ex H (upd H a o) h h' where
  keep := fun b u q _ _ _ => k b u q
  slot := fun b u q _ _ _ => ⟨u.slots, k b u q⟩
  free := fun b u q n _ => by rw [upd_ne (Nat.ne_of_lt (Nat.lt_of_lt_of_le (Heap.lt_size q) hp))]; exact n
  there := fun b u q _ => ⟨u, k b u q⟩
  tups := fun b xs q => by rw [upd_ne (ne_of_none q hn)]; exact q
  frzs := fun b u xs q => by rw [upd_ne (ne_of_none q hn)]; exact q
  tbls := fun b ps q => ⟨#[], by rw [upd_ne (ne_of_none q hn), q]; simp⟩
theorem Un.write (mu : Mut (H x)) (he : e = x ∨ H e = some (.own x)) (k : ∀ b u, b ≠ e → h.get? b = some u → h'.get? b = some u) (heo : ∃ u, h'.get? e = some u) : Un fs ex H (upd H x o) h h' := by
  have hx : ∀ b, H b = none → b ≠ x := fun b n z => by subst z; rw [n] at mu; exact mu
  have hb : ∀ b, H b = none → b ≠ e := fun b n z => by
    subst z
    rcases he with r | r
    · exact hx b n r
    · rw [n] at r; cases r
  have hm : ∀ b u, H b = some u → ¬ Mut (some u) → b ≠ x := fun b u q nm z => by subst z; rw [q] at mu; exact nm mu
  refine ⟨fun b u q n _ _ => k b u (hb b n) q, fun b u q n _ _ => ⟨u.slots, k b u (hb b n) q⟩, fun b u q n _ => by rw [upd_ne (hx b n)]; exact n, fun b u q _ => ?_,
    fun b xs q => by rw [upd_ne (hm b _ q fun z => z)]; exact q, fun b u xs q => by rw [upd_ne (hm b _ q fun z => z)]; exact q, fun b ps q => ⟨#[], by rw [upd_ne (hm b _ q fun z => z), q]; simp⟩⟩
  by_cases hbe : b = e
  · subst hbe; exact heo
  · exact ⟨u, k b u hbe q⟩
end
noncomputable def trk (h : Heap) (H : Hp) : List Addr := (List.range h.objs.size).filter fun a => (H a).isSome
noncomputable def hidT (h : Heap) (H : Hp) : Heap := PySem.W.hideAll h (trk h H)
theorem hidT_size (h : Heap) (H : Hp) : (hidT h H).objs.size = h.objs.size := PySem.W.hideAll_size _ _
theorem hidT_get {h : Heap} {H : Hp} {b : Addr} {o : Obj} (e : h.get? b = some o) (n : H b = none) : (hidT h H).get? b = some o :=
  PySem.W.hideAll_get _ e fun hm => by
    have q : (H b).isSome = true := (List.mem_filter.mp hm).2
    rw [n] at q; simp at q
theorem of_hidT {h : Heap} {H : Hp} {b : Addr} {o : Obj} (e : (hidT h H).get? b = some o) : h.get? b = some o ∧ H b = none := by
  have e' : h.get? b = some o := PySem.W.of_hideAll (trk h H) e
  refine ⟨e', ?_⟩
  cases q : H b with
  | none => rfl
  | some x =>
    have hm : b ∈ trk h H := List.mem_filter.mpr ⟨List.mem_range.mpr (Heap.lt_size e'), by simp [q]⟩
    have z : (hidT h H).get? b = none := PySem.W.hideAll_none (trk h H) hm
    rw [z] at e; cases e

end L2
namespace L2
open PySem PySem.Spec PyProof.Rows
structure Mod (K : PySem.W.Frag) (mg : Str → Option Value) (base : Heap) : Prop where
  kin : K.In base
  glob : base.Ns mainGlobals mg
  blt : ∃ mb, base.Ns builtinsNs mb ∧ ∀ x : Str, x ≠ "__name__" → mb x = bootBuiltins x
  nolimit : base.NoLimit

structure Cx where
  prog : Program
  w : World
  K : PySem.W.Frag
  mg : Str → Option Value
  base : Heap
  A : Around
  N : List Str
  s₀ : Shared
  H₀ : Hp
  env : Env
  outer : List Env
  stack : List Env
  ex : List Addr
  fn : Str → Bool
  calm : Bool
  pn : List (Addr × Obj)
  xe : Value → Shared → Prop
noncomputable def frs (l : List Env) : List Addr := l.filterMap (·.frame)
noncomputable abbrev Cx.fs (X : Cx) : List Addr := frs X.outer

noncomputable def Vis (sc : Scope) (x : Str) : Prop := sc.names.lookup x = some .local ∨ sc.names.lookup x = some .cell ∨ sc.names.lookup x = some .free
noncomputable def Loc (sc : Scope) (x : Str) : Prop := sc.names.lookup x = some .local ∨ sc.names.lookup x = some .cell
noncomputable def Look (env : Env) (h : Heap) (m : Str → Option Value) (x : Str) (u : Value) : Prop :=
  (env.kindOf x = some .local ∧ m x = some u) ∨ ((env.kindOf x = some .cell ∨ env.kindOf x = some .free) ∧ ∃ c, env.cells.lookup x = some c ∧ h.IsCell c (some u))

structure Cx.Ok (X : Cx) : Prop where
  mod : Mod X.K X.mg X.base
  kind : X.env.scope.kind = .function
  glob : X.env.globals = mainGlobals
  blt : X.env.builtins = builtinsNs
  above : X.s₀.heap.objs.size ≤ X.env.locals
  inj : ∀ x y c, X.env.cells.lookup x = some c → X.env.cells.lookup y = some c → x = y
  has : ∀ x, (X.env.kindOf x = some .cell ∨ X.env.kindOf x = some .free) → ∃ c, X.env.cells.lookup x = some c
  cab : ∀ x c, X.fn x = true → X.env.cells.lookup x = some c → X.s₀.heap.objs.size ≤ c
  hd : X.calm = true → X.A.handled = none
  frames : X.A.frames = some X.stack
  stk : X.stack = X.outer ∨ (X.stack = X.env :: X.outer ∧ X.env.frame = some X.env.locals)
  exf : ∀ b ∈ X.ex, b ≠ X.env.locals ∧ ∀ x c, X.env.cells.lookup x = some c → c ≠ b
  bs : ∀ b o, X.base.get? b = some o → X.s₀.heap.get? b = some o ∧ X.H₀ b = none
  bsz : X.base.objs.size ≤ X.s₀.heap.objs.size
  noex : ∀ b o, X.base.get? b = some o → b ∉ X.ex
  exfs : ∀ b ∈ X.ex, b ∉ X.fs
  funs : X.s₀.heap.FunFrames X.base X.outer
  frf : ∀ b ∈ X.fs, X.H₀ b = none

structure Inv (X : Cx) (pins : List (Addr × Obj)) (σ : List (Option V)) (H : Hp) (s : Shared) : Prop where
  ok : X.Ok
  os : s.os = X.s₀.os
  bare : AllBare s.gens
  base : Un X.fs X.ex X.H₀ H X.s₀.heap s.heap
  loc : ∃ m, s.heap.Ns X.env.locals m ∧ ∀ (i : Nat) (x : Str) (v : V), X.N[i]? = some x → σ[i]? = some (some v) → Vis X.env.scope x → ∃ u, RelV v u ∧ Look X.env s.heap m x u
  cell : ∀ x c, X.env.cells.lookup x = some c → ∃ v, s.heap.IsCell c v
  free : H X.env.locals = none
  freeC : ∀ x c, X.env.cells.lookup x = some c → H c = none
  pin : ∀ p ∈ X.pn ++ pins, s.heap.get? p.1 = some p.2 ∧ H p.1 = none ∧ p.1 ≠ X.env.locals ∧ p.1 ∉ X.fs ∧ ∀ v, p.2.data ≠ .cell v
  hok : HOk X.prog X.w H s.heap
  len : σ.length = X.N.length

section
variable {X : Cx} {pins : List (Addr × Obj)} {σ : List (Option V)} {H H' : Hp} {s : Shared} {h' : Heap}
theorem Cx.Ok.nofr (ok : X.Ok) {b : Addr} {o : Obj} (e : X.base.get? b = some o) : b ∉ X.fs := fun hb => by
  have := (ok.funs.mem hb).1
  rw [e] at this; cases this
theorem Inv.bs (I : Inv X pins σ H s) : ∀ b o, X.base.get? b = some o → s.heap.get? b = some o ∧ H b = none := fun b o e =>
  ⟨I.base.keep b o (I.ok.bs b o e).1 (I.ok.bs b o e).2 (I.ok.nofr e) (I.ok.noex b o e), I.base.free b o (I.ok.bs b o e).1 (I.ok.bs b o e).2 (I.ok.noex b o e)⟩
theorem Inv.bk (I : Inv X pins σ H s) : ∀ b o, X.base.get? b = some o → s.heap.get? b = some o := fun b o e => (I.bs b o e).1
theorem Inv.mod (I : Inv X pins σ H s) : Mod X.K X.mg X.base := I.ok.mod
theorem Inv.kIn (I : Inv X pins σ H s) : X.K.In s.heap := I.ok.mod.kin.keeps I.bk
theorem Inv.lt (I : Inv X pins σ H s) : X.env.locals < s.heap.objs.size := let ⟨_, hn, _⟩ := I.loc; hn.lt
theorem Inv.sz (I : Inv X pins σ H s) : X.s₀.heap.objs.size ≤ s.heap.objs.size := Nat.le_trans I.ok.above (Nat.le_of_lt I.lt)
theorem Inv.nofs (I : Inv X pins σ H s) {a : Addr} (h : s.heap.objs.size ≤ a) : a ∉ X.fs := fun hb => by
  obtain ⟨_, o, ho, _⟩ := I.ok.funs.mem hb
  exact absurd (Nat.lt_of_lt_of_le (Heap.lt_size ho) (Nat.le_trans I.sz h)) (Nat.lt_irrefl _)
theorem Inv.cne (I : Inv X pins σ H s) : ∀ x c, X.env.cells.lookup x = some c → c ≠ X.env.locals := fun x c e z => by
  obtain ⟨v, o, ho, hd⟩ := I.cell x c e
  obtain ⟨m, ⟨o', es, ep, ho', hd', _⟩, _⟩ := I.loc
  rw [z, ho'] at ho; cases ho; rw [hd'] at hd; cases hd
theorem Inv.funs (I : Inv X pins σ H s) : s.heap.FunFrames X.base X.outer := by
  have all : ∀ (l : List Env), (∀ b ∈ frs l, b ∈ X.fs) → X.s₀.heap.FunFrames X.base l → s.heap.FunFrames X.base l := by
    intro l
    induction l with
    | nil => intro _ _; trivial
    | cons env r ih =>
      intro hs hl
      obtain ⟨hk, ⟨L, o, hf, hn, ho, hd⟩, hr⟩ := hl
      have hL : L ∈ X.fs := hs L (by unfold frs; rw [List.filterMap_cons, hf]; exact List.mem_cons_self)
      obtain ⟨sl, e⟩ := I.base.slot L o ho (I.ok.frf L hL) hL fun z => I.ok.exfs L z hL
      exact ⟨hk, ⟨L, _, hf, hn, e, hd⟩, ih (fun b hb => hs b (by unfold frs; rw [List.filterMap_cons, hf]; exact List.mem_cons_of_mem _ hb)) hr⟩
  exact all X.outer (fun _ hb => hb) I.ok.funs

theorem Inv.stack (I : Inv X pins σ H s) : s.heap.FunFrames X.base X.stack := by
  rcases I.ok.stk with e | ⟨e, hf⟩
  · rw [e]; exact I.funs
  · rw [e]
    obtain ⟨m, hn, _⟩ := I.loc
    refine .cons (by rw [I.ok.kind]; decide) hf hn ?_ I.funs
    exact Heap.get?_none_of_le (Nat.le_trans I.ok.bsz I.ok.above)
theorem Inv.stkSub (I : Inv X pins σ H s) : ∀ b ∈ frs X.stack, b ∈ X.env.locals :: X.fs := fun b hb => by
  rcases I.ok.stk with e | ⟨e, hf⟩
  · rw [e] at hb; exact List.mem_cons_of_mem _ hb
  · rw [e] at hb
    unfold frs at hb
    rw [List.filterMap_cons, hf] at hb
    exact hb
theorem Inv.stkFree (I : Inv X pins σ H s) : ∀ b ∈ frs X.stack, H b = none := fun b hb => by
  rcases List.mem_cons.mp (I.stkSub b hb) with e | hb
  · rw [e]; exact I.free
  · obtain ⟨_, o, ho, _⟩ := I.ok.funs.mem hb
    exact I.base.free b o ho (I.ok.frf b hb) fun z => I.ok.exfs b z hb

theorem Inv.step {g' : Array GenState} {t' : Nat} {d' : Drawn} {ch : List Addr} (I : Inv X pins σ H s)
    (hch : ∀ b ∈ ch, (b ∈ X.ex ∨ X.s₀.heap.objs.size ≤ b) ∧ b ≠ X.env.locals ∧ (∀ x c, X.env.cells.lookup x = some c → c ≠ b) ∧ ∀ p ∈ X.pn ++ pins, p.1 ≠ b)
    (keep : ∀ b o, b ≠ X.env.locals → b ∉ X.fs → b ∉ ch → s.heap.get? b = some o → H b = none → h'.get? b = some o)
    (slot : ∀ b o, b ≠ X.env.locals → b ∈ X.fs → b ∉ ch → s.heap.get? b = some o → H b = none → ∃ sl, h'.get? b = some { o with slots := sl }) (free : ∀ b o, b ∉ ch → s.heap.get? b = some o → H b = none → H' b = none)
    (there : ∀ b o, b ∉ ch → s.heap.get? b = some o → ∃ o', h'.get? b = some o')
    (tups : ∀ b xs, H b = some (.tup xs) → H' b = some (.tup xs)) (frzs : ∀ b o u, H b = some (.frz o u) → H' b = some (.frz o u)) (tbls : ∀ b ps, H b = some (.tbl ps) → ∃ more, H' b = some (.tbl (ps ++ more)))
    (ns : ∀ m, s.heap.Ns X.env.locals m → h'.Ns X.env.locals m) (hok : HOk X.prog X.w H' h') (hg : AllBare g') :
    Inv X pins σ H' { s with heap := h', gens := g', drawn := d', toks := t' } := by
  have neL : ∀ b o, X.s₀.heap.get? b = some o → b ≠ X.env.locals := fun b o e => Nat.ne_of_lt (Nat.lt_of_lt_of_le (Heap.lt_size e) I.ok.above)
  have neC : ∀ b o, X.s₀.heap.get? b = some o → b ∉ X.ex → b ∉ ch := fun b o e hx hb => by
    rcases (hch b hb).1 with z | z
    · exact hx z
    · exact absurd (Nat.lt_of_lt_of_le (Heap.lt_size e) z) (Nat.lt_irrefl _)
  have cellK : ∀ x c, X.env.cells.lookup x = some c → ∀ v, s.heap.IsCell c v → h'.IsCell c v := fun x c e v ⟨o, ho, hd⟩ => by
    have nch : c ∉ ch := fun z => (hch c z).2.2.1 x c e rfl
    by_cases hc : c ∈ X.fs
    · obtain ⟨sl, q⟩ := slot c o (I.cne x c e) hc nch ho (I.freeC x c e)
      exact ⟨_, q, hd⟩
    · exact ⟨o, keep c o (I.cne x c e) hc nch ho (I.freeC x c e), hd⟩
  refine ⟨I.ok, I.os, hg, ⟨fun b o e n hb hx => ?_, fun b o e n hb hx => ?_, fun b o e n hx => ?_, fun b o e hx => ?_, fun b xs e => tups b xs (I.base.tups b xs e), fun b o xs e => frzs b o xs (I.base.frzs b o xs e), fun b ps e => ?_⟩, ?_, fun x c e => ?_, ?_, fun x c e => ?_, fun p hp => ?_, hok, I.len⟩
  · exact keep b o (neL b o e) hb (neC b o e hx) (I.base.keep b o e n hb hx) (I.base.free b o e n hx)
  · obtain ⟨sl, e1⟩ := I.base.slot b o e n hb hx
    obtain ⟨sl', e2⟩ := slot b _ (neL b o e) hb (neC b o e hx) e1 (I.base.free b o e n hx)
    exact ⟨sl', e2⟩
  · obtain ⟨o', e1⟩ := I.base.there b o e hx
    exact free b o' (neC b o e hx) e1 (I.base.free b o e n hx)
  · obtain ⟨o', e1⟩ := I.base.there b o e hx
    exact there b o' (neC b o e hx) e1
  · obtain ⟨m1, e1⟩ := I.base.tbls b ps e
    obtain ⟨m2, e2⟩ := tbls b _ e1
    exact ⟨m1 ++ m2, by rw [e2, Array.append_assoc]⟩
  · obtain ⟨m, hn, hl⟩ := I.loc
    refine ⟨m, ns m hn, fun i x v e1 e2 e3 => ?_⟩
    obtain ⟨u, r, l⟩ := hl i x v e1 e2 e3
    refine ⟨u, r, ?_⟩
    rcases l with l | ⟨k, c, e, z⟩
    · exact .inl l
    · exact .inr ⟨k, c, e, cellK x c e _ z⟩
  · obtain ⟨v, z⟩ := I.cell x c e
    exact ⟨v, cellK x c e v z⟩
  · obtain ⟨m, ⟨o, _, _, ho, _⟩, _⟩ := I.loc
    exact free _ o (fun z => (hch _ z).2.1 rfl) ho I.free
  · obtain ⟨v, o, ho, hd⟩ := I.cell x c e
    exact free c o (fun z => (hch c z).2.2.1 x c e rfl) ho (I.freeC x c e)
  · obtain ⟨e, n, ne, nf, d⟩ := I.pin p hp
    have nch : p.1 ∉ ch := fun z => (hch p.1 z).2.2.2 p hp rfl
    exact ⟨keep p.1 p.2 ne nf nch e n, free p.1 p.2 nch e n, ne, nf, d⟩
theorem Inv.un {t' : Nat} (I : Inv X pins σ H s) (u : Un X.fs [] H H' s.heap h') (hok : HOk X.prog X.w H' h') : Inv X pins σ H' { s with heap := h', toks := t' } := by
  obtain ⟨m, ⟨o, es, ep, ho, r⟩, _⟩ := id I.loc
  obtain ⟨sl, hL⟩ := u.any ho I.free (by simp)
  exact I.step (g' := s.gens) (d' := s.drawn) (ch := []) (fun _ z => nomatch z) (fun b o _ hb _ e n => u.keep b o e n hb (by simp)) (fun b o _ hb _ e n => u.slot b o e n hb (by simp)) (fun b o _ e n => u.free b o e n (by simp)) (fun b o _ e => u.there b o e (by simp)) u.tups u.frzs u.tbls (fun m' hm => by
    obtain ⟨o', es', ep', ho', r'⟩ := hm
    rw [ho] at ho'; cases ho'
    exact ⟨_, es', ep', hL, r'⟩) hok I.bare
theorem Inv.call {g' : Array GenState} {t' : Nat} {d' : Drawn} {ch : List Addr} (I : Inv X pins σ H s) (u : Un (frs X.stack) ch H H' s.heap h') (hok : HOk X.prog X.w H' h') (hg : AllBare g')
    (hch : ∀ b ∈ ch, (b ∈ X.ex ∨ X.s₀.heap.objs.size ≤ b) ∧ b ≠ X.env.locals ∧ (∀ x c, X.env.cells.lookup x = some c → c ≠ b) ∧ ∀ p ∈ X.pn ++ pins, p.1 ≠ b) :
    Inv X pins σ H' { s with heap := h', gens := g', drawn := d', toks := t' } := by
  obtain ⟨m, ⟨o, es, ep, ho, r⟩, _⟩ := id I.loc
  obtain ⟨sl, hL⟩ := u.any ho I.free fun z => (hch _ z).2.1 rfl
  exact I.step (ch := ch) hch (fun b o hL hb hc e n => u.keep b o e n (fun z => (List.mem_cons.mp (I.stkSub b z)).elim hL hb) hc) (fun b o _ _ hc e n => u.any e n hc) (fun b o hc e n => u.free b o e n hc) (fun b o hc e => u.there b o e hc) u.tups u.frzs u.tbls (fun m' hm => by
    obtain ⟨o', es', ep', ho', r'⟩ := hm
    rw [ho] at ho'; cases ho'
    exact ⟨_, es', ep', hL, r'⟩) hok hg
theorem Inv.turned {t' : Nat} {it : Addr} (I : Inv X pins σ H s) (k : ∀ b o, b ≠ it → s.heap.get? b = some o → h'.get? b = some o) (hn : H it = none) (hL : it ≠ X.env.locals)
    (h1 : it ∈ X.ex ∨ X.s₀.heap.objs.size ≤ it) (h2 : ∀ x c, X.env.cells.lookup x = some c → c ≠ it) (h3 : ∀ p ∈ X.pn ++ pins, p.1 ≠ it) : Inv X pins σ H { s with heap := h', toks := t' } := by
  have nit : ∀ b u, H b = some u → b ≠ it := fun b u e z => by rw [z, hn] at e; cases e
  refine I.step (g' := s.gens) (d' := s.drawn) (ch := [it]) (fun b hb => ?_) (fun b o _ _ hc e _ => k b o (fun z => hc (by simp [z])) e) (fun b o _ _ hc e _ => ⟨o.slots, k b o (fun z => hc (by simp [z])) e⟩) (fun _ _ _ _ n => n)
    (fun b o hc e => ⟨o, k b o (fun z => hc (by simp [z])) e⟩) (fun _ _ e => e) (fun _ _ _ e => e) (fun b ps e => ⟨#[], by rw [e]; simp⟩) (fun m hm => ?_) (fun b u e => ?_) I.bare
  · have e : b = it := by simpa using hb
    subst e
    exact ⟨h1, hL, h2, h3⟩
  · obtain ⟨o, es, ep, ho, r⟩ := hm
    exact ⟨o, es, ep, k _ o (Ne.symm hL) ho, r⟩
  · refine (I.hok b u e).stay (fun c v hc q => k c v ?_ q) (fun _ q => q) fun _ _ q => q
    rcases hc with z | z
    · rw [z]; exact nit b u e
    · exact nit c _ z
theorem Inv.tok (I : Inv X pins σ H s) (t : Nat) : Inv X pins σ H { s with toks := t } := I.un (h' := s.heap) (t' := t) Un.refl I.hok
theorem Inv.kept {t' : Nat} (I : Inv X pins σ H s) (k : ∀ b u, s.heap.get? b = some u → h'.get? b = some u) : Inv X pins σ H { s with heap := h', toks := t' } := I.un (Un.kept k) (I.hok.kept k)
theorem Inv.laid {a : Addr} {o : HO} {t' : Nat} (I : Inv X pins σ H s) (k : ∀ b u, s.heap.get? b = some u → h'.get? b = some u) (hp : s.heap.objs.size ≤ a) (new : ObjOk X.prog X.w (upd H a o) h' a o) :
    Inv X pins σ (upd H a o) { s with heap := h', toks := t' } := I.un (Un.laid k hp (I.hok.fresh hp)) (I.hok.laid k hp new)
theorem Inv.write {x e : Addr} {o : HO} {t' : Nat} (I : Inv X pins σ H s) (mu : Mut (H x)) (he : e = x ∨ H e = some (.own x)) (k : ∀ b u, b ≠ e → s.heap.get? b = some u → h'.get? b = some u) (heo : ∃ u, h'.get? e = some u)
    (new : ObjOk X.prog X.w (upd H x o) h' x o) : Inv X pins σ (upd H x o) { s with heap := h', toks := t' } := I.un (Un.write mu he k heo) (I.hok.write mu he k heo new)
theorem Inv.weak {σ' : List (Option V)} (I : Inv X pins σ H s) (hl : σ'.length = σ.length) (w : ∀ (i : Nat) v, σ'[i]? = some (some v) → σ[i]? = some (some v)) : Inv X pins σ' H s :=
  ⟨I.ok, I.os, I.bare, I.base, let ⟨m, hn, hl'⟩ := I.loc; ⟨m, hn, fun i x v e1 e2 e3 => hl' i x v e1 (w i v e2) e3⟩, I.cell, I.free, I.freeC, I.pin, I.hok, hl.trans I.len⟩
theorem Inv.pins_of {pins' : List (Addr × Obj)} (I : Inv X pins σ H s) (h : ∀ p ∈ pins', s.heap.get? p.1 = some p.2 ∧ H p.1 = none ∧ p.1 ≠ X.env.locals ∧ p.1 ∉ X.fs ∧ ∀ v, p.2.data ≠ .cell v) : Inv X pins' σ H s :=
  ⟨I.ok, I.os, I.bare, I.base, I.loc, I.cell, I.free, I.freeC, fun p hp => (List.mem_append.mp hp).elim (fun z => I.pin p (List.mem_append_left _ z)) (h p), I.hok, I.len⟩

theorem nodup_ix {N : List Str} (hN : N.Nodup) {i j : Nat} {x : Str} (a : N[i]? = some x) (b : N[j]? = some x) : i = j := by
  obtain ⟨h1, e1⟩ := List.getElem?_eq_some_iff.mp a
  obtain ⟨h2, e2⟩ := List.getElem?_eq_some_iff.mp b
  exact (List.getElem_inj hN).mp (e1.trans e2.symm)

theorem store_ok2 {M : Model} {A : Around} {E : Value → Shared → Prop} {i : Nat} {x : Str} {v : V} {u : Value} {Q : Unit → Shared → Prop} (I : Inv X pins σ H s) (hN : X.N.Nodup) (hi : X.N[i]? = some x) (hx : Loc X.env.scope x) (r : RelV v u)
    (h : ∀ s', Inv X pins (σ.set i (some v)) H s' → (∃ a, Heap.SameBut a s.heap s'.heap ∧ (a = X.env.locals ∨ X.env.cells.lookup x = some a)) → Q () s') (hf : X.fn x = true ∨ X.env.scope.names.lookup x = some .local := by first | exact .inl rfl | exact .inr rfl | assumption) : wpAny M A (storeName X.env x u) Q E s := by
  obtain ⟨m, hn, hl⟩ := id I.loc
  have hcls : (X.env.scope.kind == .class || (X.env.scope.kind == .module && X.env.locals != X.env.globals)) = false := by rw [I.ok.kind]; rfl
  have hiσ : i < σ.length := by rw [I.len]; exact (List.getElem?_eq_some_iff.mp hi).1
  have cne := I.cne
  have tracked : ∀ {a : Addr} {h' : Heap}, (∃ o, s.heap.get? a = some o ∧ H a = none) → Heap.SameBut a s.heap h' → HOk X.prog X.w H h' := fun {a h'} ha hs b ob e => by
    obtain ⟨_, _, hfree⟩ := ha
    refine (I.hok b ob e).stay (fun c w' hc q => (hs.2 c ?_).trans q) (fun _ q => q) fun _ _ q => q
    rintro rfl
    rcases hc with rfl | hc
    · rw [hfree] at e; cases e
    · rw [hfree] at hc; cases hc
  rcases hx with hk | hk
  · refine wpAny_storeName_local hk hn (fun h' hn' hs => ?_) hcls
    obtain ⟨oL, _, _, hoL, _⟩ := id hn
    refine h _ ⟨I.ok, I.os, I.bare, ⟨fun b o e n hb hx => ?_, fun b o e n hb hx => ?_, I.base.free, fun b o e hx => ?_, I.base.tups, I.base.frzs, I.base.tbls⟩, ⟨_, hn', fun j y v' e1 e2 e3 => ?_⟩, fun y c e => ?_, I.free, I.freeC, fun p hp => ?_, tracked ⟨oL, hoL, I.free⟩ hs, by simpa using I.len⟩ ⟨_, hs, .inl rfl⟩
    · exact (hs.2 b (Nat.ne_of_lt (Nat.lt_of_lt_of_le (Heap.lt_size e) I.ok.above))).trans (I.base.keep b o e n hb hx)
    · obtain ⟨sl, e1⟩ := I.base.slot b o e n hb hx
      exact ⟨sl, (hs.2 b (Nat.ne_of_lt (Nat.lt_of_lt_of_le (Heap.lt_size e) I.ok.above))).trans e1⟩
    · obtain ⟨o', e1⟩ := I.base.there b o e hx
      exact ⟨o', (hs.2 b (Nat.ne_of_lt (Nat.lt_of_lt_of_le (Heap.lt_size e) I.ok.above))).trans e1⟩
    · by_cases hj : j = i
      · subst hj
        rw [hi] at e1; cases e1
        rw [List.getElem?_set_self hiσ] at e2
        cases e2
        exact ⟨u, r, .inl ⟨hk, by simp⟩⟩
      · rw [List.getElem?_set_ne (Ne.symm hj)] at e2
        obtain ⟨u', r', q⟩ := hl j y v' e1 e2 e3
        refine ⟨u', r', ?_⟩
        rcases q with ⟨k, e⟩ | ⟨k, c, e, z⟩
        · refine .inl ⟨k, ?_⟩
          have : y ≠ x := fun e => hj (nodup_ix hN e1 (e ▸ hi))
          simp [this, e]
        · exact .inr ⟨k, c, e, z.sameBut hs (cne y c e)⟩
    · obtain ⟨w', z⟩ := I.cell y c e
      exact ⟨w', z.sameBut hs (cne y c e)⟩
    · obtain ⟨e, n, ne, nf, d⟩ := I.pin p hp
      exact ⟨(hs.2 p.1 ne).trans e, n, ne, nf, d⟩
  · have hfn : X.fn x = true := by
      rcases hf with z | z
      · exact z
      · rw [z] at hk; cases hk
    obtain ⟨c, hc⟩ := I.ok.has x (.inl hk)
    obtain ⟨w', z⟩ := I.cell x c hc
    refine wpAny_storeName_cell I.ok.kind hk hc z (fun h' hc' hs => ?_)
    obtain ⟨oc, hoc, hocd⟩ := id z
    refine h { s with heap := h' } ⟨I.ok, I.os, I.bare, ⟨fun b o e n hb hx => ?_, fun b o e n hb hx => ?_, I.base.free, fun b o e hx => ?_, I.base.tups, I.base.frzs, I.base.tbls⟩, ⟨m, hn.sameBut hs (Ne.symm (cne x c hc)), fun j y v' e1 e2 e3 => ?_⟩, fun y c' e => ?_, I.free, I.freeC, fun p hp => ?_, tracked ⟨oc, hoc, I.freeC x c hc⟩ hs, by simpa using I.len⟩ ⟨c, hs, .inr hc⟩
    · exact (hs.2 b (Nat.ne_of_lt (Nat.lt_of_lt_of_le (Heap.lt_size e) (I.ok.cab x c hfn hc)))).trans (I.base.keep b o e n hb hx)
    · obtain ⟨sl, e1⟩ := I.base.slot b o e n hb hx
      exact ⟨sl, (hs.2 b (Nat.ne_of_lt (Nat.lt_of_lt_of_le (Heap.lt_size e) (I.ok.cab x c hfn hc)))).trans e1⟩
    · obtain ⟨o', e1⟩ := I.base.there b o e hx
      exact ⟨o', (hs.2 b (Nat.ne_of_lt (Nat.lt_of_lt_of_le (Heap.lt_size e) (I.ok.cab x c hfn hc)))).trans e1⟩
    · by_cases hj : j = i
      · subst hj
        rw [hi] at e1; cases e1
        rw [List.getElem?_set_self hiσ] at e2
        cases e2
        exact ⟨u, r, .inr ⟨.inl hk, c, hc, hc'⟩⟩
      · rw [List.getElem?_set_ne (Ne.symm hj)] at e2
        obtain ⟨u', r', q⟩ := hl j y v' e1 e2 e3
        refine ⟨u', r', ?_⟩
        rcases q with q | ⟨k, c', e, z'⟩
        · exact .inl q
        · refine .inr ⟨k, c', e, z'.sameBut hs ?_⟩
          rintro rfl
          exact hj (nodup_ix hN e1 (I.ok.inj _ _ _ e hc ▸ hi))
    · by_cases hcc : c' = c
      · subst hcc; exact ⟨_, hc'⟩
      · obtain ⟨w2, z2⟩ := I.cell y c' e
        exact ⟨w2, z2.sameBut hs hcc⟩
    · obtain ⟨e, n, ne, nf, d⟩ := I.pin p hp
      refine ⟨(hs.2 p.1 ?_).trans e, n, ne, nf, d⟩
      intro q
      rw [q, hoc] at e
      have q' : oc = p.2 := Option.some.inj e
      exact d w' (by rw [← q']; exact hocd)
theorem store_ok {M : Model} {A : Around} {E : Value → Shared → Prop} {i : Nat} {x : Str} {v : V} {u : Value} {Q : Unit → Shared → Prop} (I : Inv X pins σ H s) (hN : X.N.Nodup) (hi : X.N[i]? = some x) (hx : Loc X.env.scope x) (r : RelV v u)
    (h : ∀ s', Inv X pins (σ.set i (some v)) H s' → Q () s') (hf : X.fn x = true ∨ X.env.scope.names.lookup x = some .local := by first | exact .inl rfl | exact .inr rfl | assumption) : wpAny M A (storeName X.env x u) Q E s :=
  store_ok2 I hN hi hx r (fun s' I' _ => h s' I') hf
theorem Inv.call' {s' : Shared} {ch : List Addr} (I : Inv X pins σ H s) (ho : s'.os = s.os) (u : Un (frs X.stack) ch H H' s.heap s'.heap) (hok : HOk X.prog X.w H' s'.heap) (hg : AllBare s'.gens)
    (hch : ∀ b ∈ ch, (b ∈ X.ex ∨ X.s₀.heap.objs.size ≤ b) ∧ b ≠ X.env.locals ∧ (∀ x c, X.env.cells.lookup x = some c → c ≠ b) ∧ ∀ p ∈ X.pn ++ pins, p.1 ≠ b) : Inv X pins σ H' s' := by
  obtain ⟨h', g', d', t', o'⟩ := s'
  have e : o' = s.os := ho
  subst e
  exact I.call (g' := g') (t' := t') (d' := d') u hok hg hch
end
noncomputable abbrev XK := Value → Option Addr → Hp → Prop
noncomputable abbrev St := List (Option V)
noncomputable abbrev VK := V → Hp → Prop
noncomputable abbrev TE := St → Hp → VK → Prop
noncomputable abbrev TT := St → Hp → (Bool → Hp → Prop) → Prop
noncomputable abbrev TA := St → Hp → (List V → Hp → Prop) → Prop
structure Ends where
  nx : St → Hp → Prop
  rt : VK
  bk : St → Hp → Prop := fun _ _ => False
  ct : St → Hp → Prop := fun _ _ => False
noncomputable abbrev TS := Ends → St → Hp → Prop

noncomputable def EP (X : Cx) (pins : List (Addr × Obj)) (σ : St) (Q : VK) (u : Value) (s' : Shared) : Prop := ∃ v H', Inv X pins σ H' s' ∧ RelV v u ∧ Q v H'
noncomputable def TP (X : Cx) (pins : List (Addr × Obj)) (σ : St) (Q : Bool → Hp → Prop) (b : Bool) (s' : Shared) : Prop := ∃ H', Inv X pins σ H' s' ∧ Q b H'
noncomputable def AP (X : Cx) (pins : List (Addr × Obj)) (σ : St) (Q : List V → Hp → Prop) (us : List Value) (s' : Shared) : Prop := ∃ vs H', Inv X pins σ H' s' ∧ Vals vs us ∧ Q vs H'
noncomputable def SP (X : Cx) (pins : List (Addr × Obj)) (D : Ends) (f : Flow) (s' : Shared) : Prop :=
  match f with
  | .next => ∃ σ' H', Inv X pins σ' H' s' ∧ D.nx σ' H'
  | .brk => ∃ σ' H', Inv X pins σ' H' s' ∧ D.bk σ' H'
  | .cont => ∃ σ' H', Inv X pins σ' H' s' ∧ D.ct σ' H'
  | .ret u => ∃ v σ' H', Inv X pins σ' H' s' ∧ RelV v u ∧ D.rt v H'

noncomputable def PE (X : Cx) (e : Expr) (t : TE) : Prop :=
  ∀ (pins : List (Addr × Obj)) (s : Shared) (σ : St) (H : Hp) (Q : VK), Inv X pins σ H s → t σ H Q → wpAny (model X.prog X.w) X.A (eval e X.env) (EP X pins σ Q) X.xe s
@[irreducible] noncomputable def ZE (X : Cx) (e : Expr) (t : TE) : Prop := PE X e t
noncomputable def PT (X : Cx) (e : Expr) (t : TT) : Prop :=
  ∀ (pins : List (Addr × Obj)) (s : Shared) (σ : St) (H : Hp) (Q : Bool → Hp → Prop), Inv X pins σ H s → t σ H Q → wpAny (model X.prog X.w) X.A (isTrue e X.env (eval e X.env)) (TP X pins σ Q) X.xe s
@[irreducible] noncomputable def ZT (X : Cx) (e : Expr) (t : TT) : Prop := PT X e t
noncomputable def PW (X : Cx) (e : Expr) (t : TT) : Prop :=
  ∀ (whole : Sem Value) (pins : List (Addr × Obj)) (s : Shared) (σ : St) (H : Hp) (Q : Bool → Hp → Prop), Inv X pins σ H s → t σ H Q → wpAny (model X.prog X.w) X.A (isTrue e X.env whole) (TP X pins σ Q) X.xe s
@[irreducible] noncomputable def ZW (X : Cx) (e : Expr) (t : TT) : Prop := PW X e t
theorem PW.pt {X : Cx} {e : Expr} {t : TT} (h : PW X e t) : PT X e t := h _
theorem ZW.zt {X : Cx} {e : Expr} {t : TT} (h : ZW X e t) : ZT X e t := by with_unfolding_all exact PW.pt h
noncomputable def PA (X : Cx) (es : List Expr) (t : TA) : Prop :=
  ∀ (pos : Pos) (pins : List (Addr × Obj)) (s : Shared) (σ : St) (H : Hp) (Q : List V → Hp → Prop), Inv X pins σ H s → t σ H Q → wpAny (model X.prog X.w) X.A (spliced (backTo pos (starEach es X.env))) (AP X pins σ Q) X.xe s
@[irreducible] noncomputable def ZA (X : Cx) (es : List Expr) (t : TA) : Prop := PA X es t
noncomputable def PS (X : Cx) (st : Stmt) (t : TS) : Prop :=
  ∀ (pins : List (Addr × Obj)) (s : Shared) (σ : St) (H : Hp) (D : Ends), Inv X pins σ H s → t D σ H → wpAny (model X.prog X.w) X.A (exec st X.env) (SP X pins D) X.xe s
@[irreducible] noncomputable def ZS (X : Cx) (st : Stmt) (t : TS) : Prop := PS X st t
noncomputable def PSs (X : Cx) (st : List Stmt) (t : TS) : Prop :=
  ∀ (pins : List (Addr × Obj)) (s : Shared) (σ : St) (H : Hp) (D : Ends), Inv X pins σ H s → t D σ H → wpAny (model X.prog X.w) X.A (execs st X.env) (SP X pins D) X.xe s
@[irreducible] noncomputable def ZSs (X : Cx) (st : List Stmt) (t : TS) : Prop := PSs X st t
theorem ZSs.p {X : Cx} {st : List Stmt} {t : TS}  (h : ZSs X st t) : PSs X st t := by unfold ZSs at h; exact h
theorem thn {α : Type} {t : Sem α} {Q Q' : α → Shared → Prop} {M : Model} {A : Around} {E : Value → Shared → Prop} {s : Shared} (h : wpAny M A t Q E s) (hQ : ∀ a s, Q a s → Q' a s) : wpAny M A t Q' E s := wpAny_mono h hQ fun _ _ x => x
end L2
namespace L2
open PySem PySem.Spec PyProof.Rows
section
variable {X : Cx}
noncomputable def tVar (i : Nat) : TE := fun σ H Q => ∃ v, σ[i]? = some (some v) ∧ Q v H
noncomputable def tC (v : V) : TE := fun _ H Q => Q v H
theorem pe_var {i : Nat} {x : Str} {pos : Pos} (hN : X.N[i]? = some x) (hv : Vis X.env.scope x) (hd : (x == ("__debug__" : Str)) = false := by decide) (hcd : (x == ("__classdict__" : Str)) = false := by decide) : PE X (.Name x pos) (tVar i) := by
  intro pins s σ H Q I h
  obtain ⟨v, e, h⟩ := h
  obtain ⟨m, hn, hl⟩ := I.loc
  obtain ⟨u, r, l⟩ := hl i x v hN e hv
  have fin : EP X pins σ Q u s := ⟨v, H, I, r, h⟩
  rcases l with ⟨hk, hm⟩ | ⟨hk, c, hc, hcell⟩
  · exact wpAny_Name (wpAny_loadName_local I.ok.kind hk hn hm fin) hd
  · rcases hk with hk | hk
    · exact wpAny_Name (wpAny_loadName_cell I.ok.kind hk hc hcell fin) hd
    · exact wpAny_Name (wpAny_loadName_free I.ok.kind hk hc hcell fin hcd) hd
theorem pe_int {i j pos} : PE X (.Constant (.int i) j pos) (tC (.int i)) := fun _ _ _ H _ I h => wpAny_Constant_int ⟨.int i, H, I.tok _, ⟨_, rfl⟩, h⟩
theorem ze_int {i j pos} : ZE X (.Constant (.int i) j pos) (tC (.int i)) := by with_unfolding_all exact pe_int 
theorem pe_bl {b j pos} : PE X (.Constant (.bool b) j pos) (tC (.bl b)) := fun _ _ _ H _ I h => Constant_bool ⟨.bl b, H, I, rfl, h⟩
theorem ze_bl {b j pos} : ZE X (.Constant (.bool b) j pos) (tC (.bl b)) := by with_unfolding_all exact pe_bl 
theorem pe_str {x j pos} : PE X (.Constant (.str x) j pos) (tC (.str x)) := fun _ _ _ H _ I h => Calls.Constant_str ⟨.str x, H, I.tok _, ⟨_, rfl⟩, h⟩
theorem ze_str {x j pos} : ZE X (.Constant (.str x) j pos) (tC (.str x)) := by with_unfolding_all exact pe_str 

noncomputable def Gl (X : Cx) (x : Str) : Prop := X.env.kindOf x = some .globalImplicit
theorem ld_glob {E : Value → Shared → Prop} {pins : List (Addr × Obj)} {s : Shared} {σ : St} {H : Hp} {x : Str} {u : Value} {pos : Pos} {Q : Value → Shared → Prop} (I : Inv X pins σ H s) (hg : Gl X x) (hm : X.mg x = some u) (h : Q u s)
    (hd : (x == ("__debug__" : Str)) = false := by decide) : wpAny (model X.prog X.w) X.A (eval (.Name x pos) X.env) Q E s :=
  Calls.Name_function_global I.ok.kind hg (Calls.loadGlobal_global (by rw [I.ok.glob]; exact I.mod.glob.keeps I.bk) hm h) hd
theorem ld_blt {E : Value → Shared → Prop} {pins : List (Addr × Obj)} {s : Shared} {σ : St} {H : Hp} {x : Str} {u : Value} {pos : Pos} {Q : Value → Shared → Prop} (I : Inv X pins σ H s) (hg : Gl X x) (hm : X.mg x = none) (hv : bootBuiltins x = some u) (h : Q u s)
    (hn : x ≠ "__name__" := by decide) (hd : (x == ("__debug__" : Str)) = false := by decide) : wpAny (model X.prog X.w) X.A (eval (.Name x pos) X.env) Q E s := by
  obtain ⟨mb, h1, h2⟩ := I.mod.blt
  exact Calls.Name_function_global I.ok.kind hg (Calls.loadGlobal_builtin (by rw [I.ok.glob]; exact I.mod.glob.keeps I.bk) hm (by rw [I.ok.blt]; exact h1.keeps I.bk) ((h2 x hn).trans hv) h) hd
variable {a b : Expr} {ta tb : TE} {pos : Pos}
noncomputable def PC (X : Cx) (op : CmpOp) (a b : Expr) (t : TE) : Prop :=
  ∀ (pins : List (Addr × Obj)) (s : Shared) (σ : St) (H : Hp) (Q : VK), Inv X pins σ H s → t σ H Q →
    wpAny (model X.prog X.w) X.A (eval a X.env) (fun v s₁ => wpAny (model X.prog X.w) X.A (eval b X.env) (fun u s₂ => wpAny (model X.prog X.w) X.A (compareOp op v u) (EP X pins σ Q) X.xe s₂) X.xe s₁) X.xe s
@[irreducible] noncomputable def ZC (X : Cx) (op : CmpOp) (a b : Expr) (t : TE) : Prop := PC X op a b t
theorem pe_cmp {op : CmpOp} {t : TE} (h : PC X op a b t) (h1 : behindInMarks op b = false := by first | exact nobehind _ (by decide) (by decide) | rfl) : PE X (.Compare a [op] [b] pos) t := fun pins s σ H Q I hw => wpAny_Compare1 (h pins s σ H Q I hw) h1
variable {tA tB' : TT} {rest : List Expr}
noncomputable def tAnd (t u : TT) : TT := fun σ H Q => t σ H fun c H1 => if c = true then u σ H1 Q else Q false H1
noncomputable def tOr (t u : TT) : TT := fun σ H Q => t σ H fun c H1 => if c = true then Q true H1 else u σ H1 Q
noncomputable def tNot (t : TT) : TT := fun σ H Q => t σ H fun c H1 => Q (!c) H1
theorem pw_and1 (ha : PT X a tA) : PW X (.BoolOp .And [a] pos) tA := by
  intro wh pins s σ H Q I h
  refine isTrue_and (thn (ha pins s σ H Q I h) fun c s1 e => ?_)
  cases c with
  | true => exact isTrue_and_nil e
  | false => exact e
theorem zw_and1 (ha : ZT X a tA) : ZW X (.BoolOp .And [a] pos) tA := by with_unfolding_all exact pw_and1 ha
theorem pw_or1 (ha : PT X a tA) : PW X (.BoolOp .Or [a] pos) tA := by
  intro wh pins s σ H Q I h
  refine isTrue_or (thn (ha pins s σ H Q I h) fun c s1 e => ?_)
  cases c with
  | false => exact isTrue_or_nil e
  | true => exact e
theorem zw_or1 (ha : ZT X a tA) : ZW X (.BoolOp .Or [a] pos) tA := by with_unfolding_all exact pw_or1 ha
theorem pw_and (ha : PT X a tA) (hb : PW X (.BoolOp .And (b :: rest) pos) tB') : PW X (.BoolOp .And (a :: b :: rest) pos) (tAnd tA tB') := by
  intro wh pins s σ H Q I h
  refine isTrue_and (thn (ha pins s σ H _ I h) fun c s1 ⟨H1, I1, q1⟩ => ?_)
  cases c with
  | true => exact hb wh pins s1 σ H1 Q I1 q1
  | false => exact ⟨H1, I1, q1⟩
theorem zw_and (ha : ZT X a tA) (hb : ZW X (.BoolOp .And (b :: rest) pos) tB') : ZW X (.BoolOp .And (a :: b :: rest) pos) (tAnd tA tB') := by with_unfolding_all exact pw_and ha hb
theorem pw_or (ha : PT X a tA) (hb : PW X (.BoolOp .Or (b :: rest) pos) tB') : PW X (.BoolOp .Or (a :: b :: rest) pos) (tOr tA tB') := by
  intro wh pins s σ H Q I h
  refine isTrue_or (thn (ha pins s σ H _ I h) fun c s1 ⟨H1, I1, q1⟩ => ?_)
  cases c with
  | true => exact ⟨H1, I1, q1⟩
  | false => exact hb wh pins s1 σ H1 Q I1 q1
theorem zw_or (ha : ZT X a tA) (hb : ZW X (.BoolOp .Or (b :: rest) pos) tB') : ZW X (.BoolOp .Or (a :: b :: rest) pos) (tOr tA tB') := by with_unfolding_all exact pw_or ha hb
theorem pt_not (ha : PT X a tA) : PT X (.UnaryOp .Not a pos) (tNot tA) := by
  intro pins s σ H Q I h
  exact isTrue_not (ha pins s σ H (fun c H1 => Q (!c) H1) I h)
theorem zt_not (ha : ZT X a tA) : ZT X (.UnaryOp .Not a pos) (tNot tA) := by with_unfolding_all exact pt_not ha
theorem pe_one {op} {t : TE} (h : PE X a t) : PE X (.BoolOp op [a] pos) t := fun pins s σ H Q I hw => BoolOp_one (h pins s σ H Q I hw)
theorem ze_one {op} {t : TE} (h : ZE X a t) : ZE X (.BoolOp op [a] pos) t := by with_unfolding_all exact pe_one h
noncomputable def tIf (t : TT) (ta tb : TE) : TE := fun σ H Q => t σ H fun c H1 => if c = true then ta σ H1 Q else tb σ H1 Q
theorem pe_ifExp {c : Expr} (hc : PT X c tA) (ha : PE X a ta) (hb : PE X b tb) : PE X (.IfExp c a b pos) (tIf tA ta tb) := by
  intro pins s σ H Q I h
  refine wpAny_IfExp (thn (hc pins s σ H _ I h) fun d s1 ⟨H1, I1, q1⟩ => ?_)
  cases d with
  | true => exact ha pins s1 σ H1 Q I1 q1
  | false => exact hb pins s1 σ H1 Q I1 q1
theorem ze_ifExp {c : Expr} (hc : ZT X c tA) (ha : ZE X a ta) (hb : ZE X b tb) : ZE X (.IfExp c a b pos) (tIf tA ta tb) := by with_unfolding_all exact pe_ifExp hc ha hb
end
end L2
namespace L2
open PySem PySem.Spec PyProof.Rows
noncomputable def SqL (K : PySem.W.Frag) (H : Hp) (a : Addr) (xs : List V) : Prop :=
  Rd H a (.lst xs) ∨
    ∃ (o : Obj) (its : Array Value) (n : Nat), K.lookup a = some o ∧ o.cls = .type "list" ∧ o.dict = none ∧ o.data = .seq its n ∧ its.size ≤ sizeLine ∧ Vals xs its.toList
noncomputable def SqT (K : PySem.W.Frag) (H : Hp) (a : Addr) (xs : List V) : Prop :=
  Rd H a (.tup xs) ∨
    ∃ (o : Obj) (its : Array Value) (n : Nat), K.lookup a = some o ∧ o.cls = .type "tuple" ∧ o.data = .seq its n ∧ its.size ≤ sizeLine ∧ Vals xs its.toList
noncomputable def absV : Value → Option V
  | .none => some .non
  | .bool b => some (.bl b)
  | .int i _ => some (.int i)
  | .str x _ => some (.str x)
  | .bytes b _ => some (.byt b)
  | .float b _ => some (.flt b)
  | .ref a => some (.ref a)
  | .type n => some (.ty n)
  | _ => none
theorem RelV.abs {x : V} {u : Value} (r : RelV x u) : absV u = some x := by
  cases x with
  | non => cases r; rfl
  | bl _ => cases r; rfl
  | int _ => obtain ⟨t, rfl⟩ := r; rfl
  | str _ => obtain ⟨t, rfl⟩ := r; rfl
  | byt _ => obtain ⟨t, rfl⟩ := r; rfl
  | flt _ => obtain ⟨t, rfl⟩ := r; rfl
  | ref _ => cases r; rfl
  | ty _ => cases r; rfl
theorem RelV.inj {x y : V} {u : Value} (r : RelV x u) (q : RelV y u) : x = y := Option.some.inj (r.abs.symm.trans q.abs)
theorem Vals.inj : ∀ {xs ys : List V} {us : List Value}, Vals xs us → Vals ys us → xs = ys
  | _, _, _, .nil, .nil => rfl
  | _, _, _, .cons r t, .cons r' t' => by rw [r.inj r', Vals.inj t t']
section
variable {X : Cx} {pins : List (Addr × Obj)} {σ : St} {H : Hp} {s : Shared} {a : Addr} {xs ys : List V}
theorem SqL.of {K : PySem.W.Frag} (h : H a = some (.lst xs)) : SqL K H a xs := .inl (.inl h)
theorem SqT.of {K : PySem.W.Frag} (h : H a = some (.tup xs)) : SqT K H a xs := .inl (.inl h)
theorem Inv.list (I : Inv X pins σ H s) (h : SqL X.K H a xs) : ∃ its : List Value, Vals xs its ∧ PlainL s.heap a its.toArray ∧ xs.length ≤ sizeLine := by
  rcases h with h | ⟨o, its, n, hk, hc, hd, hs, hz, r⟩
  · obtain ⟨z, its, n, r, e⟩ := h.ok I.hok
    exact ⟨its, r, ⟨_, n, e, rfl, rfl, rfl⟩, z⟩
  · refine ⟨its.toList, r, ⟨o, n, I.kIn a o hk, hc, hd, by simpa using hs⟩, ?_⟩
    have e := r.length
    simp only [Array.length_toList] at e
    omega
theorem Inv.tuple (I : Inv X pins σ H s) (h : SqT X.K H a xs) : ∃ its : List Value, Vals xs its ∧ IsTup s.heap a its.toArray ∧ xs.length ≤ sizeLine := by
  rcases h with h | ⟨o, its, n, hk, hc, hs, hz, r⟩
  · obtain ⟨z, its, r, p⟩ := h.ok I.hok
    exact ⟨its, r, p.tup, z⟩
  · refine ⟨its.toList, r, ⟨o, I.kIn a o hk, hc, n, by simpa using hs⟩, ?_⟩
    have e := r.length
    simp only [Array.length_toList] at e
    omega
theorem Inv.list_inj (I : Inv X pins σ H s) (h : SqL X.K H a xs) (h' : SqL X.K H a ys) : xs = ys := by
  obtain ⟨its, r, ⟨o, n, e, _, _, d⟩, _⟩ := I.list h
  obtain ⟨its', r', ⟨o', n', e', _, _, d'⟩, _⟩ := I.list h'
  rw [e] at e'; cases e'
  rw [d] at d'
  injection d' with d1 _
  have : its = its' := by simpa using congrArg Array.toList d1
  subst this
  exact r.inj r'
theorem Inv.tuple_inj (I : Inv X pins σ H s) (h : SqT X.K H a xs) (h' : SqT X.K H a ys) : xs = ys := by
  obtain ⟨its, r, ⟨o, e, _, n, d⟩, _⟩ := I.tuple h
  obtain ⟨its', r', ⟨o', e', _, n', d'⟩, _⟩ := I.tuple h'
  rw [e] at e'; cases e'
  rw [d] at d'
  injection d' with d1 _
  have : its = its' := by simpa using congrArg Array.toList d1
  subst this
  exact r.inj r'
end
noncomputable abbrev Cx.wish (X : Cx) (E : Value → Shared → Prop) : Cx := { X with xe := E }
noncomputable abbrev Cx.nox (X : Cx) : Cx := X.wish fun _ _ => False
theorem Cx.Ok.wish {X : Cx} (ok : X.Ok) (E : Value → Shared → Prop) : (X.wish E).Ok :=
  ⟨ok.mod, ok.kind, ok.glob, ok.blt, ok.above, ok.inj, ok.has, ok.cab, ok.hd, ok.frames, ok.stk, ok.exf, ok.bs, ok.bsz, ok.noex, ok.exfs, ok.funs, ok.frf⟩
theorem Cx.Ok.unwish {X : Cx} {E : Value → Shared → Prop} (ok : (X.wish E).Ok) : X.Ok :=
  ⟨ok.mod, ok.kind, ok.glob, ok.blt, ok.above, ok.inj, ok.has, ok.cab, ok.hd, ok.frames, ok.stk, ok.exf, ok.bs, ok.bsz, ok.noex, ok.exfs, ok.funs, ok.frf⟩
section
variable {X : Cx} {pins : List (Addr × Obj)} {σ : St} {H : Hp} {s : Shared} {E : Value → Shared → Prop}
theorem Inv.wish (I : Inv X pins σ H s) (E : Value → Shared → Prop) : Inv (X.wish E) pins σ H s := ⟨I.ok.wish E, I.os, I.bare, I.base, I.loc, I.cell, I.free, I.freeC, I.pin, I.hok, I.len⟩
theorem Inv.unwish (I : Inv (X.wish E) pins σ H s) : Inv X pins σ H s := ⟨I.ok.unwish, I.os, I.bare, I.base, I.loc, I.cell, I.free, I.freeC, I.pin, I.hok, I.len⟩
theorem SP.unwish {D : Ends} {f : Flow} {s' : Shared} (h : SP (X.wish E) pins D f s') : SP X pins D f s' := by
  cases f with
  | next => obtain ⟨σ', H', I, q⟩ := h; exact ⟨σ', H', I.unwish, q⟩
  | brk => obtain ⟨σ', H', I, q⟩ := h; exact ⟨σ', H', I.unwish, q⟩
  | cont => obtain ⟨σ', H', I, q⟩ := h; exact ⟨σ', H', I.unwish, q⟩
  | ret u => obtain ⟨v, σ', H', I, r, q⟩ := h; exact ⟨v, σ', H', I.unwish, r, q⟩
theorem PSs.nox {st : List Stmt} {t : TS} (h : PSs X.nox st t) : PSs X st t := fun pins s σ H D I hw =>
  wpAny_mono (h pins s σ H D (I.wish _) hw) (fun _ _ q => q.unwish) fun _ _ z => False.elim z
end
section
variable {X : Cx} {st : Stmt} {rest : List Stmt} {t u : TS} {e : Expr} {te : TE} {pos : Pos}
noncomputable def tNext : TS := fun D σ H => D.nx σ H
noncomputable def tSeq (t u : TS) : TS := fun D σ H => t { D with nx := u D } σ H
theorem pss_nil : PSs X [] tNext := fun _ _ σ H _ I h => wpAny_execs_nil ⟨σ, H, I, h⟩
theorem zss_nil : ZSs X [] tNext := by with_unfolding_all exact pss_nil 
theorem pss_cons (h1 : PS X st t) (h2 : PSs X rest u) : PSs X (st :: rest) (tSeq t u) := by
  intro pins s σ H D I h
  refine wpAny_execs_cons (thn (h1 pins s σ H { D with nx := u D } I h) fun f s1 q => ?_)
  cases f with
  | next =>
    obtain ⟨σ', H', I', q⟩ := q
    exact h2 pins s1 σ' H' D I' q
  | ret v => exact q
  | brk => exact q
  | cont => exact q
theorem zss_cons (h1 : ZS X st t) (h2 : ZSs X rest u) : ZSs X (st :: rest) (tSeq t u) := by with_unfolding_all exact pss_cons h1 h2
theorem pss_one (h1 : PS X st t) : PSs X [st] t := by
  intro pins s σ H D I h
  refine wpAny_execs_cons (thn (h1 pins s σ H D I h) fun f s1 q => ?_)
  cases f with
  | next => exact wpAny_execs_nil q
  | ret v => exact q
  | brk => exact q
  | cont => exact q
theorem zss_one (h1 : ZS X st t) : ZSs X [st] t := by with_unfolding_all exact pss_one h1
theorem Inv.quiet {pins : List (Addr × Obj)} {σ : St} {H : Hp} {s : Shared} (I : Inv X pins σ H s) : interactive X.env = false := by simp [interactive, I.ok.kind]
noncomputable def tDrop (te : TE) : TS := fun D σ H => te σ H fun _ H1 => D.nx σ H1
theorem ps_expr (he : PE X e te) (hs : swapsWith e none pos.line X.env = pure false := by rfl) : PS X (.Expr e pos) (tDrop te) := by
  intro pins s σ H D I h
  exact wpAny_Expr_any (thn (he pins s σ H _ I h) fun v s1 ⟨x, H1, I1, r1, q1⟩ => ⟨σ, H1, I1, q1⟩) I.quiet hs
theorem zs_expr (he : ZE X e te) (hs : swapsWith e none pos.line X.env = pure false := by rfl) : ZS X (.Expr e pos) (tDrop te) := by with_unfolding_all exact ps_expr he hs
noncomputable def tRet (te : TE) : TS := fun D σ H => te σ H D.rt
theorem ps_ret (he : PE X e te) : PS X (.Return (some e) pos) (tRet te) := by
  intro pins s σ H D I h
  exact wpAny_Return_some (thn (he pins s σ H _ I h) fun v s1 ⟨x, H1, I1, r1, q1⟩ => ⟨x, σ, H1, I1, r1, q1⟩)
theorem zs_ret (he : ZE X e te) : ZS X (.Return (some e) pos) (tRet te) := by with_unfolding_all exact ps_ret he
noncomputable def tIfS (c : TT) (t u : TS) : TS := fun D σ H => c σ H fun b H1 => if b = true then t D σ H1 else u D σ H1
theorem ps_if {c : Expr} {a b : List Stmt} {tc : TT} (hc : PT X c tc) (ha : PSs X a t) (hb : PSs X b u) : PS X (.If c a b pos) (tIfS tc t u) := by
  intro pins s σ H D I h
  refine wpAny_If (thn (hc pins s σ H _ I h) fun d s1 ⟨H1, I1, q1⟩ => ?_)
  cases d with
  | true => exact ha pins s1 σ H1 D I1 q1
  | false => exact hb pins s1 σ H1 D I1 q1
theorem zs_if {c : Expr} {a b : List Stmt} {tc : TT} (hc : ZT X c tc) (ha : ZSs X a t) (hb : ZSs X b u) : ZS X (.If c a b pos) (tIfS tc t u) := by with_unfolding_all exact ps_if hc ha hb
end
noncomputable abbrev TG := V → St → Hp → (St → Hp → Prop) → Prop
noncomputable abbrev TGs := List V → St → Hp → (St → Hp → Prop) → Prop
noncomputable def PG (X : Cx) (target : Expr) (t : TG) : Prop :=
  ∀ (pins : List (Addr × Obj)) (s : Shared) (σ : St) (H : Hp) (v : V) (u : Value) (Q : St → Hp → Prop), Inv X pins σ H s → RelV v u → t v σ H Q →
    wpAny (model X.prog X.w) X.A (assign target X.env u) (fun _ s' => ∃ σ' H', Inv X pins σ' H' s' ∧ Q σ' H') X.xe s
@[irreducible] noncomputable def ZG (X : Cx) (target : Expr) (t : TG) : Prop := PG X target t
noncomputable def PGs (X : Cx) (ts : List Expr) (t : TGs) : Prop :=
  ∀ (pins : List (Addr × Obj)) (s : Shared) (σ : St) (H : Hp) (vs : List V) (us : List Value) (Q : St → Hp → Prop), Inv X pins σ H s → Vals vs us → t vs σ H Q →
    wpAny (model X.prog X.w) X.A (assignInOrder ((assignEach ts X.env).map (·.2)) us) (fun _ s' => ∃ σ' H', Inv X pins σ' H' s' ∧ Q σ' H') X.xe s
@[irreducible] noncomputable def ZGs (X : Cx) (ts : List Expr) (t : TGs) : Prop := PGs X ts t
noncomputable abbrev TSet := V → V → V → Hp → (Hp → Prop) → Prop
noncomputable def PSet (X : Cx) (t : TSet) : Prop :=
  ∀ (pins : List (Addr × Obj)) (s : Shared) (σ : St) (H : Hp) (o i v : V) (ov iv u : Value) (Q : Hp → Prop), Inv X pins σ H s → RelV o ov → RelV i iv → RelV v u → t o i v H Q →
    wpAny (model X.prog X.w) X.A (setItem ov iv u) (fun _ s' => ∃ H', Inv X pins σ H' s' ∧ Q H') X.xe s
noncomputable abbrev TIp := V → V → Hp → VK → Prop
noncomputable def PIp (X : Cx) (op : Operator) (t : TIp) : Prop :=
  ∀ (pins : List (Addr × Obj)) (s : Shared) (σ : St) (H : Hp) (x y : V) (v u : Value) (Q : VK), Inv X pins σ H s → RelV x v → RelV y u → t x y H Q →
    wpAny (model X.prog X.w) X.A (inplaceOp op v u) (EP X pins σ Q) X.xe s
section
variable {X : Cx} {pos : Pos}
noncomputable def gName (i : Nat) : TG := fun v σ H Q => Q (σ.set i (some v)) H
theorem pg_name {i : Nat} {x : Str} (hN : X.N.Nodup) (hi : X.N[i]? = some x) (hx : Loc X.env.scope x) (hf : X.fn x = true ∨ X.env.scope.names.lookup x = some .local := by first | exact .inl rfl | exact .inr rfl | assumption) : PG X (.Name x pos) (gName i) := by
  intro pins s σ H v u Q I r h
  exact wpAny_assign_Name (store_ok I hN hi hx r (fun s' I' => ⟨_, H, I', h⟩) hf)
theorem zg_name {i : Nat} {x : Str} (hN : X.N.Nodup) (hi : X.N[i]? = some x) (hx : Loc X.env.scope x) (hf : X.fn x = true ∨ X.env.scope.names.lookup x = some .local := by first | exact .inl rfl | exact .inr rfl | assumption) : ZG X (.Name x pos) (gName i) := by with_unfolding_all exact pg_name hN hi hx hf
noncomputable def gNil : TGs := fun vs σ H Q => vs = [] ∧ Q σ H
noncomputable def gCons (t : TG) (u : TGs) : TGs := fun vs σ H Q => ∃ v r, vs = v :: r ∧ t v σ H fun σ' H' => u r σ' H' Q
theorem pgs_nil : PGs X [] gNil := by
  intro pins s σ H vs us Q I r h
  obtain ⟨e, h⟩ := h
  subst e
  cases r
  exact assignInOrder_nil ⟨σ, H, I, h⟩
theorem zgs_nil : ZGs X [] gNil := by with_unfolding_all exact pgs_nil 
theorem pgs_cons {e : Expr} {es : List Expr} {t : TG} {u : TGs} (h1 : PG X e t) (h2 : PGs X es u)
    (hs : (assignEach (e :: es) X.env).map (·.2) = assign e X.env :: (assignEach es X.env).map (·.2) := by rfl) : PGs X (e :: es) (gCons t u) := by
  intro pins s σ H vs us Q I r h
  obtain ⟨v, vr, e1, h⟩ := h
  subst e1
  cases r with
  | cons r rr =>
    rw [hs]
    refine assignInOrder_cons (thn (h1 pins s σ H _ _ _ I r h) fun _ s1 ⟨σ1, H1, I1, q1⟩ => ?_)
    exact h2 pins s1 σ1 H1 _ _ Q I1 rr q1
theorem zgs_cons {e : Expr} {es : List Expr} {t : TG} {u : TGs} (h1 : ZG X e t) (h2 : ZGs X es u)
    (hs : (assignEach (e :: es) X.env).map (·.2) = assign e X.env :: (assignEach es X.env).map (·.2) := by rfl) : ZGs X (e :: es) (gCons t u) := by with_unfolding_all exact pgs_cons h1 h2 hs
noncomputable def gTup (K : PySem.W.Frag) (n : Nat) (t : TGs) : TG := fun v σ H Q => ∃ a xs, v = .ref a ∧ SqT K H a xs ∧ xs.length = n ∧ t xs σ H Q
theorem pg_tup {es : List Expr} {k : Nat} {t : TGs} {n : Nat} (hc : X.calm = true) (h : PGs X es t)
    (hn : (assignEach es X.env).length = n := by rfl) (hst : (assignEach es X.env).findIdx? (·.1) = none := by rfl) : PG X (.Tuple es k pos) (gTup X.K n t) := by
  intro pins s σ H v u Q I r hw
  obtain ⟨a, xs, e1, hq, hl, hw⟩ := hw
  subst e1
  cases r
  obtain ⟨its, rv, ht, hz⟩ := I.tuple hq
  refine assign_Tuple_tuple (I.ok.hd hc) ht (by simp [hn, ← hl, rv.length]) hst fun h' hx => ?_
  have I1 : Inv X pins σ H { s with heap := h' } := I.kept (t' := s.toks) fun b o e => hx b o (Nat.ne_of_lt (Heap.lt_size e)) e
  exact h pins _ σ H xs _ Q I1 (by simpa using rv) hw
theorem zg_tup {es : List Expr} {k : Nat} {t : TGs} {n : Nat} (hc : X.calm = true) (h : ZGs X es t)
    (hn : (assignEach es X.env).length = n := by rfl) (hst : (assignEach es X.env).findIdx? (·.1) = none := by rfl) : ZG X (.Tuple es k pos) (gTup X.K n t) := by with_unfolding_all exact pg_tup hc h hn hst
noncomputable def gSub (to ti : TE) (t : TSet) : TG := fun v σ H Q => to σ H fun o H1 => ti σ H1 fun i H2 => t o i v H2 fun H3 => Q σ H3
theorem pg_sub {o i : Expr} {to ti : TE} {t : TSet} (ho : PE X o to) (hi : PE X i ti) (hs : PSet X t)
    (ha : ∀ v, assign (.Subscript o i pos) X.env v = (do
      let ov ← holding [v] (eval o X.env)
      let iv ← holding [v, ov] (eval i X.env)
      standAt pos
      holding [v, ov, iv] (setItem ov iv v)
      release [v, ov, iv] []) := by intro _; rfl) : PG X (.Subscript o i pos) (gSub to ti t) := by
  intro pins s σ H v u Q I r h
  rw [ha]
  refine wpAny_bind (wpAny_holding (thn (ho pins s σ H _ I h) fun ov s1 ⟨x, H1, I1, r1, q1⟩ => ?_))
  refine wpAny_bind (wpAny_holding (thn (hi pins s1 σ H1 _ I1 q1) fun iv s2 ⟨y, H2, I2, r2, q2⟩ => ?_))
  refine wpAny_bind (wpAny_standAt (wpAny_bind (wpAny_holding (thn (hs pins s2 σ H2 x y v ov iv u _ I2 r1 r2 r q2) fun _ s3 ⟨H3, I3, q3⟩ => ?_))))
  exact wpAny_release ⟨σ, H3, I3, q3⟩
theorem zg_sub {o i : Expr} {to ti : TE} {t : TSet} (ho : ZE X o to) (hi : ZE X i ti) (hs : PSet X t)
    (ha : ∀ v, assign (.Subscript o i pos) X.env v = (do
      let ov ← holding [v] (eval o X.env)
      let iv ← holding [v, ov] (eval i X.env)
      standAt pos
      holding [v, ov, iv] (setItem ov iv v)
      release [v, ov, iv] []) := by intro _; rfl) : ZG X (.Subscript o i pos) (gSub to ti t) := by with_unfolding_all exact pg_sub ho hi hs ha
noncomputable def tAsg (te : TE) (g : TG) : TS := fun D σ H => te σ H fun x H1 => g x σ H1 D.nx
theorem ps_asg {tg e : Expr} {te : TE} {g : TG} (he : PE X e te) (hg : PG X tg g) (hs : swapsWithSole [tg] e pos.line X.env = pure false := by rfl) (hw : swappedStores [tg] e X.env = pure none := by rfl)
    (h1 : (assignEach [tg] X.env).map (·.2) = [assign tg X.env] := by rfl) : PS X (.Assign [tg] e pos) (tAsg te g) := by
  intro pins s σ H D I h
  refine wpAny_Assign_stores (thn (he pins s σ H _ I h) fun v s1 ⟨x, H1, I1, r1, q1⟩ => ?_) hs hw
  rw [h1]
  exact thn (hg pins s1 σ H1 x v _ I1 r1 q1) fun _ s2 q => q
theorem zs_asg {tg e : Expr} {te : TE} {g : TG} (he : ZE X e te) (hg : ZG X tg g) (hs : swapsWithSole [tg] e pos.line X.env = pure false := by rfl) (hw : swappedStores [tg] e X.env = pure none := by rfl)
    (h1 : (assignEach [tg] X.env).map (·.2) = [assign tg X.env] := by rfl) : ZS X (.Assign [tg] e pos) (tAsg te g) := by with_unfolding_all exact ps_asg he hg hs hw h1
theorem ps_set {i : Nat} {x : Str} {e : Expr} {te : TE} {pos' : Pos} (hN : X.N.Nodup) (hi : X.N[i]? = some x) (hx : Loc X.env.scope x) (he : PE X e te) (hs : swapsWith e (some (.Name x pos')) pos.line X.env = pure false := by rfl) (hf : X.fn x = true ∨ X.env.scope.names.lookup x = some .local := by first | exact .inl rfl | exact .inr rfl | assumption) :
    PS X (.Assign [.Name x pos'] e pos) (tAsg te (gName i)) := by
  intro pins s σ H D I h
  refine wpAny_Assign_Name (thn (he pins s σ H _ I h) fun v s1 ⟨y, H1, I1, r1, q1⟩ => ?_) hs
  exact store_ok I1 hN hi hx r1 (fun s2 I2 => ⟨_, H1, I2, q1⟩) hf
theorem zs_set {i : Nat} {x : Str} {e : Expr} {te : TE} {pos' : Pos} (hN : X.N.Nodup) (hi : X.N[i]? = some x) (hx : Loc X.env.scope x) (he : ZE X e te) (hs : swapsWith e (some (.Name x pos')) pos.line X.env = pure false := by rfl) (hf : X.fn x = true ∨ X.env.scope.names.lookup x = some .local := by first | exact .inl rfl | exact .inr rfl | assumption) :
    ZS X (.Assign [.Name x pos'] e pos) (tAsg te (gName i)) := by with_unfolding_all exact ps_set hN hi hx he hs hf
noncomputable def tAug (i : Nat) (te : TE) (ti : TIp) : TS := fun D σ H => ∃ x, σ[i]? = some (some x) ∧ te σ H fun y H1 => ti x y H1 fun z H2 => D.nx (σ.set i (some z)) H2
theorem ps_aug {i : Nat} {x : Str} {e : Expr} {te : TE} {op : Operator} {ti : TIp} {pos' : Pos} (hN : X.N.Nodup) (hi : X.N[i]? = some x) (hx : Loc X.env.scope x) (he : PE X e te) (ho : PIp X op ti) (hf : X.fn x = true ∨ X.env.scope.names.lookup x = some .local := by first | exact .inl rfl | exact .inr rfl | assumption) :
    PS X (.AugAssign (.Name x pos') op e pos) (tAug i te ti) := by
  intro pins s σ H D I h
  obtain ⟨v, e1, h⟩ := h
  obtain ⟨m, hn, hl⟩ := I.loc
  have vis : Vis X.env.scope x := by rcases hx with k | k; exact .inl k; exact .inr (.inl k)
  obtain ⟨u, r, l⟩ := hl i x v hi e1 vis
  refine wpAny_AugAssign_Name ?_
  have go : wpAny (model X.prog X.w) X.A (eval e X.env) (fun w s₂ => wpAny (model X.prog X.w) X.A (inplaceOp op u w) (fun r s₃ => wpAny (model X.prog X.w) X.A (storeName X.env x r) (fun _ => SP X pins D .next) X.xe s₃) X.xe s₂) X.xe s := by
    refine thn (he pins s σ H _ I h) fun w s1 ⟨y, H1, I1, r1, q1⟩ => ?_
    refine thn (ho pins s1 σ H1 v y u w _ I1 r r1 q1) fun z s2 ⟨zv, H2, I2, r2, q2⟩ => ?_
    exact store_ok I2 hN hi hx r2 (fun s3 I3 => ⟨_, H2, I3, q2⟩) hf
  rcases l with ⟨hk, hm⟩ | ⟨hk, c, hc, hcell⟩
  · exact wpAny_loadName_local I.ok.kind hk hn hm go
  · rcases hk with hk | hk
    · exact wpAny_loadName_cell I.ok.kind hk hc hcell go
    · rcases hx with k | k
      · have : X.env.scope.names.lookup x = some .free := hk
        rw [k] at this; cases this
      · have : X.env.scope.names.lookup x = some .free := hk
        rw [k] at this; cases this
theorem zs_aug {i : Nat} {x : Str} {e : Expr} {te : TE} {op : Operator} {ti : TIp} {pos' : Pos} (hN : X.N.Nodup) (hi : X.N[i]? = some x) (hx : Loc X.env.scope x) (he : ZE X e te) (ho : PIp X op ti) (hf : X.fn x = true ∨ X.env.scope.names.lookup x = some .local := by first | exact .inl rfl | exact .inr rfl | assumption) :
    ZS X (.AugAssign (.Name x pos') op e pos) (tAug i te ti) := by with_unfolding_all exact ps_aug hN hi hx he ho hf
noncomputable def ipI (f : Int → Int → Int) : TIp := fun x y H Q => ∃ i j, x = .int i ∧ y = .int j ∧ Q (.int (f i j)) H
theorem ip_sub : PIp X .Sub (ipI fun i j => i - j) := by
  intro pins s σ H x y v u Q I r1 r2 h
  obtain ⟨i, j, e1, e2, q⟩ := h
  subst e1; subst e2
  obtain ⟨t, rfl⟩ := r1
  obtain ⟨t', rfl⟩ := r2
  exact isub_int ⟨.int _, H, I.tok _, ⟨_, rfl⟩, q⟩
end
section
variable {X : Cx} {pos : Pos}
noncomputable def tWhile (c : TT) (tb : TS) : TS := fun D σ H => ∃ W : Nat → St → Hp → Prop, (∃ m, W m σ H) ∧ ∀ m σ H, W m σ H →
  c σ H fun b H1 => if b = true then ∃ N : St → Hp → Prop, (∀ σ' H', N σ' H' → ∃ m', m' < m ∧ W m' σ' H') ∧ tb { D with nx := N, ct := N, bk := D.nx } σ H1 else D.nx σ H1
theorem ps_while {c : Expr} {body : List Stmt} {tc : TT} {tb : TS} (hp : PassesOwn (model X.prog X.w) X.A X.env X.xe) (hc : PT X c tc) (hb : PSs X body tb) : PS X (.While c body [] pos) (tWhile tc tb) := by
  intro pins s σ H D I h
  obtain ⟨W, ⟨m0, w0⟩, turn⟩ := h
  refine wpAny_While (codeAny_whileLoop (fun n s' => ∃ σ' H', Inv X pins σ' H' s' ∧ W n σ' H') ?_ m0 ⟨σ, H, I, w0⟩)
  rintro n s1 ⟨σ1, H1, I1, w1⟩
  refine wpAny_passesOwn hp (thn (hc pins s1 σ1 H1 _ I1 (turn n σ1 H1 w1)) fun b s2 ⟨H2, I2, q2⟩ => ?_)
  cases b with
  | true =>
    obtain ⟨N, hN, q2⟩ := q2
    rw [if_pos rfl]
    refine wpAny_passesOwn hp (thn (hb pins s2 σ1 H2 _ I2 q2) fun f s3 q3 => ?_)
    cases f with
    | next =>
      obtain ⟨σ3, H3, I3, n3⟩ := q3
      obtain ⟨m', hm, w3⟩ := hN σ3 H3 n3
      exact ⟨m', hm, σ3, H3, I3, w3⟩
    | cont =>
      obtain ⟨σ3, H3, I3, n3⟩ := q3
      obtain ⟨m', hm, w3⟩ := hN σ3 H3 n3
      exact ⟨m', hm, σ3, H3, I3, w3⟩
    | brk => exact q3
    | ret v => exact q3
  | false =>
    rw [if_neg Bool.false_ne_true]
    exact wpAny_execs_nil ⟨σ1, H2, I2, q2⟩
theorem zs_while {c : Expr} {body : List Stmt} {tc : TT} {tb : TS} (hp : PassesOwn (model X.prog X.w) X.A X.env X.xe) (hc : ZT X c tc) (hb : ZSs X body tb) : ZS X (.While c body [] pos) (tWhile tc tb) := by with_unfolding_all exact ps_while hp hc hb
end
structure It where
  go : Nat → Hp → Prop
  yld : Nat → Hp → V → Hp → Prop
  stop : Nat → Hp → Prop
noncomputable def FpOk (X : Cx) (pins : List (Addr × Obj)) (H : Hp) (b : Addr) : Prop :=
  H b = none ∧ b ≠ X.env.locals ∧ b ∉ X.fs ∧ (b ∈ X.ex ∨ X.s₀.heap.objs.size ≤ b) ∧ (∀ x c, X.env.cells.lookup x = some c → c ≠ b) ∧ ∀ p ∈ X.pn ++ pins, p.1 ≠ b
theorem Inv.fpOk {X : Cx} {pins : List (Addr × Obj)} {σ : St} {H H' : Hp} {s : Shared} {b : Addr} (I : Inv X pins σ H s) (hb : s.heap.objs.size ≤ b) (hn : H' b = none) : FpOk X pins H' b := by
  refine ⟨hn, Nat.ne_of_gt (Nat.lt_of_lt_of_le I.lt hb), I.nofs hb, .inr (Nat.le_trans I.sz hb), fun x c e z => ?_, fun p hp z => ?_⟩
  · obtain ⟨v, q⟩ := I.cell x c e
    exact absurd (Nat.lt_of_lt_of_le q.lt (by rw [z]; exact hb)) (Nat.lt_irrefl _)
  · exact absurd (Nat.lt_of_lt_of_le (Heap.lt_size (I.pin p hp).1) (by rw [z]; exact hb)) (Nat.lt_irrefl _)
structure Turn (P : Program) (w : World) (K : PySem.W.Frag) (tg : Expr) (J : It) (fp : List Addr) (it : Addr) (tn : Nat → Heap → Prop) : Prop where
  mem : it ∈ fp
  obj : ∀ i h, tn i h → ∀ b ∈ fp, ∃ o, h.get? b = some o ∧ ∀ v, o.data ≠ .cell v
  keep : ∀ i h h', tn i h → (∀ b ∈ fp, ∀ o, h.get? b = some o → h'.get? b = some o) → tn i h'
  item : ∀ (X : Cx), X.prog = P → X.w = w → X.K = K → X.calm = true → ∀ (i : Nat) (pins : List (Addr × Obj)) (s : Shared) (σ : St) (H : Hp) (E : Value → Shared → Prop), Inv X pins σ H s → (∀ b ∈ fp, FpOk X pins H b) → tn i s.heap → J.go i H →
    wpAny (model P w) X.A (pyNext (.ref it)) (fun r s1 => ∃ u, r = some u ∧
      wpAny (model P w) X.A (letOwnedTupleGo tg (.ref it) u) (fun _ s2 => ∃ x H', Inv X pins σ H' s2 ∧ RelV x u ∧ J.yld i H x H' ∧ tn (i + 1) s2.heap ∧ ∀ b ∈ fp, H' b = none) E s1) E s
  done : ∀ (X : Cx), X.prog = P → X.w = w → X.K = K → X.calm = true → ∀ (i : Nat) (pins : List (Addr × Obj)) (s : Shared) (σ : St) (H : Hp) (E : Value → Shared → Prop), Inv X pins σ H s → (∀ b ∈ fp, FpOk X pins H b) → tn i s.heap → J.stop i H →
    wpAny (model P w) X.A (pyNext (.ref it)) (fun r s1 => r = none ∧ Inv X pins σ H s1) E s
  self : ∀ (A : Around) (i : Nat) (s : Shared) (Q : Value → Shared → Prop) (E : Value → Shared → Prop), tn i s.heap → Q (.ref it) s → wpAny (model P w) A (pyIter (.ref it)) Q E s
noncomputable abbrev TI := St → Hp → (It → Hp → Prop) → Prop
noncomputable def PIE (X : Cx) (pins : List (Addr × Obj)) (σ : St) (tg : Expr) (R : It → Hp → Prop) (itv : Value) (s2 : Shared) : Prop :=
  ∃ (it : Addr) (fp : List Addr) (tn : Nat → Heap → Prop) (J : It) (H' : Hp), itv = .ref it ∧ Inv X pins σ H' s2 ∧ Turn X.prog X.w X.K tg J fp it tn ∧ tn 0 s2.heap ∧ (∀ b ∈ fp, FpOk X pins H' b) ∧ R J H'
noncomputable def PI (X : Cx) (tg iter : Expr) (wi : TI) : Prop :=
  ∀ (pins : List (Addr × Obj)) (s : Shared) (σ : St) (H : Hp) (R : It → Hp → Prop), Inv X pins σ H s → wi σ H R →
    wpAny (model X.prog X.w) X.A (eval iter X.env) (fun v s1 => wpAny (model X.prog X.w) X.A (pyIter v) (PIE X pins σ tg R) X.xe s1) X.xe s
@[irreducible] noncomputable def ZI (X : Cx) (tg iter : Expr) (wi : TI) : Prop := PI X tg iter wi
theorem go_of {M : Model} {A : Around} {E : Value → Shared → Prop} {s : Shared} {tg : Expr} {it : Addr} {u : Value} {o : Obj} {n : String} {vs : Array Value} {Q : Unit → Shared → Prop} (ho : s.heap.get? it = some o) (hc : o.cls = .type n) (hd : o.data = .fields vs)
    (hn : ["enumerate", "zip", "dict_itemiterator", "dict_reverseitemiterator", "odict_iterator", "itertools.zip_longest", "itertools.pairwise"].contains n = false) (hQ : Q () s) : wpAny M A (letOwnedTupleGo tg (.ref it) u) Q E s := by
  unfold letOwnedTupleGo
  cases tg <;> first
    | exact wpAny_pure hQ
    | (cases u <;> first
        | exact wpAny_pure hQ
        | (refine wpAny_bind (wpAny_load ho ?_)
           rw [hc, hd]
           show wpAny M A (if (["enumerate", "zip", "dict_itemiterator", "dict_reverseitemiterator", "odict_iterator", "itertools.zip_longest", "itertools.pairwise"].contains n && vs[0]? == some (rawInt _)) = true then _ else _) Q E s
           rw [if_neg (by intro h; rw [hn, Bool.false_and] at h; cases h)]
           exact wpAny_pure hQ))

noncomputable def Itl (K : PySem.W.Frag) (a : Addr) : It :=
  ⟨fun i H => ∃ xs x, SqL K H a xs ∧ xs[i]? = some x, fun i H x H' => H' = H ∧ ∀ xs, SqL K H a xs → xs[i]? = some x, fun i H => ∃ xs, SqL K H a xs ∧ xs.length ≤ i⟩
noncomputable def Itt (K : PySem.W.Frag) (a : Addr) : It :=
  ⟨fun i H => ∃ xs x, SqT K H a xs ∧ xs[i]? = some x, fun i H x H' => H' = H ∧ ∀ xs, SqT K H a xs → xs[i]? = some x, fun i H => ∃ xs, SqT K H a xs ∧ xs.length ≤ i⟩
noncomputable def Itr (lo : Int) (n : Nat) : It := ⟨fun i _ => i < n, fun i H x H' => H' = H ∧ x = .int (lo + i), fun i _ => n ≤ i⟩
theorem turn_list {P : Program} {w : World} {K : PySem.W.Frag} {tg : Expr} (a it : Addr) : Turn P w K tg (Itl K a) [it] it (fun i h => h.IsListIter it a i) where
  mem := by simp
  obj := fun i h st b hb => by
    have e : b = it := by simpa using hb
    subst e
    obtain ⟨o, e, c, d⟩ := st
    exact ⟨o, e, fun v z => by rw [d] at z; cases z⟩
  keep := fun i h h' st k => st.at fun o e => k it (by simp) o e
  item := by
    intro X hP hw hK hc i pins s σ H E I hf st hg
    subst hP hw hK
    obtain ⟨xs, x, hq, hx⟩ := hg
    obtain ⟨its, rv, p, hz⟩ := I.list hq
    obtain ⟨u, hu, ru⟩ := rv.get hx
    obtain ⟨f0, f1, f2, f3, f4, f5⟩ := hf it (by simp)
    refine wpAny_pyNext_list_item st p.isList (x := u) (by simpa using hu) fun h' st' sb => ?_
    have I1 : Inv X pins σ H { s with heap := h' } := I.turned (t' := s.toks) (fun b o hb e => (sb.2 b hb).trans e) f0 f1 f3 f4 f5
    obtain ⟨o, e, c, d⟩ := id st'
    exact ⟨u, rfl, go_of (s := { s with heap := h' }) e c d (by decide) ⟨x, H, I1, ru, ⟨rfl, fun ys hy => by rw [I.list_inj hy hq]; exact hx⟩, st', fun b hb => (hf b hb).1⟩⟩
  done := by
    intro X hP hw hK hc i pins s σ H E I hf st hg
    subst hP hw hK
    obtain ⟨xs, hq, hx⟩ := hg
    obtain ⟨its, rv, p, hz⟩ := I.list hq
    obtain ⟨f0, f1, f2, f3, f4, f5⟩ := hf it (by simp)
    have hl := rv.length
    exact wpAny_pyNext_list_end (I.ok.hd hc) st p.isList (by simp; omega) fun h' eb => ⟨rfl, I.turned (t' := s.toks) (fun b o hb e => eb b o hb e) f0 f1 f3 f4 f5⟩
  self := fun _ _ _ _ _ st h => wpAny_pyIter_listiter st h
theorem turn_tuple {P : Program} {w : World} {K : PySem.W.Frag} {tg : Expr} (a it : Addr) : Turn P w K tg (Itt K a) [it] it (fun i h => h.IsTupleIter it a i) where
  mem := by simp
  obj := fun i h st b hb => by
    have e : b = it := by simpa using hb
    subst e
    obtain ⟨o, e, c, d⟩ := st
    exact ⟨o, e, fun v z => by rw [d] at z; cases z⟩
  keep := fun i h h' st k => st.at fun o e => k it (by simp) o e
  item := by
    intro X hP hw hK hc i pins s σ H E I hf st hg
    subst hP hw hK
    obtain ⟨xs, x, hq, hx⟩ := hg
    obtain ⟨its, rv, p, hz⟩ := I.tuple hq
    obtain ⟨u, hu, ru⟩ := rv.get hx
    obtain ⟨f0, f1, f2, f3, f4, f5⟩ := hf it (by simp)
    refine wpAny_pyNext_tuple_item st (show s.heap.IsTuple a its.toArray from p) (x := u) (by simpa using hu) fun h' st' sb => ?_
    have I1 : Inv X pins σ H { s with heap := h' } := I.turned (t' := s.toks) (fun b o hb e => (sb.2 b hb).trans e) f0 f1 f3 f4 f5
    obtain ⟨o, e, c, d⟩ := id st'
    exact ⟨u, rfl, go_of (s := { s with heap := h' }) e c d (by decide) ⟨x, H, I1, ru, ⟨rfl, fun ys hy => by rw [I.tuple_inj hy hq]; exact hx⟩, st', fun b hb => (hf b hb).1⟩⟩
  done := by
    intro X hP hw hK hc i pins s σ H E I hf st hg
    subst hP hw hK
    obtain ⟨xs, hq, hx⟩ := hg
    obtain ⟨its, rv, p, hz⟩ := I.tuple hq
    obtain ⟨f0, f1, f2, f3, f4, f5⟩ := hf it (by simp)
    have hl := rv.length
    exact wpAny_pyNext_tuple_end (I.ok.hd hc) st (show s.heap.IsTuple a its.toArray from p) (by simp; omega) fun h' eb => ⟨rfl, I.turned (t' := s.toks) (fun b o hb e => eb b o hb e) f0 f1 f3 f4 f5⟩
  self := fun _ _ _ _ _ st h => wpAny_pyIter_tupleiter st h
theorem turn_range {P : Program} {w : World} {K : PySem.W.Frag} {tg : Expr} (it : Addr) (lo : Int) (n : Nat) : Turn P w K tg (Itr lo n) [it] it (fun i h => IsRangeIter h it (lo + (i : Nat) * 1) ((n : Int) - (i : Nat)) 1) where
  mem := by simp
  obj := fun i h st b hb => by
    have e : b = it := by simpa using hb
    subst e
    exact ⟨_, st, fun v z => by
      have z' : Data.fields _ = Data.cell v := z
      cases z'⟩
  keep := fun i h h' st k => k it (by simp) _ st
  item := by
    intro X hP hw hK hc i pins s σ H E I hf st hg
    subst hP hw hK
    obtain ⟨f0, f1, f2, f3, f4, f5⟩ := hf it (by simp)
    have W := Walks.range (prog := X.prog) (w := X.w) (I.ok.hd hc) it lo 1 n
    refine W.item i s _ _ hg st fun v h' tk hv st' kk => ?_
    obtain ⟨t, rfl⟩ := hv
    have I1 : Inv X pins σ H { s with heap := h', toks := tk } := I.turned (fun b o hb e => kk b o (by simpa using hb) e) f0 f1 f3 f4 f5
    refine ⟨_, rfl, go_of (s := { s with heap := h', toks := tk }) (n := "range_iterator") st' rfl rfl (by decide) ⟨.int (lo + i), H, I1, ⟨t, ?_⟩, ⟨rfl, rfl⟩, st', fun b hb => (hf b hb).1⟩⟩
    rw [Int.mul_one]
  done := by
    intro X hP hw hK hc i pins s σ H E I hf st hg
    subst hP hw hK
    obtain ⟨f0, f1, f2, f3, f4, f5⟩ := hf it (by simp)
    exact wpAny_pyNext_range_end (I.ok.hd hc) st (by have : n ≤ i := hg; omega) fun h' eb => ⟨rfl, I.turned (t' := s.toks) (fun b o hb e => eb b o hb e) f0 f1 f3 f4 f5⟩
  self := fun _ _ _ _ _ st h => wpAny_pyIter_rangeiter st h
end L2
namespace L2
open PySem PySem.Spec PyProof.Rows
section
variable {X : Cx} {tg : Expr}
noncomputable def iList (K : PySem.W.Frag) (tl : TE) : TI := fun σ H R => tl σ H fun x H1 => ∃ a, x = .ref a ∧ (∃ xs, SqL K H1 a xs) ∧ R (Itl K a) H1
noncomputable def iTup (K : PySem.W.Frag) (tl : TE) : TI := fun σ H R => tl σ H fun x H1 => ∃ a, x = .ref a ∧ (∃ xs, SqT K H1 a xs) ∧ R (Itt K a) H1
theorem pi_list {l : Expr} {tl : TE} (hl : PE X l tl) : PI X tg l (iList X.K tl) := by
  intro pins s σ H R I h
  refine thn (hl pins s σ H _ I h) fun v s1 ⟨x, H1, I1, r1, q1⟩ => ?_
  obtain ⟨a, e, ⟨xs, hq⟩, q⟩ := q1
  subst e
  cases r1
  obtain ⟨its, rv, p, hz⟩ := I1.list hq
  refine wpAny_pyIter_list p.isList ?_
  refine ⟨s1.heap.objs.size, [s1.heap.objs.size], _, _, H1, rfl, I1.kept (t' := s1.toks) fun b o e => Heap.get?_push_of_some _ e, turn_list a _, ⟨_, Heap.get?_push_size _ rfl, rfl, rfl⟩, fun b hb => ?_, q⟩
  have e : b = s1.heap.objs.size := by simpa using hb
  subst e
  exact I1.fpOk (Nat.le_refl _) (I1.hok.fresh (Nat.le_refl _))
theorem zi_list {l : Expr} {tl : TE} (hl : ZE X l tl) : ZI X tg l (iList X.K tl) := by with_unfolding_all exact pi_list hl
theorem pi_tup {l : Expr} {tl : TE} (hl : PE X l tl) : PI X tg l (iTup X.K tl) := by
  intro pins s σ H R I h
  refine thn (hl pins s σ H _ I h) fun v s1 ⟨x, H1, I1, r1, q1⟩ => ?_
  obtain ⟨a, e, ⟨xs, hq⟩, q⟩ := q1
  subst e
  cases r1
  obtain ⟨its, rv, p, hz⟩ := I1.tuple hq
  refine wpAny_pyIter_tuple (show s1.heap.IsTuple a its.toArray from p) ?_
  refine ⟨s1.heap.objs.size, [s1.heap.objs.size], _, _, H1, rfl, I1.kept (t' := s1.toks) fun b o e => Heap.get?_push_of_some _ e, turn_tuple a _, ⟨_, Heap.get?_push_size _ rfl, rfl, rfl⟩, fun b hb => ?_, q⟩
  have e : b = s1.heap.objs.size := by simpa using hb
  subst e
  exact I1.fpOk (Nat.le_refl _) (I1.hok.fresh (Nat.le_refl _))
theorem zi_tup {l : Expr} {tl : TE} (hl : ZE X l tl) : ZI X tg l (iTup X.K tl) := by with_unfolding_all exact pi_tup hl
theorem range_it {pins : List (Addr × Obj)} {σ : St} {H : Hp} {s : Shared} {R : It → Hp → Prop} {E : Value → Shared → Prop} {lo hi : Int} {t u v : Tok} {tk : Nat} (I : Inv X pins σ H s) (h1 : -(2 ^ 62) ≤ lo) (h2 : lo < 2 ^ 62) (h3 : -(2 ^ 62) ≤ hi) (h4 : hi < 2 ^ 62)
    (q : R (Itr lo (hi - lo).toNat) H) : wpAny (model X.prog X.w) X.A (pyIter (.ref s.heap.objs.size)) (PIE X pins σ tg R) E { s with heap := s.heap.push { cls := .type "range", data := .fields #[.int lo t, .int hi u, .int 1 v] }, toks := tk } := by
  refine wpAny_pyIter_range (IsRange.new ..) (small_one h1 h2 h3 h4) ?_
  have I1 : Inv X pins σ H { s with heap := s.heap.push { cls := .type "range", data := .fields #[.int lo t, .int hi u, .int 1 v] }, toks := tk } := I.kept fun b o e => Heap.get?_push_of_some _ e
  refine ⟨(s.heap.push { cls := .type "range", data := .fields #[.int lo t, .int hi u, .int 1 v] }).objs.size, [(s.heap.push { cls := .type "range", data := .fields #[.int lo t, .int hi u, .int 1 v] }).objs.size], _, _, H, rfl,
    I1.kept (t' := tk) fun b o e => Heap.get?_push_of_some _ e, turn_range _ lo (hi - lo).toNat, ?_, fun b hb => ?_, q⟩
  · have e1 : lo + ((0 : Nat) : Int) * 1 = lo := by simp
    have e2 : (((hi - lo).toNat : Nat) : Int) - ((0 : Nat) : Int) = Builtin.Range.rangeSize lo hi 1 := by rw [rangeSize_one]; split <;> omega
    show IsRangeIter _ _ (lo + ((0 : Nat) : Int) * 1) ((((hi - lo).toNat : Nat) : Int) - ((0 : Nat) : Int)) 1
    rw [e1, e2]
    exact Heap.get?_push_size _ rfl
  · have e : b = (s.heap.push { cls := .type "range", data := .fields #[.int lo t, .int hi u, .int 1 v] }).objs.size := by simpa using hb
    subst e
    exact I1.fpOk (Nat.le_refl _) (I1.hok.fresh (Nat.le_refl _))
noncomputable def iRng1 (ta : TA) : TI := fun σ H R => ta σ H fun vs H1 => ∃ j : Int, vs = [.int j] ∧ -(2 ^ 62) ≤ j ∧ j < 2 ^ 62 ∧ R (Itr 0 j.toNat) H1
noncomputable def iRng2 (ta : TA) : TI := fun σ H R => ta σ H fun vs H1 => ∃ i j : Int, vs = [.int i, .int j] ∧ (-(2 ^ 62) ≤ i ∧ i < 2 ^ 62 ∧ -(2 ^ 62) ≤ j ∧ j < 2 ^ 62) ∧ R (Itr i (j - i).toNat) H1
theorem pi_range1 {a : Expr} {ta : TA} {p pos : Pos} (hg : Gl X "range") (hm : X.mg "range" = none) (ha : PA X [a] ta) (hs : starEach [a] X.env = [(false, eval a X.env)] := by rfl) : PI X tg (.Call (.Name "range" p) [a] [] pos) (iRng1 ta) := by
  intro pins s σ H R I h
  refine Call_ (ld_blt I hg hm boot_range (PyProof.Rows.callWith_type1 (thn (ha pos pins s σ H _ I h) fun us s1 ⟨vs, H1, I1, r1, q1⟩ => ?_) hs rfl))
  obtain ⟨j, e, q1, q2, q⟩ := q1
  subst e
  cases r1 with
  | cons r rr =>
    cases rr
    obtain ⟨t, rfl⟩ := r
    exact call_range_1 (range_it I1 (by omega) (by omega) q1 q2 (by simpa using q))
theorem zi_range1 {a : Expr} {ta : TA} {p pos : Pos} (hg : Gl X "range") (hm : X.mg "range" = none) (ha : ZA X [a] ta) (hs : starEach [a] X.env = [(false, eval a X.env)] := by rfl) : ZI X tg (.Call (.Name "range" p) [a] [] pos) (iRng1 ta) := by with_unfolding_all exact pi_range1 hg hm ha hs
theorem pi_range2 {a b : Expr} {ta : TA} {p pos : Pos} (hg : Gl X "range") (hm : X.mg "range" = none) (ha : PA X [a, b] ta) (hs : starEach [a, b] X.env = [(false, eval a X.env), (false, eval b X.env)] := by rfl) (hs2 : starEach [b] X.env = [(false, eval b X.env)] := by rfl) :
    PI X tg (.Call (.Name "range" p) [a, b] [] pos) (iRng2 ta) := by
  intro pins s σ H R I h
  refine Call_ (ld_blt I hg hm boot_range (PyProof.Rows.callWith_type1 (thn (ha pos pins s σ H _ I h) fun us s1 ⟨vs, H1, I1, r1, q1⟩ => ?_) (by rw [hs, hs2]) (by rw [hs2]; rfl)))
  obtain ⟨i, j, e, ⟨q1, q2, q3, q4⟩, q⟩ := q1
  subst e
  cases r1 with
  | cons r rr =>
    cases rr with
    | cons r' rr =>
      cases rr
      obtain ⟨t, rfl⟩ := r
      obtain ⟨t', rfl⟩ := r'
      exact call_range_2 (range_it I1 q1 q2 q3 q4 q)
theorem zi_range2 {a b : Expr} {ta : TA} {p pos : Pos} (hg : Gl X "range") (hm : X.mg "range" = none) (ha : ZA X [a, b] ta) (hs : starEach [a, b] X.env = [(false, eval a X.env), (false, eval b X.env)] := by rfl) (hs2 : starEach [b] X.env = [(false, eval b X.env)] := by rfl) :
    ZI X tg (.Call (.Name "range" p) [a, b] [] pos) (iRng2 ta) := by with_unfolding_all exact pi_range2 hg hm ha hs hs2

noncomputable def tFor (wi : TI) (g : TG) (tb : TS) : TS := fun D σ H => wi σ H fun J H1 => ∃ W : Nat → Nat → St → Hp → Prop, (∃ m, W 0 m σ H1) ∧ ∀ i m σ H, W i m σ H →
  (J.stop i H ∧ D.nx σ H) ∨ (J.go i H ∧ ∃ N : St → Hp → Prop, (∀ σ' H', N σ' H' → ∃ m', m' < m ∧ W (i + 1) m' σ' H') ∧ ∀ x H', J.yld i H x H' → g x σ H' fun σ2 H2 => tb { D with nx := N, ct := N, bk := D.nx } σ2 H2)
noncomputable def pinsAt (fp : List Addr) (h : Heap) : List (Addr × Obj) := fp.filterMap fun b => (h.get? b).map fun o => (b, o)
theorem mem_pinsAt {fp : List Addr} {h : Heap} {b : Addr} {o : Obj} (hb : b ∈ fp) (e : h.get? b = some o) : (b, o) ∈ pinsAt fp h := List.mem_filterMap.mpr ⟨b, hb, by rw [e]; rfl⟩
theorem of_pinsAt {fp : List Addr} {h : Heap} {p : Addr × Obj} (hp : p ∈ pinsAt fp h) : p.1 ∈ fp ∧ h.get? p.1 = some p.2 := by
  obtain ⟨b, hb, e⟩ := List.mem_filterMap.mp hp
  cases q : h.get? b with
  | none => rw [q] at e; cases e
  | some o =>
    rw [q] at e
    have e' : (b, o) = p := Option.some.inj e
    subst e'
    exact ⟨hb, q⟩
theorem Inv.pinned {pins : List (Addr × Obj)} {σ : St} {H : Hp} {s : Shared} {fp : List Addr} (I : Inv X pins σ H s) (hf : ∀ b ∈ fp, FpOk X pins H b) (ho : ∀ b ∈ fp, ∃ o, s.heap.get? b = some o ∧ ∀ v, o.data ≠ .cell v) : Inv X (pins ++ pinsAt fp s.heap) σ H s :=
  I.pins_of fun p hp => (List.mem_append.mp hp).elim (fun z => I.pin p (List.mem_append_right _ z)) fun z => by
    obtain ⟨hb, e⟩ := of_pinsAt z
    obtain ⟨f0, f1, f2, _⟩ := hf p.1 hb
    obtain ⟨o, e', d⟩ := ho p.1 hb
    rw [e] at e'; cases e'
    exact ⟨e, f0, f1, f2, d⟩
theorem Inv.unpinned {pins pl : List (Addr × Obj)} {σ : St} {H : Hp} {s : Shared} (I : Inv X (pins ++ pl) σ H s) : Inv X pins σ H s := I.pins_of fun p hp => I.pin p (List.mem_append_right _ (List.mem_append_left _ hp))
theorem ps_for {iter : Expr} {body : List Stmt} {wi : TI} {g : TG} {tb : TS} {pos : Pos} (hp : PassesOwn (model X.prog X.w) X.A X.env X.xe) (hc : X.calm = true) (hi : PI X tg iter wi) (hg : PG X tg g) (hb : PSs X body tb)
    (hs : ∀ x, foldedSetIterable iter X.env x = pure x := by intro _; rfl) : PS X (.For tg iter body [] pos) (tFor wi g tb) := by
  intro pins s σ H D I h
  refine wpAny_For (thn (hi pins s σ H _ I h) fun v s1 h1 => thn h1 fun itv s2 h2 => ?_) hs
  obtain ⟨it, fp, tn, J, H2, e, I2, T, st2, f2, W, ⟨m0, w0⟩, turn⟩ := h2
  subst e
  -- what stays true of the iterator's objects through the loop
  have stat : ∀ {H' : Hp}, (∀ b ∈ fp, H' b = none) → ∀ b ∈ fp, FpOk X pins H' b := fun hn b hb => ⟨hn b hb, (f2 b hb).2⟩
  refine codeAny_forLoop_any (fun n s' => ∃ i σ' H', Inv X pins σ' H' s' ∧ tn i s'.heap ∧ (∀ b ∈ fp, H' b = none) ∧ W i n σ' H') ?_ m0 ⟨0, σ, H2, I2, st2, fun b hb => (f2 b hb).1, w0⟩
  rintro n s3 ⟨i, σ3, H3, I3, st3, fr3, w3⟩
  rcases turn i n σ3 H3 w3 with ⟨stop, qn⟩ | ⟨go, N, hN, step⟩
  · refine wpAny_passesOwn hp (thn (T.done X rfl rfl rfl hc i pins s3 σ3 H3 X.xe I3 (stat fr3) st3 stop) fun r s4 ⟨hr, I4⟩ => ?_)
    subst hr
    exact wpAny_execs_nil ⟨σ3, H3, I4, qn⟩
  · refine wpAny_passesOwn hp (thn (T.item X rfl rfl rfl hc i pins s3 σ3 H3 X.xe I3 (stat fr3) st3 go) fun r s4 ⟨u, hr, h4⟩ => ?_)
    subst hr
    refine wpAny_passesOwn hp (thn h4 fun _ s5 ⟨x, H5, I5, r5, y5, st5, fr5⟩ => ?_)
    have I5' := I5.pinned (stat fr5) (T.obj _ _ st5)
    refine wpAny_passesOwn hp (thn (hg _ s5 σ3 H5 x u _ I5' r5 (step x H5 y5)) fun _ s6 ⟨σ6, H6, I6, q6⟩ => ?_)
    refine wpAny_passesOwn hp (thn (hb _ s6 σ6 H6 _ I6 q6) fun f s7 q7 => ?_)
    have again : ∀ {σ7 : St} {H7 : Hp}, Inv X (pins ++ pinsAt fp s5.heap) σ7 H7 s7 → N σ7 H7 → ∃ m, m < n ∧ ∃ i σ' H', Inv X pins σ' H' s7 ∧ tn i s7.heap ∧ (∀ b ∈ fp, H' b = none) ∧ W i m σ' H' := fun {σ7 H7} I7 n7 => by
      obtain ⟨m', hm, w7⟩ := hN σ7 H7 n7
      refine ⟨m', hm, i + 1, σ7, H7, I7.unpinned, T.keep _ _ _ st5 fun b hb o e => (I7.pin (b, o) (List.mem_append_right _ (List.mem_append_right _ (mem_pinsAt hb e)))).1, fun b hb => ?_, w7⟩
      obtain ⟨o, e, d⟩ := T.obj _ _ st5 b hb
      exact (I7.pin (b, o) (List.mem_append_right _ (List.mem_append_right _ (mem_pinsAt hb e)))).2.1
    cases f with
    | next => obtain ⟨σ7, H7, I7, n7⟩ := q7; exact again I7 n7
    | cont => obtain ⟨σ7, H7, I7, n7⟩ := q7; exact again I7 n7
    | brk => obtain ⟨σ7, H7, I7, q7⟩ := q7; exact ⟨σ7, H7, I7.unpinned, q7⟩
    | ret v => obtain ⟨x7, σ7, H7, I7, r7, q7⟩ := q7; exact ⟨x7, σ7, H7, I7.unpinned, r7, q7⟩
theorem zs_for {iter : Expr} {body : List Stmt} {wi : TI} {g : TG} {tb : TS} {pos : Pos} (hp : PassesOwn (model X.prog X.w) X.A X.env X.xe) (hc : X.calm = true) (hi : ZI X tg iter wi) (hg : ZG X tg g) (hb : ZSs X body tb)
    (hs : ∀ x, foldedSetIterable iter X.env x = pure x := by intro _; rfl) : ZS X (.For tg iter body [] pos) (tFor wi g tb) := by with_unfolding_all exact ps_for hp hc hi hg hb hs
end
theorem for_list {K : PySem.W.Frag} {a : Addr} {xs : List V} {g : TG} {tb : TS} {D : Ends} {σ : St} {H : Hp} (Pv : Nat → St → Hp → Prop) (h0 : Pv 0 σ H) (hl : ∀ i σ H, i ≤ xs.length → Pv i σ H → SqL K H a xs)
    (hs : ∀ i x σ H, xs[i]? = some x → Pv i σ H → g x σ H fun σ2 H2 => tb { D with nx := Pv (i + 1), ct := Pv (i + 1), bk := D.nx } σ2 H2) (hd : ∀ σ H, Pv xs.length σ H → D.nx σ H) :
    ∃ W : Nat → Nat → St → Hp → Prop, (∃ m, W 0 m σ H) ∧ ∀ i m σ H, W i m σ H →
      ((Itl K a).stop i H ∧ D.nx σ H) ∨ ((Itl K a).go i H ∧ ∃ N : St → Hp → Prop, (∀ σ' H', N σ' H' → ∃ m', m' < m ∧ W (i + 1) m' σ' H') ∧ ∀ x H', (Itl K a).yld i H x H' → g x σ H' fun σ2 H2 => tb { D with nx := N, ct := N, bk := D.nx } σ2 H2) := by
  refine ⟨fun i m σ H => m = xs.length - i ∧ i ≤ xs.length ∧ Pv i σ H, ⟨xs.length, by simp, Nat.zero_le _, h0⟩, ?_⟩
  rintro i m σ H ⟨rfl, hi, p⟩
  have q := hl i σ H hi p
  by_cases hlt : i < xs.length
  · refine .inr ⟨⟨xs, xs[i], q, by simp [hlt]⟩, Pv (i + 1), fun σ' H' p' => ⟨xs.length - (i + 1), by omega, rfl, hlt, p'⟩, fun x H' y => ?_⟩
    obtain ⟨e, y⟩ := y
    subst e
    exact hs i x σ _ (y xs q) p
  · have e : i = xs.length := by omega
    subst e
    exact .inl ⟨⟨xs, q, Nat.le_refl _⟩, hd σ H p⟩
theorem for_tup {K : PySem.W.Frag} {a : Addr} {xs : List V} {g : TG} {tb : TS} {D : Ends} {σ : St} {H : Hp} (Pv : Nat → St → Hp → Prop) (h0 : Pv 0 σ H) (hl : ∀ i σ H, i ≤ xs.length → Pv i σ H → SqT K H a xs)
    (hs : ∀ i x σ H, xs[i]? = some x → Pv i σ H → g x σ H fun σ2 H2 => tb { D with nx := Pv (i + 1), ct := Pv (i + 1), bk := D.nx } σ2 H2) (hd : ∀ σ H, Pv xs.length σ H → D.nx σ H) :
    ∃ W : Nat → Nat → St → Hp → Prop, (∃ m, W 0 m σ H) ∧ ∀ i m σ H, W i m σ H →
      ((Itt K a).stop i H ∧ D.nx σ H) ∨ ((Itt K a).go i H ∧ ∃ N : St → Hp → Prop, (∀ σ' H', N σ' H' → ∃ m', m' < m ∧ W (i + 1) m' σ' H') ∧ ∀ x H', (Itt K a).yld i H x H' → g x σ H' fun σ2 H2 => tb { D with nx := N, ct := N, bk := D.nx } σ2 H2) := by
  refine ⟨fun i m σ H => m = xs.length - i ∧ i ≤ xs.length ∧ Pv i σ H, ⟨xs.length, by simp, Nat.zero_le _, h0⟩, ?_⟩
  rintro i m σ H ⟨rfl, hi, p⟩
  have q := hl i σ H hi p
  by_cases hlt : i < xs.length
  · refine .inr ⟨⟨xs, xs[i], q, by simp [hlt]⟩, Pv (i + 1), fun σ' H' p' => ⟨xs.length - (i + 1), by omega, rfl, hlt, p'⟩, fun x H' y => ?_⟩
    obtain ⟨e, y⟩ := y
    subst e
    exact hs i x σ _ (y xs q) p
  · have e : i = xs.length := by omega
    subst e
    exact .inl ⟨⟨xs, q, Nat.le_refl _⟩, hd σ H p⟩
theorem for_range {lo : Int} {n : Nat} {g : TG} {tb : TS} {D : Ends} {σ : St} {H : Hp} (Pv : Nat → St → Hp → Prop) (h0 : Pv 0 σ H)
    (hs : ∀ i σ H, i < n → Pv i σ H → g (.int (lo + i)) σ H fun σ2 H2 => tb { D with nx := Pv (i + 1), ct := Pv (i + 1), bk := D.nx } σ2 H2) (hd : ∀ σ H, Pv n σ H → D.nx σ H) :
    ∃ W : Nat → Nat → St → Hp → Prop, (∃ m, W 0 m σ H) ∧ ∀ i m σ H, W i m σ H →
      ((Itr lo n).stop i H ∧ D.nx σ H) ∨ ((Itr lo n).go i H ∧ ∃ N : St → Hp → Prop, (∀ σ' H', N σ' H' → ∃ m', m' < m ∧ W (i + 1) m' σ' H') ∧ ∀ x H', (Itr lo n).yld i H x H' → g x σ H' fun σ2 H2 => tb { D with nx := N, ct := N, bk := D.nx } σ2 H2) := by
  refine ⟨fun i m σ H => m = n - i ∧ i ≤ n ∧ Pv i σ H, ⟨n, by simp, Nat.zero_le _, h0⟩, ?_⟩
  rintro i m σ H ⟨rfl, hi, p⟩
  by_cases hlt : i < n
  · refine .inr ⟨hlt, Pv (i + 1), fun σ' H' p' => ⟨n - (i + 1), by omega, rfl, hlt, p'⟩, fun x H' y => ?_⟩
    obtain ⟨e, y⟩ := y
    subst e y
    exact hs i σ _ hlt p
  · have e : i = n := by omega
    subst e
    exact .inl ⟨Nat.le_refl _, hd σ H p⟩
end L2
namespace L2
open PySem PySem.Spec PyProof.Rows
noncomputable abbrev R2 := V → V → Hp → VK → Prop
noncomputable def OpR (X : Cx) (f : Value → Value → Sem Value) (r : R2) : Prop :=
  ∀ (pins : List (Addr × Obj)) (s : Shared) (σ : St) (H : Hp) (x y : V) (v u : Value) (Q : VK), Inv X pins σ H s → RelV x v → RelV y u → r x y H Q →
    wpAny (model X.prog X.w) X.A (f v u) (EP X pins σ Q) X.xe s
noncomputable def UnR (X : Cx) (f : Value → Sem Value) (r : V → Hp → VK → Prop) : Prop :=
  ∀ (pins : List (Addr × Obj)) (s : Shared) (σ : St) (H : Hp) (x : V) (v : Value) (Q : VK), Inv X pins σ H s → RelV x v → r x H Q →
    wpAny (model X.prog X.w) X.A (f v) (EP X pins σ Q) X.xe s
noncomputable def CallR (X : Cx) (f : Value) (r : List V → Hp → VK → Prop) : Prop :=
  ∀ (pins : List (Addr × Obj)) (s : Shared) (σ : St) (H : Hp) (xs : List V) (us : List Value) (Q : VK), Inv X pins σ H s → Vals xs us → r xs H Q →
    wpAny (model X.prog X.w) X.A (call f us) (EP X pins σ Q) X.xe s
noncomputable def TruR (X : Cx) (r : V → Hp → (Bool → Hp → Prop) → Prop) : Prop :=
  ∀ (pins : List (Addr × Obj)) (s : Shared) (σ : St) (H : Hp) (x : V) (v : Value) (Q : Bool → Hp → Prop), Inv X pins σ H s → RelV x v → r x H Q →
    wpAny (model X.prog X.w) X.A (truthy v) (TP X pins σ Q) X.xe s

noncomputable def tOp (r : R2) (ta tb : TE) : TE := fun σ H Q => ta σ H fun x H1 => tb σ H1 fun y H2 => r x y H2 Q
noncomputable def tUn (r : V → Hp → VK → Prop) (ta : TE) : TE := fun σ H Q => ta σ H fun x H1 => r x H1 Q
noncomputable def rI (C : Int → Int → Prop) (g : Int → Int → V) : R2 := fun x y H Q => ∃ i j, x = .int i ∧ y = .int j ∧ C i j ∧ Q (g i j) H
noncomputable def rI0 (g : Int → Int → V) : R2 := fun x y H Q => ∃ i j, x = .int i ∧ y = .int j ∧ Q (g i j) H
noncomputable def rU (g : Int → V) : V → Hp → VK → Prop := fun x H Q => ∃ i, x = .int i ∧ Q (g i) H

section
variable {X : Cx} {a b c : Expr} {ta tb tc : TE} {pos : Pos}
theorem binT (ha : PE X a ta) (hb : PE X b tb) {pins : List (Addr × Obj)} {s : Shared} {σ : St} {H : Hp} {R : V → V → Hp → Prop} (I : Inv X pins σ H s)
    (h : ta σ H fun x H1 => tb σ H1 fun y H2 => R x y H2) {Q : Value → Shared → Prop} {f : Value → Value → Sem Value}
    (hf : ∀ v u s2 x y H2, Inv X pins σ H2 s2 → RelV x v → RelV y u → R x y H2 → wpAny (model X.prog X.w) X.A (f v u) Q X.xe s2) :
    wpAny (model X.prog X.w) X.A (eval a X.env) (fun v s₁ => wpAny (model X.prog X.w) X.A (eval b X.env) (fun u s₂ => wpAny (model X.prog X.w) X.A (f v u) Q X.xe s₂) X.xe s₁) X.xe s := by
  refine thn (ha pins s σ H _ I h) fun v s1 ⟨x, H1, I1, r1, q1⟩ => ?_
  refine thn (hb pins s1 σ H1 _ I1 q1) fun u s2 ⟨y, H2, I2, r2, q2⟩ => ?_
  exact hf v u s2 x y H2 I2 r1 r2 q2

theorem pe_op {op : Operator} {r : R2} (ho : OpR X (binaryOp op) r) (ha : PE X a ta) (hb : PE X b tb) : PE X (.BinOp a op b pos) (tOp r ta tb) := by
  intro pins s σ H Q I h
  exact wpAny_BinOp (binT ha hb I h fun v u s2 x y H2 I2 rx ry q => ho pins s2 σ H2 x y v u Q I2 rx ry q)
theorem ze_op {op : Operator} {r : R2} (ho : OpR X (binaryOp op) r) (ha : ZE X a ta) (hb : ZE X b tb) : ZE X (.BinOp a op b pos) (tOp r ta tb) := by with_unfolding_all exact pe_op ho ha hb
theorem pe_un {op : UnaryOp} {r : V → Hp → VK → Prop} (ho : UnR X (unaryOp op) r) (ha : PE X a ta) : PE X (.UnaryOp op a pos) (tUn r ta) := by
  intro pins s σ H Q I h
  exact UnaryOp_ (thn (ha pins s σ H _ I h) fun v s1 ⟨x, H1, I1, r1, q1⟩ => ho pins s1 σ H1 x v Q I1 r1 q1)
theorem ze_un {op : UnaryOp} {r : V → Hp → VK → Prop} (ho : UnR X (unaryOp op) r) (ha : ZE X a ta) : ZE X (.UnaryOp op a pos) (tUn r ta) := by with_unfolding_all exact pe_un ho ha
theorem opI {f : Value → Value → Sem Value} {C : Int → Int → Prop} {g : Int → Int → Int}
    (rule : ∀ (i j : Int) (t u : Tok) (s : Shared) (Q : Value → Shared → Prop) (E : Value → Shared → Prop), C i j → Q (.int (g i j) s.toks) { s with toks := s.toks + 1 } → wpAny (model X.prog X.w) X.A (f (.int i t) (.int j u)) Q E s) :
    OpR X f (rI C fun i j => .int (g i j)) := by
  intro pins s σ H x y v u Q I rx ry h
  obtain ⟨i, j, rfl, rfl, hc, q⟩ := h
  obtain ⟨t, rfl⟩ := rx
  obtain ⟨t', rfl⟩ := ry
  exact rule i j t t' s _ _ hc ⟨.int (g i j), H, I.tok _, ⟨_, rfl⟩, q⟩
theorem opI0 {f : Value → Value → Sem Value} {g : Int → Int → Int}
    (rule : ∀ (i j : Int) (t u : Tok) (s : Shared) (Q : Value → Shared → Prop) (E : Value → Shared → Prop), Q (.int (g i j) s.toks) { s with toks := s.toks + 1 } → wpAny (model X.prog X.w) X.A (f (.int i t) (.int j u)) Q E s) :
    OpR X f (rI0 fun i j => .int (g i j)) := by
  intro pins s σ H x y v u Q I rx ry h
  obtain ⟨i, j, rfl, rfl, q⟩ := h
  obtain ⟨t, rfl⟩ := rx
  obtain ⟨t', rfl⟩ := ry
  exact rule i j t t' s _ _ ⟨.int (g i j), H, I.tok _, ⟨_, rfl⟩, q⟩
theorem opB0 {f : Value → Value → Sem Value} {g : Int → Int → Bool}
    (rule : ∀ (i j : Int) (t u : Tok) (s : Shared) (Q : Value → Shared → Prop) (E : Value → Shared → Prop), Q (.bool (g i j)) s → wpAny (model X.prog X.w) X.A (f (.int i t) (.int j u)) Q E s) :
    OpR X f (rI0 fun i j => .bl (g i j)) := by
  intro pins s σ H x y v u Q I rx ry h
  obtain ⟨i, j, rfl, rfl, q⟩ := h
  obtain ⟨t, rfl⟩ := rx
  obtain ⟨t', rfl⟩ := ry
  exact rule i j t t' s _ _ ⟨.bl (g i j), H, I, rfl, q⟩

noncomputable def CDiv (i j : Int) : Prop := 0 < j ∧ j < 1073741824
noncomputable def CPow (i j : Int) : Prop := 0 ≤ j ∧ j ≤ 1000000 ∧ i.natAbs < 2 ^ 64
theorem op_add : OpR X (binaryOp .Add) (rI0 fun i j => .int (i + j)) := opI0 fun _ _ _ _ _ _ _ q => add_int q
theorem op_sub : OpR X (binaryOp .Sub) (rI0 fun i j => .int (i - j)) := opI0 fun _ _ _ _ _ _ _ q => sub_int q
theorem op_fdiv : OpR X (binaryOp .FloorDiv) (rI CDiv fun i j => .int (i / j)) := opI fun i j _ _ _ _ _ hc q => by
  have h1 : (0 : Int) < j := hc.1
  have h2 : j < 1073741824 := hc.2
  exact floordiv_int (by omega) (by rw [Int.fdiv_eq_ediv_of_nonneg i (by omega)]; exact q) (.inl (PyProof.noPylong_small (by omega)))
theorem op_mod : OpR X (binaryOp .Mod) (rI (fun _ j => 0 < j) fun i j => .int (i % j)) := opI fun i j _ _ _ _ _ hc q => by
  have h1 : (0 : Int) < j := hc
  exact mod_int' (by omega) (by rw [Int.fmod_eq_emod_of_nonneg i (by omega)]; exact q)
theorem op_pow : OpR X (binaryOp .Pow) (rI CPow fun i j => .int (i ^ j.toNat)) := opI fun _ _ _ _ _ _ _ hc q => pow_int_small hc.1 hc.2.1 hc.2.2 q
theorem unI {f : Value → Sem Value} {g : Int → Int}
    (rule : ∀ (i : Int) (t : Tok) (s : Shared) (Q : Value → Shared → Prop) (E : Value → Shared → Prop), Q (.int (g i) s.toks) { s with toks := s.toks + 1 } → wpAny (model X.prog X.w) X.A (f (.int i t)) Q E s) :
    UnR X f (rU fun i => .int (g i)) := by
  intro pins s σ H x v Q I rx h
  obtain ⟨i, rfl, q⟩ := h
  obtain ⟨t, rfl⟩ := rx
  exact rule i t s _ _ ⟨.int (g i), H, I.tok _, ⟨_, rfl⟩, q⟩
theorem un_neg : UnR X (unaryOp .USub) (rU fun i => .int (-i)) := unI fun _ _ _ _ _ q => neg_int q
end
noncomputable def scal : V → V → Bool
  | .non, .non => true | .non, .int _ => true | .int _, .non => true | .non, .bl _ => true | .bl _, .non => true | .non, .str _ => true | .str _, .non => true
  | .int _, .int _ => true | .bl _, .bl _ => true | .str _, .str _ => true | .byt _, .byt _ => true
  | .int _, .str _ => true | .str _, .int _ => true | .bl _, .str _ => true | .str _, .bl _ => true
  | _, _ => false
noncomputable def rEq : R2 := fun x y H Q => scal x y = true ∧ Q (.bl (decide (x = y))) H
noncomputable def rNe : R2 := fun x y H Q => scal x y = true ∧ Q (.bl (!decide (x = y))) H

theorem dec_int {i j : Int} : decide (V.int i = V.int j) = (i == j) := by
  rw [Bool.eq_iff_iff]
  simp
theorem dec_bl {i j : Bool} : decide (V.bl i = V.bl j) = (i == j) := by
  rw [Bool.eq_iff_iff]
  simp
theorem dec_str {i j : Str} : decide (V.str i = V.str j) = (i == j) := by
  rw [Bool.eq_iff_iff]
  simp
theorem dec_byt {i j : Array UInt8} : decide (V.byt i = V.byt j) = (i.toList == j.toList) := by
  rw [Bool.eq_iff_iff]
  cases i
  cases j
  simp

section
variable {X : Cx} {a b c : Expr} {ta tb tc : TE} {pos : Pos}
theorem fin_bl {pins : List (Addr × Obj)} {σ : St} {H : Hp} {s : Shared} {Q : VK} {k k' : Bool} (I : Inv X pins σ H s) (q : Q (.bl k) H) (e : k = k') : EP X pins σ Q (.bool k') s := by
  subst e
  exact ⟨.bl k, H, I, rfl, q⟩
theorem op_eq : OpR X (compareOp .Eq) rEq := by
  intro pins s σ H x y v u Q I rx ry h
  obtain ⟨hs, q⟩ := h
  cases x with
  | non =>
    cases rx
    cases y with
    | non => cases ry; exact PySem.EqNone.eq_none_none (fin_bl I q (by simp))
    | bl j => cases ry; exact PySem.EqNone.eq_none_bool (fin_bl I q (by simp))
    | int j => obtain ⟨t', rfl⟩ := ry; exact PySem.EqNone.eq_none_int (fin_bl I q (by simp))
    | str j => obtain ⟨t', rfl⟩ := ry; exact PySem.EqNone.eq_none_str (fin_bl I q (by simp))
    | _ => exact absurd (show false = true from hs) Bool.false_ne_true
  | bl i =>
    cases rx
    cases y with
    | non => cases ry; exact PySem.EqNone.eq_bool_none (fin_bl I q (by simp))
    | bl j => cases ry; exact eq_bool (fin_bl I q dec_bl)
    | str j => obtain ⟨t', rfl⟩ := ry; exact PySem.EqMixed.eq_bool_str (fin_bl I q (by simp))
    | _ => exact absurd (show false = true from hs) Bool.false_ne_true
  | int i =>
    obtain ⟨t, rfl⟩ := rx
    cases y with
    | non => cases ry; exact PySem.EqNone.eq_int_none (fin_bl I q (by simp))
    | int j => obtain ⟨t', rfl⟩ := ry; exact eq_int (fin_bl I q dec_int)
    | str j => obtain ⟨t', rfl⟩ := ry; exact PySem.EqMixed.eq_int_str (fin_bl I q (by simp))
    | _ => exact absurd (show false = true from hs) Bool.false_ne_true
  | str i =>
    obtain ⟨t, rfl⟩ := rx
    cases y with
    | non => cases ry; exact PySem.EqNone.eq_str_none (fin_bl I q (by simp))
    | bl j => cases ry; exact PySem.EqMixed.eq_str_bool (fin_bl I q (by simp))
    | int j => obtain ⟨t', rfl⟩ := ry; exact PySem.EqMixed.eq_str_int (fin_bl I q (by simp))
    | str j => obtain ⟨t', rfl⟩ := ry; exact eq_str (fin_bl I q dec_str)
    | _ => exact absurd (show false = true from hs) Bool.false_ne_true
  | byt i =>
    obtain ⟨t, rfl⟩ := rx
    cases y with
    | byt j => obtain ⟨t', rfl⟩ := ry; exact PySem.W.eq_bytes (fin_bl I q dec_byt)
    | _ => exact absurd (show false = true from hs) Bool.false_ne_true
  | _ => cases y <;> exact absurd (show false = true from hs) Bool.false_ne_true
theorem op_ne : OpR X (compareOp .NotEq) rNe := by
  intro pins s σ H x y v u Q I rx ry h
  obtain ⟨hs, q⟩ := h
  cases x with
  | non =>
    cases rx
    cases y with
    | non => cases ry; exact PySem.EqNone.ne_none_none (fin_bl I q (by simp))
    | bl j => cases ry; exact PySem.EqNone.ne_none_bool (fin_bl I q (by simp))
    | int j => obtain ⟨t', rfl⟩ := ry; exact PySem.EqNone.ne_none_int (fin_bl I q (by simp))
    | str j => obtain ⟨t', rfl⟩ := ry; exact PySem.EqNone.ne_none_str (fin_bl I q (by simp))
    | _ => exact absurd (show false = true from hs) Bool.false_ne_true
  | bl i =>
    cases rx
    cases y with
    | non => cases ry; exact PySem.EqNone.ne_bool_none (fin_bl I q (by simp))
    | bl j => cases ry; exact ne_bool (fin_bl I q (congrArg not dec_bl))
    | str j => obtain ⟨t', rfl⟩ := ry; exact PySem.EqMixed.ne_bool_str (fin_bl I q (by simp))
    | _ => exact absurd (show false = true from hs) Bool.false_ne_true
  | int i =>
    obtain ⟨t, rfl⟩ := rx
    cases y with
    | non => cases ry; exact PySem.EqNone.ne_int_none (fin_bl I q (by simp))
    | int j => obtain ⟨t', rfl⟩ := ry; exact ne_int (fin_bl I q (congrArg not dec_int))
    | str j => obtain ⟨t', rfl⟩ := ry; exact PySem.EqMixed.ne_int_str (fin_bl I q (by simp))
    | _ => exact absurd (show false = true from hs) Bool.false_ne_true
  | str i =>
    obtain ⟨t, rfl⟩ := rx
    cases y with
    | non => cases ry; exact PySem.EqNone.ne_str_none (fin_bl I q (by simp))
    | bl j => cases ry; exact PySem.EqMixed.ne_str_bool (fin_bl I q (by simp))
    | int j => obtain ⟨t', rfl⟩ := ry; exact PySem.EqMixed.ne_str_int (fin_bl I q (by simp))
    | str j => obtain ⟨t', rfl⟩ := ry; exact ne_str (fin_bl I q (congrArg not dec_str))
    | _ => exact absurd (show false = true from hs) Bool.false_ne_true
  | byt i =>
    obtain ⟨t, rfl⟩ := rx
    cases y with
    | byt j => obtain ⟨t', rfl⟩ := ry; exact PySem.W.ne_bytes (fin_bl I q (congrArg not dec_byt))
    | _ => exact absurd (show false = true from hs) Bool.false_ne_true
  | _ => cases y <;> exact absurd (show false = true from hs) Bool.false_ne_true

theorem op_lt : OpR X (compareOp .Lt) (rI0 fun i j => .bl (decide (i < j))) := opB0 fun _ _ _ _ _ _ _ q => lt_int q
theorem op_le : OpR X (compareOp .LtE) (rI0 fun i j => .bl (decide (i ≤ j))) := opB0 fun _ _ _ _ _ _ _ q => le_int q
theorem op_gt : OpR X (compareOp .Gt) (rI0 fun i j => .bl (decide (j < i))) := opB0 fun _ _ _ _ _ _ _ q => gt_int q
theorem op_ge : OpR X (compareOp .GtE) (rI0 fun i j => .bl (decide (j ≤ i))) := opB0 fun _ _ _ _ _ _ _ q => ge_int q
theorem op_isN : OpR X (compareOp .Is) (fun x y H Q => y = .non ∧ Q (.bl (decide (x = .non))) H) := by
  intro pins s σ H x y v u Q I rx ry h
  obtain ⟨rfl, q⟩ := h
  cases ry
  refine is_none_gen (fin_bl I q ?_)
  cases x <;> first
    | (cases rx; rfl)
    | (obtain ⟨t, rfl⟩ := rx; rfl)
theorem nomark (b : Expr) {op : CmpOp} (h : op ≠ .In := by decide) (h2 : op ≠ .NotIn := by decide) : behindInMarks op b = false := by
  have e1 : (op == CmpOp.In) = false := by cases op <;> first | rfl | exact absurd rfl h
  have e2 : (op == CmpOp.NotIn) = false := by cases op <;> first | rfl | exact absurd rfl h2
  cases b <;> simp [behindInMarks, e1, e2]
theorem pe_cmpR {op : CmpOp} {r : R2} (ho : OpR X (compareOp op) r) (ha : PE X a ta) (hb : PE X b tb) (hm : behindInMarks op b = false) : PE X (.Compare a [op] [b] pos) (tOp r ta tb) := by
  intro pins s σ H Q I h
  exact wpAny_Compare1 (binT ha hb I h fun v u s2 x y H2 I2 rx ry q => ho pins s2 σ H2 x y v u Q I2 rx ry q) hm
theorem ze_cmpR {op : CmpOp} {r : R2} (ho : OpR X (compareOp op) r) (ha : ZE X a ta) (hb : ZE X b tb) (hm : behindInMarks op b = false) : ZE X (.Compare a [op] [b] pos) (tOp r ta tb) := by with_unfolding_all exact pe_cmpR ho ha hb hm
noncomputable def TruV (K : PySem.W.Frag) (x : V) (H : Hp) (k : Bool) : Prop :=
  match x with
  | .non => k = false
  | .bl b => k = b
  | .int i => k = (i != 0)
  | .str y => y.length ≤ sizeLine ∧ k = ((y.length : Int) != 0)
  | .byt y => y.size ≤ sizeLine ∧ k = ((y.size : Int) != 0)
  | .ref p => (∃ xs, SqL K H p xs ∧ k = !xs.isEmpty) ∨ (∃ xs, SqT K H p xs ∧ k = !xs.isEmpty) ∨ ∃ kvs, H p = some (.dK kvs) ∧ k = !kvs.isEmpty
  | _ => False
theorem isEmpty_kv {κ : Type} {kvs : List (κ × V)} {vs : List (κ × Value)} (r : KV kvs vs) : (!vs.isEmpty) = !kvs.isEmpty := by
  cases r <;> rfl
theorem isEmpty_of {xs : List V} {its : List Value} (r : Vals xs its) : (!its.toArray.isEmpty) = !xs.isEmpty := by
  cases r <;> simp
theorem line63 : (sizeLine : Nat) < 2 ^ 63 := by rw [sizeLine_eq]; decide
theorem tru_ok : TruR X (fun x H Q => ∃ k, TruV X.K x H k ∧ Q k H) := by
  intro pins s σ H x v Q I rx h
  obtain ⟨k, e, q⟩ := h
  have hl := line63
  have hs : sizeLine = 16777216 := sizeLine_eq
  cases x with
  | non =>
    cases rx
    have e' : k = false := e
    subst e'
    exact truthy_none ⟨H, I, q⟩
  | bl b =>
    cases rx
    have e' : k = b := e
    subst e'
    exact wpAny_truthy_bool ⟨H, I, q⟩
  | int i =>
    obtain ⟨t, rfl⟩ := rx
    have e' : k = (i != 0) := e
    subst e'
    exact PySem.P.truthy_int ⟨H, I, q⟩
  | str y =>
    obtain ⟨t, rfl⟩ := rx
    obtain ⟨hy, e'⟩ : y.length ≤ sizeLine ∧ k = ((y.length : Int) != 0) := e
    subst e'
    exact PySem.P.truthy_str (by omega) ⟨H, I.tok _, q⟩
  | byt y =>
    obtain ⟨t, rfl⟩ := rx
    obtain ⟨hy, e'⟩ : y.size ≤ sizeLine ∧ k = ((y.size : Int) != 0) := e
    subst e'
    exact PySem.W.truthy_bytes (by omega) ⟨H, I.tok _, q⟩
  | ref p =>
    cases rx
    have e' : (∃ xs, SqL X.K H p xs ∧ k = !xs.isEmpty) ∨ (∃ xs, SqT X.K H p xs ∧ k = !xs.isEmpty) ∨ ∃ kvs, H p = some (.dK kvs) ∧ k = !kvs.isEmpty := e
    rcases e' with ⟨xs, hx, e'⟩ | ⟨xs, hx, e'⟩ | ⟨kvs, hx, e'⟩
    · subst e'
      obtain ⟨its, r, pl, hz⟩ := I.list hx
      have hlen := r.length
      exact wpAny_truthy_list pl.isList (by simp only [List.size_toArray]; omega) ⟨H, I.tok _, by rw [isEmpty_of r]; exact q⟩
    · subst e'
      obtain ⟨its, r, pl, hz⟩ := I.tuple hx
      have hlen := r.length
      exact truthy_tuple pl (by simp only [List.size_toArray]; omega) ⟨H, I.tok _, by rw [isEmpty_of r]; exact q⟩
    · subst e'
      obtain ⟨hz, hS, vs, r, m⟩ : kvs.length ≤ sizeLine ∧ (p == sysModules) = false ∧ ∃ vs, KV kvs vs ∧ s.heap.DictOf (mixKind X.prog X.w) p vs := I.hok p _ hx
      have hlen : kvs.length = vs.length := Paired.length r
      exact wpAny_truthy_dict hS m (by omega) ⟨H, I.tok _, by rw [isEmpty_kv r]; exact q⟩
  | _ => exact (show False from e).elim
theorem op_add_str : OpR X (binaryOp .Add) (fun x y H Q => ∃ i j, x = .str i ∧ y = .str j ∧ i.length + j.length ≤ sizeLine ∧ Q (.str (i ++ j)) H) := by
  intro pins s σ H x y v u Q I rx ry h
  obtain ⟨i, j, rfl, rfl, hz, q⟩ := h
  obtain ⟨t, rfl⟩ := rx
  obtain ⟨t', rfl⟩ := ry
  exact add_str (fun t' tk => ⟨.str (i ++ j), H, I.tok _, ⟨_, rfl⟩, q⟩) hz
theorem vals1 {x : V} {us : List Value} (r : Vals [x] us) : ∃ u, us = [u] ∧ RelV x u := by
  cases r with
  | cons r1 r2 => cases r2; exact ⟨_, rfl, r1⟩
theorem vals2 {x y : V} {us : List Value} (r : Vals [x, y] us) : ∃ u w', us = [u, w'] ∧ RelV x u ∧ RelV y w' := by
  cases r with
  | cons r1 r2 =>
    cases r2 with
    | cons r3 r4 => cases r4; exact ⟨_, _, rfl, r1, r3⟩
theorem call_min2 (hc : X.calm = true) : CallR X (.builtin "min") (fun xs H Q => ∃ i j, xs = [.int i, .int j] ∧ Q (.int (if j < i then j else i)) H) := by
  intro pins s σ H xs us Q I r h
  obtain ⟨i, j, rfl, q⟩ := h
  obtain ⟨u, w', rfl, ⟨t, rfl⟩, ⟨t', rfl⟩⟩ := vals2 r
  refine min_two_ints (I.ok.hd hc) fun h' tk k => ⟨_, H, I.kept k, ?_, q⟩
  by_cases hj : j < i
  · rw [if_pos hj, if_pos hj]; exact ⟨_, rfl⟩
  · rw [if_neg hj, if_neg hj]; exact ⟨_, rfl⟩
theorem call_int1 : CallR X (.type "int") (fun xs H Q => (∃ i, xs = [.int i] ∧ Q (.int i) H) ∨ ∃ k, xs = [.bl k] ∧ Q (.int (if k then 1 else 0)) H) := by
  intro pins s σ H xs us Q I r h
  rcases h with ⟨i, rfl, q⟩ | ⟨k, rfl, q⟩
  · obtain ⟨u, rfl, t, rfl⟩ := vals1 r
    exact call_int_int ⟨.int i, H, I, ⟨_, rfl⟩, q⟩
  · obtain ⟨u, rfl, r1⟩ := vals1 r
    cases r1
    exact call_int_bool ⟨.int (if k then 1 else 0), H, I.tok _, ⟨_, rfl⟩, q⟩
end
end L2
namespace L2
open PySem PySem.Spec PyProof.Rows
section
variable {prog : Program} {w : World} {A : Around} {E : Value → Shared → Prop} {s : Shared} {K : PySem.W.Frag} {x dx C f : Addr} {mA : Str → Option Value} {name : Str} {v : Value}
end
section
variable {P : Program} {w : World} {H H' : Hp} {h h' : Heap} {a C dx : Addr} {fs fs' : List (Str × V)}
end
section
variable {X : Cx} {pins : List (Addr × Obj)} {σ : St} {H : Hp} {s : Shared} {a C dx : Addr} {fs : List (Str × V)} {f : Str} {v : V} {A : Around} {E : Value → Shared → Prop}
end
section
variable {X : Cx} {o e value : Expr} {f : Str} {pos pos' tpos : Pos} {ta tv : TE}
end
section
variable {X : Cx} {pins : List (Addr × Obj)} {σ : St} {H : Hp} {s : Shared} {A : Around} {E : Value → Shared → Prop} {Q : Value → Shared → Prop} {c : Value} {b : Bool}
end
end L2
namespace L2
open PySem PySem.Spec PyProof.Rows
structure Room (k : Nat) (A : Around) : Prop where
  hd : A.handled = none
  dp : A.depth + 3 * k + 5 < recursionLimit
  un : A.units + 16 * k + 200 < cLine
  gd : A.guards = some []
theorem Room.mono {j k : Nat} {A : Around} (r : Room k A) (h : j ≤ k) : Room j A := ⟨r.hd, by have := r.dp; omega, by have := r.un; omega, r.gd⟩
theorem Room.deeper {k : Nat} {A : Around} (r : Room (k + 1) A) (env : Env) : Room k (A.deeper env) :=
  ⟨r.hd, by have := r.dp; show A.depth + 1 + 3 * k + 5 < _; omega, by have := r.un; show A.units + 3 + 16 * k + 200 < _; omega, r.gd⟩
theorem Room.depth {k : Nat} {A : Around} (r : Room k A) : A.depth < recursionLimit := by have := r.dp; omega
theorem Room.units {k : Nat} {A : Around} (r : Room k A) : A.units + 64 < cLine := by have := r.un; omega
noncomputable def tNil : TA := fun _ H Q => Q [] H
noncomputable def tCons (ta : TE) (tr : TA) : TA := fun σ H Q => ta σ H fun x H1 => tr σ H1 fun xs H2 => Q (x :: xs) H2
section
variable {X : Cx} {e : Expr} {es : List Expr} {te : TE} {t : TA} {pos : Pos}
theorem pa_nil : PA X [] tNil := fun _ _ _ _ H Q I h => Calls.spliced_nil ⟨[], H, I, .nil, h⟩
theorem za_nil : ZA X [] tNil := by with_unfolding_all exact pa_nil 
theorem pa_cons (ha : PE X e te) (hr : PA X es t) (hs : starEach (e :: es) X.env = (false, eval e X.env) :: starEach es X.env := by rfl) : PA X (e :: es) (tCons te t) := by
  intro pos pins s σ H Q I h
  rw [hs]
  show wpAny _ _ (spliced ((false, eval e X.env) :: backTo pos (starEach es X.env))) _ _ s
  refine Calls.spliced_cons (thn (ha pins s σ H _ I h) fun u s1 ⟨x, H1, I1, r1, q1⟩ => ?_)
  exact thn (hr pos pins s1 σ H1 _ I1 q1) fun us s2 ⟨xs, H2, I2, r2, q2⟩ => ⟨x :: xs, H2, I2, .cons r1 r2, q2⟩
theorem za_cons (ha : ZE X e te) (hr : ZA X es t) (hs : starEach (e :: es) X.env = (false, eval e X.env) :: starEach es X.env := by rfl) : ZA X (e :: es) (tCons te t) := by with_unfolding_all exact pa_cons ha hr hs

noncomputable def tTup (t : TA) : TE := fun σ H Q => t σ H fun xs H1 => xs.length ≤ sizeLine ∧ ∀ p, H1 p = none → Q (.ref p) (upd H1 p (.tup xs))
noncomputable def tLst (t : TA) : TE := fun σ H Q => t σ H fun xs H1 => xs.length ≤ sizeLine ∧ ∀ p, H1 p = none → Q (.ref p) (upd H1 p (.lst xs))
theorem pe_tup {x1} (h : PA X es t) : PE X (.Tuple es x1 pos) (tTup t) := by
  intro pins s σ H Q I hq
  refine wpAny_Tuple_spliced (thn (h pos pins s σ H _ I hq) fun us s1 ⟨xs, H1, I1, r, z, q⟩ => ⟨by rw [← r.length]; exact z, ?_⟩)
  have hf : H1 s1.heap.objs.size = none := I1.hok.fresh (Nat.le_refl _)
  refine ⟨.ref s1.heap.objs.size, upd H1 s1.heap.objs.size (.tup xs), I1.laid (t' := s1.toks) (fun b u e => Heap.get?_push_of_some _ e) (Nat.le_refl _) ?_, rfl, q _ hf⟩
  exact ⟨z, us, r, ⟨_, Heap.get?_push_size _ rfl⟩⟩
theorem ze_tup {x1} (h : ZA X es t) : ZE X (.Tuple es x1 pos) (tTup t) := by with_unfolding_all exact pe_tup h
theorem pe_lst (h : PA X es t) : PE X (.List es pos) (tLst t) := by
  intro pins s σ H Q I hq
  refine wpAny_List_spliced (thn (h pos pins s σ H _ I hq) fun us s1 ⟨xs, H1, I1, r, z, q⟩ => ⟨by rw [← r.length]; exact z, ?_⟩)
  have hf : H1 s1.heap.objs.size = none := I1.hok.fresh (Nat.le_refl _)
  refine ⟨.ref s1.heap.objs.size, upd H1 s1.heap.objs.size (.lst xs), I1.laid (t' := s1.toks) (fun b u e => Heap.get?_push_of_some _ e) (Nat.le_refl _) ?_, rfl, q _ hf⟩
  exact ⟨z, us, 0, r, Heap.get?_push_size _ rfl⟩
theorem ze_lst (h : ZA X es t) : ZE X (.List es pos) (tLst t) := by with_unfolding_all exact pe_lst h
end
noncomputable abbrev Sp := List V → Hp → VK → XK → Prop
noncomputable abbrev CXT := List Env → Hp → Shared → XK → Value → Shared → Prop

structure Env0 (P : Program) (w : World) (K : PySem.W.Frag) (mg : Str → Option Value) (base : Heap) (A : Around) (outer : List Env) (s : Shared) (H : Hp) : Prop where
  frames : A.frames = some outer
  mod : Mod K mg base
  bs : ∀ b o, base.get? b = some o → s.heap.get? b = some o ∧ H b = none
  bsz : base.objs.size ≤ s.heap.objs.size
  funs : s.heap.FunFrames base outer
  frf : ∀ b ∈ frs outer, H b = none
  hok : HOk P w H s.heap
  bare : AllBare s.gens
noncomputable def CE (outer : List Env) (P : Program) (w : World) (H : Hp) (s : Shared) (Q : VK) (u : Value) (s' : Shared) : Prop :=
  ∃ v H', s'.os = s.os ∧ AllBare s'.gens ∧ Un (frs outer) [] H H' s.heap s'.heap ∧ HOk P w H' s'.heap ∧ RelV v u ∧ Q v H'
noncomputable def CR (CX : CXT) (outer : List Env) (P : Program) (w : World) (H : Hp) (s : Shared) (Q : VK) (E : XK) (r : Result) (s' : Shared) : Prop :=
  match r with
  | .ok (.ret u) => CE outer P w H s Q u s'
  | .ok _ => False
  | .error e => CX outer H s E e s'
structure FnOk (P : Program) (w : World) (K : PySem.W.Frag) (mg : Str → Option Value) (base : Heap) (CX : CXT) (k : Nat) (f : Addr) (fd : FuncData) (ps : List Str) (sp : Sp) : Prop where
  len : ∀ vs H Q E, sp vs H Q E → vs.length = ps.length
  run : ∀ (A : Around) (outer : List Env) (s : Shared) (H : Hp) (args : Args) (us : List Value) (vs : List V) (Q : VK) (E : XK), Room k A → Env0 P w K mg base A outer s H → BindsTo s fd args (ps.zip us) → Vals vs us → sp vs H Q E →
    codeAny (model P w) A (.call (.ref f) args) (CR CX outer P w H s Q E) s
theorem FnOk.mono {P : Program} {w : World} {K : PySem.W.Frag} {mg : Str → Option Value} {base : Heap} {CX : CXT} {j k : Nat} {f : Addr} {fd : FuncData} {ps : List Str} {sp : Sp} (F : FnOk P w K mg base CX j f fd ps sp) (h : j ≤ k) :
    FnOk P w K mg base CX k f fd ps sp := ⟨F.len, fun A outer s H args us vs Q E hr => F.run A outer s H args us vs Q E (hr.mono h)⟩
section
variable {X : Cx} {pins : List (Addr × Obj)} {σ : St} {H : Hp} {s s' : Shared}
theorem Inv.env0 (I : Inv X pins σ H s) : Env0 X.prog X.w X.K X.mg X.base X.A X.stack s H :=
  ⟨I.ok.frames, I.ok.mod, I.bs, Nat.le_trans I.ok.bsz I.sz, I.stack, I.stkFree, I.hok, I.bare⟩
theorem Inv.after {Q : VK} {u : Value} (I : Inv X pins σ H s) (h : CE X.stack X.prog X.w H s Q u s') : EP X pins σ Q u s' := by
  obtain ⟨v, H', os, bare, un, hok, r, q⟩ := h
  obtain ⟨hh, g, d, t, os'⟩ := s'
  obtain rfl : os' = s.os := os
  exact ⟨v, H', I.call (h' := hh) (g' := g) (d' := d) (t' := t) (ch := []) un hok bare (fun b z => absurd z (by simp)), r, q⟩
end
noncomputable def tCall (sp : Sp) (dvs : List V) (E : XK) (t : TA) : TE := fun σ H Q => t σ H fun vs H1 => sp (vs ++ dvs) H1 Q E
noncomputable def Binds (K : PySem.W.Frag) (fd : FuncData) (ps : List Str) (ds : List Value) : Prop :=
  ∀ (s : Shared) (us : List Value), K.In s.heap → (us ++ ds).length = ps.length → BindsTo s fd ⟨us, []⟩ (ps.zip (us ++ ds))
theorem Binds.all {K : PySem.W.Frag} {fd : FuncData} {ps : List Str} (h : ∀ us : List Value, us.length = ps.length → bindArgs fd ⟨us, []⟩ = pure (ps.zip us)) : Binds K fd ps [] := fun s us _ hl => by
  rw [List.append_nil] at hl ⊢
  exact .of_eq (h us hl)

noncomputable def Passes (CX : CXT) (X : Cx) (E : XK) : Prop := ∀ (pins : List (Addr × Obj)) (σ : St) (H : Hp) (s : Shared) (e : Value) (s' : Shared), Inv X pins σ H s → CX X.stack H s E e s' → X.xe e s'

section
variable {X : Cx} {CX : CXT} {k : Nat} {f C : Addr} {fd : FuncData} {ps : List Str} {sp : Sp} {dvs : List V} {ds : List Value} {E : XK} {x m : Str} {p pos apos : Pos} {e o : Expr} {es : List Expr} {ta : TE} {t : TA}
theorem run_fn {pins : List (Addr × Obj)} {σ : St} {H : Hp} {s : Shared} {Q : VK} {us : List Value} {vs : List V} (F : FnOk X.prog X.w X.K X.mg X.base CX k f fd ps sp) (hr : Room k X.A) (hb : Binds X.K fd ps ds) (hd : Vals dvs ds) (hx : Passes CX X E)
    (I : Inv X pins σ H s) (r : Vals vs us) (h : sp (vs ++ dvs) H Q E) : wpAny (model X.prog X.w) X.A (call (.ref f) us) (EP X pins σ Q) X.xe s := by
  have r2 : Vals (vs ++ dvs) (us ++ ds) := r.append hd
  have hl : (us ++ ds).length = ps.length := by rw [← r2.length]; exact F.len _ _ _ _ h
  refine wpAny_call (codeAny_mono (F.run X.A X.stack s H ⟨us, []⟩ (us ++ ds) (vs ++ dvs) Q E hr I.env0 (hb s us I.kIn hl) r2 h) fun r s' hq => ?_)
  cases r with
  | error e => exact hx pins σ H s e s' I hq
  | ok fl =>
    cases fl with
    | ret u => exact I.after hq
    | next => exact False.elim hq
    | brk => exact False.elim hq
    | cont => exact False.elim hq

theorem pe_call (F : FnOk X.prog X.w X.K X.mg X.base CX k f fd ps sp) (hr : Room k X.A) (hg : Gl X x) (hm : X.mg x = some (.ref f)) (hk : PySem.W.keepIn X.K (.ref f) = true) (hb : Binds X.K fd ps ds) (hd : Vals dvs ds) (hx : Passes CX X E)
    (ha : PA X (e :: es) t) (hdb : (x == ("__debug__" : Str)) = false := by decide) (he : starEach (e :: es) X.env = (false, eval e X.env) :: starEach es X.env := by rfl) (hpl : (backTo pos (starEach es X.env)).any (·.1) = false := by rfl) :
    PE X (.Call (.Name x p) (e :: es) [] pos) (tCall sp dvs E t) := by
  intro pins s σ H Q I h
  refine wpAny_Call_Name_kw (ld_glob I hg hm ?_ hdb)
  refine PySem.W.callWith_K (h₀ := X.base) I.ok.mod.kin hk (thn (ha pos pins s σ H _ I h) fun us s1 ⟨vs, H1, I1, r, q⟩ => ⟨I1.kIn, ?_⟩) he hpl
  exact run_fn F hr hb hd hx I1 r q
end
section
variable {X : Cx} {CX : CXT} {k : Nat} {f C : Addr} {fd : FuncData} {ps ks : List Str} {sp : Sp} {E : XK} {x m : Str} {p pos apos kpos : Pos} {e o : Expr} {es : List Expr} {kws : List Keyword} {te ta : TE} {t tk : TA} {nm : Option Str}
variable {g : List Value → List Value → List Value} {gV : List V → List V → List V}
end
structure FnScope (N P : List Str) (sc : Scope) : Prop where
  kind : sc.kind = .function
  co : sc.isCoroutine = false
  gen : sc.isGenerator = false
  nd : N.Nodup
  pre : N.take P.length = P
  par : ∀ x ∈ P, sc.names.lookup x = some .local ∨ sc.names.lookup x = some .cell
  nofree : ∀ y ∈ sc.names, y.2 ≠ .free

theorem bindL_out {kindOf : Str → Option NameKind} {x : Str} : ∀ {binds : List (Str × Value)} {m : Str → Option Value}, (∀ v, (x, v) ∉ binds) → bindL kindOf binds m x = m x
  | [], _, _ => rfl
  | (n, v) :: r, m, h => by
    unfold bindL
    rw [bindL_out fun w hw => h w (List.mem_cons_of_mem _ hw)]
    split
    · have : x ≠ n := by rintro rfl; exact h v List.mem_cons_self
      simp [this]
    · rfl
theorem bindC_out {kindOf : Str → Option NameKind} {x : Str} : ∀ {binds : List (Str × Value)} {m : Str → Option Value}, (∀ v, (x, v) ∉ binds) → bindC kindOf binds m x = m x
  | [], _, _ => rfl
  | (n, v) :: r, m, h => by
    unfold bindC
    rw [bindC_out fun w hw => h w (List.mem_cons_of_mem _ hw)]
    split
    · rfl
    · have : x ≠ n := by rintro rfl; exact h v List.mem_cons_self
      simp [this]
theorem bindL_get {kindOf : Str → Option NameKind} {x : Str} {v : Value} : ∀ {P : List Str} {vs : List Value} {i : Nat} {m : Str → Option Value}, P.Nodup → P[i]? = some x → vs[i]? = some v → kindOf x = some .local →
    bindL kindOf (P.zip vs) m x = some v
  | [], _, _, _, _, h, _, _ => by simp at h
  | _ :: _, [], _, _, _, _, h, _ => by simp at h
  | p :: P, w :: vs, 0, m, nd, h1, h2, hk => by
    simp at h1 h2; subst h1; subst h2
    show bindL kindOf ((p, w) :: P.zip vs) m p = _
    unfold bindL
    rw [bindL_out fun v hv => (List.nodup_cons.mp nd).1 (List.of_mem_zip hv).1, if_pos hk]
    simp
  | p :: P, w :: vs, i + 1, m, nd, h1, h2, hk => by
    show bindL kindOf ((p, w) :: P.zip vs) m x = _
    unfold bindL
    exact bindL_get (i := i) (List.nodup_cons.mp nd).2 (by simpa using h1) (by simpa using h2) hk
theorem bindC_get {kindOf : Str → Option NameKind} {x : Str} {v : Value} : ∀ {P : List Str} {vs : List Value} {i : Nat} {m : Str → Option Value}, P.Nodup → P[i]? = some x → vs[i]? = some v → kindOf x ≠ some .local →
    bindC kindOf (P.zip vs) m x = some v
  | [], _, _, _, _, h, _, _ => by simp at h
  | _ :: _, [], _, _, _, _, h, _ => by simp at h
  | p :: P, w :: vs, 0, m, nd, h1, h2, hk => by
    simp at h1 h2; subst h1; subst h2
    show bindC kindOf ((p, w) :: P.zip vs) m p = _
    unfold bindC
    rw [bindC_out fun v hv => (List.nodup_cons.mp nd).1 (List.of_mem_zip hv).1, if_neg hk]
    simp
  | p :: P, w :: vs, i + 1, m, nd, h1, h2, hk => by
    show bindC kindOf ((p, w) :: P.zip vs) m x = _
    unfold bindC
    exact bindC_get (i := i) (List.nodup_cons.mp nd).2 (by simpa using h1) (by simpa using h2) hk

noncomputable def start (N : List Str) (vs : List V) : St := vs.map some ++ List.replicate (N.length - vs.length) none

noncomputable def cxOf (CX : CXT) (P : Program) (w : World) (K : PySem.W.Frag) (mg : Str → Option Value) (base : Heap) (N : List Str) (qual : Str) (scope : Scope) (f : Addr) (cd : Value) (A : Around) (outer : List Env) (s : Shared) (H : Hp) (E : XK) : Cx where
  prog := P
  w := w
  K := K
  mg := mg
  base := base
  A := A.deeper (envOfC qual scope s.heap.objs.size f cd)
  N := N
  s₀ := s
  H₀ := H
  env := envOfC qual scope s.heap.objs.size f cd
  outer := outer
  stack := envOfC qual scope s.heap.objs.size f cd :: outer
  ex := []
  calm := true
  fn := fun _ => true
  pn := []
  xe := fun e s' => wpAny (model P w) (A.deeper (envOfC qual scope s.heap.objs.size f cd)) (leaving (envOfC qual scope s.heap.objs.size f cd) e) (fun _ s'' => CX outer H s E e s'') (fun e' s'' => CX outer H s E e' s'') s'

theorem cell_has {sc : Scope} {n : Nat} {x : Str} (h : sc.names.lookup x = some .cell) : ∃ c, (cellsFrom n sc.names []).lookup x = some c := by
  have q := PySem.W.cellsFrom_some sc.names n [] (.inl h)
  exact Option.isSome_iff_exists.mp q

theorem inv_start {CX : CXT} {P : Program} {w : World} {K : PySem.W.Frag} {mg : Str → Option Value} {base : Heap} {N ps : List Str} {qual : Str} {scope : Scope} {f : Addr} {cd : Value} {A : Around} {outer : List Env} {s s1 : Shared} {H : Hp} {E : XK} {us : List Value} {vs : List V}
    (S : FnScope N ps scope) (hd : A.handled = none) (e0 : Env0 P w K mg base A outer s H) (hl : vs.length = ps.length) (r : Vals vs us)
    (x : InCallC s s.heap.objs.size (bindL (envOfC qual scope s.heap.objs.size f cd).kindOf (ps.zip us) fun _ => none) (cellsFrom (s.heap.objs.size + 1) scope.names []) (bindC (envOfC qual scope s.heap.objs.size f cd).kindOf (ps.zip us) fun _ => none) s1) :
    Inv (cxOf CX P w K mg base N qual scope f cd A outer s H E) [] (start N vs) H s1 := by
  have hpl : ps.length ≤ N.length := by have := congrArg List.length S.pre; rw [List.length_take] at this; omega
  obtain ⟨h1, tk, rfl, hk⟩ := x.done
  have noA : ∀ b : Addr, b ∉ (cxOf CX P w K mg base N qual scope f cd A outer s H E).ex := fun b z => absurd (show b ∈ ([] : List Addr) from z) (by simp)
  refine ⟨⟨e0.mod, S.kind, rfl, rfl, Nat.le_refl _, fun y z c h1 h2 => ?_, fun y hy => ?_, fun y c _ h => ?_, fun _ => hd, Around.frames_deeper e0.frames, .inr ⟨rfl, rfl⟩, fun b z => absurd z (noA b), e0.bs, e0.bsz, fun b _ _ => noA b, fun b z => absurd z (noA b), e0.funs, e0.frf⟩,
    rfl, e0.bare, Un.kept hk, ⟨_, x.toInCall.ns, fun i y v h1 h2 h3 => ?_⟩, fun y c h => ⟨_, x.cell y c h⟩, e0.hok.fresh (Nat.le_refl _), fun y c h => ?_, fun p hp => absurd (show p ∈ ([] : List (Addr × Obj)) from hp) (by simp), e0.hok.kept hk, ?_⟩
  · exact name_of_addr x.apart (PySem.mem_of_lookup h1) (PySem.mem_of_lookup h2)
  · have hy : scope.names.lookup y = some .cell ∨ scope.names.lookup y = some .free := hy
    rcases hy with hy | hy
    · exact cell_has hy
    · exact absurd rfl (S.nofree _ (PySem.mem_of_lookup hy))
  · exact Nat.le_of_lt (x.above y c (PySem.mem_of_lookup h))
  · have hi : i < vs.length := by
      unfold start at h2
      by_cases hi : i < vs.length
      · exact hi
      · rw [List.getElem?_append_right (by simpa using hi)] at h2
        rw [List.getElem?_replicate] at h2
        split at h2 <;> cases h2
    have ha : vs[i]? = some v := by
      unfold start at h2
      rw [List.getElem?_append_left (by simpa using hi), List.getElem?_map] at h2
      cases e : vs[i]? with
      | none => rw [e] at h2; cases h2
      | some a => rw [e] at h2; cases h2; rfl
    obtain ⟨u, hu, rv⟩ := r.get ha
    have hp : ps[i]? = some y := by
      rw [← S.pre, List.getElem?_take_of_lt (by omega)]; exact h1
    have ndP : ps.Nodup := by rw [← S.pre]; exact S.nd.sublist (List.take_sublist _ _)
    refine ⟨u, rv, ?_⟩
    rcases S.par y (List.mem_of_getElem? hp) with k | k
    · exact .inl ⟨k, bindL_get ndP hp hu k⟩
    · obtain ⟨c, e⟩ := cell_has (n := s.heap.objs.size + 1) k
      refine .inr ⟨.inl k, c, e, ?_⟩
      have q := x.cell y c e
      rw [bindC_get ndP hp hu (by show scope.names.lookup y ≠ _; rw [k]; decide)] at q
      exact q
  · exact e0.hok.fresh (Nat.le_of_lt (x.above y c (PySem.mem_of_lookup h)))
  · unfold start
    show _ = N.length
    rw [List.length_append, List.length_map, List.length_replicate]
    omega

theorem fn_of {CX : CXT} {P : Program} {w : World} {K : PySem.W.Frag} {mg : Str → Option Value} {base : Heap} {k : Nat} {f : Addr} {name qual : Str} {params : Arguments} {body : List Stmt} {scope : Scope} {dV kV doc pm cdv ct oc : Value} {an od : Option Addr}
    {osl : Array (Option Value)} {N ps : List Str} {sp : Sp} (lk : K.lookup f = some ⟨oc, od, .func (PySem.W.fnOf name qual params body scope dV kV doc pm an cdv ct), osl⟩) (hcd : PySem.W.codeIn K cdv qual = true) (S : FnScope N ps scope)
    (len : ∀ vs H Q E, sp vs H Q E → vs.length = ps.length)
    (hbody : ∀ (A : Around) (outer : List Env) (s : Shared) (H : Hp) (vs : List V) (Q : VK) (E : XK), Room k (A.deeper (envOfC qual scope s.heap.objs.size f cdv)) → sp vs H Q E →
      ∃ t, PSs (cxOf CX P w K mg base N qual scope f cdv A outer s H E) body t ∧ t { nx := fun _ H' => Q .non H', rt := Q } (start N vs) H) :
    FnOk P w K mg base CX (k + 1) f (PySem.W.fnOf name qual params body scope dV kV doc pm an cdv ct) ps sp := by
  refine ⟨len, fun A outer s H args us vs Q E hr e0 hb r hsp => ?_⟩
  have hl := len _ _ _ _ hsp
  have KX : K.In s.heap := e0.mod.kin.keeps fun b o e => (e0.bs b o e).1
  have lim : s.heap.NoLimit := e0.mod.nolimit.keeps fun b o e => (e0.bs b o e).1
  have hkind : ∀ y ∈ ps.zip us, scope.names.lookup y.1 = some .local ∨ (scope.names.lookup y.1 = some .cell ∧ ((cellsFrom (s.heap.objs.size + 1) scope.names []).lookup y.1).isSome = true) := fun ⟨n, v⟩ hy => by
    rcases S.par n (List.of_mem_zip hy).1 with q | q
    · exact .inl q
    · exact .inr ⟨q, PySem.W.cellsFrom_some _ _ _ (.inl q)⟩
  refine codeAny_call_function hr.depth (KX _ _ lk) rfl S.co S.gen rfl (PySem.W.codeRec_of KX hcd) (hb _ _ _ _ ?_)
  refine wpAny_newFunctionEnv_cells S.kind hkind fun env he s1 x => ?_
  subst he
  refine ⟨lim.keeps x.toInCall.keep, codeAny_func ?_⟩
  obtain ⟨t, ht, hq⟩ := hbody A outer s H vs Q E (hr.deeper _) hsp
  have I : Inv (cxOf CX P w K mg base N qual scope f cdv A outer s H E) [] (start N vs) H s1 := inv_start S hr.hd e0 hl r x
  refine wpAny_mono (ht [] s1 (start N vs) H _ I hq) (fun fl s' hs => ?_) fun e s' hs => hs
  have fin : ∀ {σ' : St} {H' : Hp} {v : V} {u : Value}, Inv (cxOf CX P w K mg base N qual scope f cdv A outer s H E) [] σ' H' s' → RelV v u → Q v H' → CE outer P w H s Q u s' :=
    fun {σ' H' v u} J rv q => ⟨v, H', J.os, J.bare, J.base, J.hok, rv, q⟩
  cases fl with
  | ret u =>
    obtain ⟨v, σ', H', J, rv, q⟩ := hs
    exact fin J rv q
  | next =>
    obtain ⟨σ', H', J, q⟩ := hs
    exact fin (v := V.non) (u := Value.none) J rfl q
  | brk =>
    obtain ⟨_, _, _, q⟩ := hs
    exact False.elim q
  | cont =>
    obtain ⟨_, _, _, q⟩ := hs
    exact False.elim q
end L2
namespace L2
open PySem PySem.Spec PyProof.Rows
section
variable {X : Cx} {x : Str} {p pos : Pos} {e : Expr} {es : List Expr} {t : TA} {id T : String} {r : List V → Hp → VK → Prop}
noncomputable def tCB (r : List V → Hp → VK → Prop) (t : TA) : TE := fun σ H Q => t σ H fun vs H1 => r vs H1 Q
theorem pe_callB (hc : CallR X (.builtin id) r) (hg : Gl X x) (hm : X.mg x = none) (hv : bootBuiltins x = some (.builtin id)) (ha : PA X (e :: es) t) (hn : x ≠ "__name__" := by decide) (hdb : (x == ("__debug__" : Str)) = false := by decide)
    (he : starEach (e :: es) X.env = (false, eval e X.env) :: starEach es X.env := by rfl) (hpl : (backTo pos (starEach es X.env)).any (·.1) = false := by rfl) : PE X (.Call (.Name x p) (e :: es) [] pos) (tCB r t) := by
  intro pins s σ H Q I h
  refine wpAny_Call_Name_kw (ld_blt I hg hm hv ?_ hn hdb)
  exact PyProof.Rows.callWith_builtin1 (thn (ha pos pins s σ H _ I h) fun us s1 ⟨vs, H1, I1, r1, q1⟩ => hc pins s1 σ H1 vs us Q I1 r1 q1) he hpl
theorem pe_callTy (hc : CallR X (.type T) r) (hg : Gl X x) (hm : X.mg x = none) (hv : bootBuiltins x = some (.type T)) (ha : PA X (e :: es) t) (hn : x ≠ "__name__" := by decide) (hdb : (x == ("__debug__" : Str)) = false := by decide)
    (he : starEach (e :: es) X.env = (false, eval e X.env) :: starEach es X.env := by rfl) (hpl : (backTo pos (starEach es X.env)).any (·.1) = false := by rfl) : PE X (.Call (.Name x p) (e :: es) [] pos) (tCB r t) := by
  intro pins s σ H Q I h
  refine wpAny_Call_Name_kw (ld_blt I hg hm hv ?_ hn hdb)
  exact PyProof.Rows.callWith_type1 (thn (ha pos pins s σ H _ I h) fun us s1 ⟨vs, H1, I1, r1, q1⟩ => hc pins s1 σ H1 vs us Q I1 r1 q1) he hpl
end
end L2
namespace HT
open PySem PyProof.Rows
section
open PySem.SeqAt
open PySem.AutoSeq1 (wpAny_loadPart')
open PySem.MeetsSeq PySem.MeetsSeq2 PySem.MeetsSeq3
end
section
variable {prog : Program} {w : World} {A : Around} {E : Value → Shared → Prop} {s : Shared}
theorem cat_tup {t b : Addr} {vs ws : List Value} {Q : Value → Shared → Prop} (ht : IsTup s.heap t vs.toArray) (hb : IsTup s.heap b ws.toArray) (hv : vs ≠ [])
    (h1 : ws = [] → Q (.ref t) s) (h2 : ws ≠ [] → Q (.ref s.heap.objs.size) { s with heap := s.heap.push { cls := .type "tuple", data := .seq (vs ++ ws).toArray } })
    (hsz : vs.length + ws.length ≤ sizeLine) : wpAny (model prog w) A (binaryOp .Add (.ref t) (.ref b)) Q E s := by
  obtain ⟨⟨cls, dd, data, sl⟩, ho, hc, n, hd⟩ := id ht
  obtain ⟨⟨cls2, dd2, data2, sl2⟩, ho2, hc2, n2, hd2⟩ := id hb
  simp only at hc hd hc2 hd2
  subst hc hd hc2 hd2
  have e : vs.toArray ++ ws.toArray = (vs ++ ws).toArray := by simp
  by_cases hw : ws = []
  · exact concat_meets ⟨_, ho, rfl⟩ ⟨_, ho2, rfl⟩ noFill_tuple_add seq_tuple_add PySem.F.slot_tuple_add PySem.F.entry_tuple_add (PySem.F.args_tuple_add_2 _ _)
      (tuple_addW1 t b vs.toArray ws.toArray n n2 dd dd2 sl sl2 (by simpa using hv) (by simp [hw])) ⟨ho, ho2, h1 hw⟩
  · refine concat_meets ⟨_, ho, rfl⟩ ⟨_, ho2, rfl⟩ noFill_tuple_add seq_tuple_add PySem.F.slot_tuple_add PySem.F.entry_tuple_add (PySem.F.args_tuple_add_2 _ _)
      (tuple_addW2 t b vs.toArray ws.toArray n n2 dd dd2 sl sl2 (by simpa using hv) (by simpa using hw) (by rw [List.size_toArray, List.size_toArray]; exact hsz)) ⟨ho, ho2, ?_⟩
    rw [e]
    exact h2 hw

end
end HT
namespace L2
open PySem PySem.Spec PyProof.Rows
theorem intsAre_of {ns : List Int} : ∀ {us : List Value}, Vals (ns.map V.int) us → IntsAre us ns := by
  induction ns with
  | nil => intro us r; rw [List.map_nil] at r; cases r; exact .nil
  | cons n ns ih =>
    intro us r
    rw [List.map_cons] at r
    cases r with
    | cons r1 r2 =>
      obtain ⟨t, e⟩ := r1
      subst e
      exact .cons n t (ih r2)

section
variable {X : Cx} {e : Expr} {te : TE} {lo hi : Option Expr} {tl th : TO} {pos p2 : Pos}
noncomputable def rCatT (K : PySem.W.Frag) : R2 := fun x y H Q => ∃ a b xs ys, x = .ref a ∧ y = .ref b ∧ SqT K H a xs ∧ SqT K H b ys ∧ xs ≠ [] ∧ xs.length + ys.length ≤ sizeLine ∧
  (ys = [] → Q (.ref a) H) ∧ (ys ≠ [] → ∀ p, H p = none → Q (.ref p) (upd H p (.tup (xs ++ ys))))
theorem Vals.nil_iff {xs : List V} {us : List Value} (r : Vals xs us) : us = [] ↔ xs = [] := by
  cases r with
  | nil => simp
  | cons _ _ => simp
theorem op_catT : OpR X (binaryOp .Add) (rCatT X.K) := by
  intro pins s σ H x y v u Q I rx ry h
  obtain ⟨a, b, xs, ys, rfl, rfl, ha, hb, hx, hz, q1, q2⟩ := h
  cases rx
  cases ry
  obtain ⟨its, r1, p1, _⟩ := I.tuple ha
  obtain ⟨its2, r2, p2, _⟩ := I.tuple hb
  refine HT.cat_tup p1 p2 (fun z => hx (r1.nil_iff.mp z)) (fun z => ⟨.ref a, H, I, rfl, q1 (r2.nil_iff.mp z)⟩) (fun z => ?_) (by rw [← r1.length, ← r2.length]; exact hz)
  refine ⟨.ref s.heap.objs.size, _, I.laid (t' := s.toks) (o := .tup (xs ++ ys)) (fun b ob q => Heap.get?_push_of_some _ q) (Nat.le_refl _) ?_, rfl, q2 (fun w => z (r2.nil_iff.mpr w)) _ (I.hok.fresh (Nat.le_refl _))⟩
  exact ⟨by rw [List.length_append]; exact hz, _, r1.append r2, TupD.new _ _⟩
end
end L2
namespace L2
open PySem PySem.Spec PyProof.Rows
noncomputable def ixN (n : Nat) (i : Int) : Option Nat := if 0 ≤ i then (if i < n then some i.toNat else none) else if -(n : Int) ≤ i then some (i + n).toNat else none
noncomputable def atI {α : Type} (xs : List α) (i : Int) : Option α := (ixN xs.length i).bind fun j => xs[j]?
theorem ixN_seq {n : Nat} {i : Int} {j : Nat} (h : ixN n i = some j) : seqIndex? i n = some j ∧ j < n ∧ -(n : Int) ≤ i ∧ i < n := by
  unfold ixN at h
  by_cases h0 : 0 ≤ i
  · rw [if_pos h0] at h
    by_cases h1 : i < n
    · rw [if_pos h1] at h
      have e : i.toNat = j := Option.some.inj h
      exact ⟨by rw [seqIndex_of h0 h1, e], by omega, by omega, h1⟩
    · rw [if_neg h1] at h; cases h
  · rw [if_neg h0] at h
    by_cases h1 : -(n : Int) ≤ i
    · rw [if_pos h1] at h
      have e : (i + n).toNat = j := Option.some.inj h
      exact ⟨by rw [seqIndex_neg (by omega) h1, e], by omega, h1, by omega⟩
    · rw [if_neg h1] at h; cases h
theorem atI_get {α : Type} {xs : List α} {i : Int} {v : α} (h : atI xs i = some v) : ∃ j, seqIndex? i xs.length = some j ∧ xs[j]? = some v ∧ j < xs.length ∧ -(xs.length : Int) ≤ i ∧ i < xs.length := by
  unfold atI at h
  cases e : ixN xs.length i with
  | none => rw [e] at h; cases h
  | some j =>
    rw [e] at h
    obtain ⟨h1, h2, h3, h4⟩ := ixN_seq e
    exact ⟨j, h1, h, h2, h3, h4⟩
theorem atI_nat {α : Type} {xs : List α} {j : Nat} {v : α} (h : xs[j]? = some v) : atI xs (j : Int) = some v := by
  have hj : j < xs.length := (List.getElem?_eq_some_iff.mp h).1
  have e : ixN xs.length (j : Int) = some j := by
    unfold ixN
    rw [if_pos (by omega), if_pos (by omega)]; simp
  unfold atI; rw [e]; exact h
theorem atI_last {α : Type} (xs : List α) (v : α) : atI (xs ++ [v]) (-1) = some v := by
  have hl : (xs ++ [v]).length = xs.length + 1 := by simp
  have e : ixN (xs ++ [v]).length (-1) = some xs.length := by
    unfold ixN
    rw [hl, if_neg (by decide), if_pos (by omega)]
    congr 1
    omega
  unfold atI
  rw [e]
  show (xs ++ [v])[xs.length]? = some v
  simp

noncomputable def PlainIx (b : Expr) : Prop := ∀ o i, subscripted b false o i = operate [o, i] (getItem o i)
noncomputable def IxR (X : Cx) (r : R2) : Prop :=
  ∀ (value slice : Expr) (pins : List (Addr × Obj)) (s : Shared) (σ : St) (H : Hp) (x y : V) (v u : Value) (Q : VK), Inv X pins σ H s → RelV x v → RelV y u → r x y H Q →
    subscripted slice false v u = operate [v, u] (getItem v u) → wpAny (model X.prog X.w) X.A (subscriptTail value slice v u) (EP X pins σ Q) X.xe s
noncomputable def MtR (X : Cx) (id : String) (r : V → List V → Hp → VK → Prop) : Prop :=
  ∀ (pins : List (Addr × Obj)) (s : Shared) (σ : St) (H : Hp) (x : V) (xs : List V) (v : Value) (us : List Value) (Q : VK), Inv X pins σ H s → RelV x v → Vals xs us → r x xs H Q →
    wpAny (model X.prog X.w) X.A (call (.builtin id) (v :: us)) (EP X pins σ Q) X.xe s
section
variable {X : Cx} {a b : Expr} {ta tb : TE} {pos : Pos}
theorem pe_ix {r : R2} (hr : IxR X r) (ha : PE X a ta) (hb : PE X b tb) (hs : PlainIx b) : PE X (.Subscript a b pos) (tOp r ta tb) := by
  intro pins s σ H Q I h
  exact Subscript_ (binT ha hb I h fun v u s2 x y H2 I2 rx ry q => hr a b pins s2 σ H2 x y v u Q I2 rx ry q (hs _ _))
theorem ze_ix {r : R2} (hr : IxR X r) (ha : ZE X a ta) (hb : ZE X b tb) (hs : PlainIx b) : ZE X (.Subscript a b pos) (tOp r ta tb) := by with_unfolding_all exact pe_ix hr ha hb hs

noncomputable def rIxL (K : PySem.W.Frag) : R2 := fun x y H Q => ∃ p xs i v, x = .ref p ∧ y = .int i ∧ SqL K H p xs ∧ atI xs i = some v ∧ Q v H
noncomputable def rIxT (K : PySem.W.Frag) : R2 := fun x y H Q => ∃ p xs i v, x = .ref p ∧ y = .int i ∧ SqT K H p xs ∧ atI xs i = some v ∧ Q v H
theorem ix_list : IxR X (rIxL X.K) := by
  intro value slice pins s σ H x y v u Q I rx ry h hs
  obtain ⟨p, xs, i, z, rfl, rfl, hq, he, q⟩ := h
  cases rx
  obtain ⟨t, rfl⟩ := ry
  obtain ⟨its, r, pl, hz⟩ := I.list hq
  obtain ⟨j, h1, h2, h3, h4, h5⟩ := atI_get he
  obtain ⟨w, ew, rw'⟩ := r.get h2
  have hl := r.length
  have hn := line63
  have fin : EP X pins σ Q w s := ⟨z, H, I, rw', q⟩
  by_cases h0 : 0 ≤ i
  · have hj : i.toNat = j := by
      rw [seqIndex_of h0 h5] at h1
      exact Option.some.inj h1
    exact item_listR pl.isList h0 (by omega) (by rw [hj]; simpa using ew) fin hs
  · have hj : (i + (its.toArray.size : Int)).toNat = j := by
      rw [seqIndex_neg (by omega) h4] at h1
      rw [List.size_toArray, ← hl]
      exact Option.some.inj h1
    exact subscriptTail_builtinR (x := w) pl.isList.typeIs slot_list_getitem.lookup
      (wpAny_getItem_list_neg (Q := fun r s' => r = w ∧ EP X pins σ Q r s') pl.isList (by omega) (by rw [List.size_toArray] <;> omega) (by omega) (by rw [hj]; simpa using ew) ⟨rfl, fin⟩) hs
theorem ix_tup : IxR X (rIxT X.K) := by
  intro value slice pins s σ H x y v u Q I rx ry h hs
  obtain ⟨p, xs, i, z, rfl, rfl, hq, he, q⟩ := h
  cases rx
  obtain ⟨t, rfl⟩ := ry
  obtain ⟨its, r, pl, hz⟩ := I.tuple hq
  obtain ⟨j, h1, h2, h3, h4, h5⟩ := atI_get he
  obtain ⟨w, ew, rw'⟩ := r.get h2
  have hl := r.length
  have hn := line63
  have fin : EP X pins σ Q w s := ⟨z, H, I, rw', q⟩
  exact subscriptTail_builtinR (x := w) pl.typeIs slot_tuple_getitem.lookup
    (getItem_tuple (j := j) (Q := fun r s' => r = w ∧ EP X pins σ Q r s') pl (by omega) (by omega) (by rw [List.size_toArray, ← hl]; exact h1) (by simpa using ew) ⟨rfl, fin⟩) hs
theorem mapSeq_set (its : List Value) (n j : Nat) (u : Value) : Obj.mapSeq (·.setIfInBounds j u) { cls := .type "list", data := .seq its.toArray n } = { cls := .type "list", data := .seq (its.set j u).toArray n } := by
  simp [Obj.mapSeq]
theorem Inv.lst {pins : List (Addr × Obj)} {σ : St} {H : Hp} {s : Shared} {p : Addr} {xs : List V} (I : Inv X pins σ H s) (h : H p = some (.lst xs)) :
    ∃ (its : List Value) (n : Nat), Vals xs its ∧ s.heap.get? p = some { cls := .type "list", data := .seq its.toArray n } ∧ xs.length ≤ sizeLine := by
  obtain ⟨z, its, n, r, e⟩ := I.hok p _ h
  exact ⟨its, n, r, e, z⟩
theorem Inv.lstUpd {pins : List (Addr × Obj)} {σ : St} {H : Hp} {s : Shared} {p : Addr} {xs ys : List V} {its its' : List Value} {n n' : Nat} {f : Obj → Obj} (I : Inv X pins σ H s) (h : H p = some (.lst xs))
    (ho : s.heap.get? p = some { cls := .type "list", data := .seq its.toArray n }) (hf : f { cls := .type "list", data := .seq its.toArray n } = { cls := .type "list", data := .seq its'.toArray n' }) (r : Vals ys its') (hz : ys.length ≤ sizeLine) (t : Nat) :
    Inv X pins σ (upd H p (.lst ys)) { s with heap := s.heap.update p f, toks := t } := by
  have e : (s.heap.update p f).get? p = some { cls := .type "list", data := .seq its'.toArray n' } := by
    rw [Heap.get?_update_self f ho (by rw [hf] <;> rfl), hf]
  refine I.write (x := p) (e := p) (by rw [h]; trivial) (.inl rfl) (fun b u hb q => (Heap.get?_update_other _ _ (Ne.symm hb)).trans q) ⟨_, e⟩ ?_
  exact ⟨hz, its', n', r, e⟩
noncomputable def rSetL : V → V → V → Hp → (Hp → Prop) → Prop := fun o i v H Q => ∃ p xs k j, o = .ref p ∧ i = .int k ∧ H p = some (.lst xs) ∧ ixN xs.length k = some j ∧ Q (upd H p (.lst (xs.set j v)))
theorem set_list : PSet X rSetL := by
  intro pins s σ H o i v ov iv u Q I ro ri rv h
  obtain ⟨p, xs, k, j, rfl, rfl, hp, hj, q⟩ := h
  cases ro
  obtain ⟨t, rfl⟩ := ri
  obtain ⟨its, n, r, ho, hz⟩ := I.lst hp
  obtain ⟨h1, h2, h3, h4⟩ := ixN_seq hj
  have hl := r.length
  have hn := line63
  have I' : Inv X pins σ (upd H p (.lst (xs.set j v))) { s with heap := s.heap.update p (Obj.mapSeq (·.setIfInBounds j u)) } :=
    I.lstUpd hp ho (mapSeq_set its n j u) (r.set rv j) (by rw [List.length_set]; exact hz) s.toks
  by_cases h0 : 0 ≤ k
  · have hk : k.toNat = j := by
      rw [seqIndex_of h0 h4] at h1
      exact Option.some.inj h1
    exact PySem.W.ki_setAt ho h0 (by omega) (by rw [List.size_toArray, ← hl]; exact h4) (by rw [hk]; exact ⟨_, I', q⟩)
  · have hk : (k + (its.toArray.size : Int)).toNat = j := by
      rw [seqIndex_neg (by omega) h3] at h1
      rw [List.size_toArray, ← hl]
      exact Option.some.inj h1
    exact PySem.W.ki_setBack ho (by omega) (by rw [List.size_toArray, ← hl]; exact h3) (by omega) (by rw [hk]; exact ⟨_, I', q⟩)

noncomputable def flatV : V → Bool
  | .non => true
  | .bl _ => true
  | .int _ => true
  | .str _ => true
  | _ => false
noncomputable def eqV : V → V → Bool
  | .non, .non => true
  | .bl a, .bl b => a == b
  | .bl a, .int b => (if a then 1 else 0) == b
  | .int a, .bl b => a == (if b then 1 else 0)
  | .int a, .int b => a == b
  | .str a, .str b => a == b
  | _, _ => false
theorem eqAt_V {A : Around} {s : Shared} {y x : V} {u v : Value} (ry : RelV y u) (rx : RelV x v) (fy : flatV y = true) (fx : flatV x = true) : SeqAt.EqAt A s u v (eqV y x) := by
  cases y with
  | non =>
    cases ry
    cases x with
    | non => cases rx; exact SeqAt.EqAt.same _
    | bl b => cases rx; exact SeqAt.EqAt.none_bool b
    | int b => obtain ⟨t, rfl⟩ := rx; exact SeqAt.EqAt.none_int b t
    | str b => obtain ⟨t, rfl⟩ := rx; exact SeqAt.EqAt.none_str b t
    | _ => exact absurd (show false = true from fx) Bool.false_ne_true
  | bl a =>
    cases ry
    cases x with
    | non => cases rx; exact SeqAt.EqAt.bool_none a
    | bl b => cases rx; exact SeqAt.EqAt.bool_bool a b
    | int b => obtain ⟨t, rfl⟩ := rx; exact SeqAt.EqAt.bool_int a b t
    | str b => obtain ⟨t, rfl⟩ := rx; exact SeqAt.EqAt.bool_str a b t
    | _ => exact absurd (show false = true from fx) Bool.false_ne_true
  | int a =>
    obtain ⟨t', rfl⟩ := ry
    cases x with
    | non => cases rx; exact SeqAt.EqAt.int_none a t'
    | bl b => cases rx; exact SeqAt.EqAt.int_bool a t' b
    | int b => obtain ⟨t, rfl⟩ := rx; exact SeqAt.EqAt.int_int a t' b t
    | str b => obtain ⟨t, rfl⟩ := rx; exact SeqAt.EqAt.int_str a t' b t
    | _ => exact absurd (show false = true from fx) Bool.false_ne_true
  | str a =>
    obtain ⟨t', rfl⟩ := ry
    cases x with
    | non => cases rx; exact SeqAt.EqAt.str_none a t'
    | bl b => cases rx; exact SeqAt.EqAt.str_bool a t' b
    | int b => obtain ⟨t, rfl⟩ := rx; exact SeqAt.EqAt.str_int a t' b t
    | str b => obtain ⟨t, rfl⟩ := rx; exact SeqAt.EqAt.str_str a t' b t
    | _ => exact absurd (show false = true from fx) Bool.false_ne_true
  | _ => exact absurd (show false = true from fy) Bool.false_ne_true
noncomputable def eqU (x : V) (u : Value) : Bool := match u with
  | .none => eqV .non x
  | .bool b => eqV (.bl b) x
  | .int i _ => eqV (.int i) x
  | .str z _ => eqV (.str z) x
  | _ => false
theorem eqU_of {x y : V} {u : Value} (r : RelV y u) (f : flatV y = true) : eqU x u = eqV y x := by
  cases y with
  | non => cases r; rfl
  | bl b => cases r; rfl
  | int i => obtain ⟨t, rfl⟩ := r; rfl
  | str z => obtain ⟨t, rfl⟩ := r; rfl
  | _ => exact absurd (show false = true from f) Bool.false_ne_true
theorem any_eqU {x : V} : ∀ {xs : List V} {us : List Value}, Vals xs us → xs.all flatV = true → us.any (eqU x) = xs.any fun y => eqV y x
  | _, _, .nil, _ => rfl
  | y :: xs, u :: us, .cons r t, f => by
    rw [List.all_cons, Bool.and_eq_true] at f
    rw [List.any_cons, List.any_cons, eqU_of r f.1, any_eqU t f.2]
theorem mem_eqAt {A : Around} {s : Shared} {x : V} {v : Value} (rx : RelV x v) (fx : flatV x = true) : ∀ {xs : List V} {us : List Value}, Vals xs us → xs.all flatV = true → ∀ u ∈ us, SeqAt.EqAt A s u v (eqU x u)
  | _, _, .nil, _ => fun u hu => by cases hu
  | y :: xs, u :: us, .cons r t, f => fun u' hu => by
    rw [List.all_cons, Bool.and_eq_true] at f
    rcases List.mem_cons.mp hu with rfl | hu
    · rw [eqU_of r f.1]; exact eqAt_V r rx f.1 fx
    · exact mem_eqAt rx fx t f.2 u' hu
noncomputable def inV (x : V) (xs : List V) : Bool := xs.any fun y => eqV y x
noncomputable def rIn (K : PySem.W.Frag) (neg : Bool) : R2 := fun x y H Q => ∃ p xs, y = .ref p ∧ (SqL K H p xs ∨ SqT K H p xs) ∧ flatV x = true ∧ xs.all flatV = true ∧ Q (.bl (if neg then !inV x xs else inV x xs)) H
theorem op_in_seq : OpR X (compareOp .In) (rIn X.K false) := by
  intro pins s σ H x y v u Q I rx ry h
  obtain ⟨p, xs, rfl, hq, fx, fs, q⟩ := h
  cases ry
  rcases hq with hq | hq
  · obtain ⟨its, r, pl, hz⟩ := I.list hq
    refine SeqAt.in_listAt (eqU x) pl.isList (fun w hw => mem_eqAt rx fx r fs w (by simpa using hw)) ⟨.bl _, H, I, rfl, ?_⟩
    rw [show its.toArray.any (eqU x) = its.any (eqU x) by simp, any_eqU r fs]
    exact q
  · obtain ⟨its, r, pl, hz⟩ := I.tuple hq
    refine SeqAt.in_tupleAt (eqU x) pl (fun w hw => mem_eqAt rx fx r fs w (by simpa using hw)) ⟨.bl _, H, I, rfl, ?_⟩
    rw [show its.toArray.any (eqU x) = its.any (eqU x) by simp, any_eqU r fs]
    exact q
theorem call_len_seq : CallR X (.builtin "len") (fun xs H Q => ∃ p ys, xs = [.ref p] ∧ (SqL X.K H p ys ∨ SqT X.K H p ys) ∧ Q (.int ys.length) H) := by
  intro pins s σ H xs us Q I r h
  obtain ⟨p, ys, rfl, hq, q⟩ := h
  obtain ⟨u, rfl, rx⟩ := vals1 r
  cases rx
  have hn := line63
  rcases hq with hq | hq
  · obtain ⟨its, r', pl, hz⟩ := I.list hq
    have hlen := r'.length
    exact Calls.call_len_list pl.isList (by simp only [List.size_toArray] <;> omega) ⟨.int ys.length, H, I.tok _, ⟨s.toks + 1, by rw [List.size_toArray, hlen]⟩, q⟩
  · obtain ⟨its, r', pl, hz⟩ := I.tuple hq
    have hlen := r'.length
    exact len_tuple pl (by simp only [List.size_toArray] <;> omega) ⟨.int ys.length, H, I.tok _, ⟨s.toks + 1, by rw [List.size_toArray, hlen]⟩, q⟩
theorem call_list_of : CallR X (.type "list") (fun xs H Q => ∃ p ys, xs = [.ref p] ∧ (SqL X.K H p ys ∨ SqT X.K H p ys) ∧ ∀ l, H l = none → Q (.ref l) (upd H l (.lst ys))) := by
  intro pins s σ H xs us Q I r h
  obtain ⟨p, ys, rfl, hq, q⟩ := h
  obtain ⟨u, rfl, rx⟩ := vals1 r
  cases rx
  have fin : ∀ (its : List Value), Vals ys its → ys.length ≤ sizeLine → ∀ (h' : Heap) (c' : Nat), (∀ b o', s.heap.get? b = some o' → h'.get? b = some o') →
      h'.get? s.heap.objs.size = some { cls := .type "list", dict := none, data := .seq its.toArray c', slots := #[] } → EP X pins σ Q (.ref s.heap.objs.size) { s with heap := h' } := fun its r' hz h' c' kp e =>
    ⟨.ref s.heap.objs.size, _, I.laid (t' := s.toks) kp (Nat.le_refl _) (show ObjOk X.prog X.w _ h' _ (.lst ys) from ⟨hz, its, c', r', e⟩), rfl, q _ (I.hok.fresh (Nat.le_refl _))⟩
  rcases hq with hq | hq
  · obtain ⟨its, r', pl, hz⟩ := I.list hq
    have hlen := r'.length
    obtain ⟨o, ho, hc, n, hd⟩ := pl.isList
    exact call_list_seq p (.inl rfl) ho hc hd (fun h' c' kp e => fin its r' hz h' c' kp e) (by simp only [List.size_toArray] <;> omega)
  · obtain ⟨its, r', pl, hz⟩ := I.tuple hq
    have hlen := r'.length
    obtain ⟨o, ho, hc, n, hd⟩ := pl
    exact call_list_seq p (.inr rfl) ho hc hd (fun h' c' kp e => fin its r' hz h' c' kp e) (by simp only [List.size_toArray] <;> omega)
theorem call_tuple_of : CallR X (.type "tuple") (fun xs H Q => ∃ p ys, xs = [.ref p] ∧ ((SqL X.K H p ys ∧ ∀ l, H l = none → Q (.ref l) (upd H l (.tup ys))) ∨ (SqT X.K H p ys ∧ Q (.ref p) H))) := by
  intro pins s σ H xs us Q I r h
  obtain ⟨p, ys, rfl, h⟩ := h
  obtain ⟨u, rfl, rx⟩ := vals1 r
  cases rx
  rcases h with ⟨hq, q⟩ | ⟨hq, q⟩
  · obtain ⟨its, r', pl, hz⟩ := I.list hq
    have hlen := r'.length
    refine call_tuple_list pl.isList (fun h' kp => ?_) (by simp only [List.size_toArray] <;> omega)
    have I1 : Inv X pins σ H { s with heap := h' } := I.kept (t' := s.toks) kp
    have I2 : Inv X pins σ (upd H h'.objs.size (.tup ys)) { s with heap := h'.push { cls := .type "tuple", data := .seq its.toArray } } :=
      I1.laid (t' := s.toks) (fun b o e => Heap.get?_push_of_some _ e) (Nat.le_refl _) (show ObjOk X.prog X.w _ _ _ (.tup ys) from ⟨hz, its, r', TupD.new _ _⟩)
    exact ⟨.ref h'.objs.size, _, I2, rfl, q _ (I1.hok.fresh (Nat.le_refl _))⟩
  · obtain ⟨its, r', pl, hz⟩ := I.tuple hq
    exact call_tuple_same pl ⟨.ref p, H, I, rfl, q⟩

noncomputable def tyV (K : PySem.W.Frag) (T : String) (x : V) (H : Hp) : Prop := match x with
  | .str _ => T = "str"
  | .int _ => T = "int"
  | .ref p => (T = "list" ∧ ∃ xs, SqL K H p xs) ∨ (T = "tuple" ∧ ∃ o, K.lookup p = some o ∧ o.cls = .type "tuple" ∧ o.dict = none) ∨
      (T = "dict" ∧ ((∃ kvs, H p = some (.dK kvs)) ∨ ∃ kvs, H p = some (.dT kvs))) ∨ (T = "set" ∧ ∃ S n, H p = some (.set S n)) ∨ (T = "tuple" ∧ ∃ xs, H p = some (.tup xs))
  | _ => False
theorem tyV_is {pins : List (Addr × Obj)} {σ : St} {H : Hp} {s : Shared} {T : String} {x : V} {v : Value} (I : Inv X pins σ H s) (r : RelV x v) (ty : tyV X.K T x H) :
    s.TypeIs v T ∧ ∀ a, v = .ref a → ∃ ob, s.heap.get? a = some ob ∧ ob.dict = none := by
  cases x with
  | str z =>
    obtain ⟨t, rfl⟩ := r
    cases (show T = "str" from ty)
    exact ⟨typeIs_str s z t, fun _ e => nomatch e⟩
  | int i =>
    obtain ⟨t, rfl⟩ := r
    cases (show T = "int" from ty)
    exact ⟨typeIs_int s i t, fun _ e => nomatch e⟩
  | ref p =>
    cases r
    rcases ty with ⟨rfl, xs, hq⟩ | ⟨rfl, o, hk, hc, hd⟩ | ⟨rfl, hk⟩ | ⟨rfl, S, n, hk⟩ | ⟨rfl, xs, hk⟩
    · obtain ⟨its, _, pl, _⟩ := I.list hq
      refine ⟨pl.isList.typeIs, fun a e => ?_⟩
      cases e
      obtain ⟨o, n, e, c, hd, _⟩ := pl
      exact ⟨o, e, hd⟩
    · refine ⟨⟨o, I.kIn p o hk, hc⟩, fun a e => ?_⟩
      cases e
      exact ⟨o, I.kIn _ o hk, hd⟩
    · have z : ∃ o, s.heap.get? p = some o ∧ o.ExactDict := by
        rcases hk with ⟨kvs, hk⟩ | ⟨kvs, hk⟩
        · obtain ⟨_, _, _, _, o, _, _, e, ex, _⟩ := I.hok p _ hk
          exact ⟨o, e, ex⟩
        · obtain ⟨_, _, _, _, o, _, _, e, ex, _⟩ := I.hok p _ hk
          exact ⟨o, e, ex⟩
      obtain ⟨o, e, ex⟩ := z
      refine ⟨⟨o, e, ex.1⟩, fun a e2 => ?_⟩
      cases e2
      exact ⟨o, e, ex.2.1⟩
    · obtain ⟨o, _, _, _, e, ex, _⟩ := I.hok p _ hk
      refine ⟨⟨o, e, ex.1⟩, fun a e2 => ?_⟩
      cases e2
      exact ⟨o, e, ex.2.1⟩
    · obtain ⟨_, _, _, n, e⟩ := I.hok p _ hk
      refine ⟨⟨_, e, rfl⟩, fun a e2 => ?_⟩
      cases e2
      exact ⟨_, e, rfl⟩
  | _ => exact False.elim ty
noncomputable def tBM (K : PySem.W.Frag) (T : String) (r : V → List V → Hp → VK → Prop) (to : TE) (t : TA) : TE := fun σ H Q => to σ H fun x H1 => tyV K T x H1 ∧ t σ H1 fun xs H2 => r x xs H2 Q
variable {o e : Expr} {es : List Expr} {to : TE} {t : TA} {name : Str} {apos cpos : Pos} {T id : String} {r : V → List V → Hp → VK → Prop}
theorem pe_bm (pa : PlainAttrs T) (slot : Slot T name id) (hty : typeOf (.builtin id) = pure (.type "method_descriptor")) (hm : MtR X id r) (ho : PE X o to) (ha : PA X (e :: es) t)
    (hbase : attributeBase o name X.env (eval o X.env) = eval o X.env := by rfl)
    (hfew : ((backTo cpos (starEach (e :: es) X.env)).all (fun x => !x.1) && (backToKw cpos (keywordEach [] X.env)).all (fun x => x.1.isSome)
      && decide ((e :: es).length + ([] : List Keyword).length + (if ([] : List Keyword).isEmpty then 0 else 1) < 30)) = true := by rfl)
    (hline : (apos.endLine == cpos.line) = true := by rfl) (hs : starEach (e :: es) X.env = (false, eval e X.env) :: starEach es X.env := by rfl) (hplain : (backTo cpos (starEach es X.env)).any (·.1) = false := by rfl) :
    PE X (.Call (.Attribute o name apos) (e :: es) [] cpos) (tBM X.K T r to t) := by
  intro pins s σ H Q I h
  refine wpAny_Call_method_late hbase hfew hline rfl (thn (ho pins s σ H _ I h) fun v s1 ⟨x, H1, I1, r1, ty, q1⟩ => ?_)
  obtain ⟨h1, h2⟩ := tyV_is I1 r1 ty
  refine ⟨T, id, pa, slot, hty, h1, h2, ?_⟩
  have hA := ha cpos pins s1 σ H1 _ I1 q1
  rw [hs] at hA ⊢
  refine Calls.callWith_builtin (by show (false || (backTo cpos (starEach es X.env)).any (·.1)) = false; rw [hplain] <;> rfl) (Calls.evalArgs_plain ?_)
  exact thn hA fun us s2 ⟨vs, H2, I2, r2, q2⟩ => hm pins s2 σ H2 x vs v us Q I2 r1 r2 q2
/- xs.append(e), list.index on a module's tuple .. are MtR facts of 06m -/
end
end L2
namespace L2
open PySem PySem.Spec PyProof.Rows
noncomputable def MtM (X : Cx) (id : String) (r : V → List V → Hp → VK → Prop) : Prop :=
  ∀ (pins : List (Addr × Obj)) (s : Shared) (σ : St) (H : Hp) (x : V) (xs : List V) (v : Value) (us : List Value) (Q : VK), Inv X pins σ H s → RelV x v → Vals xs us → r x xs H Q →
    wpAny (model X.prog X.w) X.A (call (.builtin id) (v :: us)) (EP X pins σ Q) X.xe s

theorem Vals.one : ∀ {x : V} {us : List Value}, Vals [x] us → ∃ u, us = [u] ∧ RelV x u
  | _, _, .cons r .nil => ⟨_, rfl, r⟩
theorem Vals.rep {xs : List V} {us : List Value} (h : Vals xs us) : ∀ k : Nat, Vals (List.replicate k xs).flatten (List.replicate k us).flatten
  | 0 => .nil
  | k + 1 => by
    rw [List.replicate_succ, List.replicate_succ, List.flatten_cons, List.flatten_cons]
    exact Vals.append h (Vals.rep h k)
theorem foldl_rep (its : List Value) : ∀ (k : Nat) (acc : List Value),
    List.foldl (fun x1 x2 => x1 ++ x2) acc.toArray (List.replicate k its.toArray) = (acc ++ (List.replicate k its).flatten).toArray
  | 0, acc => by simp
  | k + 1, acc => by
    have e : acc.toArray ++ its.toArray = (acc ++ its).toArray := by simp
    have e2 : (acc ++ its) ++ (List.replicate k its).flatten = acc ++ (List.replicate (k + 1) its).flatten := by
      rw [List.replicate_succ, List.flatten_cons, List.append_assoc]
    rw [← e2, ← foldl_rep its k (acc ++ its), ← e, List.replicate_succ, List.foldl_cons]

section
variable {X : Cx} {pins : List (Addr × Obj)} {σ : St} {H : Hp} {s : Shared} {l b : Addr} {xs ys zs : List V}
theorem Inv.lset {its its' : List Value} {n : Nat} {f : Array Value → Array Value} {t' : Nat} (I : Inv X pins σ H s) (hH : H l = some (.lst xs))
    (e : s.heap.get? l = some { cls := .type "list", data := .seq its.toArray n }) (hf : f its.toArray = its'.toArray) (hv : Vals ys its') (hz : ys.length ≤ sizeLine) :
    Inv X pins σ (upd H l (.lst ys)) { s with heap := s.heap.update l (Obj.mapSeq f), toks := t' } := by
  have q := PySem.IsL.update e f
  rw [hf] at q
  refine I.write (x := l) (e := l) (by rw [hH]; exact trivial) (.inl rfl) (fun b' u hb hu => (Heap.get?_update_other s.heap (Obj.mapSeq f) (Ne.symm hb)).trans hu) ⟨_, q⟩ ?_
  exact ⟨hz, its', _, hv, q⟩
theorem Inv.lnew {its : List Value} {t' : Nat} (I : Inv X pins σ H s) (hv : Vals ys its) (hz : ys.length ≤ sizeLine) :
    Inv X pins σ (upd H s.heap.objs.size (.lst ys)) { s with heap := s.heap.push { cls := .type "list", data := .seq its.toArray }, toks := t' } :=
  I.laid (fun _ _ q => Heap.get?_push_of_some _ q) (Nat.le_refl _) ⟨hz, its, 0, hv, Heap.get?_push_size _ rfl⟩
theorem Inv.fresh (I : Inv X pins σ H s) : H s.heap.objs.size = none := I.hok.fresh (Nat.le_refl _)
theorem Inv.lstM (I : Inv X pins σ H s) (hH : H l = some (.lst xs)) : xs.length ≤ sizeLine ∧ ∃ (its : List Value) (n : Nat), Vals xs its ∧ xs.length = its.length ∧ s.heap.get? l = some { cls := .type "list", data := .seq its.toArray n } := by
  obtain ⟨z, its, n, r, e⟩ := I.hok l _ hH
  exact ⟨z, its, n, r, r.length, e⟩

theorem notLongL {n : Nat} (h : n ≤ sizeLine) : Builtin.List.listTooLong n = false := by
  unfold Builtin.List.listTooLong
  exact decide_eq_false (by omega)
end
section
variable {X : Cx}
noncomputable def rAppend : V → List V → Hp → VK → Prop := fun x vs H Q => ∃ l xs y, x = .ref l ∧ vs = [y] ∧ H l = some (.lst xs) ∧ xs.length < sizeLine ∧ Q .non (upd H l (.lst (xs ++ [y])))
theorem mt_append : MtM X "list.append" rAppend := by
  intro pins s σ H x vs v us Q I rx rv h
  obtain ⟨l, xs, y, rfl, rfl, hH, hz, q⟩ := h
  cases rx
  obtain ⟨u, rfl, ru⟩ := rv.one
  obtain ⟨z, its, n, r, hl, e⟩ := I.lstM hH
  refine call_meets F.slot_list_append ⟨_, e, rfl⟩ F.entry_list_append (F.args_list_append_2 _ _) (PySem.list_append l its.toArray n u (by rw [List.size_toArray]; omega)) ⟨e, ?_⟩
  refine ⟨.non, _, I.lset (its' := its ++ [u]) hH e (by simp) (r.append (.cons ru .nil)) ?_, rfl, q⟩
  rw [List.length_append, List.length_singleton]
  omega

noncomputable def rCat : R2 := fun x y H Q => ∃ l b xs zs, x = .ref l ∧ y = .ref b ∧ H l = some (.lst xs) ∧ H b = some (.lst zs) ∧ xs.length + zs.length ≤ sizeLine ∧ ∀ p, H p = none → Q (.ref p) (upd H p (.lst (xs ++ zs)))
theorem op_cat : OpR X (binaryOp .Add) rCat := by
  intro pins s σ H x y v u Q I rx ry h
  obtain ⟨l, b, xs, zs, rfl, rfl, hH, hB, hz, q⟩ := h
  cases rx
  cases ry
  obtain ⟨z, its, n, r, hl, e⟩ := I.lstM hH
  obtain ⟨z2, its2, n2, r2, hl2, e2⟩ := I.lstM hB
  refine PySem.P.add_list e e2 ?_ (by rw [List.size_toArray, List.size_toArray]; omega)
  have ea : its.toArray ++ its2.toArray = (its ++ its2).toArray := by simp
  rw [ea]
  exact ⟨.ref _, _, I.lnew (t' := s.toks) (r.append r2) (by rw [List.length_append]; omega), rfl, q _ I.fresh⟩
noncomputable def rRep : R2 := fun x y H Q => ∃ l k xs, x = .ref l ∧ y = .int k ∧ H l = some (.lst xs) ∧ -(2 ^ 63) ≤ k ∧ k < 2 ^ 63 ∧ xs.length * k.toNat ≤ sizeLine ∧
  ∀ p, H p = none → Q (.ref p) (upd H p (.lst (List.replicate k.toNat xs).flatten))
theorem len_rep {α : Type} (xs : List α) (k : Nat) : (List.replicate k xs).flatten.length = k * xs.length := by
  induction k with
  | zero => simp
  | succ k ih => rw [List.replicate_succ, List.flatten_cons, List.length_append, ih, Nat.succ_mul, Nat.add_comm]
theorem op_rep : OpR X (binaryOp .Mult) rRep := by
  intro pins s σ H x y v u Q I rx ry h
  obtain ⟨l, k, xs, rfl, rfl, hH, h1, h2, hz, q⟩ := h
  cases rx
  obtain ⟨t, rfl⟩ := ry
  obtain ⟨z, its, n, r, hl, e⟩ := I.lstM hH
  have hlen : its.toArray.size * k.toNat ≤ sizeLine := by rw [List.size_toArray, ← hl]; exact hz
  have hcap : ¬ its.toArray.size * k.toNat > (2 ^ 63 - 1) / 8 := by
    have : (sizeLine : Nat) ≤ (2 ^ 63 - 1) / 8 := by decide
    omega
  have hfit : ¬ (!Builtin.List.listFitsIndex k) = true := by
    rw [fitsIndex_both h1 h2]
    exact Bool.false_ne_true
  have hlong : ¬ Builtin.List.listTooLong (its.toArray.size * k.toNat) = true := by
    rw [notLongL hlen]
    exact Bool.false_ne_true
  have hnew : List.foldl (fun x1 x2 => x1 ++ x2) #[] (List.replicate (if its.toArray.isEmpty = true then 0 else k.toNat) its.toArray) = (List.replicate k.toNat its).flatten.toArray := by
    have f0 : ∀ m : Nat, List.foldl (fun x1 x2 => x1 ++ x2) #[] (List.replicate m its.toArray) = (List.replicate m its).flatten.toArray := fun m => by
      have := foldl_rep its m []
      rw [List.nil_append] at this
      exact this
    rw [f0]
    cases its with
    | nil => simp
    | cons a r' => rw [if_neg (by simp)]
  refine wpAny_binaryOp_repeat_ref (T := "list") (U := "int") (by decide) ⟨_, e, rfl⟩ (fun s' => typeIs_int s' k t) noFill_list_mul F.fills_int_mul F.slot_int_rmul repeat_list F.slot_int_index.lookup
    (call_meets F.slot_int_rmul (typeIs_int s k t) F.entry_int_rmul (F.args_int_rmul_2 _ _) (int___rmul___int_list k t l its.toArray n)
      ⟨e, rfl, ⟨_, e, rfl⟩, call_meets F.slot_list_mul ⟨_, e, rfl⟩ F.entry_list_mul (F.args_list_mul_2 _ _) (AutoListH.list___mul___list_int_3 l its.toArray n k t hfit hcap hlong) ⟨e, ?_⟩⟩)
  rw [hnew]
  exact ⟨.ref _, _, I.lnew (t' := s.toks) (r.rep k.toNat) (by rw [len_rep, Nat.mul_comm]; exact hz), rfl, q _ I.fresh⟩

end
section
variable {prog : Program} {w : World} {A : Around} {E : Value → Shared → Prop} {s : Shared}
end
section
variable {X : Cx}
end
end L2
namespace Att
open PySem PySem.W PySem.Calls PyProof.Rows
theorem ints_of_wellAll {P : Params} {h : Heap} : ∀ (ns : List Int) (vs : List Value), WellAll P h vs (ns.map WData.int) → IntsAre vs ns := by
  intro ns
  induction ns with
  | nil =>
    intro vs w
    rw [List.map_nil] at w
    cases w
    exact .nil
  | cons n ns ih =>
    intro vs w
    rw [List.map_cons] at w
    cases w with
    | cons a b =>
      cases a
      exact .cons _ _ (ih _ b)

theorem script_of {l : OpenLaw} {n : Nat} (hn : l.most = some n) {P : Params} {h : Heap} {args : List WData} {vals : List Value}
    (hpre : l.row.toRowW.claim.pre args = true) (hwl : WellAll P h vals args) :
    ∃ a vs ns, vals = [Value.ref a] ∧ args = [WData.list (ns.map WData.int)] ∧ h.get? a = some { cls := .type "list", data := .seq vs.toArray } ∧ IntsAre vs ns ∧ ns.length ≤ n := by
  have hsh : WShape.hasAll [] args [.list .int] = true := (pre_splitW hpre).1
  have hc : l.pre.holds [] { args := args } = true := (pre_splitW hpre).2
  obtain ⟨d, r, rfl, h1, h2⟩ := hasAllW_cons hsh
  obtain rfl := hasAllW_nil h2
  obtain ⟨xs, rfl, h3⟩ := hasW_list h1
  obtain ⟨ns, rfl⟩ := items_int h3
  have hlen : ns.length ≤ n := by
    unfold OpenLaw.pre at hc
    have h4 : (WTm.not (.lt (.lit (.int (n : Int))) (.len (.arg 0)))).holds [] { args := [.list (ns.map .int)] } = true := by
      have h4 := (holds_andW hc).1
      rw [hn] at h4
      exact h4
    have h5 := condW_of h4 (w_not (w_lt w_lit (w_len_list (w_arg rfl))))
    rw [List.length_map] at h5
    refine Nat.le_of_not_lt fun q => ?_
    have q' : (n : Int) < ((ns.length : Nat) : Int) := by omega
    first
      | (rw [decide_eq_true q'] at h5; exact absurd h5 (by decide))
      | (simp at h5; omega)
  cases hwl with
  | cons w1 w2 =>
    cases w2
    cases w1 with
    | list ho hall => exact ⟨_, _, ns, rfl, rfl, ho, ints_of_wellAll ns _ hall, hlen⟩

theorem post_true (l : OpenLaw) (args : List WData) : l.row.toRowW.claim.post args (.bool true) args = true :=
  postW_of (r := l.row.toRowW) (X := (true == true))
    (show WShape.has [] (.bool true) .bool = true by first | rfl | decide | simp [WShape.has, WShape.arms, WShape.armsAll])
    (show (WTm.eq .res (.lit (.bool true))).value [] { args := args, res := some (.bool true), after := args } = some (.bool (true == true)) from w_eq_bool (w_res rfl) w_lit) rfl

theorem attach_call {l : OpenLaw} {n : Nat} {q : Program} {loose : List Str} {XP : (Str → Option Value) → Heap → Prop} {YP : World → Heap → Prop} {d : DefRec}
    (hn : l.most = some n) (hdf : d.params.defaults = [])
    (call : ∀ (w : World) (s₀ s₁ : Shared) (mg mb : Str → Option Value) (fa : Addr) (o : Obj) (pm cd doc : Value) (a : Addr) (vs : List Value) (ns : List Int),
      Ground q loose [] XP w s₀ mg mb s₁.heap → YP w s₁.heap →
      s₁.heap.get? fa = some o → o.data = .func (docDef d.name d.params d.body d.scope pm cd doc) → s₁.heap.CodeRec cd d.name → mg d.name = some (.ref fa) →
      s₁.heap.get? a = some { cls := .type "list", data := .seq vs.toArray } → IntsAre vs ns → ns.length ≤ n → s₁.gens = #[] →
      codeAny (model l.prog w) callerA (.call (.ref fa) ⟨[.ref a], []⟩) (fun r s' => r = .ok (.ret (.bool true)) ∧ OldK s₁.heap s'.heap ∧ s'.os = s₁.os ∧ AllBare s'.gens) s₁) :
    WalkO q loose XP YP l.row.toRowW d [] (fun f vs => PySem.call f vs) := by
  intro w s₀ s₁ mg mb G Y fa o pm cd doc dV kV ho hd hcd hD hmg hg args vals as hpre hlay hrd hwl hlo
  obtain rfl : dV = .none := Dflts.none hD hdf
  obtain rfl : kV = .none := Dflts.noKw hD
  obtain ⟨a, vs, ns, rfl, rfl, hobj, hints, hlen⟩ := script_of hn hpre hwl
  refine enter_call (codeAny_mono (call w s₀ s₁ mg mb fa o pm cd doc a vs ns G Y ho (fd_plain hd) hcd hmg hobj hints hlen hg) fun r s' hq => ?_)
  obtain ⟨rfl, h2, h3, h4⟩ := hq
  exact ⟨.inl ⟨.bool true, .bool true, [], rfl, fun _ => rfl, .bool true, post_true l _, fun _ => ⟨List.Pairwise.nil, fun _ hm => (nomatch hm)⟩⟩, h2, h3, h4⟩

section
variable {prog : Program} {w : World} {A : Around} {E : Value → Shared → Prop} {s : Shared} {K : Frag}
end
end Att
namespace L2
open PySem PySem.Spec PyProof.Rows
theorem vals_ints : ∀ {vs : List Value} {ns : List Int}, IntsAre vs ns → Vals (ns.map V.int) vs
  | _, _, .nil => .nil
  | _, _, .cons n t h => .cons ⟨t, rfl⟩ (vals_ints h)

noncomputable def Only (H : Hp) : Prop := ∀ b, H b = none ∨ ∃ o xs, H b = some (.frz o (.lst xs))

theorem law_call {P : Program} {w : World} {K : PySem.W.Frag} {mg mb : Str → Option Value} {CX : CXT} {k : Nat} {fa a : Addr} {fd : FuncData} {x : Str} {sp : Sp} {s₁ : Shared} {vs : List Value} {ns : List Int}
    (KX : K.In s₁.heap) (hns : s₁.heap.Ns mainGlobals mg) (hb : s₁.heap.Ns builtinsNs mb) (hbb : ∀ x : Str, x ≠ "__name__" → mb x = bootBuiltins x) (hlim : s₁.heap.NoLimit) (hg : s₁.gens = #[])
    (ha : s₁.heap.get? a = some { cls := .type "list", data := .seq vs.toArray }) (hi : IntsAre vs ns) (hl : ns.length ≤ sizeLine) (hr : Room k callerA)
    (F : ∀ base : Heap, K.In base → base.Ns mainGlobals mg → FnOk P w K mg base CX k fa fd [x] sp) (hbind : ∀ (s : Shared) (u : Value), BindsTo s fd ⟨[u], []⟩ [(x, u)])
    (hsp : ∀ H : Hp, Only H → SqL K H a (ns.map V.int) → sp [.ref a] H (fun v _ => v = .bl true) fun _ _ _ => False)
    (hCX : ∀ H e s', CX [] H s₁ (fun _ _ _ => False) e s' → False) :
    codeAny (model P w) callerA (.call (.ref fa) ⟨[.ref a], []⟩) (fun r s' => r = .ok (.ret (.bool true)) ∧ OldK s₁.heap s'.heap ∧ s'.os = s₁.os ∧ AllBare s'.gens) s₁ := by
  have rv := vals_ints hi
  have lenV := hi.length
  -- from an abstract heap in which nothing but the script may be tracked
  have core : ∀ H : Hp, Only H → SqL K H a (ns.map V.int) → HOk P w H s₁.heap → (∀ b, H b ≠ none → b = a) → (H a ≠ none → K.lookup a = none) →
      codeAny (model P w) callerA (.call (.ref fa) ⟨[.ref a], []⟩) (fun r s' => r = .ok (.ret (.bool true)) ∧ OldK s₁.heap s'.heap ∧ s'.os = s₁.os ∧ AllBare s'.gens) s₁ := by
    intro H hO hS hok hA hK
    have base_of : ∀ {b : Addr} {o : Obj}, s₁.heap.get? b = some o → H b = none → (hidT s₁.heap H).get? b = some o := fun e n => hidT_get e n
    have noA : ∀ {b : Addr} {o : Obj} {es : Array DictEntry} {ep : Nat}, s₁.heap.get? b = some o → o.data = .dict es ep → H b = none := fun {b o es ep} e d => by
      cases q : H b with
      | none => rfl
      | some u =>
        have e' : b = a := hA b (by rw [q]; simp)
        subst e'
        rw [ha] at e; cases e
        have d' : Data.seq vs.toArray _ = Data.dict es ep := d
        cases d'
    have nsK : ∀ {b : Addr} {m : Str → Option Value}, s₁.heap.Ns b m → (hidT s₁.heap H).Ns b m := fun {b m} ⟨o, es, ep, e, d, r⟩ => ⟨o, es, ep, base_of e (noA e d), d, r⟩
    have hKb : K.In (hidT s₁.heap H) := fun b o e => base_of (KX b o e) (by
      cases q : H b with
      | none => rfl
      | some u =>
        have e' : b = a := hA b (by rw [q]; simp)
        subst e'
        rw [hK (by rw [q]; simp)] at e; cases e)
    have hM : Mod K mg (hidT s₁.heap H) := ⟨hKb, nsK hns, ⟨mb, nsK hb, hbb⟩, let ⟨mc, h1, h2⟩ := hlim; ⟨mc, nsK h1, h2⟩⟩
    have e0 : Env0 P w K mg (hidT s₁.heap H) callerA [] s₁ H := ⟨rfl, hM, fun b o e => of_hidT e, Nat.le_of_eq (hidT_size _ _), trivial, fun b hb => absurd (show b ∈ ([] : List Addr) from hb) (by simp), hok, .of_eq hg⟩
    refine codeAny_mono ((F _ hKb (nsK hns)).run callerA [] s₁ H ⟨[.ref a], []⟩ [.ref a] [.ref a] _ _ hr e0 (hbind s₁ (.ref a)) (.cons rfl .nil) (hsp H hO hS)) fun r s' h => ?_
    cases r with
    | error e => exact (hCX H e s' h).elim
    | ok fl =>
      cases fl with
      | next => exact False.elim h
      | brk => exact False.elim h
      | cont => exact False.elim h
      | ret u =>
        obtain ⟨v, H', os, bare, un, hok', r', q⟩ := h
        have q' : v = .bl true := q
        subst q'
        obtain rfl : u = Value.bool true := r'
        refine ⟨rfl, OldK.of_keep fun b o e => ?_, os, bare⟩
        cases q : H b with
        | none => exact un.keep b o e q (by intro z; exact absurd (show b ∈ ([] : List Addr) from z) (by simp)) (by simp)
        | some u =>
          rcases hO b with z | ⟨ob, xs, z⟩
          · rw [q] at z; cases z
          · have z2 := un.frzs b ob _ z
            obtain ⟨e1, _⟩ := hok b _ z
            obtain ⟨e2, _⟩ := hok' b _ z2
            rw [e] at e1; cases e1
            exact e2
  cases hk : K.lookup a with
  | some o =>
    -- the script is one of the module's own objects
    have e := KX a o hk
    rw [ha] at e
    cases e
    refine core (fun _ => none) (fun _ => .inl rfl) (.inr ⟨_, vs.toArray, _, hk, rfl, rfl, rfl, by rw [List.size_toArray, lenV]; exact hl, by simpa using rv⟩) (fun b u z => by have z' : (none : Option HO) = some u := z; cases z') (fun b z => absurd rfl z) fun z => absurd rfl z
  | none =>
    refine core (fun b => if b = a then some (.frz { cls := .type "list", data := .seq vs.toArray } (.lst (ns.map V.int))) else none) (fun b => ?_) (.inl (.inr ⟨{ cls := .type "list", data := .seq vs.toArray }, if_pos rfl⟩)) (fun b u z => ?_) (fun b z => ?_) fun _ => hk
    · by_cases hb : b = a
      · exact .inr ⟨_, _, if_pos hb⟩
      · exact .inl (if_neg hb)
    · by_cases hb : b = a
      · have z' := (if_pos hb).symm.trans z
        cases z'
        subst hb
        exact ⟨ha, by rw [List.length_map]; exact hl, vs, _, rv, ha⟩
      · have z' := (if_neg hb).symm.trans z
        cases z'
    · by_cases hb : b = a
      · exact hb
      · exact absurd (if_neg hb) z
end L2
namespace L2
open PySem PySem.Spec PyProof.Rows
theorem walk_of {l : PySem.W.OpenLaw} {n k : Nat} {q : Program} {loose : List Str} {XP : (Str → Option Value) → Heap → Prop} {YP : World → Heap → Prop} {d : DefRec} {K : Params → PySem.W.Frag} {CX : World → CXT} {sp : World → Sp} {x : Str}
    (hn : l.most = some n) (hn2 : n ≤ sizeLine) (hdf : d.params.defaults = []) (hr : Room k callerA)
    (hY : ∀ (w : World) (h : Heap), YP w h → (K w.params).In h)
    (F : ∀ (w : World) (mg : Str → Option Value) (fa : Addr) (h : Heap), (K w.params).In h → h.Ns mainGlobals mg → mg d.name = some (.ref fa) →
      ∃ fd : FuncData, (∀ (s : Shared) (u : Value), BindsTo s fd ⟨[u], []⟩ [(x, u)]) ∧
        ∀ base : Heap, (K w.params).In base → base.Ns mainGlobals mg → FnOk l.prog w (K w.params) mg base (CX w) k fa fd [x] (sp w))
    (hsp : ∀ (w : World) (H : Hp) (a : Addr) (ns : List Int), ns.length ≤ n → Only H → SqL (K w.params) H a (ns.map V.int) → sp w [.ref a] H (fun v _ => v = .bl true) fun _ _ _ => False)
    (hCX : ∀ (w : World) (H : Hp) (s : Shared) (e : Value) (s' : Shared), CX w [] H s (fun _ _ _ => False) e s' → False) :
    PySem.W.WalkO q loose XP YP l.row.toRowW d [] (fun f vs => PySem.call f vs) := by
  refine Att.attach_call hn hdf fun w s₀ s₁ mg mb fa o pm cd doc a vs ns G Y ho hd hcd hmg hobj hints hlen hg => ?_
  have KX := hY w _ Y
  obtain ⟨fd, hb, hF⟩ := F w mg fa _ KX G.T.g hmg
  exact law_call KX G.T.g G.T.b G.T.builtins G.T.nolimit hg hobj hints (Nat.le_trans hlen hn2) hr hF hb (fun H hO hS => hsp w H a ns hlen hO hS) fun H e s' => hCX w H s₁ e s'
end L2
/- THE LAST THEOREM (shape; LID, My.* are yours):
   My.Adr: a structure of the addresses that your layer names (classes, functions); My.Txt K t: a structure (Prop) of the equations over K;
   My.txt_mk : {K} {implicit addresses ..} (e1 : nsIn K mainGlobals "law" = some (some (.ref f))) (e2 : K.lookup f = some ⟨oc, od, .func (fnOf "law" "law" params body scope dV kV doc pm an cdv ct), sl⟩) (e3 : codeIn K cdv "law" = true) .. : ∃ t, My.Txt K t
(the tactic k_is has no namespace: write k_is) -/
namespace L2
open PySem PySem.Spec PyProof.Rows
noncomputable def defArgs (s : Stmt) : Arguments := match s with
  | .FunctionDef _ a _ _ _ _ _ _ _ _ => a
  | _ => { posonlyargs := [], args := [], vararg := none, kwonlyargs := [], kw_defaults := [], kwarg := none, defaults := [] }
noncomputable def defBody (s : Stmt) : List Stmt := match s with
  | .FunctionDef _ _ b _ _ _ _ _ _ _ => b
  | _ => []
noncomputable def defScope (s : Stmt) : Scope := match s with
  | .FunctionDef _ _ _ _ _ _ sc _ _ _ => sc
  | _ => { kind := .function, names := [], isGenerator := false, isCoroutine := false }

noncomputable abbrev CX0 : CXT := fun _ _ _ _ _ _ => False
noncomputable abbrev E0 : XK := fun _ _ _ => False
theorem pass0 {X : Cx} : Passes CX0 X E0 := fun _ _ _ _ _ _ _ h => h.elim

structure Fun (K : PySem.W.Frag) (x qual : Str) (st : Stmt) (f : Addr) (fd : FuncData) : Prop where
  ex : ∃ (oc : Value) (od : Option Addr) (kV doc pm : Value) (an : Option Addr) (cdv ct : Value) (osl : Array (Option Value)),
    fd = PySem.W.fnOf x qual (defArgs st) (defBody st) (defScope st) .none kV doc pm an cdv ct ∧ K.lookup f = some ⟨oc, od, .func fd, osl⟩ ∧ PySem.W.codeIn K cdv qual = true
  kp : PySem.W.keepIn K (.ref f) = true
section
variable {P : Program} {w : World} {K : PySem.W.Frag} {mg : Str → Option Value} {base : Heap}
theorem Fun.ok {x qual : Str} {st : Stmt} {f : Addr} {fd : FuncData} {N ps : List Str} {k : Nat} {sp : Sp} (F : Fun K x qual st f fd) (S : FnScope N ps (defScope st)) (len : ∀ vs H Q E, sp vs H Q E → vs.length = ps.length)
    (hbody : ∀ (cdv : Value) (A : Around) (outer : List Env) (s : Shared) (H : Hp) (vs : List V) (Q : VK) (E : XK), Room k (A.deeper (envOfC qual (defScope st) s.heap.objs.size f cdv)) → sp vs H Q E →
      ∃ t, PSs (cxOf CX0 P w K mg base N qual (defScope st) f cdv A outer s H E).nox (defBody st) t ∧ t { nx := fun _ H' => Q .non H', rt := Q } (start N vs) H) : FnOk P w K mg base CX0 (k + 1) f fd ps sp := by
  obtain ⟨oc, od, kV, doc, pm, an, cdv, ct, osl, rfl, lk, hcd⟩ := F.ex
  refine fn_of lk hcd S len fun A outer s H vs Q E hr hsp => ?_
  obtain ⟨t, h, q⟩ := hbody cdv A outer s H vs Q E hr hsp
  exact ⟨t, h.nox, q⟩
theorem Fun.okz {x qual : Str} {st : Stmt} {f : Addr} {fd : FuncData} {N ps : List Str} {k : Nat} {sp : Sp} (F : Fun K x qual st f fd) (S : FnScope N ps (defScope st)) (len : ∀ vs H Q E, sp vs H Q E → vs.length = ps.length)
    (hbody : ∀ (cdv : Value) (A : Around) (outer : List Env) (s : Shared) (H : Hp) (vs : List V) (Q : VK) (E : XK), Room k (A.deeper (envOfC qual (defScope st) s.heap.objs.size f cdv)) → sp vs H Q E →
      ∃ t, ZSs (cxOf CX0 P w K mg base N qual (defScope st) f cdv A outer s H E).nox (defBody st) t ∧ t { nx := fun _ H' => Q .non H', rt := Q } (start N vs) H) : FnOk P w K mg base CX0 (k + 1) f fd ps sp :=
  F.ok S len fun cdv A outer s H vs Q E hr h => let ⟨t, h1, h2⟩ := hbody cdv A outer s H vs Q E hr h; ⟨t, h1.p, h2⟩
theorem Fun.binds {x qual : Str} {st : Stmt} {f : Addr} {fd : FuncData} {ps : List Str} (F : Fun K x qual st f fd)
    (h : ∀ (kV doc pm : Value) (an : Option Addr) (cdv ct : Value) (us : List Value), us.length = ps.length → bindArgs (PySem.W.fnOf x qual (defArgs st) (defBody st) (defScope st) .none kV doc pm an cdv ct) ⟨us, []⟩ = pure (ps.zip us)) : Binds K fd ps [] := by
  obtain ⟨oc, od, kV, doc, pm, an, cdv, ct, osl, rfl, lk, hcd⟩ := F.ex
  exact .all (h kV doc pm an cdv ct)
theorem fun_mk {x qual : Str} {st : Stmt} {f : Addr} {oc : Value} {od an : Option Addr} {osl : Array (Option Value)} {kV doc pm cdv ct : Value} (l : K.lookup f = some ⟨oc, od, .func (PySem.W.fnOf x qual (defArgs st) (defBody st) (defScope st) .none kV doc pm an cdv ct), osl⟩)
    (c : PySem.W.codeIn K cdv qual = true) (k : PySem.W.keepIn K (.ref f) = true) : Fun K x qual st f (PySem.W.fnOf x qual (defArgs st) (defBody st) (defScope st) .none kV doc pm an cdv ct) := ⟨⟨oc, od, kV, doc, pm, an, cdv, ct, osl, rfl, l, c⟩, k⟩
end
theorem small1000 {n : Nat} (h : n ≤ 1000) : n < sizeLine := Nat.lt_of_le_of_lt h (by decide)

section
variable {X : Cx}
end
theorem iteF {A B : Prop} (h : B) : if false = true then A else B := by
  rw [if_neg Bool.false_ne_true]
  exact h
theorem iteT {A B : Prop} (h : A) : if true = true then A else B := by
  rw [if_pos rfl]
  exact h
noncomputable def Same (H H' : Hp) : Prop := ∀ b o, H b = some o → H' b = some o
theorem Same.refl (H : Hp) : Same H H := fun _ _ h => h
theorem Same.trans {H H1 H2 : Hp} (a : Same H H1) (b : Same H1 H2) : Same H H2 := fun c o h => b c o (a c o h)
end L2
set_option Elab.async false
set_option linter.all false
set_option maxRecDepth 100000
set_option maxHeartbeats 4000000
namespace L2
open PySem PySem.Spec PyProof.Rows
noncomputable def clsOf (env : Env) : List (Str × NameKind) → List (Str × Addr) → List (Str × Addr)
  | [], cs => cs
  | y :: r, cs => clsOf env r (if (y.2 == .free) = true then (y.1, (env.cells.lookup y.1).getD 0) :: cs else cs)
theorem closure_ok {env : Env} {scope : Scope} (h : ∀ y ∈ scope.names, y.2 = .free → ∃ c, env.cells.lookup y.1 = some c) : closureFor scope env = pure (clsOf env scope.names []) := by
  simp only [closureFor]
  generalize scope.names = ns at h
  have go : ∀ (ns : List (Str × NameKind)) (cs : List (Str × Addr)), (∀ y ∈ ns, y.2 = .free → ∃ c, env.cells.lookup y.1 = some c) →
      (forIn ns cs fun (x : Str × NameKind) (r : List (Str × Addr)) => (if (x.2 == NameKind.free) = true then do let a ← cellOf env x.1; pure (ForInStep.yield ((x.1, a) :: r)) else pure (ForInStep.yield r) : Sem (ForInStep (List (Str × Addr))))) = (pure (clsOf env ns cs) : Sem (List (Str × Addr))) := by
    intro ns
    induction ns with
    | nil => intro cs _; rfl
    | cons y r ih =>
      intro cs hy
      rw [List.forIn_cons]
      have hr := fun z hz => hy z (List.mem_cons_of_mem _ hz)
      by_cases hf : (y.2 == NameKind.free) = true
      · obtain ⟨c, hc⟩ := hy y List.mem_cons_self (by simpa using hf)
        have e : cellOf env y.1 = pure c := by unfold cellOf; rw [hc]
        rw [if_pos hf, e]
        refine Eq.trans (ih ((y.1, c) :: cs) hr) (congrArg pure ?_)
        show _ = clsOf env r (if (y.2 == .free) = true then (y.1, (env.cells.lookup y.1).getD 0) :: cs else cs)
        rw [if_pos hf, hc]
        rfl
      · rw [if_neg hf]
        refine Eq.trans (ih cs hr) (congrArg pure ?_)
        show _ = clsOf env r (if (y.2 == .free) = true then (y.1, (env.cells.lookup y.1).getD 0) :: cs else cs)
        rw [if_neg hf]
  have e := go ns [] h
  exact (congrArg (fun (t : Sem (List (Str × Addr))) => t >>= fun cs => pure cs) e).trans rfl
theorem clsOf_look {env : Env} : ∀ (ns : List (Str × NameKind)) (cs : List (Str × Addr)), (∀ y ∈ ns, y.2 = .free → ∃ c, env.cells.lookup y.1 = some c) → (∀ n c, cs.lookup n = some c → env.cells.lookup n = some c) →
    ∀ n c, (clsOf env ns cs).lookup n = some c → env.cells.lookup n = some c
  | [], cs, _, hc => hc
  | y :: r, cs, hy, hc => by
    refine clsOf_look r _ (fun z hz => hy z (List.mem_cons_of_mem _ hz)) fun n c e => ?_
    by_cases hf : (y.2 == NameKind.free) = true
    · rw [if_pos hf, List.lookup_cons] at e
      obtain ⟨c', hc'⟩ := hy y List.mem_cons_self (by simpa using hf)
      cases hn : n == y.1 with
      | true =>
        rw [hn] at e
        have en : n = y.1 := by simpa using hn
        rw [hc'] at e
        rw [en, hc']
        exact e
      | false => rw [hn] at e; exact hc n c e
    · rw [if_neg hf] at e
      exact hc n c e
theorem clsOf_has {env : Env} : ∀ (ns : List (Str × NameKind)) (cs : List (Str × Addr)) (n : Str), ((n, NameKind.free) ∈ ns ∨ ∃ c, cs.lookup n = some c) → ∃ c, (clsOf env ns cs).lookup n = some c
  | [], cs, n, h => by
    rcases h with h | h
    · cases h
    · exact h
  | y :: r, cs, n, h => by
    refine clsOf_has r _ n ?_
    rcases h with h | ⟨c, h⟩
    · rcases List.mem_cons.mp h with e | h
      · refine .inr ⟨(env.cells.lookup n).getD 0, ?_⟩
        have e2 : y.2 = .free := by rw [← e]
        have e1 : y.1 = n := by rw [← e]
        rw [if_pos (by rw [e2]; rfl), e1, List.lookup_cons]
        simp
      · exact .inl h
    · refine .inr ?_
      by_cases hf : (y.2 == NameKind.free) = true
      · rw [if_pos hf, List.lookup_cons]
        cases hn : n == y.1 with
        | true => exact ⟨_, rfl⟩
        | false => exact ⟨c, h⟩
      · rw [if_neg hf]; exact ⟨c, h⟩
noncomputable def rlOf (env : Env) (y : Str × NameKind) : Str × NameKind := if (y.2 == NameKind.free && env.scope.kind == .function && env.kindOf y.1 == some .cell) = true then (y.1, NameKind.cell) else (y.1, y.2)
theorem rl_look {env : Env} : ∀ {names : List (Str × NameKind)} {x : Str} {k' : NameKind}, (names.map (rlOf env)).lookup x = some k' →
    ∃ k, (x, k) ∈ names ∧ names.lookup x = some k ∧ (k' = k ∨ (k = .free ∧ k' = .cell))
  | [], _, _, h => by simp at h
  | (n, k) :: r, x, k', h => by
    have ih := @rl_look env r x k'
    rw [List.map_cons] at h
    unfold rlOf at h
    dsimp only at h
    cases hx : x == n with
    | true =>
      have en : x = n := by simpa using hx
      refine ⟨k, by rw [en]; exact List.mem_cons_self, by simp [List.lookup_cons, hx], ?_⟩
      by_cases hc : (k == NameKind.free && env.scope.kind == .function && env.kindOf n == some .cell) = true
      · rw [if_pos hc, List.lookup_cons, hx] at h
        have hk : k = .free := by
          have := (Bool.and_eq_true_iff.mp (Bool.and_eq_true_iff.mp hc).1).1
          simpa using this
        exact .inr ⟨hk, by cases h; rfl⟩
      · rw [if_neg hc, List.lookup_cons, hx] at h
        exact .inl (by cases h; rfl)
    | false =>
      have h' : (r.map (rlOf env)).lookup x = some k' := by
        by_cases hc : (k == NameKind.free && env.scope.kind == .function && env.kindOf n == some .cell) = true
        · rw [if_pos hc, List.lookup_cons, hx] at h; exact h
        · rw [if_neg hc, List.lookup_cons, hx] at h; exact h
      obtain ⟨k, h1, h2, h3⟩ := ih h'
      exact ⟨k, List.mem_cons_of_mem _ h1, by rw [List.lookup_cons, hx]; exact h2, h3⟩
theorem rl_has {env : Env} : ∀ {names : List (Str × NameKind)} {x : Str} {k : NameKind}, names.lookup x = some k → ∃ k', (names.map (rlOf env)).lookup x = some k'
  | [], _, _, h => by simp at h
  | (n, k0) :: r, x, k, h => by
    have ih := @rl_has env r x k
    rw [List.map_cons]
    have e1 : (rlOf env (n, k0)).1 = n := by unfold rlOf; split <;> rfl
    have e0 : rlOf env (n, k0) = (n, (rlOf env (n, k0)).2) := by rw [Prod.ext_iff]; exact ⟨e1, rfl⟩
    rw [e0, List.lookup_cons]
    cases hx : x == n with
    | true => exact ⟨_, rfl⟩
    | false =>
      rw [List.lookup_cons, hx] at h
      exact ih h

noncomputable def cmpX (X : Cx) (nv : List Str) (ix : List (Str × Nat)) (scope : Scope) (C : Addr) (s₀ : Shared) (H₀ : Hp) (fp : List Addr) : Cx :=
  { X with N := nv ++ ix.map (·.1), s₀ := s₀, H₀ := H₀, env := compEnvC scope (clsOf X.env scope.names []) C X.env, outer := X.stack, stack := X.stack, ex := fp, fn := fun _ => false, pn := [], xe := fun _ _ => False }
noncomputable def frV (σ : St) (ix : List (Str × Nat)) : St := ix.map fun p => (σ[p.2]?).join
noncomputable def st0 (nv : List Str) (ix : List (Str × Nat)) (σ : St) : St := nv.map (fun _ => none) ++ frV σ ix
structure CompOk (X : Cx) (nv : List Str) (ix : List (Str × Nat)) (scope : Scope) : Prop where
  kind : scope.kind = .function
  nocell : ∀ y ∈ scope.names, y.2 ≠ .cell
  names : ∀ y ∈ scope.names, y.2 = .local → scope.names.lookup y.1 = some .local
  free : (scope.names.all fun y => !(y.2 == NameKind.free) || (X.env.kindOf y.1 == some NameKind.cell || X.env.kindOf y.1 == some NameKind.free)) = true
  ix : (ix.all fun p => (scope.names.lookup p.1 == some NameKind.free) && (X.N[p.2]? == some p.1)) = true
section
variable {X : Cx} {nv : List Str} {ix : List (Str × Nat)} {scope : Scope} {pins : List (Addr × Obj)} {σ : St} {H : Hp} {s : Shared}
theorem CompOk.fk (co : CompOk X nv ix scope) {y : Str × NameKind} (hy : y ∈ scope.names) (hf : y.2 = .free) : X.env.kindOf y.1 = some .cell ∨ X.env.kindOf y.1 = some .free := by
  have q := List.all_eq_true.mp co.free y hy
  rw [hf] at q
  simpa using q
theorem CompOk.cells (co : CompOk X nv ix scope) (ok : X.Ok) : ∀ y ∈ scope.names, y.2 = .free → ∃ c, X.env.cells.lookup y.1 = some c := fun y hy hf => ok.has y.1 (co.fk hy hf)
theorem CompOk.look (co : CompOk X nv ix scope) (ok : X.Ok) {n : Str} {c : Addr} (h : (clsOf X.env scope.names []).lookup n = some c) : X.env.cells.lookup n = some c :=
  clsOf_look _ _ (co.cells ok) (fun _ _ e => by cases e) n c h
theorem CompOk.ixp (co : CompOk X nv ix scope) {p : Str × Nat} (hp : p ∈ ix) : scope.names.lookup p.1 = some .free ∧ X.N[p.2]? = some p.1 := by
  have q := Bool.and_eq_true_iff.mp (List.all_eq_true.mp co.ix p hp)
  exact ⟨by simpa using q.1, by simpa using q.2⟩
theorem lookup_mem {α : Type} : ∀ {l : List (Str × α)} {n : Str} {k : α}, l.lookup n = some k → (n, k) ∈ l
  | [], _, _, h => by cases h
  | (m, j) :: r, n, k, h => by
    rw [List.lookup_cons] at h
    cases e : n == m with
    | true => rw [e] at h; cases h; have : n = m := by simpa using e
              rw [this]; exact List.mem_cons_self
    | false => rw [e] at h; exact List.mem_cons_of_mem _ (lookup_mem h)
theorem cmpX_ok (co : CompOk X nv ix scope) (I : Inv X pins σ H s) {fp : List Addr} {C : Addr} (hC : s.heap.objs.size ≤ C) (hf : ∀ b ∈ fp, FpOk X pins H b) (hlt : ∀ b ∈ fp, b < s.heap.objs.size) : (cmpX X nv ix scope C s H fp).Ok where
  mod := I.mod
  kind := co.kind
  glob := I.ok.glob
  blt := I.ok.blt
  above := hC
  inj := fun x y c a b => I.ok.inj x y c (co.look I.ok a) (co.look I.ok b)
  has := fun x hk => by
    have z : ∃ k, (x, k) ∈ scope.names ∧ k = .free := by
      rcases hk with hk | hk
      · obtain ⟨k, h1, _, h3⟩ := rl_look (env := X.env) (names := scope.names) hk
        rcases h3 with h3 | ⟨h3, _⟩
        · exact absurd h3.symm (co.nocell _ h1)
        · exact ⟨k, h1, h3⟩
      · obtain ⟨k, h1, _, h3⟩ := rl_look (env := X.env) (names := scope.names) hk
        rcases h3 with h3 | ⟨_, h3⟩
        · exact ⟨k, h1, h3.symm⟩
        · cases h3
    obtain ⟨k, h1, rfl⟩ := z
    exact clsOf_has _ _ x (.inl h1)
  cab := fun x c h _ => by cases h
  hd := I.ok.hd
  frames := I.ok.frames
  stk := .inl rfl
  exf := fun b hb => ⟨Nat.ne_of_lt (Nat.lt_of_lt_of_le (hlt b hb) hC), fun x c e => (hf b hb).2.2.2.2.1 x c (co.look I.ok e)⟩
  bs := fun b o e => I.bs b o e
  bsz := Nat.le_trans I.ok.bsz I.sz
  noex := fun b o e hb => by
    rcases (hf b hb).2.2.2.1 with z | z
    · exact I.ok.noex b o e z
    · exact absurd (Nat.lt_of_lt_of_le (Heap.lt_size e) (Nat.le_trans I.ok.bsz z)) (Nat.lt_irrefl _)
  exfs := fun b hb hs => by
    rcases List.mem_cons.mp (I.stkSub b hs) with e | h
    · exact (hf b hb).2.1 e
    · exact (hf b hb).2.2.1 h
  funs := I.stack
  frf := I.stkFree
noncomputable abbrev lobj (its : List Value) (k : Nat) : Obj := { cls := .type "list", data := .seq its.toArray k }
theorem join_some {o : Option (Option V)} {v : V} (h : o.join = some v) : o = some (some v) := by
  cases o with
  | none => cases h
  | some o' => exact congrArg some h
theorem cmp_start (co : CompOk X nv ix scope) (I : Inv X pins σ H s) {fp : List Addr} {h₁ : Heap} {tk : Nat} {m : Str → Option Value} (hf : ∀ b ∈ fp, FpOk X pins H b) (hlt : ∀ b ∈ fp, b < s.heap.objs.size)
    (hn : h₁.Ns (s.heap.objs.size + 1) m) (old : ∀ b o, s.heap.get? b = some o → h₁.get? b = some o) (hD : h₁.get? s.heap.objs.size = some (lobj [] 0)) :
    Inv (cmpX X nv ix scope (s.heap.objs.size + 1) s H fp) [(s.heap.objs.size, lobj [] 0)] (st0 nv ix σ) H { s with heap := h₁, toks := tk } where
  ok := cmpX_ok co I (Nat.le_succ _) hf hlt
  os := rfl
  bare := I.bare
  base := Un.kept old
  loc := by
    refine ⟨m, hn, fun i x v e1 e2 hv => ?_⟩
    obtain ⟨m₀, _, hl⟩ := I.loc
    have e1' : (nv ++ ix.map (·.1))[i]? = some x := e1
    unfold st0 at e2
    by_cases hi : i < nv.length
    · rw [List.getElem?_append_left (by rw [List.length_map]; exact hi), List.getElem?_map] at e2
      cases q : nv[i]? with
      | none => rw [q] at e2; cases e2
      | some z => rw [q] at e2; cases e2
    · have hi' : nv.length ≤ i := Nat.not_lt.mp hi
      rw [List.getElem?_append_right hi', List.getElem?_map] at e1'
      rw [List.getElem?_append_right (by rw [List.length_map]; exact hi'), List.length_map] at e2
      unfold frV at e2
      rw [List.getElem?_map] at e2
      cases q : ix[i - nv.length]? with
      | none => rw [q] at e1'; cases e1'
      | some p =>
        rw [q] at e1' e2
        have hp : p ∈ ix := List.mem_of_getElem? q
        have ex : p.1 = x := Option.some.inj e1'
        have ev : σ[p.2]? = some (some v) := join_some (Option.some.inj e2)
        obtain ⟨f1, f2⟩ := co.ixp hp
        have hk := co.fk (lookup_mem f1) rfl
        obtain ⟨u, r, l⟩ := hl p.2 p.1 v f2 ev (hk.elim (fun z => .inr (.inl z)) fun z => .inr (.inr z))
        refine ⟨u, r, .inr ⟨?_, ?_⟩⟩
        · obtain ⟨k', hk'⟩ := rl_has (env := X.env) f1
          obtain ⟨k, h1, h2, h3⟩ := rl_look hk'
          rw [f1] at h2
          cases h2
          rw [← ex]
          rcases h3 with h3 | ⟨_, h3⟩
          · exact .inr (hk'.trans (congrArg some h3))
          · exact .inl (hk'.trans (congrArg some h3))
        · obtain ⟨c, hc⟩ := clsOf_has (env := X.env) scope.names [] p.1 (.inl (lookup_mem f1))
          refine ⟨c, by rw [← ex]; exact hc, ?_⟩
          have hc' := co.look I.ok hc
          rcases l with ⟨z, _⟩ | ⟨_, c', z1, o, z2, z3⟩
          · have z' : X.env.kindOf p.1 = some .local := z
            rcases hk with hk | hk
            · have hk' : X.env.kindOf p.1 = some .cell := hk
              rw [z'] at hk'; cases hk'
            · have hk' : X.env.kindOf p.1 = some .free := hk
              rw [z'] at hk'; cases hk'
          · rw [hc'] at z1
            cases z1
            exact ⟨o, old _ _ z2, z3⟩
  cell := fun x c e => by
    obtain ⟨v, o, h1, h2⟩ := I.cell x c (co.look I.ok e)
    exact ⟨v, o, old _ _ h1, h2⟩
  free := I.hok.fresh (Nat.le_succ _)
  freeC := fun x c e => I.freeC x c (co.look I.ok e)
  pin := fun p hp => by
    have e : p = (s.heap.objs.size, lobj [] 0) := by simpa [cmpX] using hp
    subst e
    refine ⟨hD, I.hok.fresh (Nat.le_refl _), Nat.ne_of_lt (Nat.lt_succ_self _), fun hb => ?_, fun v z => by cases z⟩
    rcases List.mem_cons.mp (I.stkSub _ hb) with e | h
    · exact absurd I.lt (by rw [← e]; exact Nat.lt_irrefl _)
    · exact I.nofs (Nat.le_refl _) h
  hok := I.hok.kept old
  len := by
    show (nv.map (fun _ => none) ++ frV σ ix).length = (nv ++ ix.map (·.1)).length
    unfold frV
    simp
theorem Inv.track {D : Addr} {ys its : List _} {k : Nat} (I : Inv X pins σ H s) (rv : Vals ys its) (hz : ys.length ≤ sizeLine) (e : s.heap.get? D = some (lobj its k)) (hn : H D = none) (hd : FpOk X pins H D) : Inv X pins σ (upd H D (.lst ys)) s := by
  have nD : ∀ b u, H b = some u → b ≠ D := fun b u q z => by rw [z, hn] at q; cases q
  obtain ⟨h1, h2, h3, h4, h5, h6⟩ := hd
  refine I.step (s := s) (h' := s.heap) (g' := s.gens) (t' := s.toks) (d' := s.drawn) (ch := [D]) (fun b hb => ?_) (fun b o _ _ _ q _ => q) (fun b o _ _ _ q _ => ⟨o.slots, q⟩) (fun b o hb _ q => ?_) (fun b o _ q => ⟨o, q⟩)
    (fun b xs q => by rw [upd_ne (nD b _ q)]; exact q) (fun b o u q => by rw [upd_ne (nD b _ q)]; exact q) (fun b ps q => ⟨#[], by rw [upd_ne (nD b _ q), q]; simp⟩) (fun m hm => hm) (fun b u q => ?_) I.bare
  · have e : b = D := by simpa using hb
    subst e
    exact ⟨h4, h2, h5, h6⟩
  · rw [upd_ne (fun z => hb (by simp [z]))]; exact q
  · by_cases hb : b = D
    · subst hb
      rw [upd_same] at q
      cases q
      exact ⟨hz, its, k, rv, e⟩
    · rw [upd_ne hb] at q
      exact (I.hok b u q).stay (fun c v _ r => r) (fun c r => by rw [upd_ne (nD c _ r)]; exact r) fun c xs r => by rw [upd_ne (nD c _ r)]; exact r
theorem cmp_end {ps2 : List (Addr × Obj)} {σ2 : St} {H' : Hp} {s' : Shared} {fp : List Addr} {C : Addr} (I : Inv X pins σ H s) (hf : ∀ b ∈ fp, FpOk X pins H b) (Ic : Inv (cmpX X nv ix scope C s H fp) ps2 σ2 H' s') : Inv X pins σ H' s' :=
  I.call' (ch := fp) Ic.os Ic.base Ic.hok Ic.bare fun b hb => ⟨(hf b hb).2.2.2.1, (hf b hb).2.1, (hf b hb).2.2.2.2.1, (hf b hb).2.2.2.2.2⟩

noncomputable def PIf (X : Cx) (ifs : List Expr) (t : TT) : Prop :=
  ∀ (pins : List (Addr × Obj)) (s : Shared) (σ : St) (H : Hp) (Q : Bool → Hp → Prop), Inv X pins σ H s → t σ H Q →
    wpAny (model X.prog X.w) X.A (forIn ifs true fun c r => if r = true then do let ok ← isTrue c X.env (eval c X.env); pure (ForInStep.yield ok) else pure (ForInStep.yield r)) (TP X pins σ Q) X.xe s
@[irreducible] noncomputable def ZIf (X : Cx) (ifs : List Expr) (t : TT) : Prop := PIf X ifs t
noncomputable def tYes : TT := fun _ H Q => Q true H
theorem pif_nil : PIf X [] tYes := fun _ _ _ H _ I h => wpAny_tests_nil ⟨H, I, h⟩
theorem zif_nil : ZIf X [] tYes := by with_unfolding_all exact pif_nil 
theorem pif_one {c : Expr} {t : TT} (h : PT X c t) : PIf X [c] t := fun pins s σ H Q I q => wpAny_tests_one (h pins s σ H Q I q)
theorem zif_one {c : Expr} {t : TT} (h : ZT X c t) : ZIf X [c] t := by with_unfolding_all exact pif_one h
end
section
variable {prog : Program} {w : World} {A : Around} {E : Value → Shared → Prop} {R : Result → Shared → Prop} {s : Shared}
theorem compLoop_go {elt target iter : Expr} {ifs : List Expr} {scope : Scope} {pos : Pos} {it acc : Value} {env : Env} (I : Nat → Shared → Prop)
    (turn : ∀ n s, I n s → wpAny (model prog w) A (pyNext it) (fun r s₁ => match r with
      | none => R (.ok .next) s₁
      | some v => wpAny (model prog w) A (letOwnedTupleGo target it v) (fun _ s₁' => wpAny (model prog w) A (assign target env v) (fun _ s₂ =>
          wpAny (model prog w) A (forIn ifs true fun c r => if r = true then do let ok ← isTrue c env (eval c env); pure (ForInStep.yield ok) else pure (ForInStep.yield r)) (fun ok s₃ =>
            if ok = true then wpAny (model prog w) A (eval elt env) (fun x s₄ =>
              wpAny (model prog w) A (call (.builtin "list.append") [acc, x]) (fun _ s₅ => ∃ m, m < n ∧ I m s₅) (fun _ _ => False) s₄) (fun _ _ => False) s₃
            else ∃ m, m < n ∧ I m s₃) (fun _ _ => False) s₂) (fun _ _ => False) s₁') (fun _ _ => False) s₁) (fun _ _ => False) s)
    (n : Nat) (h : I n s) :
    codeAny (model prog w) A (.compLoop (.ListComp elt [⟨target, iter, ifs, 0⟩] scope pos) 0 it acc env) R s := by
  refine codeAny_loop rfl I (fun n s hI => ?_) n h
  show wpAny _ A ((compTurn (.ListComp elt [⟨target, iter, ifs, 0⟩] scope pos) 0 it acc env).onRaise (fun x => do noteFrame x env; theTreesLotGoes x)) _ _ s
  refine wpAny_noted ?_
  rw [compTurn_list]
  refine wpAny_bind (wpAny_standAt (wpAny_bind (wpAny_mono (turn n s hI) (fun r s₁ h₁ => ?_) fun _ _ h' => h'.elim)))
  cases r with
  | none => exact wpAny_pure h₁
  | some v =>
    refine wpAny_bind (wpAny_mono h₁ (fun _ s₁' h₁' => ?_) fun _ _ h' => h'.elim)
    refine wpAny_bind (wpAny_mono h₁' (fun _ s₂ h₂ => wpAny_bind (wpAny_mono h₂ (fun ok s₃ h₃ => ?_) fun _ _ h' => h'.elim)) fun _ _ h' => h'.elim)
    cases ok with
    | false => exact wpAny_pure ⟨rfl, h₃⟩
    | true =>
      exact wpAny_bind (wpAny_bind (wpAny_mono h₃ (fun x s₄ h₄ => wpAny_bind (wpAny_mono h₄ (fun _ s₅ h₅ => wpAny_pure (wpAny_pure ⟨rfl, h₅⟩)) fun _ _ h' => h'.elim)) fun _ _ h' => h'.elim))
end
section
variable {X : Cx} {nv : List Str} {ix : List (Str × Nat)} {scope : Scope} {pins : List (Addr × Obj)} {σ : St} {H : Hp} {s : Shared} {elt tg iter : Expr} {ifs : List Expr} {pos : Pos}
noncomputable def Kp (σ σ2 : St) : Prop := σ.length = σ2.length ∧ ∀ (i : Nat) v, σ[i]? = some (some v) → σ2[i]? = some (some v)
noncomputable def KpG (nv : List Str) (g : TG) : Prop := ∀ (fr : St) (v : V) (H : Hp) (Q : St → Hp → Prop), g v (nv.map (fun _ => none) ++ fr) H Q → g v (nv.map (fun _ => none) ++ fr) H fun σ2 H2 => Kp (nv.map (fun _ => none) ++ fr) σ2 ∧ Q σ2 H2
theorem kpg_name {x : Str} : KpG [x] (gName 0) := fun fr v H Q h => by
  refine ⟨⟨by simp, fun i w e => ?_⟩, h⟩
  cases i with
  | zero => cases e
  | succ i => exact e
noncomputable def CmpW (nv : List Str) (ix : List (Str × Nat)) (g : TG) (ti : TT) (te : TE) (σ : St) (J : It) (Fin : List V → Hp → Prop) (H1 : Hp) : Prop :=
  ∃ W : Nat → Nat → List V → Hp → Prop, (∃ m, W 0 m [] H1) ∧ ∀ i m ys H, W i m ys H →
    (J.stop i H ∧ Fin ys H) ∨ (J.go i H ∧ ys.length < sizeLine ∧ ∃ N : List V → Hp → Prop, (∀ ys' H', N ys' H' → ∃ m', m' < m ∧ W (i + 1) m' ys' H') ∧
      ∀ x H', J.yld i H x H' → g x (st0 nv ix σ) H' fun σ2 H2 => ti σ2 H2 fun b H3 => if b = true then te σ2 H3 fun y H4 => N (ys ++ [y]) H4 else N ys H3)
theorem comp_run {J : It} {fp : List Addr} {it : Addr} {tn : Nat → Heap → Prop} {g : TG} {ti : TT} {te : TE} {Fin : List V → Hp → Prop} {E : Value → Shared → Prop} {RR : Value → Addr → Result → Shared → Prop}
    (co : CompOk X nv ix scope) (hc : X.calm = true) (I : Inv X pins σ H s) (T : Turn X.prog X.w X.K tg J fp it tn) (st : tn 0 s.heap) (hf : ∀ b ∈ fp, FpOk X pins H b)
    (kg : KpG nv g) (hg : ∀ C s₀ H₀ fp, PG (cmpX X nv ix scope C s₀ H₀ fp) tg g) (hi : ∀ C s₀ H₀ fp, PIf (cmpX X nv ix scope C s₀ H₀ fp) ifs ti) (he : ∀ C s₀ H₀ fp, PE (cmpX X nv ix scope C s₀ H₀ fp) elt te)
    (q : CmpW nv ix g ti te σ J Fin H)
    (fin : ∀ D C s' H' ys, Inv X pins σ (upd H' D (.lst ys)) s' → H' D = none → Fin ys H' → (∃ m, s'.heap.Ns C m) → FpOk X pins (upd H' D (.lst ys)) C → RR (.ref D) C (.ok .next) s') :
    wpAny (model X.prog X.w) X.A (newList []) (fun acc s₃ => wpAny (model X.prog X.w) X.A (newFunctionEnv scope X.env.globals (clsOf X.env scope.names []) [] X.env.qual none .none (some X.env)) (fun cenv s₄ =>
      codeAny (model X.prog X.w) X.A (.compStart (.ListComp elt [⟨tg, iter, ifs, 0⟩] scope pos) 0 (.ref it) acc { cenv with scope := relabel scope X.env }) (RR acc cenv.locals) s₄) E s₃) E s := by
  obtain ⟨W, ⟨m0, w0⟩, turn⟩ := q
  refine wpAny_newObj_type (wpAny_newFunctionEnv co.nocell (by intro y hy; simp at hy) (fun h₁ hns₁ hsb₁ => ?_) co.kind)
  dsimp only at hns₁ hsb₁ ⊢
  generalize hH2 : s.heap.push { cls := .type "list", dict := none, data := .seq ([] : List Value).toArray } = H2 at hns₁ hsb₁ ⊢
  have hC : H2.objs.size = s.heap.objs.size + 1 := by rw [← hH2, Heap.size_push]
  rw [hC] at hns₁ hsb₁ ⊢
  have hDC : s.heap.objs.size ≠ s.heap.objs.size + 1 := Nat.ne_of_lt (Nat.lt_succ_self _)
  have below : ∀ b, b < s.heap.objs.size → b ≠ s.heap.objs.size + 1 ∧ b ≠ s.heap.objs.size := fun b hb => ⟨Nat.ne_of_lt (Nat.lt_succ_of_lt hb), Nat.ne_of_lt hb⟩
  have old : ∀ b o, s.heap.get? b = some o → h₁.get? b = some o := fun b o e => hsb₁.extBut b o (below b (Heap.lt_size e)).1 (Heap.get?_push_of_some _ (hH2 ▸ Heap.get?_push_of_some _ e))
  have hacc : h₁.get? s.heap.objs.size = some (lobj [] 0) := hsb₁.extBut _ _ hDC (Heap.get?_push_of_some _ (hH2 ▸ Heap.get?_push_size _ rfl))
  have hlt : ∀ b ∈ fp, b < s.heap.objs.size := fun b hb => by
    obtain ⟨o, e, _⟩ := T.obj 0 _ st b hb
    exact Heap.lt_size e
  have I₁ := fun tk => cmp_start (tk := tk) co I hf hlt hns₁ old hacc
  have st₁ : tn 0 h₁ := T.keep 0 _ _ st fun b _ o e => old b o e
  have fpD : ∀ {H' : Hp}, H' s.heap.objs.size = none → FpOk X pins H' s.heap.objs.size := fun hn => I.fpOk (Nat.le_refl _) hn
  have loop : ∀ tk : Nat, codeAny (model X.prog X.w) X.A (.compLoop (.ListComp elt [⟨tg, iter, ifs, 0⟩] scope pos) 0 (.ref it) (.ref s.heap.objs.size) (compEnvC scope (clsOf X.env scope.names []) (s.heap.objs.size + 1) X.env))
      (RR (.ref s.heap.objs.size) (s.heap.objs.size + 1)) { s with heap := h₁, toks := tk } := by
    intro tk
    refine compLoop_go (fun n s' => ∃ i H' ys its k, Inv (cmpX X nv ix scope (s.heap.objs.size + 1) s H fp) [(s.heap.objs.size, lobj its k)] (st0 nv ix σ) H' s' ∧ Vals ys its ∧ ys.length ≤ sizeLine ∧ tn i s'.heap ∧ (∀ b ∈ fp, H' b = none) ∧ W i n ys H')
      ?_ m0 ⟨0, H, [], [], 0, I₁ tk, .nil, Nat.zero_le _, st₁, fun b hb => (hf b hb).1, w0⟩
    rintro n s3 ⟨i, H3, ys, its, k, I3, rv, hz, st3, fr3, w3⟩
    have fpc : ∀ {H' : Hp} {its : List Value} {k : Nat}, (∀ b ∈ fp, H' b = none) → ∀ b ∈ fp, FpOk (cmpX X nv ix scope (s.heap.objs.size + 1) s H fp) [(s.heap.objs.size, lobj its k)] H' b := fun {H' its k} hn b hb => by
      refine ⟨hn b hb, (below b (hlt b hb)).1, fun hs => ?_, .inl hb, fun x c e => (hf b hb).2.2.2.2.1 x c (co.look I.ok e), fun p hp z => ?_⟩
      · rcases List.mem_cons.mp (I.stkSub b hs) with e | h
        · exact (hf b hb).2.1 e
        · exact (hf b hb).2.2.1 h
      · have e : p = (s.heap.objs.size, lobj its k) := by simpa [cmpX] using hp
        subst e
        exact (below b (hlt b hb)).2 z.symm
    have pD := fun {ps : List (Addr × Obj)} {σ' : St} {H' : Hp} {s' : Shared} (I' : Inv (cmpX X nv ix scope (s.heap.objs.size + 1) s H fp) ((s.heap.objs.size, lobj its k) :: ps) σ' H' s') =>
      I'.pin (s.heap.objs.size, lobj its k) (List.mem_append_right _ List.mem_cons_self)
    rcases turn i n ys H3 w3 with ⟨stop, fin0⟩ | ⟨go, hlt', N, hN, step⟩
    · refine thn (T.done (cmpX X nv ix scope (s.heap.objs.size + 1) s H fp) rfl rfl rfl hc i _ s3 _ H3 _ I3 (fpc fr3) st3 stop) fun r s4 ⟨hr, I4⟩ => ?_
      subst hr
      obtain ⟨p1, p2, _⟩ := pD I4
      have I5 := (cmp_end I hf I4).track rv hz p1 p2 (fpD p2)
      obtain ⟨mC, hmC, _⟩ := I4.loc
      exact fin _ _ s4 H3 ys I5 p2 fin0 ⟨mC, hmC⟩ (I.fpOk (Nat.le_succ _) (by rw [upd_ne (Ne.symm hDC)]; exact I4.free))
    · refine thn (T.item (cmpX X nv ix scope (s.heap.objs.size + 1) s H fp) rfl rfl rfl hc i _ s3 _ H3 _ I3 (fpc fr3) st3 go) fun r s4 ⟨u, hr, h4⟩ => ?_
      subst hr
      refine thn h4 fun _ s5 ⟨x, H5, I5, r5, y5, st5, fr5⟩ => ?_
      have I5' := I5.pinned (fpc fr5) (T.obj _ _ st5)
      refine thn (hg _ _ _ _ _ s5 _ H5 x u _ I5' r5 (kg _ _ _ _ (step x H5 y5))) fun _ s6 ⟨σ6, H6, I6, kp, q6⟩ => ?_
      refine thn (hi _ _ _ _ _ s6 σ6 H6 _ I6 q6) fun b s7 ⟨H7, I7, q7⟩ => ?_
      have again : ∀ {s7 : Shared} {H7 : Hp} {ys' its' : List _} {k' : Nat}, Inv (cmpX X nv ix scope (s.heap.objs.size + 1) s H fp) ([(s.heap.objs.size, lobj its' k')] ++ pinsAt fp s5.heap) σ6 H7 s7 → Vals ys' its' → ys'.length ≤ sizeLine → N ys' H7 →
          ∃ m, m < n ∧ ∃ i H' ys its k, Inv (cmpX X nv ix scope (s.heap.objs.size + 1) s H fp) [(s.heap.objs.size, lobj its k)] (st0 nv ix σ) H' s7 ∧ Vals ys its ∧ ys.length ≤ sizeLine ∧ tn i s7.heap ∧ (∀ b ∈ fp, H' b = none) ∧ W i m ys H' := fun {s7 H7 ys' its' k'} I8 rv' hz' n8 => by
        obtain ⟨m', hm, w8⟩ := hN _ _ n8
        have pn := fun (b : Addr) (o : Obj) (hb : b ∈ fp) (e : s5.heap.get? b = some o) => I8.pin (b, o) (List.mem_append_right _ (List.mem_append_right _ (mem_pinsAt hb e)))
        refine ⟨m', hm, i + 1, H7, ys', its', k', (I8.unpinned).weak kp.1 kp.2, rv', hz', T.keep _ _ _ st5 fun b hb o e => (pn b o hb e).1, fun b hb => ?_, w8⟩
        obtain ⟨o, e, d⟩ := T.obj _ _ st5 b hb
        exact (pn b o hb e).2.1
      cases b with
      | false =>
        rw [if_neg Bool.false_ne_true] at q7 ⊢
        exact again I7 rv hz q7
      | true =>
        rw [if_pos rfl] at q7 ⊢
        refine thn (he _ _ _ _ _ s7 σ6 H7 _ I7 q7) fun u8 s8 ⟨y, H8, I8, r8, q8⟩ => ?_
        obtain ⟨p1, p2, p3, p4, p5⟩ := pD I8
        refine append_at (hsz := by rw [List.size_toArray, ← rv.length]; exact Nat.le_of_lt hlt') p1 fun h9 hs9 hD9 => ?_
        have I9 : Inv (cmpX X nv ix scope (s.heap.objs.size + 1) s H fp) (pinsAt fp s5.heap) σ6 H8 { s8 with heap := h9 } := by
          have Iu : Inv (cmpX X nv ix scope (s.heap.objs.size + 1) s H fp) (pinsAt fp s5.heap) σ6 H8 s8 := I8.pins_of fun p hp => I8.pin p (List.mem_append_right _ (List.mem_append_right _ hp))
          refine Iu.turned (t' := s8.toks) (it := s.heap.objs.size) (fun b o hb e => (hs9.2 b hb).trans e) p2 p3 (.inr (Nat.le_refl _)) (fun x c e z => ?_) fun p hp z => ?_
          · obtain ⟨v, o, e1, _⟩ := I.cell x c (co.look I.ok e)
            exact absurd (Heap.lt_size e1) (by rw [z]; exact Nat.lt_irrefl _)
          · have hp' : p ∈ pinsAt fp s5.heap := by simpa [cmpX] using hp
            obtain ⟨hb, _⟩ := of_pinsAt hp'
            exact (below _ (hlt _ hb)).2 z
        have I10 : Inv (cmpX X nv ix scope (s.heap.objs.size + 1) s H fp) ([(s.heap.objs.size, lobj (its ++ [u8]) (k + 1))] ++ pinsAt fp s5.heap) σ6 H8 { s8 with heap := h9 } :=
          I9.pins_of fun p hp => by
            rcases List.mem_append.mp hp with hp | hp
            · have e : p = (s.heap.objs.size, lobj (its ++ [u8]) (k + 1)) := by simpa using hp
              subst e
              refine ⟨?_, p2, p3, p4, fun v z => by cases z⟩
              rw [List.push_toArray] at hD9
              exact hD9
            · exact I9.pin p (List.mem_append_right _ hp)
        exact again I10 (rv.append (.cons r8 .nil)) (by rw [List.length_append, List.length_singleton]; exact hlt') q8
  exact codeAny_compStart_list (loop _) (T.self _ 0 _ _ _ st₁ (loop _))

noncomputable def tComp (nv : List Str) (ix : List (Str × Nat)) (wi : TI) (g : TG) (ti : TT) (te : TE) : TE := fun σ H Q => wi σ H fun J H1 => CmpW nv ix g ti te σ J (fun ys H2 => ∀ D, H2 D = none → Q (.ref D) (upd H2 D (.lst ys))) H1
theorem pe_comp {wi : TI} {g : TG} {ti : TT} {te : TE} (nv : List Str) (ix : List (Str × Nat)) (hc : X.calm = true) (co : CompOk X nv ix scope) (hit : PI X tg iter wi) (kg : KpG nv g) (hg : ∀ C s₀ H₀ fp, PG (cmpX X nv ix scope C s₀ H₀ fp) tg g)
    (hi : ∀ C s₀ H₀ fp, PIf (cmpX X nv ix scope C s₀ H₀ fp) ifs ti) (he : ∀ C s₀ H₀ fp, PE (cmpX X nv ix scope C s₀ H₀ fp) elt te)
    (hs : ∀ x, foldedSetIterable iter X.env x = pure x := by intro _; rfl) : PE X (.ListComp elt [⟨tg, iter, ifs, 0⟩] scope pos) (tComp nv ix wi g ti te) := by
  intro pins s σ H Q I h
  rw [eval_ListComp]
  refine wpAny_comprehension_free (use := none) rfl hs (closure_ok (co.cells I.ok)) co.kind co.names (thn (hit pins s σ H _ I h) fun v s1 h1 => thn h1 fun itv s2 h2 => ?_)
  obtain ⟨it, fp, tn, J, H2, e, I2, T, st2, f2, q⟩ := h2
  subst e
  refine comp_run co hc I2 T st2 f2 kg hg hi he q fun D C s' H' ys I' hD fin ⟨m, hm⟩ hC => ?_
  obtain ⟨c0, c1, c2, c3, c4, c5⟩ := hC
  exact ⟨m, hm, fun h' hs' => ⟨.ref D, _, I'.turned (t' := s'.toks) (fun b o hb e => (hs'.2 b hb).trans e) c0 c1 c3 c4 c5, rfl, fin D hD⟩⟩
theorem ze_comp {wi : TI} {g : TG} {ti : TT} {te : TE} (nv : List Str) (ix : List (Str × Nat)) (hc : X.calm = true) (co : CompOk X nv ix scope) (hit : ZI X tg iter wi) (kg : KpG nv g) (hg : ∀ C s₀ H₀ fp, ZG (cmpX X nv ix scope C s₀ H₀ fp) tg g)
    (hi : ∀ C s₀ H₀ fp, ZIf (cmpX X nv ix scope C s₀ H₀ fp) ifs ti) (he : ∀ C s₀ H₀ fp, ZE (cmpX X nv ix scope C s₀ H₀ fp) elt te)
    (hs : ∀ x, foldedSetIterable iter X.env x = pure x := by intro _; rfl) : ZE X (.ListComp elt [⟨tg, iter, ifs, 0⟩] scope pos) (tComp nv ix wi g ti te) := by with_unfolding_all exact pe_comp nv ix hc co hit kg hg hi he hs
end
section
variable {nv : List Str} {ix : List (Str × Nat)} {σ : St} {H : Hp} {g : TG} {ti : TT} {te : TE} {Fin : List V → Hp → Prop} {K : PySem.W.Frag} {a : Addr} {xs : List V}
theorem cmp_tup (Pv : Nat → List V → Hp → Prop) (h0 : Pv 0 [] H) (hl : ∀ i ys H, i ≤ xs.length → Pv i ys H → SqT K H a xs)
    (hs : ∀ i x ys H, xs[i]? = some x → Pv i ys H → ys.length < sizeLine ∧ g x (st0 nv ix σ) H fun σ2 H2 => ti σ2 H2 fun b H3 => if b = true then te σ2 H3 fun y H4 => Pv (i + 1) (ys ++ [y]) H4 else Pv (i + 1) ys H3)
    (hd : ∀ ys H, Pv xs.length ys H → Fin ys H) : CmpW nv ix g ti te σ (Itt K a) Fin H := by
  refine ⟨fun i m ys H => m = xs.length - i ∧ i ≤ xs.length ∧ Pv i ys H, ⟨xs.length, by simp, Nat.zero_le _, h0⟩, ?_⟩
  rintro i m ys H ⟨rfl, hi, p⟩
  have q := hl i ys H hi p
  by_cases hlt : i < xs.length
  · have e := hs i xs[i] ys H (by simp [hlt]) p
    refine .inr ⟨⟨xs, xs[i], q, by simp [hlt]⟩, e.1, Pv (i + 1), fun σ' H' p' => ⟨xs.length - (i + 1), by omega, rfl, hlt, p'⟩, fun x H' y => ?_⟩
    obtain ⟨e', y⟩ := y
    subst e'
    exact (hs i x ys _ (y xs q) p).2
  · have e : i = xs.length := by omega
    subst e
    exact .inl ⟨⟨xs, q, Nat.le_refl _⟩, hd ys H p⟩
end
end L2
set_option Elab.async false
set_option linter.all false
set_option maxRecDepth 100000
set_option maxHeartbeats 4000000
namespace L2
open PySem PySem.Spec PyProof.Rows
theorem Same.new {H : Hp} {p : Addr} (h : H p = none) (o : HO) : Same H (upd H p o) := fun b u q => by rw [upd_ne (ne_of_none q h)]; exact q

section
variable {X : Cx} {a b c : Expr} {ta tb tc : TE} {pos : Pos}
theorem op_mulB : OpR X (binaryOp .Mult) (rI (fun i j => IntMulOk i j) fun i j => .int (i * j)) := opI fun _ _ _ _ _ _ _ hc q => mul_int q hc

end
end L2
set_option Elab.async false
set_option linter.all false
set_option maxRecDepth 100000
set_option maxHeartbeats 4000000
namespace L2
open PySem PySem.Spec PyProof.Rows
section
variable {prog : Program} {w : World} {A : Around} {E : Value → Shared → Prop} {s : Shared}
end
section
variable {X : Cx} {a b c : Expr} {ta tb tc : TE} {pos : Pos}
theorem PE.imp {e : Expr} {t t' : TE} (h : PE X e t) (i : ∀ σ H Q, t' σ H Q → t σ H Q) : PE X e t' := fun pins s σ H Q I q => h pins s σ H Q I (i σ H Q q)
theorem OpR.imp {f : Value → Value → Sem Value} {r r' : R2} (h : OpR X f r) (i : ∀ x y H Q, r' x y H Q → r x y H Q) : OpR X f r' := fun pins s σ H x y v u Q I rx ry q => h pins s σ H x y v u Q I rx ry (i x y H Q q)
noncomputable def tV (i : Nat) : TE := fun σ H Q => match σ[i]? with | some (some v) => Q v H | _ => False
theorem tV_var {i : Nat} (σ : St) (H : Hp) (Q : VK) (h : tV i σ H Q) : tVar i σ H Q := by
  unfold tV at h
  split at h
  · exact ⟨_, by assumption, h⟩
  · exact h.elim
theorem pn (i : Nat) {x : Str} {pos : Pos} (hN : X.N[i]? = some x := by rfl) (hv : Vis X.env.scope x := by first | exact Or.inl rfl | exact Or.inr (Or.inl rfl) | exact Or.inr (Or.inr rfl)) (hd : (x == ("__debug__" : Str)) = false := by decide)
    (hcd : (x == ("__classdict__" : Str)) = false := by decide) : PE X (.Name x pos) (tV i) := (pe_var hN hv hd hcd).imp tV_var
theorem zn (i : Nat) {x : Str} {pos : Pos} (hN : X.N[i]? = some x := by rfl) (hv : Vis X.env.scope x := by first | exact Or.inl rfl | exact Or.inr (Or.inl rfl) | exact Or.inr (Or.inr rfl)) (hd : (x == ("__debug__" : Str)) = false := by decide)
    (hcd : (x == ("__classdict__" : Str)) = false := by decide) : ZE X (.Name x pos) (tV i) := by with_unfolding_all exact pn i hN hv hd hcd
noncomputable def rAddP (K : PySem.W.Frag) : R2 := fun x y H Q => match x, y with
  | .int i, .int j => Q (.int (i + j)) H
  | .str i, .str j => i.length + j.length ≤ sizeLine ∧ Q (.str (i ++ j)) H
  | .ref a, .ref b => (∃ xs ys, H a = some (.lst xs) ∧ H b = some (.lst ys) ∧ xs.length + ys.length ≤ sizeLine ∧ ∀ p, H p = none → Q (.ref p) (upd H p (.lst (xs ++ ys)))) ∨
      ∃ xs ys, H a = some (.tup xs) ∧ H b = some (.tup ys) ∧ xs.length + ys.length ≤ sizeLine ∧ ∀ r H', Same H H' → H' r = some (.tup (xs ++ ys)) → Q (.ref r) H'
  | _, _ => False
theorem op_catA' : OpR X (binaryOp .Add) (fun x y H Q => ∃ a b xs ys, x = .ref a ∧ y = .ref b ∧ H a = some (.tup xs) ∧ H b = some (.tup ys) ∧ xs.length + ys.length ≤ sizeLine ∧ ∀ r H', Same H H' → H' r = some (.tup (xs ++ ys)) → Q (.ref r) H') := by
  intro pins s σ H x y v u Q I rx ry h
  obtain ⟨a, b, xs, ys, rfl, rfl, ha, hb, hz, q⟩ := h
  by_cases hx : xs = []
  · subst hx
    cases rx
    cases ry
    obtain ⟨its, r1, p1, _⟩ := I.tuple (SqT.of ha)
    obtain ⟨its2, r2, p2, _⟩ := I.tuple (SqT.of hb)
    cases r1
    obtain ⟨⟨cls, dd, data, sl⟩, ho, hc, n, hd⟩ := id p1
    obtain ⟨⟨cls2, dd2, data2, sl2⟩, ho2, hc2, n2, hd2⟩ := id p2
    simp only at hc hd hc2 hd2
    subst hc hd hc2 hd2
    exact concat_meets ⟨_, ho, rfl⟩ ⟨_, ho2, rfl⟩ noFill_tuple_add seq_tuple_add PySem.F.slot_tuple_add PySem.F.entry_tuple_add (PySem.F.args_tuple_add_2 _ _)
      (tuple_addW0 a b _ _ n n2 dd dd2 sl sl2 (by rfl)) ⟨ho, ho2, ⟨.ref b, H, I, rfl, q b H (Same.refl H) hb⟩⟩
  · refine op_catT pins s σ H _ _ v u Q I rx ry ⟨a, b, xs, ys, rfl, rfl, SqT.of ha, SqT.of hb, hx, hz, fun e => ?_, fun e p hp => ?_⟩
    · subst e
      exact q a H (Same.refl H) (by rw [List.append_nil]; exact ha)
    · exact q p _ (Same.new hp _) upd_same
theorem op_addP : OpR X (binaryOp .Add) (rAddP X.K) := by
  intro pins s σ H x y v u Q I rx ry h
  unfold rAddP at h
  split at h
  · exact op_add pins s σ H _ _ v u Q I rx ry ⟨_, _, rfl, rfl, h⟩
  · exact op_add_str pins s σ H _ _ v u Q I rx ry ⟨_, _, rfl, rfl, h⟩
  · rcases h with ⟨xs, ys, h1, h2, h3, q⟩ | ⟨xs, ys, h1, h2, h3, q⟩
    · exact op_cat pins s σ H _ _ v u Q I rx ry ⟨_, _, xs, ys, rfl, rfl, h1, h2, h3, q⟩
    · exact op_catA' pins s σ H _ _ v u Q I rx ry ⟨_, _, xs, ys, rfl, rfl, h1, h2, h3, q⟩
  · exact h.elim
noncomputable def rP (C : Int → Int → Prop) (g : Int → Int → V) : R2 := fun x y H Q => match x, y with | .int i, .int j => C i j ∧ Q (g i j) H | _, _ => False
noncomputable def rP0 (g : Int → Int → V) : R2 := fun x y H Q => match x, y with | .int i, .int j => Q (g i j) H | _, _ => False
theorem rP_rI {C : Int → Int → Prop} {g : Int → Int → V} (x y : V) (H : Hp) (Q : VK) (h : rP C g x y H Q) : rI C g x y H Q := by
  unfold rP at h
  split at h
  · exact ⟨_, _, rfl, rfl, h⟩
  · exact h.elim
theorem rP0_rI0 {g : Int → Int → V} (x y : V) (H : Hp) (Q : VK) (h : rP0 g x y H Q) : rI0 g x y H Q := by
  unfold rP0 at h
  split at h
  · exact ⟨_, _, rfl, rfl, h⟩
  · exact h.elim
theorem op_subP : OpR X (binaryOp .Sub) (rP0 fun i j => .int (i - j)) := op_sub.imp rP0_rI0
theorem op_modP : OpR X (binaryOp .Mod) (rP (fun _ j => 0 < j) fun i j => .int (i % j)) := op_mod.imp rP_rI
theorem op_fdivP : OpR X (binaryOp .FloorDiv) (rP CDiv fun i j => .int (i / j)) := op_fdiv.imp rP_rI
theorem op_powP : OpR X (binaryOp .Pow) (rP CPow fun i j => .int (i ^ j.toNat)) := op_pow.imp rP_rI
theorem op_ltP : OpR X (compareOp .Lt) (rP0 fun i j => .bl (decide (i < j))) := op_lt.imp rP0_rI0
theorem op_leP : OpR X (compareOp .LtE) (rP0 fun i j => .bl (decide (i ≤ j))) := op_le.imp rP0_rI0
theorem op_gtP : OpR X (compareOp .Gt) (rP0 fun i j => .bl (decide (j < i))) := op_gt.imp rP0_rI0
theorem op_geP : OpR X (compareOp .GtE) (rP0 fun i j => .bl (decide (j ≤ i))) := op_ge.imp rP0_rI0
noncomputable def rIsP (neg : Bool) : R2 := fun x y H Q => match y with
  | .non => Q (.bl (if neg then !decide (x = y) else decide (x = y))) H
  | .bl _ => match x with
    | .flt _ => False
    | .byt _ => False
    | .ty _ => False
    | _ => Q (.bl (if neg then !decide (x = y) else decide (x = y))) H
  | _ => False
end
end L2
set_option Elab.async false
set_option linter.all false
set_option maxRecDepth 100000
set_option maxHeartbeats 4000000
namespace L2
open PySem PySem.Spec PyProof.Rows
mutual
inductive DatV (H : Hp) : V → PyData → Prop where
  | non : DatV H .non .none
  | bl (b : Bool) : DatV H (.bl b) (.bool b)
  | int (i : Int) : DatV H (.int i) (.int i)
  | str (x : Str) : DatV H (.str x) (.str x)
  | lst {a : Addr} {xs : List V} {ds : List PyData} (e : H a = some (.lst xs)) (r : DatAll H xs ds) : DatV H (.ref a) (.list ds)
  | tup {a : Addr} {xs : List V} {ds : List PyData} (e : H a = some (.tup xs)) (r : DatAll H xs ds) : DatV H (.ref a) (.tuple ds)
inductive DatAll (H : Hp) : List V → List PyData → Prop where
  | nil : DatAll H [] []
  | cons {x : V} {d : PyData} {xs : List V} {ds : List PyData} (h : DatV H x d) (r : DatAll H xs ds) : DatAll H (x :: xs) (d :: ds)
end
mutual
theorem DatV.same {H H' : Hp} (s : Same H H') : ∀ {x : V} {d : PyData}, DatV H x d → DatV H' x d
  | _, _, .non => .non
  | _, _, .bl b => .bl b
  | _, _, .int i => .int i
  | _, _, .str x => .str x
  | _, _, .lst e r => .lst (s _ _ e) (DatAll.same s r)
  | _, _, .tup e r => .tup (s _ _ e) (DatAll.same s r)
theorem DatAll.same {H H' : Hp} (s : Same H H') : ∀ {xs : List V} {ds : List PyData}, DatAll H xs ds → DatAll H' xs ds
  | _, _, .nil => .nil
  | _, _, .cons h r => .cons (DatV.same s h) (DatAll.same s r)
end
theorem DatAll.ints {H : Hp} : ∀ ns : List Int, DatAll H (ns.map V.int) (ns.map PyData.int)
  | [] => .nil
  | n :: r => .cons (.int n) (DatAll.ints r)
section
variable {X : Cx} {pins : List (Addr × Obj)} {σ : St} {H : Hp} {s : Shared}
mutual
theorem DatV.reads (I : Inv X pins σ H s) : ∀ {x : V} {d : PyData} {v : Value}, DatV H x d → RelV x v → ∃ as, Reads s.heap v d as
  | _, _, _, .non, r => by cases r; exact ⟨_, .none⟩
  | _, _, _, .bl b, r => by cases r; exact ⟨_, .bool b⟩
  | _, _, _, .int i, r => by obtain ⟨t, rfl⟩ := r; exact ⟨_, .int i t⟩
  | _, _, _, .str x, r => by obtain ⟨t, rfl⟩ := r; exact ⟨_, .str x t⟩
  | _, _, _, .lst e q, r => by
    cases r
    obtain ⟨_, its, n, rv, h⟩ := I.lstM e
    obtain ⟨_, h⟩ := h
    obtain ⟨as, z⟩ := DatAll.reads I q rv
    exact ⟨_, reads_list_at h rfl rfl z⟩
  | _, _, _, .tup e q, r => by
    cases r
    obtain ⟨its, rv, ⟨o, h1, h2, n, h3⟩, _⟩ := I.tuple (SqT.of e)
    obtain ⟨as, z⟩ := DatAll.reads I q rv
    exact ⟨_, reads_tuple_at h1 h2 h3 z⟩
theorem DatAll.reads (I : Inv X pins σ H s) : ∀ {xs : List V} {ds : List PyData} {vs : List Value}, DatAll H xs ds → Vals xs vs → ∃ as, ReadsAll s.heap vs ds as
  | _, _, _, .nil, r => by cases r; exact ⟨_, .nil⟩
  | _, _, _, .cons h q, r => by
    cases r with
    | cons r1 r2 =>
      obtain ⟨as, z⟩ := DatV.reads I h r1
      obtain ⟨bs, y⟩ := DatAll.reads I q r2
      exact ⟨_, .cons z y⟩
end
end
section
variable {X : Cx} {a b c : Expr} {ta tb tc : TE} {pos : Pos}
noncomputable def rEqD (neg : Bool) : R2 := fun x y H Q => match scal x y with
  | true => Q (.bl (if neg then !decide (x = y) else decide (x = y))) H
  | false => ∃ d e, DatV H x d ∧ DatV H y e ∧ SeqAt.shaped d = true ∧ SeqAt.shaped e = true ∧ Q (.bl (if neg then !PyData.eqv d e else PyData.eqv d e)) H
theorem op_eqD (hu : X.A.units + 64 < cLine) : OpR X (compareOp .Eq) (rEqD false) := by
  intro pins s σ H x y v u Q I rx ry h
  unfold rEqD at h
  split at h
  · exact op_eq pins s σ H x y v u Q I rx ry ⟨by assumption, h⟩
  · obtain ⟨d, e, h1, h2, h3, h4, q⟩ := h
    obtain ⟨as, r1⟩ := h1.reads I rx
    obtain ⟨bs, r2⟩ := h2.reads I ry
    exact eq_dataH r1 r2 h3 h4 hu ⟨.bl _, H, I, rfl, q⟩
theorem op_neD (hu : X.A.units + 64 < cLine) : OpR X (compareOp .NotEq) (rEqD true) := by
  intro pins s σ H x y v u Q I rx ry h
  unfold rEqD at h
  split at h
  · exact op_ne pins s σ H x y v u Q I rx ry ⟨by assumption, h⟩
  · obtain ⟨d, e, h1, h2, h3, h4, q⟩ := h
    obtain ⟨as, r1⟩ := h1.reads I rx
    obtain ⟨bs, r2⟩ := h2.reads I ry
    exact ne_dataH r1 r2 h3 h4 hu ⟨.bl _, H, I, rfl, q⟩
theorem op_isP : OpR X (compareOp .Is) (rIsP false) := by
  intro pins s σ H x y v u Q I rx ry h
  unfold rIsP at h
  split at h
  · exact op_isN pins s σ H x _ v u Q I rx ry ⟨rfl, h⟩
  · rename_i k
    cases ry
    split at h
    · exact h.elim
    · exact h.elim
    · exact h.elim
    · rename_i hf hb ht
      cases x with
      | non => cases rx; exact wpAny_is_plain rfl (fin_bl I h (by simp))
      | bl j => cases rx; exact wpAny_is_plain rfl (fin_bl I h (by rw [Bool.eq_iff_iff]; simp))
      | int j => obtain ⟨t, rfl⟩ := rx; exact wpAny_is_plain rfl (fin_bl I h (by simp))
      | str j => obtain ⟨t, rfl⟩ := rx; exact wpAny_is_plain rfl (fin_bl I h (by simp))
      | byt j => exact absurd rfl (hb j)
      | flt j => exact absurd rfl (hf j)
      | ref j => cases rx; exact wpAny_is_plain rfl (fin_bl I h (by simp))
      | ty j => exact absurd rfl (ht j)
  · exact h.elim
noncomputable def tBlP (t : TE) : TT := fun σ H Q => t σ H fun x H1 => match x with | .bl c => Q c H1 | _ => False
theorem blP {x : V} {P : Bool → Prop} (h : match x with | .bl c => P c | _ => False) : ∃ c, x = .bl c ∧ P c := by
  cases x <;> first | exact ⟨_, rfl, h⟩ | exact h.elim
theorem pt_cmpP {op : CmpOp} {r : R2} (ho : OpR X (compareOp op) r) (ha : PE X a ta) (hb : PE X b tb) (hm : behindInMarks op b = false) : PT X (.Compare a [op] [b] pos) (tBlP (tOp r ta tb)) := by
  intro pins s σ H Q I h
  refine wpAny_isTrue_Compare1 (binT ha hb I h fun v u s2 x y H2 I2 rx ry q => ?_) hm
  refine thn (ho pins s2 σ H2 x y v u _ I2 rx ry q) fun z s3 ⟨w', H3, I3, r3, q3⟩ => ?_
  obtain ⟨k, rfl, q3⟩ := blP q3
  cases r3
  exact wpAny_truthy_bool ⟨H3, I3, q3⟩
theorem zt_cmpP {op : CmpOp} {r : R2} (ho : OpR X (compareOp op) r) (ha : ZE X a ta) (hb : ZE X b tb) (hm : behindInMarks op b = false) : ZT X (.Compare a [op] [b] pos) (tBlP (tOp r ta tb)) := by with_unfolding_all exact pt_cmpP ho ha hb hm
theorem pt_valP {e : Expr} {t : TE} (h : PE X e t) (he : ∀ whole, isTrue e X.env whole = (do let v ← whole; standAt e.pos; holding [v] (truthy v)) := by intro _; rfl) : PT X e (tBlP t) := by
  intro pins s σ H Q I q
  refine isTrue_plain (thn (h pins s σ H _ I q) fun v s1 ⟨x, H1, I1, r1, q1⟩ => ?_) (he _)
  obtain ⟨k, rfl, q1⟩ := blP q1
  cases r1
  exact wpAny_truthy_bool ⟨H1, I1, q1⟩
theorem zt_valP {e : Expr} {t : TE} (h : ZE X e t) (he : ∀ whole, isTrue e X.env whole = (do let v ← whole; standAt e.pos; holding [v] (truthy v)) := by intro _; rfl) : ZT X e (tBlP t) := by with_unfolding_all exact pt_valP h he
noncomputable def tAndP (ta tb : TE) : TE := fun σ H Q => ta σ H fun x H1 => match x with | .bl c => if c = true then tb σ H1 Q else Q (.bl false) H1 | _ => False
noncomputable def tOrP (ta tb : TE) : TE := fun σ H Q => ta σ H fun x H1 => match x with | .bl c => if c = true then Q (.bl true) H1 else tb σ H1 Q | _ => False
variable {rest : List Expr}
theorem pe_andP (ha : PE X a ta) (hb : PE X (.BoolOp .And (b :: rest) pos) tb) : PE X (.BoolOp .And (a :: b :: rest) pos) (tAndP ta tb) := by
  intro pins s σ H Q I h
  refine BoolOp_and (thn (ha pins s σ H _ I h) fun v s1 ⟨x, H1, I1, r1, q1⟩ => ?_)
  obtain ⟨c, rfl, q1⟩ := blP q1
  cases r1
  refine wpAny_truthy_bool ?_
  cases c with
  | true => exact hb pins s1 σ H1 Q I1 q1
  | false => exact ⟨.bl false, H1, I1, rfl, q1⟩
theorem ze_andP (ha : ZE X a ta) (hb : ZE X (.BoolOp .And (b :: rest) pos) tb) : ZE X (.BoolOp .And (a :: b :: rest) pos) (tAndP ta tb) := by with_unfolding_all exact pe_andP ha hb
theorem pe_orP (ha : PE X a ta) (hb : PE X (.BoolOp .Or (b :: rest) pos) tb) : PE X (.BoolOp .Or (a :: b :: rest) pos) (tOrP ta tb) := by
  intro pins s σ H Q I h
  refine BoolOp_or (thn (ha pins s σ H _ I h) fun v s1 ⟨x, H1, I1, r1, q1⟩ => ?_)
  obtain ⟨c, rfl, q1⟩ := blP q1
  cases r1
  refine wpAny_truthy_bool ?_
  cases c with
  | false => exact hb pins s1 σ H1 Q I1 q1
  | true => exact ⟨.bl true, H1, I1, rfl, q1⟩
theorem ze_orP (ha : ZE X a ta) (hb : ZE X (.BoolOp .Or (b :: rest) pos) tb) : ZE X (.BoolOp .Or (a :: b :: rest) pos) (tOrP ta tb) := by with_unfolding_all exact pe_orP ha hb
noncomputable def rIxP (K : PySem.W.Frag) : R2 := fun x y H Q => match x, y with
  | .ref p, .int i => (∃ xs, (SqL K H p xs ∨ H p = some (.tup xs)) ∧ ∃ v, atI xs i = some v ∧ Q v H)
  | _, _ => False
theorem ix_P : IxR X (rIxP X.K) := by
  intro value slice pins s σ H x y v u Q I rx ry h hs
  unfold rIxP at h
  split at h
  · obtain ⟨xs, h1 | h1, w, e, q⟩ := h
    · exact ix_list value slice pins s σ H _ _ v u Q I rx ry ⟨_, xs, _, w, rfl, rfl, h1, e, q⟩ hs
    · exact ix_tup value slice pins s σ H _ _ v u Q I rx ry ⟨_, xs, _, w, rfl, rfl, SqT.of h1, e, q⟩ hs
  · exact h.elim

theorem CallR.imp {f : Value} {r r' : List V → Hp → VK → Prop} (h : CallR X f r) (i : ∀ xs H Q, r' xs H Q → r xs H Q) : CallR X f r' := fun pins s σ H xs us Q I rs q => h pins s σ H xs us Q I rs (i xs H Q q)
noncomputable def rLenP (K : PySem.W.Frag) : List V → Hp → VK → Prop := fun xs H Q => match xs with
  | [.ref p] => ∃ ys, (SqL K H p ys ∨ H p = some (.tup ys)) ∧ Q (.int ys.length) H
  | _ => False
theorem call_lenP : CallR X (.builtin "len") (rLenP X.K) := call_len_seq.imp fun xs H Q h => by
  unfold rLenP at h
  split at h
  · obtain ⟨ys, h1 | h1, q⟩ := h
    · exact ⟨_, ys, rfl, .inl h1, q⟩
    · exact ⟨_, ys, rfl, .inr (SqT.of h1), q⟩
  · exact h.elim
noncomputable def rTupP (K : PySem.W.Frag) : List V → Hp → VK → Prop := fun xs H Q => match xs with
  | [.ref p] => ∃ ys, (SqL K H p ys ∨ H p = some (.tup ys)) ∧ ∀ r H', Same H H' → H' r = some (.tup ys) → Q (.ref r) H'
  | _ => False
theorem call_tupP : CallR X (.type "tuple") (rTupP X.K) := call_tuple_of.imp fun xs H Q h => by
  unfold rTupP at h
  split at h
  · obtain ⟨ys, h1 | h1, q⟩ := h
    · exact ⟨_, ys, rfl, .inl ⟨h1, fun l hl => q l _ (Same.new hl _) upd_same⟩⟩
    · exact ⟨_, ys, rfl, .inr ⟨SqT.of h1, q _ H (Same.refl H) h1⟩⟩
  · exact h.elim
noncomputable def rLstP (K : PySem.W.Frag) : List V → Hp → VK → Prop := fun xs H Q => match xs with
  | [.ref p] => ∃ ys, (SqL K H p ys ∨ H p = some (.tup ys)) ∧ ∀ l, H l = none → Q (.ref l) (upd H l (.lst ys))
  | _ => False
theorem call_lstP : CallR X (.type "list") (rLstP X.K) := call_list_of.imp fun xs H Q h => by
  unfold rLstP at h
  split at h
  · obtain ⟨ys, h1 | h1, q⟩ := h
    · exact ⟨_, ys, rfl, .inl h1, q⟩
    · exact ⟨_, ys, rfl, .inr (SqT.of h1), q⟩
  · exact h.elim
noncomputable def rIntP : List V → Hp → VK → Prop := fun xs H Q => match xs with
  | [.int i] => Q (.int i) H
  | [.bl k] => Q (.int (if k then 1 else 0)) H
  | _ => False
theorem call_intP : CallR X (.type "int") rIntP := call_int1.imp fun xs H Q h => by
  unfold rIntP at h
  split at h
  · exact .inl ⟨_, rfl, h⟩
  · exact .inr ⟨_, rfl, h⟩
  · exact h.elim
noncomputable def rMinP : List V → Hp → VK → Prop := fun xs H Q => match xs with
  | [.int i, .int j] => Q (.int (if j < i then j else i)) H
  | _ => False
theorem call_minP (hc : X.calm = true) : CallR X (.builtin "min") rMinP := (call_min2 hc).imp fun xs H Q h => by
  unfold rMinP at h
  split at h
  · exact ⟨_, _, rfl, h⟩
  · exact h.elim

structure FnA (P : Program) (w : World) (K : PySem.W.Frag) (mg : Str → Option Value) (base : Heap) (x : Str) (k : Nat) (ps : List Str) (sp : Sp) : Prop where
  ex : ∃ f fd, FnOk P w K mg base CX0 k f fd ps sp ∧ Binds K fd ps [] ∧ PySem.W.keepIn K (.ref f) = true ∧ mg x = some (.ref f)
noncomputable def tFn (sp : Sp) (t : TA) : TE := fun σ H Q => t σ H fun vs H1 => sp vs H1 Q E0
theorem pe_fn {x : Str} {k k' : Nat} {ps : List Str} {sp : Sp} {e : Expr} {es : List Expr} {t : TA} {p : Pos} (F : FnA X.prog X.w X.K X.mg X.base x k ps sp) (hr : Room k' X.A) (hk : k ≤ k') (hg : Gl X x)
    (ha : PA X (e :: es) t) (hdb : (x == ("__debug__" : Str)) = false := by decide) (he : starEach (e :: es) X.env = (false, eval e X.env) :: starEach es X.env := by rfl) (hpl : (backTo pos (starEach es X.env)).any (·.1) = false := by rfl) :
    PE X (.Call (.Name x p) (e :: es) [] pos) (tFn sp t) := by
  obtain ⟨f, fd, F1, b1, k1, m1⟩ := F.ex
  refine (pe_call (F1.mono hk) hr hg m1 k1 b1 .nil pass0 ha hdb he hpl).imp fun σ H Q h => ?_
  have e : (fun (vs : List V) (H1 : Hp) => sp (vs ++ []) H1 Q E0) = fun vs H1 => sp vs H1 Q E0 := by
    funext vs H1
    rw [List.append_nil]
  show t σ H fun vs H1 => sp (vs ++ []) H1 Q E0
  rw [e]
  exact h
theorem ze_fn {x : Str} {k k' : Nat} {ps : List Str} {sp : Sp} {e : Expr} {es : List Expr} {t : TA} {p : Pos} (F : FnA X.prog X.w X.K X.mg X.base x k ps sp) (hr : Room k' X.A) (hk : k ≤ k') (hg : Gl X x)
    (ha : ZA X (e :: es) t) (hdb : (x == ("__debug__" : Str)) = false := by decide) (he : starEach (e :: es) X.env = (false, eval e X.env) :: starEach es X.env := by rfl) (hpl : (backTo pos (starEach es X.env)).any (·.1) = false := by rfl) :
    ZE X (.Call (.Name x p) (e :: es) [] pos) (tFn sp t) := by with_unfolding_all exact pe_fn F hr hk hg ha hdb he hpl
end
end L2
set_option Elab.async false
set_option linter.all false
set_option maxRecDepth 100000
set_option maxHeartbeats 4000000
namespace L2
open PySem PySem.Spec PyProof.Rows
theorem iteD {p : Prop} [Decidable p] {A B : Prop} (h1 : p → A) (h2 : ¬ p → B) : if decide p = true then A else B := by
  by_cases h : p
  · rw [decide_eq_true h]; exact iteT (h1 h)
  · rw [decide_eq_false h]; exact iteF (h2 h)
theorem iteB {b : Bool} {A B : Prop} (h1 : b = true → A) (h2 : b = false → B) : if b = true then A else B := by
  cases b with
  | true => exact iteT (h1 rfl)
  | false => exact iteF (h2 rfl)
theorem boot_sorted' : bootBuiltins "sorted" = some (.builtin "sorted") := by decide +kernel
theorem boot_min' : bootBuiltins "min" = some (.builtin "min") := by decide +kernel
theorem boot_all' : bootBuiltins "all" = some (.builtin "all") := by decide +kernel
theorem boot_int' : bootBuiltins "int" = some (.type "int") := by decide +kernel
theorem boot_tuple' : bootBuiltins "tuple" = some (.type "tuple") := by decide +kernel
theorem boot_list' : bootBuiltins "list" = some (.type "list") := by decide +kernel
end L2
namespace L2
open PySem PySem.Spec PyProof.Rows
noncomputable def rAllP (K : PySem.W.Frag) : List V → Hp → VK → Prop := fun xs H Q => match xs with
  | [.ref p] => ∃ bs : List Bool, SqL K H p (bs.map V.bl) ∧ Q (.bl (bs.all id)) H
  | _ => False
theorem call_allP {X : Cx} (hc : X.calm = true) : CallR X (.builtin "all") (rAllP X.K) := by
  intro pins s σ H xs us Q I r h
  unfold rAllP at h
  split at h
  · rename_i p
    obtain ⟨bs, hq, q⟩ := h
    obtain ⟨u, rfl, rx⟩ := vals1 r
    cases rx
    obtain ⟨its, rv, pl, hz⟩ := I.list hq
    have hlen : its.length = bs.length := by rw [← rv.length, List.length_map]
    have hlt : p < s.heap.objs.size := by
      obtain ⟨_, e, _⟩ := pl.isList
      exact Heap.lt_size e
    refine call_all_walk (wpAny_pyIter_list pl.isList ?_)
    have W : Walks X.prog X.w X.A.in1 s.heap.objs.size [s.heap.objs.size, p] [s.heap.objs.size] its.toArray.size _ _ := Walks.list (show X.A.in1.handled = none from I.ok.hd hc) s.heap.objs.size p (Nat.ne_of_lt hlt) its.toArray
    refine ⟨s.heap.objs.size, _, _, _, _, _, fun i => bs.getD i false, rfl, W, ⟨⟨_, Heap.get?_push_size _ rfl, rfl, rfl⟩, pl.isList.push _⟩, ?_, fun h' tk hk => ?_⟩
    · intro i v s' Q' E' hP hQ
      have hP' : its[i]? = some v := by simpa using hP
      have hi : i < bs.length := by rw [← hlen]; exact (List.getElem?_eq_some_iff.mp hP').1
      obtain ⟨w', e1, e2⟩ := rv.get (i := i) (x := .bl bs[i]) (by rw [List.getElem?_map, List.getElem?_eq_getElem hi]; rfl)
      rw [hP'] at e1
      cases e1
      cases e2
      refine wpAny_truthy_bool ?_
      have e : bs.getD i false = bs[i] := by rw [List.getD_eq_getElem?_getD, List.getElem?_eq_getElem hi]; rfl
      have hQ' : Q' (bs.getD i false) s' := hQ
      rw [e] at hQ'
      exact hQ'
    · have I1 : Inv X pins σ H { s with heap := h', toks := tk } := I.kept fun b o e => hk b o (by simpa using Nat.ne_of_lt (Heap.lt_size e)) (Heap.get?_push_of_some _ e)
      refine ⟨.bl _, H, I1, rfl, ?_⟩
      have e : (List.range its.toArray.size).all (fun i => bs.getD i false) = bs.all id := by
        rw [List.size_toArray, hlen]
        have key : ∀ l : List Bool, (List.range l.length).all (fun i => l.getD i false) = l.all id := by
          intro l
          rw [Bool.eq_iff_iff, List.all_eq_true, List.all_eq_true]
          constructor
          · intro h x hx
            obtain ⟨i, hi, rfl⟩ := List.mem_iff_getElem.mp hx
            have := h i (List.mem_range.mpr hi)
            rw [List.getD_eq_getElem?_getD, List.getElem?_eq_getElem hi] at this
            exact this
          · intro h i hi
            have hi' := List.mem_range.mp hi
            rw [List.getD_eq_getElem?_getD, List.getElem?_eq_getElem hi']
            exact h _ (List.getElem_mem hi')
        exact key bs
      rw [e]
      exact q
  · exact h.elim
theorem Inv.big {X : Cx} {pins : List (Addr × Obj)} {σ : St} {H : Hp} {s : Shared} (I : Inv X pins σ H s) : sysModules < s.heap.objs.size := by
  have h : mainGlobals < s.heap.objs.size := (I.mod.glob.keeps I.bk).lt
  exact Nat.lt_trans (by decide) h
noncomputable def tPar3 (i j k : Nat) (ta : TA) : TS := fun D σ H => ta σ H fun vs H1 => match vs with | [v, w, z] => D.nx (((σ.set i (some v)).set j (some w)).set k (some z)) H1 | _ => False
theorem ps_par3 {X : Cx} {pos : Pos} {i j k : Nat} {x y z : Str} {a b c : Expr} {ta : TA} {px py pz pt : Pos} {kt k2 pt2} (hc : X.calm = true) (hN : X.N.Nodup) (hi : X.N[i]? = some x) (hj : X.N[j]? = some y) (hk : X.N[k]? = some z) (hij : i ≠ j) (hik : i ≠ k) (hjk : j ≠ k)
    (hx : X.env.scope.names.lookup x = some .local) (hy : X.env.scope.names.lookup y = some .local) (hz : X.env.scope.names.lookup z = some .local) (ha : PA X [a, b, c] ta)
    (hw : swappedStores [.Tuple [.Name x px, .Name y py, .Name z pz] kt pt] (.Tuple [a, b, c] k2 pt2) X.env = pure (some [x, y, z]))
    (hs : swapsWithSole [.Tuple [.Name x px, .Name y py, .Name z pz] kt pt] (.Tuple [a, b, c] k2 pt2) pos.line X.env = pure false := by rfl) :
    PS X (.Assign [.Tuple [.Name x px, .Name y py, .Name z pz] kt pt] (.Tuple [a, b, c] k2 pt2) pos) (tPar3 i j k ta) := by
  intro pins s σ H D I h
  rw [exec_Assign_arm]
  refine wpAny_bind (wpAny_standAt ?_)
  rw [hs]
  refine wpAny_bind (wpAny_pure ?_)
  rw [if_neg (by decide)]
  refine wpAny_bind (Tuple_ (thn (ha _ pins s σ H _ I h) fun us s1 ⟨vs, H1, I1, r1, q1⟩ => ?_))
  obtain ⟨v, w, t, e1, q1⟩ : ∃ v w t, vs = [v, w, t] ∧ D.nx (((σ.set i (some v)).set j (some w)).set k (some t)) H1 := by
    match vs, q1 with
    | [v, w, t], q1 => exact ⟨v, w, t, rfl, q1⟩
    | [], q1 => exact q1.elim
    | [_], q1 => exact q1.elim
    | [_, _], q1 => exact q1.elim
    | _ :: _ :: _ :: _ :: _, q1 => exact q1.elim
  subst e1
  obtain ⟨u1, u2, u3, rfl, rv, rw', rz⟩ : ∃ u1 u2 u3, us = [u1, u2, u3] ∧ RelV v u1 ∧ RelV w u2 ∧ RelV t u3 := by
    cases r1 with
    | cons p q =>
      cases q with
      | cons p' q' =>
        cases q' with
        | cons p2 q2 =>
          cases q2
          exact ⟨_, _, _, rfl, p, p', p2⟩
  refine wpAny_newObj_type ?_ (by show 3 ≤ sizeLine; decide)
  have I2 : Inv X pins σ H1 { s1 with heap := s1.heap.push { cls := .type "tuple", data := .seq [u1, u2, u3].toArray } } := I1.kept (t' := s1.toks) fun b o e => Heap.get?_push_of_some _ e
  rw [hw]
  refine wpAny_bind (wpAny_pure ?_)
  show wpAny (model X.prog X.w) X.A (do rule "assign.swapped-stores"; let items ← unpackItems (.ref s1.heap.objs.size) 3 none; assignInOrder [fun v => bindName X.env z v, fun v => bindName X.env y v, fun v => bindName X.env x v] items.reverse; pure Flow.next) _ _ _
  refine wpAny_bind (wpAny_rule (wpAny_bind (unpackItems_tuple (items := #[u1, u2, u3]) (I.ok.hd hc) (IsTup.new s1.heap _) fun h' hx' => ?_)))
  have I3 := I2.kept (h' := h') (t' := s1.toks) fun b o e => hx' b o (Nat.ne_of_lt (Heap.lt_size e)) e
  show wpAny _ _ (assignInOrder [fun v => bindName X.env z v, fun v => bindName X.env y v, fun v => bindName X.env x v] [u3, u2, u1] >>= fun _ => pure Flow.next) _ _ _
  refine wpAny_bind (assignInOrder_cons (wpAny_bindName (store_ok I3 hN hk (.inl hz) rz (fun s2 I4 => ?_) (.inr hz))))
  refine assignInOrder_cons (wpAny_bindName (store_ok I4 hN hj (.inl hy) rw' (fun s3 I5 => ?_) (.inr hy)))
  refine assignInOrder_cons (wpAny_bindName (store_ok I5 hN hi (.inl hx) rv (fun s4 I6 => assignInOrder_nil (wpAny_pure ?_)) (.inr hx)))
  have e : ((σ.set k (some t)).set j (some w)).set i (some v) = ((σ.set i (some v)).set j (some w)).set k (some t) := by
    rw [List.set_comm _ _ (Ne.symm hij), List.set_comm _ _ (Ne.symm hik), List.set_comm _ _ (Ne.symm hjk)]
  rw [e] at I6
  exact ⟨_, H1, I6, q1⟩
theorem zs_par3 {X : Cx} {pos : Pos} {i j k : Nat} {x y z : Str} {a b c : Expr} {ta : TA} {px py pz pt : Pos} {kt k2 pt2} (hc : X.calm = true) (hN : X.N.Nodup) (hi : X.N[i]? = some x) (hj : X.N[j]? = some y) (hk : X.N[k]? = some z) (hij : i ≠ j) (hik : i ≠ k) (hjk : j ≠ k)
    (hx : X.env.scope.names.lookup x = some .local) (hy : X.env.scope.names.lookup y = some .local) (hz : X.env.scope.names.lookup z = some .local) (ha : ZA X [a, b, c] ta)
    (hw : swappedStores [.Tuple [.Name x px, .Name y py, .Name z pz] kt pt] (.Tuple [a, b, c] k2 pt2) X.env = pure (some [x, y, z]))
    (hs : swapsWithSole [.Tuple [.Name x px, .Name y py, .Name z pz] kt pt] (.Tuple [a, b, c] k2 pt2) pos.line X.env = pure false := by rfl) :
    ZS X (.Assign [.Tuple [.Name x px, .Name y py, .Name z pz] kt pt] (.Tuple [a, b, c] k2 pt2) pos) (tPar3 i j k ta) := by with_unfolding_all exact ps_par3 hc hN hi hj hk hij hik hjk hx hy hz ha hw hs
end L2
namespace L2
open PySem PySem.Spec PyProof.Rows
section
variable {X : Cx} {e : Expr} {es : List Expr} {t : TA} {p pos : Pos}
theorem pcb_len (hg : Gl X "len") (hm : X.mg "len" = none) (ha : PA X (e :: es) t) (he : starEach (e :: es) X.env = (false, eval e X.env) :: starEach es X.env) (hpl : (backTo pos (starEach es X.env)).any (·.1) = false) :
    PE X (.Call (.Name "len" p) (e :: es) [] pos) (tCB (rLenP X.K) t) := pe_callB call_lenP hg hm PySem.boot_len ha (by decide) (by decide) he hpl
theorem zcb_len (hg : Gl X "len") (hm : X.mg "len" = none) (ha : ZA X (e :: es) t) (he : starEach (e :: es) X.env = (false, eval e X.env) :: starEach es X.env) (hpl : (backTo pos (starEach es X.env)).any (·.1) = false) :
    ZE X (.Call (.Name "len" p) (e :: es) [] pos) (tCB (rLenP X.K) t) := by with_unfolding_all exact pcb_len hg hm ha he hpl
theorem pcb_min (hc : X.calm = true) (hg : Gl X "min") (hm : X.mg "min" = none) (ha : PA X (e :: es) t) (he : starEach (e :: es) X.env = (false, eval e X.env) :: starEach es X.env) (hpl : (backTo pos (starEach es X.env)).any (·.1) = false) :
    PE X (.Call (.Name "min" p) (e :: es) [] pos) (tCB rMinP t) := pe_callB (call_minP hc) hg hm boot_min' ha (by decide) (by decide) he hpl
theorem zcb_min (hc : X.calm = true) (hg : Gl X "min") (hm : X.mg "min" = none) (ha : ZA X (e :: es) t) (he : starEach (e :: es) X.env = (false, eval e X.env) :: starEach es X.env) (hpl : (backTo pos (starEach es X.env)).any (·.1) = false) :
    ZE X (.Call (.Name "min" p) (e :: es) [] pos) (tCB rMinP t) := by with_unfolding_all exact pcb_min hc hg hm ha he hpl
theorem pcb_all (hc : X.calm = true) (hg : Gl X "all") (hm : X.mg "all" = none) (ha : PA X (e :: es) t) (he : starEach (e :: es) X.env = (false, eval e X.env) :: starEach es X.env) (hpl : (backTo pos (starEach es X.env)).any (·.1) = false) :
    PE X (.Call (.Name "all" p) (e :: es) [] pos) (tCB (rAllP X.K) t) := pe_callB (call_allP hc) hg hm boot_all' ha (by decide) (by decide) he hpl
theorem zcb_all (hc : X.calm = true) (hg : Gl X "all") (hm : X.mg "all" = none) (ha : ZA X (e :: es) t) (he : starEach (e :: es) X.env = (false, eval e X.env) :: starEach es X.env) (hpl : (backTo pos (starEach es X.env)).any (·.1) = false) :
    ZE X (.Call (.Name "all" p) (e :: es) [] pos) (tCB (rAllP X.K) t) := by with_unfolding_all exact pcb_all hc hg hm ha he hpl
theorem pcb_int (hg : Gl X "int") (hm : X.mg "int" = none) (ha : PA X (e :: es) t) (he : starEach (e :: es) X.env = (false, eval e X.env) :: starEach es X.env) (hpl : (backTo pos (starEach es X.env)).any (·.1) = false) :
    PE X (.Call (.Name "int" p) (e :: es) [] pos) (tCB rIntP t) := pe_callTy call_intP hg hm boot_int' ha (by decide) (by decide) he hpl
theorem pcb_tuple (hg : Gl X "tuple") (hm : X.mg "tuple" = none) (ha : PA X (e :: es) t) (he : starEach (e :: es) X.env = (false, eval e X.env) :: starEach es X.env) (hpl : (backTo pos (starEach es X.env)).any (·.1) = false) :
    PE X (.Call (.Name "tuple" p) (e :: es) [] pos) (tCB (rTupP X.K) t) := pe_callTy call_tupP hg hm boot_tuple' ha (by decide) (by decide) he hpl
theorem zcb_tuple (hg : Gl X "tuple") (hm : X.mg "tuple" = none) (ha : ZA X (e :: es) t) (he : starEach (e :: es) X.env = (false, eval e X.env) :: starEach es X.env) (hpl : (backTo pos (starEach es X.env)).any (·.1) = false) :
    ZE X (.Call (.Name "tuple" p) (e :: es) [] pos) (tCB (rTupP X.K) t) := by with_unfolding_all exact pcb_tuple hg hm ha he hpl
theorem pcb_list (hg : Gl X "list") (hm : X.mg "list" = none) (ha : PA X (e :: es) t) (he : starEach (e :: es) X.env = (false, eval e X.env) :: starEach es X.env) (hpl : (backTo pos (starEach es X.env)).any (·.1) = false) :
    PE X (.Call (.Name "list" p) (e :: es) [] pos) (tCB (rLstP X.K) t) := pe_callTy call_lstP hg hm boot_list' ha (by decide) (by decide) he hpl
theorem zcb_list (hg : Gl X "list") (hm : X.mg "list" = none) (ha : ZA X (e :: es) t) (he : starEach (e :: es) X.env = (false, eval e X.env) :: starEach es X.env) (hpl : (backTo pos (starEach es X.env)).any (·.1) = false) :
    ZE X (.Call (.Name "list" p) (e :: es) [] pos) (tCB (rLstP X.K) t) := by with_unfolding_all exact pcb_list hg hm ha he hpl
end
end L2
set_option Elab.async false
set_option linter.all false
set_option maxRecDepth 100000
set_option maxHeartbeats 4000000
namespace L2
open PySem PySem.Spec PyProof.Rows
end L2
set_option Elab.async false
set_option linter.all false
set_option maxRecDepth 100000
set_option maxHeartbeats 4000000
namespace L2
open PySem PySem.Spec PyProof.Rows
section
variable {X : Cx}
theorem noFill_tuple_mul : fillsNumberSlot (.type "tuple") "mul" = pure false :=
  PySem.fillsNumberSlot_seq (id := "tuple.__mul__") (r := some (.builtin "tuple.__rmul__")) F.slot_tuple_mul.lookup (by decide +kernel) F.slot_tuple_rmul.lookup (by decide +kernel)
theorem repeat_tuple : seqRepeat? (.type "tuple") = pure (some (.builtin "tuple.__mul__")) := by
  unfold seqRepeat?
  rw [PySem.seqSlot_of (T := "tuple") (name := "__mul__") (id := "tuple.__mul__") F.slot_tuple_mul.lookup (by decide +kernel), PySem.seqSlot_of (T := "tuple") (name := "__rmul__") (id := "tuple.__rmul__") F.slot_tuple_rmul.lookup (by decide +kernel)]
  rfl

theorem int_rmul_tuple (a : Int) (t : Tok) (l : Addr) (items : Array Value) (n : Nat) :
    Meets (Builtin.«int.__rmul__» ⟨[.int a t, .ref l], []⟩) (fun _ R s => s.heap.get? l = some { cls := .type "tuple", dict := none, data := .seq items n, slots := #[] } ∧ R (.ok (.ret Value.notImplemented)) s) :=
  .of_wp fun prog w A R s h => by obtain ⟨hp, g, d, tk, os⟩ := s; obtain ⟨hl, h⟩ := h; wp_walk; exact ⟨_, rfl, h⟩
theorem tuple_mul_same (l : Addr) (items : Array Value) (n : Nat) (x : Int) (u : Tok) (h1 : (decide (x < -(2 ^ 63)) || decide (x ≥ 2 ^ 63)) = false) (h2 : (items.isEmpty || x == 1) = true) :
    Meets (Builtin.«tuple.__mul__» ⟨[.ref l, .int x u], []⟩) (fun _ R s => s.heap.get? l = some { cls := .type "tuple", dict := none, data := .seq items n, slots := #[] } ∧ R (.ok (.ret (.ref l))) s) :=
  .of_wp fun prog w A R s h => by
    obtain ⟨hp, g, d, tk, os⟩ := s; obtain ⟨hl, h⟩ := h
    wp_walk; refine wpAny_ite_false (by rw [h1]; rfl) ?_; wp_walk; exact ⟨_, rfl, h⟩
theorem tuple_mul_none (l : Addr) (items : Array Value) (n : Nat) (x : Int) (u : Tok) (h1 : (decide (x < -(2 ^ 63)) || decide (x ≥ 2 ^ 63)) = false) (h2 : (items.isEmpty || x == 1) = false) (h3 : (decide (x ≤ 0) || items.isEmpty) = true) :
    Meets (Builtin.«tuple.__mul__» ⟨[.ref l, .int x u], []⟩) (fun _ R s => s.heap.get? l = some { cls := .type "tuple", dict := none, data := .seq items n, slots := #[] } ∧ R (.ok (.ret (.ref s.heap.objs.size))) { s with heap := s.heap.push { cls := .type "tuple", data := .seq #[] } }) :=
  .of_wp fun prog w A R s h => by
    obtain ⟨hp, g, d, tk, os⟩ := s; obtain ⟨hl, h⟩ := h
    wp_walk; refine wpAny_ite_false (by rw [h1]; rfl) ?_; wp_walk; exact ⟨_, rfl, h⟩
theorem tuple_mul_many (l : Addr) (items : Array Value) (n : Nat) (x : Int) (u : Tok) (h1 : (decide (x < -(2 ^ 63)) || decide (x ≥ 2 ^ 63)) = false) (h2 : (items.isEmpty || x == 1) = false) (h3 : (decide (x ≤ 0) || items.isEmpty) = false) (h4 : decide ((items.size : Int) * x > (2 ^ 63 - 1) / 8) = false) (h5 : Builtin.Tuple.tupleTooMany ((items.size : Int) * x) = false) (hz : ((List.replicate x.toNat items).foldl (· ++ ·) #[]).size ≤ sizeLine) :
    Meets (Builtin.«tuple.__mul__» ⟨[.ref l, .int x u], []⟩) (fun _ R s => s.heap.get? l = some { cls := .type "tuple", dict := none, data := .seq items n, slots := #[] } ∧ R (.ok (.ret (.ref s.heap.objs.size))) { s with heap := s.heap.push { cls := .type "tuple", data := .seq ((List.replicate x.toNat items).foldl (· ++ ·) #[]) } }) :=
  .of_wp fun prog w A R s h => by
    obtain ⟨hp, g, d, tk, os⟩ := s; obtain ⟨hl, h⟩ := h
    wp_walk; refine wpAny_ite_false (by rw [h1]; rfl) ?_; wp_walk; refine wpAny_ite_false h4 ?_; wp_walk; exact ⟨_, rfl, h⟩
end
end L2
set_option Elab.async false
set_option linter.all false
set_option maxRecDepth 100000
set_option maxHeartbeats 4000000
namespace L2
open PySem PySem.Spec PyProof.Rows
section
variable {X : Cx}
noncomputable def rMulQ : R2 := fun x y H Q => match x, y with
  | .int i, .int j => IntMulOk i j ∧ Q (.int (i * j)) H
  | .ref a, .int k => (-(2 ^ 63) ≤ k ∧ k < 2 ^ 63) ∧ ((∃ xs, H a = some (.lst xs) ∧ xs.length * k.toNat ≤ sizeLine ∧ ∀ p, H p = none → Q (.ref p) (upd H p (.lst (List.replicate k.toNat xs).flatten))) ∨
      ∃ xs, H a = some (.tup xs) ∧ xs.length * k.toNat ≤ sizeLine ∧ ∀ r H', Same H H' → H' r = some (.tup (List.replicate k.toNat xs).flatten) → Q (.ref r) H')
  | _, _ => False
theorem op_mulQ : OpR X (binaryOp .Mult) rMulQ := by
  intro pins s σ H x y v u Q I rx ry h
  unfold rMulQ at h
  split at h
  · exact op_mulB pins s σ H _ _ v u Q I rx ry ⟨_, _, rfl, rfl, h⟩
  · obtain ⟨⟨hk1, hk2⟩, ⟨xs, h1, h4, q⟩ | ⟨xs, hH, hz, q⟩⟩ := h
    · exact op_rep pins s σ H _ _ v u Q I rx ry ⟨_, _, xs, rfl, rfl, h1, hk1, hk2, h4, q⟩
    rename_i l k
    cases rx
    obtain ⟨t, rfl⟩ := ry
    obtain ⟨z, its, r, n, e⟩ := I.hok l _ hH
    have hl : its.length = xs.length := r.length.symm
    have hemp : its.toArray.isEmpty = xs.isEmpty := by
      cases r <;> rfl
    have g1 : (decide (k < -(2 ^ 63)) || decide (k ≥ 2 ^ 63)) = false := by
      rw [Bool.or_eq_false_iff]
      exact ⟨decide_eq_false (by omega), decide_eq_false (by omega)⟩
    refine wpAny_binaryOp_repeat_ref (T := "tuple") (U := "int") (by decide) ⟨_, e, rfl⟩ (fun s' => typeIs_int s' k t) noFill_tuple_mul F.fills_int_mul F.slot_int_rmul repeat_tuple F.slot_int_index.lookup
      (call_meets F.slot_int_rmul (typeIs_int s k t) F.entry_int_rmul (F.args_int_rmul_2 _ _) (int_rmul_tuple k t l its.toArray n) ⟨e, rfl, ⟨_, e, rfl⟩, ?_⟩)
    by_cases c1 : (its.toArray.isEmpty || k == 1) = true
    · refine call_meets F.slot_tuple_mul ⟨_, e, rfl⟩ F.entry_tuple_mul (F.args_tuple_mul_2 _ _) (tuple_mul_same l its.toArray n k t g1 c1) ⟨e, ?_⟩
      refine ⟨.ref l, H, I, rfl, q l H (Same.refl H) ?_⟩
      rw [hH]
      rw [Bool.or_eq_true] at c1
      rcases c1 with c1 | c1
      · rw [hemp, List.isEmpty_iff] at c1
        subst c1
        have : (List.replicate k.toNat ([] : List V)).flatten = [] := by
          induction k.toNat with
          | zero => rfl
          | succ m ih => rw [List.replicate_succ, List.flatten_cons, ih]; rfl
        rw [this]
      · have : k = 1 := by simpa using c1
        subst this
        show some (HO.tup xs) = some (.tup (List.replicate 1 xs).flatten)
        simp
    · have c1' : (its.toArray.isEmpty || k == 1) = false := by simpa using c1
      have he : its.toArray.isEmpty = false := (Bool.or_eq_false_iff.mp c1').1
      by_cases c2 : k ≤ 0
      · refine call_meets F.slot_tuple_mul ⟨_, e, rfl⟩ F.entry_tuple_mul (F.args_tuple_mul_2 _ _) (tuple_mul_none l its.toArray n k t g1 c1' (by rw [decide_eq_true c2]; rfl)) ⟨e, ?_⟩
        have e0 : (List.replicate k.toNat xs).flatten = [] := by
          have : k.toNat = 0 := by omega
          rw [this]; rfl
        have I2 : Inv X pins σ (upd H s.heap.objs.size (.tup [])) { s with heap := s.heap.push { cls := .type "tuple", data := .seq #[] } } :=
          I.laid (t' := s.toks) (o := .tup []) (fun b ob q => Heap.get?_push_of_some _ q) (Nat.le_refl _) ⟨Nat.zero_le _, [], .nil, TupD.new _ _⟩
        exact ⟨.ref s.heap.objs.size, _, I2, rfl, q _ _ (Same.new (I.hok.fresh (Nat.le_refl _)) _) (by rw [e0]; exact upd_same)⟩
      · have hcast : (its.toArray.size : Int) * k = ((xs.length * k.toNat : Nat) : Int) := by
          rw [List.size_toArray, hl]
          have : k = (k.toNat : Int) := by omega
          conv => lhs; rw [this]
          norm_cast
        have hb : (sizeLine : Nat) ≤ (2 ^ 63 - 1) / 8 := by decide
        have g4 : decide ((its.toArray.size : Int) * k > (2 ^ 63 - 1) / 8) = false := by
          refine decide_eq_false ?_
          rw [hcast]
          omega
        have g5 : Builtin.Tuple.tupleTooMany ((its.toArray.size : Int) * k) = false := by
          unfold Builtin.Tuple.tupleTooMany
          rw [hcast]
          exact decide_eq_false (by omega)
        have f0 : List.foldl (fun x1 x2 => x1 ++ x2) #[] (List.replicate k.toNat its.toArray) = (List.replicate k.toNat its).flatten.toArray := by
          have := foldl_rep its k.toNat []
          rw [List.nil_append] at this
          exact this
        refine call_meets F.slot_tuple_mul ⟨_, e, rfl⟩ F.entry_tuple_mul (F.args_tuple_mul_2 _ _) (tuple_mul_many l its.toArray n k t g1 c1' (by rw [decide_eq_false c2, he]; rfl) g4 g5 (by rw [f0, List.size_toArray, len_rep, hl, Nat.mul_comm]; exact hz)) ⟨e, ?_⟩
        rw [f0]
        have I2 : Inv X pins σ (upd H s.heap.objs.size (.tup (List.replicate k.toNat xs).flatten)) { s with heap := s.heap.push { cls := .type "tuple", data := .seq (List.replicate k.toNat its).flatten.toArray } } :=
          I.laid (t' := s.toks) (o := .tup (List.replicate k.toNat xs).flatten) (fun b ob q => Heap.get?_push_of_some _ q) (Nat.le_refl _) ⟨by rw [len_rep, Nat.mul_comm]; exact hz, _, r.rep k.toNat, TupD.new _ _⟩
        exact ⟨.ref s.heap.objs.size, _, I2, rfl, q _ _ (Same.new (I.hok.fresh (Nat.le_refl _)) _) upd_same⟩
  · exact h.elim
noncomputable def tTruP (K : PySem.W.Frag) (te : TE) : TT := fun σ H Q => te σ H fun x H1 => match x with
  | .bl c => Q c H1
  | .int i => Q (i != 0) H1
  | .ref p => ∃ xs, (SqL K H1 p xs ∨ H1 p = some (.tup xs)) ∧ Q (!xs.isEmpty) H1
  | _ => False
theorem pt_truP {a : Expr} {ta : TE} (ha : PE X a ta) (he : ∀ whole, isTrue a X.env whole = (do let v ← whole; standAt a.pos; holding [v] (truthy v)) := by intro _; rfl) : PT X a (tTruP X.K ta) := by
  intro pins s σ H Q I h
  refine isTrue_plain (thn (ha pins s σ H _ I h) fun v s1 ⟨x, H1, I1, r1, q1⟩ => ?_) (he _)
  refine tru_ok pins s1 σ H1 x v Q I1 r1 ?_
  dsimp only at q1
  split at q1
  · exact ⟨_, rfl, q1⟩
  · exact ⟨_, rfl, q1⟩
  · obtain ⟨xs, h1 | h1, q⟩ := q1
    · exact ⟨_, .inl ⟨xs, h1, rfl⟩, q⟩
    · exact ⟨_, .inr (.inl ⟨xs, SqT.of h1, rfl⟩), q⟩
  · exact q1.elim
theorem zt_truP {a : Expr} {ta : TE} (ha : ZE X a ta) (he : ∀ whole, isTrue a X.env whole = (do let v ← whole; standAt a.pos; holding [v] (truthy v)) := by intro _; rfl) : ZT X a (tTruP X.K ta) := by with_unfolding_all exact pt_truP ha he
theorem size_nonneg {a b c : Int} (hc : c ≠ 0) : 0 ≤ Builtin.Range.rangeSize a b c := by
  unfold Builtin.Range.rangeSize
  split
  · split
    · have := Int.ediv_nonneg (a := b - a - 1) (b := c) (by omega) (by omega); omega
    · omega
  · split
    · have := Int.ediv_nonneg (a := a - b - 1) (b := -c) (by omega) (by omega); omega
    · omega
end
section
variable {X : Cx} {e : Expr} {es : List Expr} {t : TA} {p pos : Pos}
noncomputable def rAppP : V → List V → Hp → VK → Prop := fun x vs H Q => match x, vs with
  | .ref l, [y] => ∃ xs, H l = some (.lst xs) ∧ xs.length < sizeLine ∧ Q .non (upd H l (.lst (xs ++ [y])))
  | _, _ => False
theorem mt_appP : MtM X "list.append" rAppP := fun pins s σ H x vs v us Q I rx rv h => by
  unfold rAppP at h
  split at h
  · obtain ⟨xs, h1, h2, q⟩ := h
    exact mt_append pins s σ H _ _ v us Q I rx rv ⟨_, xs, _, rfl, rfl, h1, h2, q⟩
  · exact h.elim
variable {o : Expr} {to : TE} {apos cpos : Pos}
theorem pm_append (ho : PE X o to) (ha : PA X (e :: es) t) (hbase : attributeBase o "append" X.env (eval o X.env) = eval o X.env := by rfl)
    (hfew : ((backTo cpos (starEach (e :: es) X.env)).all (fun x => !x.1) && (backToKw cpos (keywordEach [] X.env)).all (fun x => x.1.isSome)
      && decide ((e :: es).length + ([] : List Keyword).length + (if ([] : List Keyword).isEmpty then 0 else 1) < 30)) = true := by rfl)
    (hline : (apos.endLine == cpos.line) = true := by rfl) (hs : starEach (e :: es) X.env = (false, eval e X.env) :: starEach es X.env := by rfl) (hplain : (backTo cpos (starEach es X.env)).any (·.1) = false := by rfl) :
    PE X (.Call (.Attribute o "append" apos) (e :: es) [] cpos) (fun σ H Q => to σ H fun x H1 => tyV X.K "list" x H1 ∧ t σ H1 fun xs H2 => rAppP x xs H2 Q) :=
  pe_bm PySem.F.plainAttrs_list PySem.F.slot_list_append PySem.F.type_list_append mt_appP ho ha hbase hfew hline hs hplain
theorem zm_append (ho : ZE X o to) (ha : ZA X (e :: es) t) (hbase : attributeBase o "append" X.env (eval o X.env) = eval o X.env := by rfl)
    (hfew : ((backTo cpos (starEach (e :: es) X.env)).all (fun x => !x.1) && (backToKw cpos (keywordEach [] X.env)).all (fun x => x.1.isSome)
      && decide ((e :: es).length + ([] : List Keyword).length + (if ([] : List Keyword).isEmpty then 0 else 1) < 30)) = true := by rfl)
    (hline : (apos.endLine == cpos.line) = true := by rfl) (hs : starEach (e :: es) X.env = (false, eval e X.env) :: starEach es X.env := by rfl) (hplain : (backTo cpos (starEach es X.env)).any (·.1) = false := by rfl) :
    ZE X (.Call (.Attribute o "append" apos) (e :: es) [] cpos) (fun σ H Q => to σ H fun x H1 => tyV X.K "list" x H1 ∧ t σ H1 fun xs H2 => rAppP x xs H2 Q) := by with_unfolding_all exact pm_append ho ha hbase hfew hline hs hplain
theorem tyL {K : PySem.W.Frag} {H : Hp} {l : Addr} {xs : List V} (h : H l = some (.lst xs)) : tyV K "list" (.ref l) H := .inl ⟨rfl, xs, SqL.of h⟩
end
end L2
set_option Elab.async false
set_option linter.all false
set_option maxRecDepth 100000
set_option maxHeartbeats 4000000
namespace L2
open PySem PySem.Spec PyProof.Rows
theorem DatV.ints {H : Hp} {a : Addr} {ns : List Int} (e : H a = some (.tup (ns.map V.int))) : DatV H (.ref a) (.tuple (ns.map PyData.int)) := .tup e (DatAll.ints ns)
noncomputable def PrAt (H : Hp) (v : V) (p : Int × Int) : Prop := ∃ b, v = .ref b ∧ H b = some (.tup [.int p.1, .int p.2])
inductive Prs (H : Hp) : List V → List (Int × Int) → Prop where
  | nil : Prs H [] []
  | cons {v p vs ps} : PrAt H v p → Prs H vs ps → Prs H (v :: vs) (p :: ps)
theorem Prs.same {H H' : Hp} (y : Same H H') : ∀ {vs ps}, Prs H vs ps → Prs H' vs ps
  | _, _, .nil => .nil
  | _, _, .cons ⟨b, e, h⟩ r => .cons ⟨b, e, y _ _ h⟩ (Prs.same y r)
theorem Prs.length {H : Hp} : ∀ {vs ps}, Prs H vs ps → vs.length = ps.length
  | _, _, .nil => rfl
  | _, _, .cons _ r => by rw [List.length_cons, List.length_cons, Prs.length r]
theorem Prs.get {H : Hp} : ∀ {vs ps} {i : Nat} {v : V}, Prs H vs ps → vs[i]? = some v → ∃ p, ps[i]? = some p ∧ PrAt H v p
  | _, _, _, _, .nil, h => by simp at h
  | _, _, 0, _, .cons h _, e => by simp at e; subst e; exact ⟨_, rfl, h⟩
  | _, _, i + 1, _, .cons _ r, e => by
    obtain ⟨p, h1, h2⟩ := Prs.get (i := i) r (by simpa using e)
    exact ⟨p, by simpa using h1, h2⟩
theorem Prs.snoc {H : Hp} {v : V} {p : Int × Int} (h : PrAt H v p) : ∀ {vs ps}, Prs H vs ps → Prs H (vs ++ [v]) (ps ++ [p])
  | _, _, .nil => .cons h .nil
  | _, _, .cons q r => .cons q (Prs.snoc h r)
theorem Prs.set {H : Hp} {v : V} {p : Int × Int} (h : PrAt H v p) : ∀ {vs ps} (i : Nat), Prs H vs ps → Prs H (vs.set i v) (ps.set i p)
  | _, _, _, .nil => .nil
  | _, _, 0, .cons _ r => .cons h r
  | _, _, i + 1, .cons q r => .cons q (Prs.set h i r)
theorem Same.updN {H H' : Hp} {t : Addr} {o : HO} (y : Same H H') (h : H t = none) : Same H (upd H' t o) := fun b u e => by
  rw [upd_ne (ne_of_none e h)]
  exact y b u e
theorem Prs.updL {H : Hp} {t : Addr} {xs ys : List V} (h : H t = some (.lst xs)) : ∀ {us ps}, Prs H us ps → Prs (upd H t (.lst ys)) us ps
  | _, _, .nil => .nil
  | _, _, .cons ⟨b, e, hb⟩ r => .cons ⟨b, e, by rw [upd_ne (ne_of hb h (by intro z; cases z))]; exact hb⟩ (Prs.updL h r)
theorem Prs.nilOf {H : Hp} {us ps} (r : Prs H us ps) : us.isEmpty = ps.isEmpty := by cases r <;> rfl
theorem Prs.split {H : Hp} {us : List V} {i : List (Int × Int)} {q : Int × Int} (r : Prs H us (i ++ [q])) : ∃ vs b, us = vs ++ [.ref b] ∧ vs.length = i.length ∧ H b = some (.tup [.int q.1, .int q.2]) := by
  have hl := r.length
  rw [List.length_append, List.length_singleton] at hl
  have hne : us ≠ [] := by intro e; subst e; simp at hl
  have e := List.dropLast_concat_getLast hne
  have hd : us.dropLast.length = i.length := by rw [List.length_dropLast]; omega
  obtain ⟨p, h1, b, h2, h3⟩ := r.get (i := i.length) (v := us.getLast hne) (by
    rw [List.getLast_eq_getElem, List.getElem?_eq_getElem (by omega)]
    congr 2
    omega)
  have : p = q := by simpa using h1.symm
  subst this
  exact ⟨us.dropLast, b, by rw [← h2]; exact e.symm, hd, h3⟩
end L2
namespace L2
open PySem PySem.Spec PyProof.Rows
theorem canInts : ∀ ns : List Int, PyData.canLayAll0 (ns.map PyData.int) = true ∧ PyData.depthAll (ns.map PyData.int) ≤ 1
  | [] => ⟨by simp [PyData.canLayAll0], by simp [PyData.depthAll]⟩
  | n :: r => by
    obtain ⟨h1, h2⟩ := canInts r
    refine ⟨by simp only [List.map_cons, PyData.canLayAll0, PyData.canLay0, h1, Bool.and_self], ?_⟩
    simp only [List.map_cons, PyData.depthAll, PyData.depth]
    omega
theorem shaped_ints (ns : List Int) : SeqAt.shaped (.tuple (ns.map PyData.int)) = true := by
  obtain ⟨h1, h2⟩ := canInts ns
  unfold SeqAt.shaped
  rw [Bool.and_eq_true]
  exact ⟨by simp only [PyData.canLay0]; exact h1, decide_eq_true (by simp only [PyData.depth]; omega)⟩
theorem eqv_self {d : PyData} (h : SeqAt.shaped d = true) : PyData.eqv d d = true := SeqAt.eqv_refl d (SeqAt.canLay_of_shaped h)
end L2
namespace L2
open PySem PySem.Spec PyProof.Rows
theorem SqL.same {K : PySem.W.Frag} {H H' : Hp} {a : Addr} {xs : List V} (e : Same H H') (h : SqL K H a xs) : SqL K H' a xs := by
  rcases h with (h | ⟨o, h⟩) | h
  · exact .inl (.inl (e _ _ h))
  · exact .inl (.inr ⟨o, e _ _ h⟩)
  · exact .inr h
end L2
namespace L2
open PySem PySem.Spec PyProof.Rows
theorem while_by2 {c : TT} {tb : TS} {D : Ends} {σ : St} {H : Hp} (Pv : Nat → St → Hp → Prop) (m0 : Nat) (h0 : Pv m0 σ H)
    (hs : ∀ m σ H, Pv m σ H → c σ H fun b H1 => if b = true then ∃ N : St → Hp → Prop, (∀ σ' H', N σ' H' → ∃ m', m' < m ∧ Pv m' σ' H') ∧ tb { D with nx := N, ct := N, bk := D.nx } σ H1 else D.nx σ H1) : tWhile c tb D σ H := ⟨Pv, ⟨m0, h0⟩, hs⟩
end L2
set_option Elab.async false
set_option linter.all false
set_option maxRecDepth 100000
set_option maxHeartbeats 4000000
namespace K10
open PySem L2
noncomputable def top (i : Nat) : Stmt := PySem.Challenge.pw_partrests_k10_whole_lists_of_two_kinds.main.body.getD i (.Pass ⟨0, 0, 0, 0⟩)
noncomputable def Hand (H : Hp) (a : Addr) : Prop := ∃ g s c : Int, H a = some (.lst [.int g, .int s, .int c]) ∧ 0 ≤ g ∧ 0 ≤ s ∧ s < 2147483647
noncomputable def Step (a : Addr) (H H' : Hp) : Prop := (∀ b o, b ≠ a → H b = some o → H' b = some o) ∧ Hand H' a
theorem Step.same {a : Addr} {H H1 H2 : Hp} (x : Step a H H1) (y : Same H1 H2) : Step a H H2 := ⟨fun b o n e => y b o (x.1 b o n e), by obtain ⟨g, s, c, e, r⟩ := x.2; exact ⟨g, s, c, y _ _ e, r⟩⟩
theorem Step.refl {a : Addr} {H : Hp} (h : Hand H a) : Step a H H := ⟨fun _ _ _ e => e, h⟩
theorem Step.of_same {a : Addr} {H H1 : Hp} (h : Hand H a) (y : Same H H1) : Step a H H1 := (Step.refl h).same y
section
variable {P : Program} {w : World} {K : PySem.W.Frag} {mg : Str → Option Value} {base : Heap} {f : Addr} {fd : FuncData}
theorem sc_take : FnScope ["_law_hand_here", "_law_many", "_law_digit"] ["_law_hand_here", "_law_many"] (defScope (top 15)) := ⟨rfl, rfl, rfl, by decide +kernel, rfl, by decide +kernel, by decide +kernel⟩
noncomputable def sp_take : Sp := fun vs H Q _ => ∃ (a : Addr) (m : Int), vs = [.ref a, .int m] ∧ Hand H a ∧ 0 < m ∧ m < 1073741824 ∧ ∀ r H', 0 ≤ r → r < m → Step a H H' → Q (.int r) H'
theorem mulR {a b : Int} (h1 : -(2 ^ 64) < b) (h2 : b < 2 ^ 64) : IntMulOk a b := IntMulOk.of_right (intBits_le_64 h1 h2)
theorem mulL {a b : Int} (h1 : -(2 ^ 64) < a) (h2 : a < 2 ^ 64) : IntMulOk a b := IntMulOk.of_left (intBits_le_64 h1 h2)
theorem ok_take (F : Fun K "_law_take" "_law_take" (top 15) f fd) : FnOk P w K mg base CX0 1 f fd ["_law_hand_here", "_law_many"] sp_take := by
  refine F.ok sc_take (fun vs H Q E h => ?_) (fun cdv A outer s H vs Q E hr h => ?_)
  · obtain ⟨a, m, rfl, _⟩ := h; rfl
  obtain ⟨a, m, rfl, ⟨g, z, c, hl, g0, z0, z1⟩, m0, m1, q⟩ := h
  have nd := sc_take.nd
  refine ⟨_, (pss_cons (ps_if (pt_cmpP op_gtP (pe_ix ix_P (pn 0) pe_int (fun _ _ => rfl)) pe_int (nomark _)) (pss_cons (ps_set (i := 2) nd rfl (Or.inl rfl) (pe_op op_modP (pe_ix ix_P (pn 0) pe_int (fun _ _ => rfl)) (pn 1)))
      (pss_cons (ps_asg (pe_op op_fdivP (pe_ix ix_P (pn 0) pe_int (fun _ _ => rfl)) (pn 1)) (pg_sub (pn 0) pe_int set_list))
      (pss_one (ps_ret (pn 2))))) pss_nil)
      (pss_cons (ps_asg (pe_op op_addP (pe_ix ix_P (pn 0) pe_int (fun _ _ => rfl)) pe_int) (pg_sub (pn 0) pe_int set_list))
      (pss_cons (ps_asg (pe_op op_modP (pe_op op_addP (pe_op op_addP (pe_op op_mulQ (pe_ix ix_P (pn 0) pe_int (fun _ _ => rfl)) pe_int) (pe_op op_mulQ pe_int (pe_ix ix_P (pn 0) pe_int (fun _ _ => rfl)))) pe_int) pe_int) (pg_sub (pn 0) pe_int set_list))
      (pss_one (ps_ret (pe_op op_modP (pe_op op_fdivP (pe_op op_addP (pe_op op_modP (pe_op op_powP (pe_ix ix_P (pn 0) pe_int (fun _ _ => rfl)) pe_int) pe_int) (pe_op op_fdivP (pe_ix ix_P (pn 0) pe_int (fun _ _ => rfl)) pe_int)) pe_int) (pn 1))))))), ?_⟩
  refine ⟨_, .inl (SqL.of hl), .int g, rfl, ?_⟩
  refine iteD (fun hg => ?_) (fun hg => ?_)
  · refine ⟨_, .inl (SqL.of hl), .int g, rfl, m0, ?_⟩
    refine ⟨_, .inl (SqL.of hl), .int g, rfl, ⟨m0, m1⟩, ?_⟩
    refine ⟨a, _, _, _, rfl, rfl, hl, rfl, ?_⟩
    refine q _ _ (Int.emod_nonneg _ (by omega)) (Int.emod_lt_of_pos _ m0) ⟨fun b o n e => ?_, g / m, z, c, upd_same, Int.ediv_nonneg g0 (by omega), z0, z1⟩
    rw [upd_ne n]; exact e
  · refine ⟨_, .inl (SqL.of hl), .int c, rfl, ?_⟩
    refine ⟨a, _, _, _, rfl, rfl, hl, rfl, ?_⟩
    refine ⟨_, .inl (SqL.of upd_same), .int z, rfl, mulR (by decide) (by decide), ?_⟩
    refine ⟨_, .inl (SqL.of upd_same), .int (c + 1), rfl, mulL (by decide) (by decide), (show (0 : Int) < 2147483647 by decide), ?_⟩
    refine ⟨a, _, _, _, rfl, rfl, upd_same, rfl, ?_⟩
    have e1 : 0 ≤ (z * 39373 + 65537 * (c + 1) + 12345) % 2147483647 := Int.emod_nonneg _ (by decide)
    have e2 : (z * 39373 + 65537 * (c + 1) + 12345) % 2147483647 < 2147483647 := Int.emod_lt_of_pos _ (by decide)
    refine ⟨_, .inl (SqL.of upd_same), .int ((z * 39373 + 65537 * (c + 1) + 12345) % 2147483647), rfl, ⟨by decide, by decide, by omega⟩, (show (0 : Int) < 2147483629 by decide), ?_⟩
    refine ⟨_, .inl (SqL.of upd_same), .int ((z * 39373 + 65537 * (c + 1) + 12345) % 2147483647), rfl, ⟨by decide, by decide⟩, ⟨by decide, by decide⟩, m0, ?_⟩
    refine q _ _ (Int.emod_nonneg _ (by omega)) (Int.emod_lt_of_pos _ m0) ⟨fun b o n e => ?_, g, _, c + 1, upd_same, g0, e1, e2⟩
    rw [upd_ne n, upd_ne n]; exact e
theorem atI_of {xs : List V} {k : Int} {j : Nat} {v : V} (h : k = (j : Int)) (hx : xs[j]? = some v) : atI xs k = some v := by subst h; exact atI_nat hx
theorem getI {ns : List Int} {j : Nat} (h : j < ns.length) : (ns.map V.int)[j]? = some (.int ns[j]) := by rw [List.getElem?_map, List.getElem?_eq_getElem h]; rfl
theorem sc_hand : FnScope ["_law_script", "_law_k", "_law_cell", "_law_great"] ["_law_script", "_law_k"] (defScope (top 14)) := ⟨rfl, rfl, rfl, by decide +kernel, rfl, by decide +kernel, by decide +kernel⟩
noncomputable def sp_hand (K : PySem.W.Frag) : Sp := fun vs H Q _ => ∃ (a : Addr) (k : Int) (ns : List Int), vs = [.ref a, .int k] ∧ SqL K H a (ns.map V.int) ∧ 0 ≤ k ∧ k ≤ 100 ∧ ∀ p H', H p = none → Same H H' → Hand H' p → Q (.ref p) H'
theorem big_ok : IntMulOk ((10 : Int) ^ Int.toNat 60) ((10 : Int) ^ Int.toNat 60) := by unfold IntMulOk; decide +kernel
theorem ok_hand (F : Fun K "_law_hand" "_law_hand" (top 14) f fd) (m_int : mg "int" = none) (m_len : mg "len" = none) : FnOk P w K mg base CX0 1 f fd ["_law_script", "_law_k"] (sp_hand K) := by
  refine F.ok sc_hand (fun vs H Q E h => ?_) (fun cdv A outer s H vs Q E hr h => ?_)
  · obtain ⟨a, k, ns, rfl, _⟩ := h; rfl
  obtain ⟨a, k, ns, rfl, hS, k0, k1, q⟩ := h
  have nd := sc_hand.nd
  refine ⟨_, (pss_cons (ps_set (i := 2) nd rfl (Or.inl rfl) (pe_ifExp (pt_cmpP op_ltP (pn 1) (pcb_len rfl m_len (pa_cons (pn 0) pa_nil) rfl rfl) (nomark _)) (pe_ix ix_P (pn 0) (pn 1) (fun _ _ => rfl)) pe_int))
      (pss_cons (ps_set (i := 3) nd rfl (Or.inl rfl) (pe_op op_mulQ (pe_op op_modP (pn 2) (pe_op op_mulQ (pe_op op_powP pe_int pe_int) (pe_op op_powP pe_int pe_int))) (pcb_int rfl m_int (pa_cons (pe_cmpR op_geP (pn 2) (pe_op op_powP pe_int pe_int) (nomark _)) pa_nil) rfl rfl)))
      (pss_one (ps_ret (pe_lst (pa_cons (pn 3) (pa_cons (pe_op op_modP (pe_op op_powP (pe_op op_addP (pe_op op_addP (pe_op op_modP (pn 2) pe_int) (pe_op op_mulQ (pe_op op_mulQ pe_int (pn 1)) (pn 1))) pe_int) pe_int) pe_int) (pa_cons pe_int pa_nil)))))))), ?_⟩
  refine ⟨_, .inl hS, ?_⟩
  refine iteD (fun hk => ?_) (fun hk => ?_)
  · rw [List.length_map] at hk
    have hj : k.toNat < ns.length := by omega
    refine ⟨_, .inl hS, .int ns[k.toNat], atI_of (by omega) (getI hj), ?_⟩
    generalize ns[k.toNat] = v
    refine ⟨⟨by decide, by decide, by decide⟩, ⟨by decide, by decide, by decide⟩, big_ok, (show (0 : Int) < 10 ^ 60 * 10 ^ 60 by decide), ⟨by decide, by decide, by decide⟩, ?_⟩
    have e1 : 0 ≤ v % 2147483629 := Int.emod_nonneg _ (by decide)
    have e2 : v % 2147483629 < 2147483629 := Int.emod_lt_of_pos _ (by decide)
    have e3 : 0 ≤ 7919 * k * k := Int.mul_nonneg (Int.mul_nonneg (by decide) k0) k0
    have e4 : 7919 * k * k ≤ 7919 * 100 * 100 := Int.mul_le_mul (Int.mul_le_mul_of_nonneg_left k1 (by decide)) k1 k0 (by decide)
    have e5 : 0 ≤ (v % 2147483629 + 7919 * k * k + 11) ^ Int.toNat 3 % 2147483647 := Int.emod_nonneg _ (by decide)
    have e6 : (v % 2147483629 + 7919 * k * k + 11) ^ Int.toNat 3 % 2147483647 < 2147483647 := Int.emod_lt_of_pos _ (by decide)
    refine ⟨?_, (show (0 : Int) < 2147483629 by decide), mulL (by decide) (by decide), mulR (by omega) (by omega), ⟨by decide, by decide, by omega⟩, (show (0 : Int) < 2147483647 by decide), (by show 3 ≤ sizeLine; decide), fun p hp => ?_⟩
    · split <;> exact mulR (by decide) (by decide)
    · refine q p _ hp (Same.new hp _) ⟨_, _, 0, upd_same, ?_, e5, e6⟩
      split
      · rw [Int.mul_one]; exact Int.emod_nonneg _ (by decide)
      · rw [Int.mul_zero]; decide
  · refine ⟨⟨by decide, by decide, by decide⟩, ⟨by decide, by decide, by decide⟩, big_ok, (show (0 : Int) < 10 ^ 60 * 10 ^ 60 by decide), ⟨by decide, by decide, by decide⟩, ?_⟩
    have e1 : 0 ≤ (0 : Int) % 2147483629 := Int.emod_nonneg _ (by decide)
    have e2 : (0 : Int) % 2147483629 < 2147483629 := Int.emod_lt_of_pos _ (by decide)
    have e3 : 0 ≤ 7919 * k * k := Int.mul_nonneg (Int.mul_nonneg (by decide) k0) k0
    have e4 : 7919 * k * k ≤ 7919 * 100 * 100 := Int.mul_le_mul (Int.mul_le_mul_of_nonneg_left k1 (by decide)) k1 k0 (by decide)
    have e5 : 0 ≤ ((0 : Int) % 2147483629 + 7919 * k * k + 11) ^ Int.toNat 3 % 2147483647 := Int.emod_nonneg _ (by decide)
    have e6 : ((0 : Int) % 2147483629 + 7919 * k * k + 11) ^ Int.toNat 3 % 2147483647 < 2147483647 := Int.emod_lt_of_pos _ (by decide)
    refine ⟨?_, (show (0 : Int) < 2147483629 by decide), mulL (by decide) (by decide), mulR (by omega) (by omega), ⟨by decide, by decide, by omega⟩, (show (0 : Int) < 2147483647 by decide), (by show 3 ≤ sizeLine; decide), fun p hp => ?_⟩
    · split <;> exact mulR (by decide) (by decide)
    · refine q p _ hp (Same.new hp _) ⟨_, _, 0, upd_same, ?_, e5, e6⟩
      split
      · rw [Int.mul_one]; exact Int.emod_nonneg _ (by decide)
      · rw [Int.mul_zero]; decide
end
end K10
namespace MRow
noncomputable def putN : Nat → (Nat → Int) → Nat → Nat → Int
  | 0, f, _, n => f n
  | k + 1, f, s, n => f n + (if s ≤ n then putN k f s (n - s) else 0)
noncomputable def put (f : Nat → Int) (s n : Nat) : Int := putN n f s n
theorem putN_more {f : Nat → Int} {s : Nat} (hs : 0 < s) : ∀ (k n : Nat), n ≤ k → putN k f s n = putN n f s n
  | 0, n, h => by have : n = 0 := by omega
                  subst this; rfl
  | k + 1, 0, _ => by
    show f 0 + (if s ≤ 0 then _ else 0) = f 0
    rw [if_neg (by omega)]; omega
  | k + 1, n + 1, h => by
    show f (n + 1) + (if s ≤ n + 1 then putN k f s (n + 1 - s) else 0) = f (n + 1) + (if s ≤ n + 1 then putN n f s (n + 1 - s) else 0)
    by_cases hn : s ≤ n + 1
    · rw [if_pos hn, if_pos hn, putN_more hs k _ (by omega), putN_more hs n _ (by omega)]
    · rw [if_neg hn, if_neg hn]
theorem put_eq (f : Nat → Int) {s : Nat} (hs : 0 < s) (n : Nat) : put f s n = f n + (if s ≤ n then put f s (n - s) else 0) := by
  unfold put
  rw [← putN_more hs (n + 1) n (by omega)]
  show f n + (if s ≤ n then putN n f s (n - s) else 0) = _
  by_cases hn : s ≤ n
  · rw [if_pos hn, if_pos hn, putN_more hs n _ (by omega)]
  · rw [if_neg hn, if_neg hn]
noncomputable def dl : Nat → Int := fun n => if n = 0 then 1 else 0
noncomputable def R : Nat → Nat → Int
  | 0 => dl
  | s + 1 => put (R s) (s + 1)
noncomputable def tb (f : Nat → Int) (L : Nat) : List Int := (List.range L).map f
theorem tb_len (f : Nat → Int) (L : Nat) : (tb f L).length = L := by simp [tb]
theorem tb_at {f : Nat → Int} {L j : Nat} (h : j < (tb f L).length) : (tb f L)[j] = f j := by simp [tb]
theorem tb_get {f : Nat → Int} {L j : Nat} (h : j < L) : (tb f L)[j]? = some (f j) := by
  rw [List.getElem?_eq_getElem (by rw [tb_len]; exact h), tb_at]
theorem put_low (f : Nat → Int) {s n : Nat} (hs : 0 < s) (h : n < s) : put f s n = f n := by rw [put_eq f hs, if_neg (by omega)]; omega
end MRow
set_option linter.all false
set_option maxRecDepth 100000
set_option maxHeartbeats 4000000
namespace M80
open MRow
noncomputable def off (g : Nat → Int) (s n : Nat) : Int := g n - if s ≤ n then g (n - s) else 0
theorem put_of {F c : Nat → Int} {s : Nat} (hs : 0 < s) (h : off F s = c) : F = put c s := by
  funext n
  induction n using Nat.strongRecOn with
  | ind n ih =>
    have e := congrFun h n
    unfold off at e
    rw [put_eq c hs]
    by_cases hn : s ≤ n
    · rw [if_pos hn] at e ⊢
      rw [← ih (n - s) (by omega)]
      omega
    · rw [if_neg hn] at e ⊢
      omega
theorem off_put (g : Nat → Int) {s : Nat} (hs : 0 < s) : off (put g s) s = g := by
  funext n
  unfold off
  rw [put_eq g hs n]
  omega
theorem put_off (g : Nat → Int) {s : Nat} (hs : 0 < s) : put (off g s) s = g := (put_of hs rfl).symm
theorem off_comm (g : Nat → Int) (a b : Nat) : off (off g a) b = off (off g b) a := by
  funext n
  unfold off
  by_cases ha : a ≤ n
  · by_cases hb : b ≤ n
    · by_cases hab : a + b ≤ n
      · rw [if_pos hb, if_pos ha, if_pos (show a ≤ n - b by omega), if_pos (show b ≤ n - a by omega), show n - b - a = n - a - b by omega]
        omega
      · rw [if_pos hb, if_pos ha, if_neg (show ¬ a ≤ n - b by omega), if_neg (show ¬ b ≤ n - a by omega)]
        omega
    · rw [if_neg hb, if_pos ha, if_neg (show ¬ b ≤ n - a by omega)]
      omega
  · by_cases hb : b ≤ n
    · rw [if_pos hb, if_neg ha, if_neg (show ¬ a ≤ n - b by omega)]
      omega
    · simp only [if_neg hb, if_neg ha]
theorem off_put_comm (g : Nat → Int) {a : Nat} (b : Nat) (ha : 0 < a) : off (put g a) b = put (off g b) a := by
  refine put_of ha ?_
  rw [off_comm, off_put g ha]
theorem put_comm (g : Nat → Int) {a b : Nat} (ha : 0 < a) (hb : 0 < b) : put (put g a) b = put (put g b) a := by
  refine put_of ha ?_
  rw [off_put_comm _ _ hb, off_put _ ha]
noncomputable def PL (g : Nat → Int) (ss : List Nat) : Nat → Int := ss.foldl put g
noncomputable def OL (g : Nat → Int) (ss : List Nat) : Nat → Int := ss.foldl off g
theorem PL_cons (g : Nat → Int) (s : Nat) (ss : List Nat) : PL g (s :: ss) = PL (put g s) ss := rfl
theorem OL_cons (g : Nat → Int) (s : Nat) (ss : List Nat) : OL g (s :: ss) = OL (off g s) ss := rfl
theorem PL_app (g : Nat → Int) (a b : List Nat) : PL g (a ++ b) = PL (PL g a) b := by unfold PL; rw [List.foldl_append]
theorem OL_app (g : Nat → Int) (a b : List Nat) : OL g (a ++ b) = OL (OL g a) b := by unfold OL; rw [List.foldl_append]
theorem PL_off : ∀ (ss : List Nat) (g : Nat → Int) (s : Nat), (∀ x ∈ ss, 0 < x) → PL (off g s) ss = off (PL g ss) s
  | [], _, _, _ => rfl
  | x :: ss, g, s, h => by rw [PL_cons, PL_cons, ← off_put_comm g s (h x List.mem_cons_self), PL_off ss (put g x) s fun y hy => h y (List.mem_cons_of_mem _ hy)]
theorem PL_perm {a b : List Nat} (p : a.Perm b) : ∀ (g : Nat → Int), (∀ x ∈ a, 0 < x) → PL g a = PL g b := by
  induction p with
  | nil => intro g _; rfl
  | cons x _ ih => intro g h; rw [PL_cons, PL_cons]; exact ih _ fun y hy => h y (List.mem_cons_of_mem _ hy)
  | swap x y l => intro g h; rw [PL_cons, PL_cons, PL_cons, PL_cons, put_comm g (h _ List.mem_cons_self) (h _ (List.mem_cons_of_mem _ List.mem_cons_self))]
  | trans p1 _ ih1 ih2 => intro g h; rw [ih1 g h]; exact ih2 g fun x hx => h x (p1.mem_iff.mpr hx)
theorem cancel : ∀ (ss : List Nat) (g : Nat → Int), (∀ x ∈ ss, 0 < x) → OL (PL g ss) ss = g
  | [], _, _ => rfl
  | x :: ss, g, h => by
    have h' : ∀ y ∈ ss, 0 < y := fun y hy => h y (List.mem_cons_of_mem _ hy)
    rw [PL_cons, OL_cons, ← PL_off ss _ _ h', off_put g (h x List.mem_cons_self)]
    exact cancel ss g h'
noncomputable def ups (n : Nat) : List Nat := (List.range n).map (· + 1)
theorem ups_succ (n : Nat) : ups (n + 1) = ups n ++ [n + 1] := by unfold ups; rw [List.range_succ, List.map_append]; rfl
theorem ups_pos {n x : Nat} (h : x ∈ ups n) : 0 < x ∧ x ≤ n := by
  obtain ⟨i, hi, rfl⟩ := List.mem_map.mp h
  have := List.mem_range.mp hi
  omega
theorem PL_ups : ∀ n, PL dl (ups n) = R n
  | 0 => rfl
  | n + 1 => by rw [ups_succ, PL_app, PL_ups n]; rfl
theorem filt_perm {α : Type} (p : α → Bool) : ∀ l : List α, List.Perm (l.filter (fun x => !p x) ++ l.filter p) l
  | [] => .nil
  | x :: l => by
    by_cases h : p x = true
    · rw [List.filter_cons_of_neg (by simp [h]), List.filter_cons_of_pos h]
      exact List.perm_middle.trans (.cons x (filt_perm p l))
    · rw [List.filter_cons_of_pos (by simp [h]), List.filter_cons_of_neg h]
      exact .cons x (filt_perm p l)
theorem R_less (far : Nat) (p : Nat → Bool) : OL (R far) ((ups far).filter p) = PL dl ((ups far).filter fun x => !p x) := by
  have h := PL_perm (filt_perm p (ups far)) dl fun x hx => by
    rcases List.mem_append.mp hx with h | h
    · exact (ups_pos (List.mem_filter.mp h).1).1
    · exact (ups_pos (List.mem_filter.mp h).1).1
  rw [← PL_ups, ← h, PL_app]
  exact cancel _ _ fun x hx => (ups_pos (List.mem_filter.mp hx).1).1
noncomputable def below (m : Nat) (ss : List Nat) (g : Nat → Int) : Nat → Int := ss.foldl (fun g s => off (put g s) (m * s)) g
theorem below_is (m : Nat) : ∀ (ss : List Nat) (g : Nat → Int), (∀ x ∈ ss, 0 < x) → below m ss g = OL (PL g ss) (ss.map (m * ·))
  | [], _, _ => rfl
  | s :: ss, g, h => by
    have h' : ∀ y ∈ ss, 0 < y := fun y hy => h y (List.mem_cons_of_mem _ hy)
    show below m ss (off (put g s) (m * s)) = OL (PL (put g s) ss) (m * s :: ss.map (m * ·))
    rw [below_is m ss _ h', PL_off ss _ _ h', OL_cons]
noncomputable def Al (N : Nat) (f g : Nat → Int) : Prop := ∀ j, j ≤ N → f j = g j
theorem Al.great {N : Nat} {f g : Nat → Int} (h : Al N f g) {s : Nat} (hs : N < s) : Al N (M80.off f s) g := fun j hj => by
  unfold M80.off
  rw [if_neg (by omega), h j hj, Int.sub_zero]
theorem OL_great {N : Nat} : ∀ (ss : List Nat) {f g : Nat → Int}, Al N f g → (∀ x ∈ ss, N < x) → Al N (OL f ss) g
  | [], _, _, h, _ => h
  | s :: ss, f, g, h, hs => OL_great ss (h.great (hs s List.mem_cons_self)) fun y hy => hs y (List.mem_cons_of_mem _ hy)
theorem Al.refl (N : Nat) (f : Nat → Int) : Al N f f := fun _ _ => rfl
theorem mults {m k far : Nat} (hm : 0 < m) (h1 : m * k ≤ far) (h2 : far < m * (k + 1)) : (ups far).filter (fun x => decide (x % m = 0)) = (ups k).map (m * ·) := by
  have key : ∀ far k, m * k ≤ far → far < m * (k + 1) → (ups far).filter (fun x => decide (x % m = 0)) = (ups k).map (m * ·) := by
    intro far
    induction far with
    | zero =>
      intro k h1 h2
      have hk : k = 0 := by
        cases k with
        | zero => rfl
        | succ k => rw [Nat.mul_succ] at h1; omega
      subst hk; rfl
    | succ far ih =>
      intro k h1 h2
      rw [ups_succ, List.filter_append]
      by_cases e : m * k = far + 1
      · obtain ⟨k', rfl⟩ : ∃ k', k = k' + 1 := ⟨k - 1, by cases k with
          | zero => rw [Nat.mul_zero] at e; omega
          | succ k => omega⟩
        rw [ih k' (by rw [Nat.mul_succ] at e; omega) (by omega), ups_succ, List.map_append, ← e]
        congr 1
        rw [List.filter_cons_of_pos (by simp)]
        rfl
      · rw [ih k (by omega) (by omega), List.filter_cons_of_neg, List.filter_nil, List.append_nil]
        intro z
        have z' := of_decide_eq_true z
        have : far + 1 = m * ((far + 1) / m) := by have := Nat.div_add_mod (far + 1) m; omega
        have h3 : (far + 1) / m = k := by
          have a1 : m * ((far + 1) / m) < m * (k + 1) := by omega
          have a2 : (far + 1) / m < k + 1 := Nat.lt_of_mul_lt_mul_left a1
          have a3 : m * k < m * ((far + 1) / m + 1) := by rw [Nat.mul_succ]; omega
          have a4 : k < (far + 1) / m + 1 := Nat.lt_of_mul_lt_mul_left a3
          omega
        rw [h3] at this
        exact e this.symm
  exact key far k h1 h2
theorem sieve0 {m k far : Nat} (hm : 0 < m) (h1 : m * k ≤ far) (h2 : far < m * (k + 1)) : OL (R far) ((ups k).map (m * ·)) = PL dl ((ups far).filter fun x => !decide (x % m = 0)) := by
  rw [← mults hm h1 h2, R_less]
theorem sieve1 {m k far : Nat} (hm : 0 < m) (hk : k ≤ far) (h2 : far < m * (k + 1)) : Al far (below m (ups far) dl) (OL (R far) ((ups k).map (m * ·))) := by
  rw [below_is m (ups far) dl fun x hx => (ups_pos hx).1, PL_ups]
  have e : ups far = ups k ++ (List.range (far - k)).map fun i => k + (i + 1) := by
    obtain ⟨d, rfl⟩ : ∃ d, far = k + d := ⟨far - k, by omega⟩
    rw [Nat.add_sub_cancel_left]
    clear h2 hk
    induction d with
    | zero => simp [ups]
    | succ d ih => rw [show k + (d + 1) = (k + d) + 1 by omega, ups_succ, ih, List.range_succ, List.map_append, ← List.append_assoc]; rfl
  rw [e, List.map_append, OL_app]
  refine OL_great _ (Al.refl _ _) fun x hx => ?_
  obtain ⟨y, hy, rfl⟩ := List.mem_map.mp hx
  obtain ⟨i, _, rfl⟩ := List.mem_map.mp hy
  have : m * (k + 1) ≤ m * (k + (i + 1)) := Nat.mul_le_mul_left _ (by omega)
  omega
end M80
set_option Elab.async false
set_option linter.all false
set_option maxRecDepth 100000
set_option maxHeartbeats 4000000
namespace M17
open MRow M80
noncomputable def bx (l k : Nat) : Nat → Int := (ups k).foldl (fun g i => off (put g i) (l + i)) dl
theorem bx_succ (l k : Nat) : bx l (k + 1) = off (put (bx l k) (k + 1)) (l + (k + 1)) := by unfold bx; rw [ups_succ, List.foldl_append]; rfl
theorem fold_is (f : Nat → Nat) : ∀ (ss : List Nat) (g : Nat → Int), (∀ x ∈ ss, 0 < x) → ss.foldl (fun g s => off (put g s) (f s)) g = OL (PL g ss) (ss.map f)
  | [], _, _ => rfl
  | s :: ss, g, h => by
    have h1 := fun x hx => h x (List.mem_cons_of_mem s hx)
    rw [List.foldl_cons, fold_is f ss _ h1, PL_cons, List.map_cons, OL_cons, PL_off ss _ _ h1]
theorem bx_is (l k : Nat) : bx l k = OL (PL dl (ups k)) ((ups k).map (l + ·)) := fold_is (l + ·) (ups k) dl fun x hx => (ups_pos hx).1
theorem ups_add (l : Nat) : ∀ k, ups (l + k) = ups l ++ (ups k).map (l + ·)
  | 0 => by simp [ups]
  | k + 1 => by rw [← Nat.add_assoc, ups_succ, ups_add l k, ups_succ, List.map_append, List.append_assoc]; rfl
theorem bx_both (l k : Nat) : bx l k = OL (PL (PL dl (ups k)) (ups l)) (ups (l + k)) := by
  rw [ups_add, OL_app, cancel (ups l) _ fun x hx => (ups_pos hx).1, bx_is]
theorem bx_turn (l k : Nat) : bx l k = bx k l := by
  rw [bx_both, bx_both, ← PL_app, ← PL_app, PL_perm List.perm_append_comm dl fun x hx => ?_, Nat.add_comm]
  rcases List.mem_append.mp hx with h | h <;> exact (ups_pos h).1
theorem bx_big {l k j : Nat} (h : j ≤ l) : bx l k j = PL dl (ups k) j := by
  rw [bx_is]
  exact OL_great _ (Al.refl l _) (fun x hx => by obtain ⟨y, hy, rfl⟩ := List.mem_map.mp hx; have := ups_pos hy; show l < l + y; omega) j h
theorem R_succ (k : Nat) : PL dl (ups (k + 1)) = put (PL dl (ups k)) (k + 1) := by rw [ups_succ, PL_app]; rfl
theorem R_low {k j : Nat} (h : j ≤ k) : PL dl (ups (k + 1)) j = PL dl (ups k) j := by rw [R_succ, put_low _ (by omega) (by omega)]
theorem R_far {n j : Nat} (h : j ≤ n) : ∀ e, PL dl (ups (n + e)) j = PL dl (ups n) j
  | 0 => rfl
  | e + 1 => by rw [← Nat.add_assoc, R_low (by omega), R_far h e]
theorem R_min {k n j : Nat} (h : j ≤ n) : PL dl (ups (min k n)) j = PL dl (ups k) j := by
  by_cases c : k ≤ n
  · rw [Nat.min_eq_left c]
  · rw [Nat.min_eq_right (by omega), ← R_far h (k - n), show n + (k - n) = k by omega]
noncomputable def Ls (d : Nat) : Nat → Nat
  | 0 => 0
  | m + 1 => Ls d m + 1 + d * m
theorem Ls_ge (d : Nat) : ∀ m, m ≤ Ls d m
  | 0 => Nat.le_refl _
  | m + 1 => by have := Ls_ge d m; show m + 1 ≤ Ls d m + 1 + d * m; omega
theorem Ls_up (d : Nat) (m : Nat) : ∀ e, Ls d m ≤ Ls d (m + e)
  | 0 => Nat.le_refl _
  | e + 1 => Nat.le_trans (Ls_up d m e) (by show Ls d (m + e) ≤ Ls d (m + e) + 1 + d * (m + e); omega)
noncomputable def fq (d : Nat) : Nat → Nat → Int
  | 0, _ => 0
  | m + 1, j => fq d m j + if Ls d m ≤ j then PL dl (ups m) (j - Ls d m) else 0
theorem fq_far {d m n j : Nat} (hm : n < Ls d m) (h : j ≤ n) : ∀ e, fq d (m + e) j = fq d m j
  | 0 => rfl
  | e + 1 => by
    show (fq d (m + e) j + if Ls d (m + e) ≤ j then PL dl (ups (m + e)) (j - Ls d (m + e)) else 0) = _
    have := Ls_up d m e
    rw [if_neg (show ¬ Ls d (m + e) ≤ j by omega), fq_far hm h e, Int.add_zero]
noncomputable def fow (d : Nat) : Nat → Int := fq d 602
theorem fow_is {d m n j : Nat} (hm : n < Ls d m) (hm2 : m ≤ 602) (h : j ≤ n) : fq d m j = fow d j := by
  have := fq_far hm h (602 - m)
  rw [show m + (602 - m) = 602 by omega] at this
  exact this.symm
noncomputable def rsz (m : Nat) (rs : List Int) (n : Nat) : List Nat := (ups n).filter fun s => decide ((s : Int) % (m : Int) ∈ rs)
theorem times_is {m n : Nat} (hm : 0 < m) {rs : List Int} (hrs : ∀ x : Nat, (((x : Int) % (m : Int)) ∈ rs ↔ ¬ x % m = 0)) {j : Nat} (h : j ≤ n) : below m (ups n) dl j = PL dl (rsz m rs n) j := by
  have h1 : m * (n / m) ≤ n := Nat.mul_div_le n m
  have h2 : n < m * (n / m + 1) := by have := Nat.lt_mul_div_succ n hm; omega
  have s1 := sieve1 hm (Nat.div_le_self n m) h2 j h
  rw [s1, show R n = R n from rfl, sieve0 hm h1 h2]
  have e : ((ups n).filter fun x => !decide (x % m = 0)) = rsz m rs n := by
    unfold rsz
    refine List.filter_congr fun x _ => ?_
    by_cases c : x % m = 0
    · rw [decide_eq_true c, decide_eq_false (fun z => ((hrs x).mp z) c)]; rfl
    · rw [decide_eq_false c, decide_eq_true ((hrs x).mpr c)]; rfl
  rw [e]
end M17
set_option Elab.async false
set_option linter.all false
set_option maxRecDepth 100000
set_option maxHeartbeats 4000000
namespace M12
open MRow M80 M17
noncomputable def sh (e : Nat) (g : Nat → Int) (i : Nat) : Int := if e ≤ i then g (i - e) else 0
theorem sh_sh (a b : Nat) (g : Nat → Int) (i : Nat) : sh a (sh b g) i = sh (a + b) g i := by
  unfold sh
  by_cases h1 : a ≤ i
  · rw [if_pos h1]
    by_cases h2 : a + b ≤ i
    · rw [if_pos (by omega), if_pos h2, Nat.sub_sub]
    · rw [if_neg (by omega), if_neg h2]
  · rw [if_neg h1, if_neg (by omega)]
noncomputable def ex (d m j : Nat) : Nat := m * j + d * (m * (m - 1) / 2)
theorem tri (m : Nat) : (m + 1) * (m + 1 - 1) / 2 = m * (m - 1) / 2 + m := by
  cases m with
  | zero => rfl
  | succ k =>
    rw [Nat.add_sub_cancel, Nat.add_sub_cancel]
    have : (k + 1 + 1) * (k + 1) = (k + 1) * k + (k + 1) * 2 := by grind
    rw [this, Nat.add_mul_div_right _ _ (by decide)]
theorem ex_up (d m j : Nat) : ex d m (j + 1) = ex d m j + m := by unfold ex; rw [Nat.mul_add]; omega
theorem ex_in (d m j : Nat) : ex d (m + 1) j = j + ex d m (j + d) := by
  unfold ex
  rw [tri, Nat.mul_add d, Nat.mul_add m, Nat.add_mul, Nat.mul_comm m d]
  omega
theorem ls_ex (d : Nat) : ∀ m, Ls d m = ex d m 1
  | 0 => by unfold ex; simp [Ls]
  | m + 1 => by
    show Ls d m + 1 + d * m = _
    rw [ls_ex d m]
    unfold ex
    rw [tri, Nat.mul_add d]
    omega
end M12
set_option Elab.async false
set_option linter.all false
set_option maxRecDepth 100000
set_option maxHeartbeats 4000000
namespace M17
open MRow M80
noncomputable def blk (s : Nat) : Nat → List Int → List Int → List Int
  | 0, _, _ => []
  | f + 1, prev, l => match l with
    | [] => []
    | _ => List.zipWith (· + ·) (l.take s) prev ++ blk s f (List.zipWith (· + ·) (l.take s) prev) (l.drop s)
noncomputable def putL (L s : Nat) (l : List Int) : List Int := blk s (L / s + 1) (List.replicate s 0) l
noncomputable def tbf (g : Nat → Int) (p L : Nat) : List Int := (List.range L).map fun j => g (p + j)
theorem tbf_len (g : Nat → Int) (p L : Nat) : (tbf g p L).length = L := by unfold tbf; simp
theorem tbf_at {g : Nat → Int} {p L i : Nat} (h : i < (tbf g p L).length) : (tbf g p L)[i] = g (p + i) := by simp [tbf]
theorem tbf_take (g : Nat → Int) (p L s : Nat) : (tbf g p L).take s = tbf g p (min s L) := by
  unfold tbf; rw [← List.map_take, List.take_range]
theorem tbf_drop (g : Nat → Int) (p L s : Nat) : (tbf g p L).drop s = tbf g (p + s) (L - s) := by
  refine List.ext_getElem (by simp [tbf]) fun i h1 h2 => ?_
  rw [List.getElem_drop, tbf_at, tbf_at, Nat.add_assoc]
theorem tbf_app (g : Nat → Int) (p a b : Nat) : tbf g p a ++ tbf g (p + a) b = tbf g p (a + b) := by
  refine List.ext_getElem (by simp [tbf]) fun i h1 h2 => ?_
  rw [List.getElem_append]
  split
  · rw [tbf_at, tbf_at]
  · rename_i c
    have c' : ¬ i < a := by rw [tbf_len] at c; exact c
    rw [tbf_at, tbf_at]
    congr 1
    rw [tbf_len]
    omega
theorem zip_is {g : Nat → Int} {s p k : Nat} {prev : List Int} (hs : 0 < s) (hk : k ≤ s) (hl : prev.length = s) (hp : ∀ j, j < k → prev.getD j 0 = if s ≤ p + j then put g s (p + j - s) else 0) :
    List.zipWith (· + ·) (tbf g p k) prev = tbf (put g s) p k := by
  refine List.ext_getElem (by rw [List.length_zipWith, tbf_len, tbf_len]; omega) fun i h1 h2 => ?_
  have hi : i < k := by rw [tbf_len] at h2; exact h2
  rw [List.getElem_zipWith]
  have e := hp i hi
  rw [List.getD_eq_getElem?_getD, List.getElem?_eq_getElem (by omega)] at e
  have e : prev[i] = if s ≤ p + i then put g s (p + i - s) else 0 := e
  rw [e, tbf_at, tbf_at, put_eq g hs (p + i)]
theorem blk_ok {g : Nat → Int} {s : Nat} (hs : 0 < s) : ∀ (f p L : Nat) (prev : List Int), L < f * s → prev.length = s → (∀ j, j < min s L → prev.getD j 0 = if s ≤ p + j then put g s (p + j - s) else 0) → blk s f prev (tbf g p L) = tbf (put g s) p L
  | 0, p, L, prev, h, _, _ => by omega
  | f + 1, p, 0, prev, _, _, _ => rfl
  | f + 1, p, L + 1, prev, h, hl, hp => by
    have e0 : ∃ x r, tbf g p (L + 1) = x :: r := by
      cases e : tbf g p (L + 1) with
      | nil => have := tbf_len g p (L + 1); rw [e] at this; cases this
      | cons x r => exact ⟨x, r, rfl⟩
    obtain ⟨x, r, e0⟩ := e0
    have e1 : blk s (f + 1) prev (tbf g p (L + 1)) = List.zipWith (· + ·) ((tbf g p (L + 1)).take s) prev ++ blk s f (List.zipWith (· + ·) ((tbf g p (L + 1)).take s) prev) ((tbf g p (L + 1)).drop s) := by rw [e0]; rfl
    rw [e1, tbf_take, tbf_drop, zip_is hs (Nat.min_le_left _ _) hl hp]
    by_cases c : L + 1 ≤ s
    · have z : L + 1 - s = 0 := by omega
      rw [z, Nat.min_eq_right c]
      have : blk s f (tbf (put g s) p (L + 1)) (tbf g (p + s) 0) = [] := by cases f <;> rfl
      rw [this, List.append_nil]
    · rw [Nat.min_eq_left (by omega), blk_ok hs f (p + s) (L + 1 - s) (tbf (put g s) p s) (by rw [Nat.succ_mul] at h; omega) (tbf_len _ _ _) fun j hj => ?_, tbf_app, show s + (L + 1 - s) = L + 1 by omega]
      have hj' : j < s := by omega
      unfold tbf
      rw [List.getD_eq_getElem?_getD, List.getElem?_map, List.getElem?_range hj', if_pos (by omega), show p + s + j - s = p + j by omega]
      rfl
theorem tb_tbf (g : Nat → Int) (L : Nat) : tb g L = tbf g 0 L := by unfold tb tbf; exact List.map_congr_left fun j _ => by rw [Nat.zero_add]
theorem putL_ok (g : Nat → Int) {s : Nat} (hs : 0 < s) (L : Nat) : putL L s (tb g L) = tb (put g s) L := by
  unfold putL
  rw [tb_tbf, tb_tbf]
  refine blk_ok hs _ 0 L _ ?_ (List.length_replicate ..) fun j hj => ?_
  · have := Nat.lt_mul_div_succ L hs
    rw [Nat.mul_comm]
    exact this
  · rw [if_neg (by omega), List.getD_eq_getElem?_getD, List.getElem?_replicate, if_pos (by omega)]
    rfl
noncomputable def PLL (L : Nat) (l : List Int) (ss : List Nat) : List Int := ss.foldl (fun l s => putL L s l) l
theorem PLL_ok (L : Nat) : ∀ (ss : List Nat) (g : Nat → Int), (∀ x ∈ ss, 0 < x) → PLL L (tb g L) ss = tb (PL g ss) L
  | [], _, _ => rfl
  | s :: ss, g, h => by
    show PLL L (putL L s (tb g L)) ss = _
    rw [putL_ok g (h s List.mem_cons_self), PLL_ok L ss _ fun x hx => h x (List.mem_cons_of_mem s hx)]
    rfl
end M17
set_option Elab.async false
set_option linter.all false
set_option maxRecDepth 100000
set_option maxHeartbeats 4000000
namespace M21
open MRow
end M21
set_option Elab.async false
set_option linter.all false
set_option maxRecDepth 100000
set_option maxHeartbeats 4000000
namespace M12
open MRow M80 M17
noncomputable def odds (n : Nat) : List Nat := (List.range ((n + 1) / 2)).map fun k => 2 * k + 1
theorem below_app (m : Nat) (a b : List Nat) (g : Nat → Int) : below m (a ++ b) g = below m b (below m a g) := by unfold below; rw [List.foldl_append]
noncomputable def fl (p : Nat → Bool) (n : Nat) : List Nat := (ups n).filter p
theorem fl_succ (p : Nat → Bool) (n : Nat) : fl p (n + 1) = fl p n ++ if p (n + 1) = true then [n + 1] else [] := by
  unfold fl
  rw [ups_succ, List.filter_append]
  congr 1
  by_cases h : p (n + 1) = true
  · rw [if_pos h, List.filter_cons_of_pos h]; rfl
  · rw [if_neg h, List.filter_cons_of_neg h]; rfl
theorem fl_most (k : Nat) : ∀ n, fl (fun s => decide (s ≤ k)) n = ups (min k n)
  | 0 => by rw [Nat.min_zero]; rfl
  | n + 1 => by
    rw [fl_succ, fl_most k n]
    by_cases h : n + 1 ≤ k
    · rw [if_pos (decide_eq_true h), Nat.min_eq_right h, Nat.min_eq_right (by omega), ups_succ]
    · rw [if_neg (by simpa using h), List.append_nil, Nat.min_eq_left (by omega), Nat.min_eq_left (by omega)]
theorem fl_all (n : Nat) : fl (fun _ => true) n = ups n := by
  unfold fl
  exact List.filter_eq_self.mpr fun _ _ => rfl
end M12
set_option Elab.async false
set_option linter.all false
set_option maxRecDepth 100000
set_option maxHeartbeats 4000000
namespace M12
open MRow M80 M17
end M12
set_option Elab.async false
set_option linter.all false
set_option maxRecDepth 100000
set_option maxHeartbeats 4000000
namespace M17
open MRow M80
end M17
set_option Elab.async false
set_option linter.all false
set_option maxRecDepth 100000
set_option maxHeartbeats 4000000
namespace M24
open MRow M80 M17 M12
theorem off_sh (g : Nat → Int) (s n : Nat) : off g s n = g n - sh s g n := rfl
theorem sh_sub (e : Nat) (f g : Nat → Int) (n : Nat) : sh e (fun i => f i - g i) n = sh e f n - sh e g n := by
  unfold sh
  by_cases h : e ≤ n
  · rw [if_pos h, if_pos h, if_pos h]
  · rw [if_neg h, if_neg h, if_neg h]; omega
theorem off_of_sh (e m : Nat) (g : Nat → Int) : off (sh e g) m = sh e (off g m) := by
  funext n
  rw [off_sh, sh_sh]
  show _ = sh e (fun i => g i - sh m g i) n
  rw [sh_sub, sh_sh, Nat.add_comm]
theorem off_add (f g : Nat → Int) (m : Nat) : off (fun n => f n + g n) m = fun n => off f m n + off g m n := by
  funext n
  unfold off
  split <;> dsimp only <;> omega
theorem bx_a (l k : Nat) : off (bx l (k + 1)) (k + 1) = off (bx l k) (l + (k + 1)) := by rw [bx_succ, off_comm, off_put _ (by omega)]
theorem bx_b (l k : Nat) : off (bx (l + 1) k) (l + 1) = off (bx l k) (l + (k + 1)) := by
  rw [bx_turn (l + 1) k, bx_a k l, bx_turn k l, show k + (l + 1) = l + (k + 1) by omega]
theorem off_inj {f g : Nat → Int} {s : Nat} (hs : 0 < s) (h : off f s = off g s) : f = g := by rw [← put_off f hs, h, put_off g hs]
theorem pascal (k l : Nat) : bx (l + 1) (k + 1) = fun n => bx (l + 1) k n + sh (k + 1) (bx l (k + 1)) n := by
  refine off_inj (s := k + 1) (by omega) (off_inj (s := l + 1) (by omega) ?_)
  rw [bx_a, off_comm, bx_b, off_add, off_add, off_comm (bx (l + 1) k), bx_b, off_of_sh, bx_a, off_of_sh]
  generalize off (bx l k) (l + (k + 1)) = Y
  funext n
  rw [off_sh, off_sh]
  show _ = Y n - sh (k + 1) Y n + sh (k + 1) (fun i => Y i - sh (l + 1) Y i) n
  rw [sh_sub, sh_sh, show k + 1 + (l + 1) = l + 1 + (k + 1) by omega]
  omega
theorem bx_none (l : Nat) : bx l 0 = dl := rfl
theorem bx_none' (k : Nat) : bx 0 k = dl := by rw [bx_turn]; rfl
end M24
set_option Elab.async false
set_option linter.all false
set_option maxRecDepth 100000
set_option maxHeartbeats 4000000
namespace M11
open MRow M80 M17 M12 M24
noncomputable def lsN (prev : Nat → List (List Nat)) (s : Nat) : Nat → Nat → List (List Nat)
  | 0, n => prev n
  | f + 1, n => (if s ≤ n then (lsN prev s f (n - s)).map (s :: ·) else []) ++ prev n
noncomputable def Lst : Nat → Nat → List (List Nat)
  | 0 => fun n => if n = 0 then [[]] else []
  | m + 1 => fun n => lsN (Lst m) (m + 1) n n
theorem lsN_more {f : Nat → List (List Nat)} {s : Nat} (hs : 0 < s) : ∀ (k n : Nat), n ≤ k → lsN f s k n = lsN f s n n
  | 0, n, h => by have : n = 0 := by omega
                  subst this; rfl
  | k + 1, 0, _ => by
    show (if s ≤ 0 then _ else []) ++ f 0 = f 0
    rw [if_neg (by omega)]; rfl
  | k + 1, n + 1, h => by
    show (if s ≤ n + 1 then (lsN f s k (n + 1 - s)).map (s :: ·) else []) ++ f (n + 1) = (if s ≤ n + 1 then (lsN f s n (n + 1 - s)).map (s :: ·) else []) ++ f (n + 1)
    by_cases hn : s ≤ n + 1
    · rw [if_pos hn, if_pos hn, lsN_more hs k _ (by omega), lsN_more hs n _ (by omega)]
    · rw [if_neg hn, if_neg hn]
theorem ls_eq (m n : Nat) : Lst (m + 1) n = (if m + 1 ≤ n then (Lst (m + 1) (n - (m + 1))).map ((m + 1) :: ·) else []) ++ Lst m n := by
  show lsN (Lst m) (m + 1) n n = (if m + 1 ≤ n then (lsN (Lst m) (m + 1) (n - (m + 1)) (n - (m + 1))).map ((m + 1) :: ·) else []) ++ Lst m n
  rw [← lsN_more (by omega) (n + 1) n (by omega)]
  show (if m + 1 ≤ n then (lsN (Lst m) (m + 1) n (n - (m + 1))).map ((m + 1) :: ·) else []) ++ Lst m n = _
  by_cases hn : m + 1 ≤ n
  · rw [if_pos hn, if_pos hn, lsN_more (by omega) n _ (by omega)]
  · rw [if_neg hn, if_neg hn]
noncomputable def cn (m n : Nat) (p : List Nat → Bool) : Int := ((Lst m n).countP p : Nat)
theorem cn_zero (n : Nat) (p : List Nat → Bool) : cn 0 n p = if p [] = true then dl n else 0 := by
  unfold cn
  show ((List.countP p (if n = 0 then [[]] else []) : Nat) : Int) = _
  unfold dl
  by_cases h : n = 0
  · rw [if_pos h, if_pos h]
    cases hp : p [] with
    | true => rw [List.countP_cons_of_pos hp]; rfl
    | false => rw [List.countP_cons_of_neg (by rw [hp]; decide)]; rfl
  · rw [if_neg h, if_neg h]
    cases p [] <;> rfl
theorem cn_succ (m n : Nat) (p : List Nat → Bool) : cn (m + 1) n p = (if m + 1 ≤ n then cn (m + 1) (n - (m + 1)) (fun l => p ((m + 1) :: l)) else 0) + cn m n p := by
  unfold cn
  rw [ls_eq, List.countP_append, Int.natCast_add]
  congr 1
  by_cases h : m + 1 ≤ n
  · rw [if_pos h, if_pos h, List.countP_map]
    rfl
  · rw [if_neg h, if_neg h]
    rfl
theorem cn_congr {m n : Nat} {p q : List Nat → Bool} (h : ∀ l ∈ Lst m n, p l = q l) : cn m n p = cn m n q := by
  unfold cn
  rw [List.countP_congr fun l hl => by rw [h l hl]]
theorem cn_none {m n : Nat} {p : List Nat → Bool} (h : ∀ l ∈ Lst m n, p l = false) : cn m n p = 0 := by
  rw [cn_congr (q := fun _ => false) h]
  unfold cn
  rw [List.countP_false]
  rfl
theorem ls_mem : ∀ m n l, l ∈ Lst m n → (∀ x ∈ l, 1 ≤ x ∧ x ≤ m) ∧ l.sum = n := by
  intro m
  induction m with
  | zero =>
    intro n l h
    have h : l ∈ (if n = 0 then [[]] else []) := h
    by_cases e : n = 0
    · rw [if_pos e] at h
      rw [List.mem_singleton.mp h]
      exact ⟨fun x hx => (nomatch hx), e.symm⟩
    · rw [if_neg e] at h; cases h
  | succ m ih =>
    intro n
    induction n using Nat.strongRecOn with
    | _ n ihn =>
      intro l h
      rw [ls_eq] at h
      rcases List.mem_append.mp h with h | h
      · by_cases e : m + 1 ≤ n
        · rw [if_pos e] at h
          obtain ⟨y, hy, rfl⟩ := List.mem_map.mp h
          obtain ⟨a, b⟩ := ihn (n - (m + 1)) (by omega) y hy
          refine ⟨fun x hx => ?_, by rw [List.sum_cons, b]; omega⟩
          rcases List.mem_cons.mp hx with e | e
          · omega
          · exact a x e
        · rw [if_neg e] at h; cases h
      · obtain ⟨a, b⟩ := ih n l h
        exact ⟨fun x hx => by have := a x hx; omega, b⟩
theorem ls_len {m n : Nat} {l : List Nat} (h : l ∈ Lst m n) : l.length ≤ n := by
  obtain ⟨a, b⟩ := ls_mem m n l h
  rw [← b]
  clear b h
  induction l with
  | nil => exact Nat.le_refl _
  | cons x l ih =>
    rw [List.length_cons, List.sum_cons]
    have := a x List.mem_cons_self
    have := ih fun y hy => a y (List.mem_cons_of_mem _ hy)
    omega
theorem cn_all (p : Nat → Bool) : ∀ m n, cn m n (fun l => l.all p) = PL dl (fl p m) n := by
  intro m
  induction m with
  | zero => intro n; rw [cn_zero]; rfl
  | succ m ih =>
    intro n
    rw [fl_succ]
    cases hp : p (m + 1) with
    | false =>
      rw [if_neg (by decide), List.append_nil, ← ih n, cn_succ]
      rw [show (if m + 1 ≤ n then cn (m + 1) (n - (m + 1)) (fun l => ((m + 1) :: l).all p) else 0) = 0 from ?_]
      · omega
      · split
        · exact cn_none fun l _ => by rw [List.all_cons, hp]; rfl
        · rfl
    | true =>
      rw [if_pos rfl, PL_app]
      show _ = put (PL dl (fl p m)) (m + 1) n
      induction n using Nat.strongRecOn with
      | _ n ihn =>
        rw [cn_succ, put_eq _ (by omega), ih n]
        by_cases h : m + 1 ≤ n
        · rw [if_pos h, if_pos h, ← ihn (n - (m + 1)) (by omega)]
          have : cn (m + 1) (n - (m + 1)) (fun l => ((m + 1) :: l).all p) = cn (m + 1) (n - (m + 1)) (fun l => l.all p) := cn_congr fun l _ => by rw [List.all_cons, hp]; rfl
          rw [this]
          omega
        · rw [if_neg h, if_neg h]; omega
noncomputable def inb (k l : Nat) (x : List Nat) : Bool := decide (x.length ≤ l) && x.all fun a => decide (a ≤ k)
theorem cn_box (k : Nat) : ∀ m l n, cn m n (inb k l) = bx l (min m k) n := by
  intro m
  induction m with
  | zero => intro l n; rw [cn_zero, if_pos (by unfold inb; simp), Nat.zero_min, bx_none]
  | succ m ih =>
    intro l
    induction l with
    | zero =>
      intro n
      rw [cn_succ, ih 0 n, bx_none', bx_none']
      rw [show (if m + 1 ≤ n then cn (m + 1) (n - (m + 1)) (fun l => inb k 0 ((m + 1) :: l)) else 0) = 0 from ?_]
      · omega
      · split
        · exact cn_none fun l _ => by unfold inb; simp
        · rfl
    | succ l ihl =>
      intro n
      rw [cn_succ, ih (l + 1) n]
      by_cases hk : m + 1 ≤ k
      · rw [Nat.min_eq_left hk, Nat.min_eq_left (by omega), pascal]
        dsimp only
        have : (if m + 1 ≤ n then cn (m + 1) (n - (m + 1)) (fun x => inb k (l + 1) ((m + 1) :: x)) else 0) = sh (m + 1) (bx l (m + 1)) n := by
          unfold sh
          by_cases h : m + 1 ≤ n
          · rw [if_pos h, if_pos h]
            have e := ihl (n - (m + 1))
            rw [Nat.min_eq_left hk] at e
            rw [← e]
            refine cn_congr fun x _ => ?_
            unfold inb
            rw [List.all_cons, decide_eq_true hk, List.length_cons]
            simp
          · rw [if_neg h, if_neg h]
        rw [this]
        omega
      · rw [Nat.min_eq_right (by omega), Nat.min_eq_right (by omega)]
        rw [show (if m + 1 ≤ n then cn (m + 1) (n - (m + 1)) (fun x => inb k (l + 1) ((m + 1) :: x)) else 0) = 0 from ?_]
        · omega
        · split
          · refine cn_none fun x _ => ?_
            unfold inb
            rw [List.all_cons, decide_eq_false hk]
            simp
          · rfl
theorem cn_few {n l : Nat} : cn n n (fun x => decide (x.length ≤ l)) = PL dl (ups l) n := by
  have e : cn n n (fun x => decide (x.length ≤ l)) = cn n n (inb n l) := cn_congr fun x hx => by
    unfold inb
    rw [show (x.all fun a => decide (a ≤ n)) = true from List.all_eq_true.mpr fun a ha => decide_eq_true ((ls_mem n n x hx).1 a ha).2, Bool.and_true]
  rw [e, cn_box, Nat.min_self, bx_turn, bx_big (Nat.le_refl n)]
noncomputable def cts (t : Nat) (x : List Nat) : Bool := x.all fun a => decide (x.count a < t)
noncomputable def ctj (t M j : Nat) (x : List Nat) : Bool := decide (x.count M < j) && x.all fun a => decide (a = M) || decide (x.count a < t)
theorem ctj_t {t : Nat} (ht : 0 < t) (M : Nat) (x : List Nat) : ctj t M t x = cts t x := by
  unfold ctj cts
  by_cases h : x.count M < t
  · rw [decide_eq_true h, Bool.true_and]
    rw [Bool.eq_iff_iff, List.all_eq_true, List.all_eq_true]
    refine ⟨fun g a ha => ?_, fun g a ha => by rw [g a ha, Bool.or_true]⟩
    have := g a ha
    by_cases e : a = M
    · rw [e]; exact decide_eq_true h
    · rw [decide_eq_false e, Bool.false_or] at this; exact this
  · rw [decide_eq_false h, Bool.false_and]
    refine (Bool.eq_false_iff.mpr fun g => ?_).symm
    have hm : M ∈ x := by
      refine List.count_pos_iff.mp ?_
      omega
    exact h (of_decide_eq_true (List.all_eq_true.mp g M hm))
theorem ctj_low {t j m : Nat} {x : List Nat} (hx : ∀ a ∈ x, a ≤ m) : ctj t (m + 1) (j + 1) x = cts t x := by
  unfold ctj cts
  have c0 : x.count (m + 1) = 0 := List.count_eq_zero.mpr fun h => by have := hx _ h; omega
  rw [c0, decide_eq_true (by omega), Bool.true_and]
  rw [Bool.eq_iff_iff, List.all_eq_true, List.all_eq_true]
  refine ⟨fun g a ha => ?_, fun g a ha => by rw [g a ha, Bool.or_true]⟩
  have := g a ha
  rw [decide_eq_false (by have := hx a ha; omega), Bool.false_or] at this
  exact this
theorem ctj_cons (t M j : Nat) (x : List Nat) : ctj t M (j + 1) (M :: x) = ctj t M j x := by
  unfold ctj
  rw [List.count_cons_self, List.all_cons, decide_eq_true (rfl : M = M), Bool.true_or, Bool.true_and]
  congr 1
  · exact decide_eq_decide.mpr (by omega)
  · refine List.all_congr rfl fun a => ?_
    by_cases e : a = M
    · rw [decide_eq_true e, Bool.true_or, Bool.true_or]
    · rw [decide_eq_false e, Bool.false_or, Bool.false_or, List.count_cons_of_ne (Ne.symm e)]
theorem offput (g : Nat → Int) {s : Nat} (hs : 0 < s) (j n : Nat) : off (put g s) ((j + 1) * s) n = (if s ≤ n then off (put g s) (j * s) (n - s) else 0) + g n := by
  unfold off
  rw [put_eq g hs n]
  have e : (j + 1) * s = j * s + s := by grind
  by_cases h : s ≤ n
  · rw [if_pos h, if_pos h]
    by_cases h2 : (j + 1) * s ≤ n
    · rw [if_pos h2, if_pos (by omega), show n - s - j * s = n - (j + 1) * s by omega]; omega
    · rw [if_neg h2, if_neg (by omega)]; omega
  · rw [if_neg h, if_neg h, if_neg (by omega)]; omega
theorem cn_times {t : Nat} (ht : 0 < t) : ∀ m n, cn m n (cts t) = below t (ups m) dl n := by
  intro m
  induction m with
  | zero => intro n; rw [cn_zero, if_pos (by unfold cts; rfl)]; rfl
  | succ m ih =>
    have key : ∀ j n, cn (m + 1) n (ctj t (m + 1) j) = off (put (below t (ups m) dl) (m + 1)) (j * (m + 1)) n := by
      intro j
      induction j with
      | zero =>
        intro n
        rw [cn_none fun x _ => by unfold ctj; rw [decide_eq_false (Nat.not_lt_zero _), Bool.false_and], Nat.zero_mul]
        unfold off
        rw [if_pos (Nat.zero_le _), Nat.sub_zero]
        omega
      | succ j ihj =>
        intro n
        rw [cn_succ, offput _ (by omega), ← ih n]
        congr 1
        · by_cases h : m + 1 ≤ n
          · rw [if_pos h, if_pos h, ← ihj]
            exact cn_congr fun x _ => ctj_cons _ _ _ _
          · rw [if_neg h, if_neg h]
        · exact cn_congr fun x hx => ctj_low fun a ha => ((ls_mem m n x hx).1 a ha).2
    intro n
    rw [cn_congr (q := ctj t (m + 1) t) fun x _ => (ctj_t ht _ x).symm, key, ups_succ, below_app]
    rfl
noncomputable def vd (d : Nat) : List Nat → Bool
  | [] => true
  | [_] => true
  | a :: b :: r => decide (b + d ≤ a) && vd d (b :: r)
noncomputable def hdle (M : Nat) : List Nat → Bool
  | [] => true
  | a :: _ => decide (a ≤ M)
theorem cn_head (q : List Nat → Bool) (M : Nat) : ∀ e n, cn (M + e) n (fun x => hdle M x && q x) = cn M n q := by
  intro e
  induction e with
  | zero =>
    intro n
    refine cn_congr fun x hx => ?_
    cases x with
    | nil => rfl
    | cons a x => show (decide (a ≤ M) && q (a :: x)) = _; rw [decide_eq_true ((ls_mem M n _ hx).1 a List.mem_cons_self).2, Bool.true_and]
  | succ e ih =>
    intro n
    show cn (M + e + 1) n _ = _
    rw [cn_succ, ih n]
    rw [show (if M + e + 1 ≤ n then cn (M + e + 1) (n - (M + e + 1)) (fun l => hdle M ((M + e + 1) :: l) && q ((M + e + 1) :: l)) else 0) = 0 from ?_]
    · omega
    · split
      · refine cn_none fun l _ => ?_
        show (decide (M + e + 1 ≤ M) && _) = false
        rw [decide_eq_false (by omega), Bool.false_and]
      · rfl
noncomputable def vk (d k : Nat) (x : List Nat) : Bool := vd d x && decide (x.length = k)
theorem vk_cons {d k m : Nat} (hd : 1 ≤ d) (x : List Nat) (hx : ∀ a ∈ x, 1 ≤ a) : vk d (k + 1) ((m + 1) :: x) = (hdle (m + 1 - d) x && vk d k x) := by
  unfold vk
  cases x with
  | nil =>
    show (true && decide (1 = k + 1)) = (true && (true && decide (0 = k)))
    rw [Bool.true_and, Bool.true_and, Bool.true_and]
    exact decide_eq_decide.mpr (by omega)
  | cons b r =>
    show ((decide (b + d ≤ m + 1) && vd d (b :: r)) && decide ((b :: r).length + 1 = k + 1)) = (decide (b ≤ m + 1 - d) && (vd d (b :: r) && decide ((b :: r).length = k)))
    have h1 := hx b List.mem_cons_self
    rw [show decide ((b :: r).length + 1 = k + 1) = decide ((b :: r).length = k) from decide_eq_decide.mpr (by omega), show decide (b + d ≤ m + 1) = decide (b ≤ m + 1 - d) from decide_eq_decide.mpr (by omega), Bool.and_assoc]
noncomputable def vE (d k m : Nat) (n : Nat) : Int := cn m n (vk d k)
theorem vE_none (d m n : Nat) : vE d 0 m n = dl n := by
  unfold vE
  induction m generalizing n with
  | zero => rw [cn_zero, if_pos (by unfold vk; rfl)]
  | succ m ih =>
    rw [cn_succ, ih n]
    rw [show (if m + 1 ≤ n then cn (m + 1) (n - (m + 1)) (fun l => vk d 0 ((m + 1) :: l)) else 0) = 0 from ?_]
    · omega
    · split
      · refine cn_none fun l _ => ?_
        unfold vk
        rw [List.length_cons, decide_eq_false (by omega), Bool.and_false]
      · rfl
theorem vE_zero (d k n : Nat) : vE d (k + 1) 0 n = 0 := by
  unfold vE
  rw [cn_zero, if_neg]
  unfold vk
  simp
theorem vE_step {d : Nat} (hd : 1 ≤ d) (k m : Nat) : vE d (k + 1) (m + 1) = fun n => vE d (k + 1) m n + sh (m + 1) (vE d k (m + 1 - d)) n := by
  funext n
  show cn (m + 1) n (vk d (k + 1)) = _
  rw [cn_succ]
  have : (if m + 1 ≤ n then cn (m + 1) (n - (m + 1)) (fun l => vk d (k + 1) ((m + 1) :: l)) else 0) = sh (m + 1) (vE d k (m + 1 - d)) n := by
    unfold sh
    by_cases h : m + 1 ≤ n
    · rw [if_pos h, if_pos h]
      have e := cn_head (vk d k) (m + 1 - d) (m + 1 - (m + 1 - d)) (n - (m + 1))
      rw [show m + 1 - d + (m + 1 - (m + 1 - d)) = m + 1 by omega] at e
      show _ = cn (m + 1 - d) (n - (m + 1)) (vk d k)
      rw [← e]
      exact cn_congr fun x hx => vk_cons hd x fun a ha => ((ls_mem _ _ x hx).1 a ha).1
    · rw [if_neg h, if_neg h]
  rw [this]
  show _ = cn m n (vk d (k + 1)) + _
  omega
theorem sh_add (e : Nat) (f g : Nat → Int) : sh e (fun i => f i + g i) = fun n => sh e f n + sh e g n := by
  funext n
  unfold sh
  by_cases h : e ≤ n
  · rw [if_pos h, if_pos h, if_pos h]
  · rw [if_neg h, if_neg h, if_neg h]; rfl
theorem sh_fun (a b : Nat) (g : Nat → Int) : sh a (sh b g) = sh (a + b) g := funext fun i => sh_sh a b g i
theorem ex_next (d k : Nat) : ex d (k + 1) 1 = d * k + 1 + ex d k 1 := by
  rw [ex_in]
  have e : ∀ e, ex d k (1 + e) = ex d k 1 + k * e := by
    intro e
    induction e with
    | zero => rw [Nat.mul_zero]; rfl
    | succ e ih => rw [show 1 + (e + 1) = (1 + e) + 1 by omega, ex_up, ih]; grind
  rw [e d]
  grind
theorem vE_low {d : Nat} (hd : 1 ≤ d) : ∀ k m, m ≤ d * k → vE d (k + 1) m = fun _ => 0 := by
  intro k
  induction k with
  | zero => intro m h; rw [show m = 0 by omega]; funext n; exact vE_zero d 0 n
  | succ k ih =>
    intro m
    induction m with
    | zero => intro _; funext n; exact vE_zero d _ n
    | succ m ihm =>
      intro h
      have e : d * (k + 1) = d * k + d := by grind
      rw [vE_step hd, ihm (by omega), ih (m + 1 - d) (by omega)]
      funext n
      unfold sh
      split <;> rfl
theorem pascalT (k l : Nat) : bx (l + 1) (k + 1) = fun n => bx l (k + 1) n + sh (l + 1) (bx (l + 1) k) n := by
  rw [bx_turn, pascal l k]
  funext n
  rw [bx_turn l (k + 1), bx_turn (l + 1) k]
theorem vE_is {d : Nat} (hd : 1 ≤ d) : ∀ k l, vE d (k + 1) (d * k + 1 + l) = sh (ex d (k + 1) 1) (bx l (k + 1)) := by
  intro k
  induction k with
  | zero =>
    intro l
    have z : ∀ m, vE d 0 m = dl := fun m => funext fun n => vE_none d m n
    induction l with
    | zero =>
      rw [show d * 0 + 1 + 0 = 0 + 1 by omega, vE_step hd, z, bx_none', ex_next]
      funext n
      rw [vE_zero]
      show 0 + sh 1 dl n = sh (d * 0 + 1 + ex d 0 1) dl n
      rw [show d * 0 + 1 + ex d 0 1 = 1 by unfold ex; simp]
      omega
    | succ l ih =>
      rw [show d * 0 + 1 + (l + 1) = (d * 0 + 1 + l) + 1 by omega, vE_step hd, ih, z, pascalT 0 l, sh_add, sh_fun, bx_none]
      funext n
      congr 2
  | succ k ihk =>
    intro l
    have e : d * (k + 1) = d * k + d := by grind
    induction l with
    | zero =>
      rw [show d * (k + 1) + 1 + 0 = d * (k + 1) + 1 by omega, vE_step hd, vE_low hd (k + 1) _ (Nat.le_refl _), show d * (k + 1) + 1 - d = d * k + 1 + 0 by omega, ihk 0, bx_none', bx_none', sh_fun, ← ex_next]
      funext n
      show 0 + _ = _
      omega
    | succ l ih =>
      rw [show d * (k + 1) + 1 + (l + 1) = (d * (k + 1) + 1 + l) + 1 by omega, vE_step hd, ih, show d * (k + 1) + 1 + l + 1 - d = d * k + 1 + (l + 1) by omega, ihk (l + 1), pascalT (k + 1) l, sh_add, sh_fun, sh_fun]
      funext n
      congr 2
      rw [ex_next d (k + 1)]
      omega
theorem vE_at {d : Nat} (hd : 1 ≤ d) (k n : Nat) : vE d k n n = if Ls d k ≤ n then PL dl (ups k) (n - Ls d k) else 0 := by
  rw [ls_ex]
  cases k with
  | zero =>
    rw [vE_none, if_pos (by unfold ex; simp)]
    show dl n = dl (n - ex d 0 1)
    rw [show ex d 0 1 = 0 by unfold ex; simp]
    rfl
  | succ k =>
    by_cases h : d * k + 1 ≤ n
    · obtain ⟨l, e⟩ : ∃ l, n = d * k + 1 + l := ⟨n - (d * k + 1), by omega⟩
      have v := congrFun (vE_is hd k l) n
      rw [← e] at v
      rw [v]
      unfold sh
      by_cases g : ex d (k + 1) 1 ≤ n
      · rw [if_pos g, if_pos g, bx_big (by rw [ex_next] at g ⊢; omega)]
      · rw [if_neg g, if_neg g]
    · have v := congrFun (vE_low hd k n (by omega)) n
      rw [v, if_neg (by rw [ex_next]; omega)]
theorem cn_split (p : List Nat → Bool) (m n : Nat) : ∀ K, (∀ x ∈ Lst m n, x.length < K) → cn m n p = ((List.range K).map fun k => cn m n fun x => p x && decide (x.length = k)).sum := by
  have key : ∀ (L : List (List Nat)) K, ((List.range K).map fun k => ((L.countP fun x => p x && decide (x.length = k) : Nat) : Int)).sum = ((L.countP fun x => p x && decide (x.length < K) : Nat) : Int) := by
    intro L K
    induction K with
    | zero =>
      show (0 : Int) = _
      rw [List.countP_congr (q := fun _ => false) fun x _ => by simp, List.countP_false]
      rfl
    | succ K ih =>
      rw [List.range_succ, List.map_append, List.sum_append_int, ih]
      show _ + (((L.countP fun x => p x && decide (x.length = K) : Nat) : Int) + 0) = _
      rw [Int.add_zero, ← Int.natCast_add]
      congr 1
      clear ih
      induction L with
      | nil => rfl
      | cons x L ihL =>
        rw [List.countP_cons, List.countP_cons, List.countP_cons]
        have : (if (p x && decide (x.length < K)) = true then 1 else 0) + (if (p x && decide (x.length = K)) = true then 1 else 0) = (if (p x && decide (x.length < K + 1)) = true then 1 else 0) := by
          cases p x with
          | false => rfl
          | true =>
            rw [Bool.true_and, Bool.true_and, Bool.true_and]
            by_cases h1 : x.length < K
            · rw [decide_eq_true h1, decide_eq_false (by omega : ¬ x.length = K), decide_eq_true (by omega : x.length < K + 1)]; rfl
            · by_cases h2 : x.length = K
              · rw [decide_eq_false h1, decide_eq_true h2, decide_eq_true (by omega : x.length < K + 1)]; rfl
              · rw [decide_eq_false h1, decide_eq_false h2, decide_eq_false (by omega : ¬ x.length < K + 1)]; rfl
        omega
  intro K h
  unfold cn
  rw [key (Lst m n) K]
  congr 1
  exact List.countP_congr fun x hx => by rw [decide_eq_true (h x hx), Bool.and_true]
theorem cn_off {d n : Nat} (hd : 1 ≤ d) (hn : n ≤ 600) : cn n n (vd d) = fow d n := by
  rw [cn_split (vd d) n n (n + 1) fun x hx => by have := ls_len hx; omega]
  have e : ∀ K, ((List.range K).map fun k => cn n n fun x => vd d x && decide (x.length = k)).sum = fq d K n := by
    intro K
    induction K with
    | zero => rfl
    | succ K ih =>
      rw [List.range_succ, List.map_append, List.sum_append_int, ih]
      show _ + (vE d K n n + 0) = fq d K n + if Ls d K ≤ n then PL dl (ups K) (n - Ls d K) else 0
      rw [vE_at hd, Int.add_zero]
  rw [e]
  exact fow_is (n := n) (by have := Ls_ge d (n + 1); omega) (by omega) (Nat.le_refl n)
noncomputable def gr : List Nat → Nat
  | [] => 0
  | a :: r => if gr r ≤ a then a else gr r
noncomputable def cols (x : List Nat) : List Nat := (List.range (gr x)).map fun k => (x.filter fun a => decide (k < a)).length
noncomputable def own (x : List Nat) : Bool := decide (cols x = x)
end M11
set_option Elab.async false
set_option linter.all false
set_option maxRecDepth 100000
set_option maxHeartbeats 4000000
namespace M66
open MRow M80 M17 M12 M24 M11
theorem cn_pos (m n : Nat) (p : List Nat → Bool) : 0 ≤ cn m n p := by unfold cn; omega
theorem cn_up (m n : Nat) (p : List Nat → Bool) : cn m n p ≤ cn (m + 1) n p := by
  rw [cn_succ]
  have : 0 ≤ (if m + 1 ≤ n then cn (m + 1) (n - (m + 1)) (fun l => p ((m + 1) :: l)) else 0) := by
    split
    · exact cn_pos _ _ _
    · decide
  omega
theorem cn_ups {m : Nat} (n : Nat) (p : List Nat → Bool) : ∀ e, cn m n p ≤ cn (m + e) n p
  | 0 => Int.le_refl _
  | e + 1 => Int.le_trans (cn_ups n p e) (cn_up (m + e) n p)
theorem cn_le {a b : Nat} (n : Nat) (p : List Nat → Bool) (h : a ≤ b) : cn a n p ≤ cn b n p := by
  have := cn_ups (m := a) n p (b - a)
  rw [show a + (b - a) = b by omega] at this
  exact this
noncomputable def Fl : List Nat → Prop
  | [] => True
  | [a] => 1 ≤ a
  | a :: b :: r => b ≤ a ∧ Fl (b :: r)
theorem Fl.tail {a : Nat} {r : List Nat} (h : Fl (a :: r)) : Fl r := by
  cases r with
  | nil => trivial
  | cons b r => exact h.2
theorem Fl.pos : ∀ {x : List Nat}, Fl x → ∀ a ∈ x, 1 ≤ a
  | [], _, _, h => nomatch h
  | [b], h, a, ha => by rw [List.mem_singleton.mp ha]; exact h
  | b :: c :: r, h, a, ha => by
    rcases List.mem_cons.mp ha with e | e
    · have := Fl.pos h.2 c List.mem_cons_self
      have := h.1
      omega
    · exact Fl.pos h.2 a e
theorem Fl.head {b : Nat} : ∀ {r : List Nat}, Fl (b :: r) → ∀ a ∈ b :: r, a ≤ b
  | [], _, a, ha => by rw [List.mem_singleton.mp ha]; exact Nat.le_refl _
  | c :: r, h, a, ha => by
    rcases List.mem_cons.mp ha with e | e
    · omega
    · have := Fl.head h.2 a e
      have := h.1
      omega
end M66
set_option Elab.async false
set_option linter.all false
set_option maxRecDepth 100000
set_option maxHeartbeats 4000000
namespace SRV
open PySem
open PyProof.Rows hiding K SortedTo K_bubble K_mirror K_congr K_mirror_equal
class KV where
  sh : Shared
  kind : SortKind
  kv : Keyed → Int
  good : Keyed → Prop
  lt : ∀ {prog : Program} {w : World} {A : Around} {E : Value → Shared → Prop} {st : SortSt} {x y : Keyed} {Q : Option Bool → SortSt → Prop}, kindOf st = kind → good x → good y → Q (some (decide (kv x < kv y))) st → wpS (model prog w) A E sh (lt' x y) Q st
variable [KV]
noncomputable def kv (p : Keyed) : Int := KV.kv p
noncomputable def IsI (p : Keyed) : Prop := KV.good p
noncomputable def AllI (xs : Array Keyed) : Prop := ∀ p ∈ xs.toList, IsI p
noncomputable def K (xs : Array Keyed) (i : Nat) : Int := match xs[i]? with
  | some p => kv p
  | none => 0
noncomputable def SortedTo (xs : Array Keyed) (k : Nat) : Prop := ∀ i j, i ≤ j → j < k → K xs i ≤ K xs j
theorem K_congr {xs ys : Array Keyed} {i j : Nat} (h : xs[i]? = ys[j]?) : K xs i = K ys j := by unfold K; rw [h]
theorem K_bubble {xs : Array Keyed} {src d : Nat} (hs : src < xs.size) (hd : d ≤ src) (k : Nat) :
    K (bubble xs src d) k = if k = src - d then K xs src else if src - d < k ∧ k ≤ src then K xs (k - 1) else K xs k := by
  have e := getElem?_bubble hs d hd k
  by_cases h1 : k = src - d
  · rw [if_pos h1] at e ⊢; exact K_congr e
  · rw [if_neg h1] at e ⊢
    by_cases h2 : src - d < k ∧ k ≤ src
    · rw [if_pos h2] at e ⊢; exact K_congr e
    · rw [if_neg h2] at e ⊢; exact K_congr e
theorem K_mirror {xs : Array Keyed} {i j : Nat} (hj : j ≤ xs.size) (k : Nat) :
    K (mirror xs i j ((j - i) / 2)) k = if i ≤ k ∧ k < j then K xs (i + j - 1 - k) else K xs k := by
  have e := getElem?_mirror_all (i := i) hj k
  by_cases h1 : i ≤ k ∧ k < j
  · rw [if_pos h1] at e ⊢; exact K_congr e
  · rw [if_neg h1] at e ⊢; exact K_congr e
theorem K_mirror_equal {xs : Array Keyed} {i j : Nat} (hj : j ≤ xs.size) (heq : ∀ k, i ≤ k → k < j → K xs k = K xs (j - 1)) (k : Nat) :
    K (mirror xs i j ((j - i) / 2)) k = K xs k := by
  rw [K_mirror hj]
  split
  · rename_i h
    rw [heq k h.1 h.2, heq (i + j - 1 - k) (by omega) (by omega)]
  · rfl
section
variable {prog : Program} {w : World} {A : Around} {E : Value → Shared → Prop}
theorem s_lt {st : SortSt} {x y : Keyed} {Q : Option Bool → SortSt → Prop} (hk : kindOf st = KV.kind) (hx : IsI x) (hy : IsI y) (h : Q (some (decide (kv x < kv y))) st) : wpS (model prog w) A E KV.sh (lt' x y) Q st := KV.lt hk hx hy h
theorem s_elem {st : SortSt} {xs : Array Keyed} {i : Nat} {p : Keyed} {Q : Keyed → SortSt → Prop} (e : xs[i]? = some p) (h : Q p st) : wpS (model prog w) A E KV.sh (elem' xs i) Q st := by
  rw [elem'_eq, e]; exact wpS_pure h
noncomputable def gal : Bool → Keyed → Array Keyed → Nat → Nat → Nat → StateT SortSt Sem (Option Nat) := sortPriv% PySem.Builtin.gallop
theorem gal_eq (lf : Bool) (ky : Keyed) (ar : Array Keyed) (bs n ht : Nat) : gal lf ky ar bs n ht = (do
  let byd (i : Nat) : StateT SortSt Sem (Option Bool) := do
    let x ← elem' ar (bs + i)
    if lf then lt' x ky else return (← lt' ky x).map (!·)
  let mut la := 0
  let mut os := 1
  let mut lo := 0
  let mut hi := 0
  let some rt ← byd ht | return none
  if rt then
    let mo := n - ht
    for _ in [0:n] do
      if os ≥ mo then break
      let some mr ← byd (ht + os) | return none
      if !mr then break
      la := os
      os := 2 * os + 1
    lo := ht + la + 1
    hi := ht + min os mo
  else
    let mo := ht + 1
    for _ in [0:n] do
      if os ≥ mo then break
      let some fd ← byd (ht - os) | return none
      if fd then break
      la := os
      os := 2 * os + 1
    lo := ht + 1 - min os mo
    hi := ht - la
  for _ in [0:n] do
    if lo ≥ hi then break
    let m := lo + (hi - lo) / 2
    let some mr ← byd m | return none
    if mr then lo := m + 1 else hi := m
  return some hi) := rfl
noncomputable def Byd (lf : Bool) (ky : Keyed) (ar : Array Keyed) (bs i : Nat) : Bool := if lf then decide (K ar (bs + i) < kv ky) else !decide (kv ky < K ar (bs + i))
theorem K_of {ar : Array Keyed} {i : Nat} {p : Keyed} (e : ar[i]? = some p) : K ar i = kv p := by unfold K; rw [e]
theorem at_of {ar : Array Keyed} {i : Nat} (h : i < ar.size) (hI : AllI ar) : ∃ p, ar[i]? = some p ∧ IsI p := ⟨ar[i], getElem?_pos ar i h, hI _ (by simp)⟩
theorem s_byd {st : SortSt} {lf : Bool} {ky : Keyed} {ar : Array Keyed} {bs i : Nat} {Q : Option Bool → SortSt → Prop} (hk : kindOf st = KV.kind) (hI : AllI ar) (hy : IsI ky) (hi : bs + i < ar.size) (h : Q (some (Byd lf ky ar bs i)) st) :
    wpS (model prog w) A E KV.sh (do let x ← elem' ar (bs + i); if lf then lt' x ky else return (← lt' ky x).map (!·)) Q st := by
  obtain ⟨p, e, hp⟩ := at_of hi hI
  have hK := K_of e
  unfold Byd at h
  refine wpS_bind (s_elem e ?_)
  cases lf with
  | true =>
    simp only [if_true] at h ⊢
    rw [hK] at h
    exact s_lt hk hp hy h
  | false =>
    simp only [Bool.false_eq_true, if_false] at h ⊢
    rw [hK] at h
    exact wpS_bind (s_lt hk hy hp (wpS_pure h))
theorem s_gal {st : SortSt} {lf : Bool} {ky : Keyed} {ar : Array Keyed} {bs n ht c : Nat} {Q : Option Nat → SortSt → Prop} (hk : kindOf st = KV.kind) (hI : AllI ar) (hy : IsI ky) (hn : bs + n ≤ ar.size) (hh : ht < n) (hc : c ≤ n)
    (cut : ∀ i, i < n → Byd lf ky ar bs i = decide (i < c)) (h : Q (some c) st) : wpS (model prog w) A E KV.sh (gal lf ky ar bs n ht) Q st := by
  have byd : ∀ {i : Nat} {R : Option Bool → SortSt → Prop}, i < n → R (some (decide (i < c))) st → wpS (model prog w) A E KV.sh (do let x ← elem' ar (bs + i); if lf then lt' x ky else return (← lt' ky x).map (!·)) R st := fun {i R} hi hR =>
    s_byd hk hI hy (by omega) (by rw [cut i hi]; exact hR)
  rw [gal_eq]
  dsimp only
  refine wpS_bind (byd hh ?_)
  by_cases hr : ht < c
  · simp only [hr, decide_true, if_true]
    refine wpS_bind (wpS_mono (wpS_forRange (I := fun x r st' => st = st' ∧ ∃ l o, r = (none, l, o) ∧ ht + l < c ∧ l < o ∧ x + 1 ≤ o) (Q := fun r st' => st = st' ∧ ∃ l o, r = (none, l, o) ∧ ht + l < c ∧ l < o ∧ c ≤ ht + min o (n - ht)) ?_ ?_ ⟨rfl, 0, 1, rfl, by omega, by omega, by omega⟩) ?_)
    · rintro x r st' _ hx ⟨rfl, l, o, rfl, g1, g2, g3⟩
      dsimp only
      by_cases hge : o ≥ n - ht
      · rw [if_pos hge]
        exact wpS_pure ⟨rfl, l, o, rfl, g1, g2, by omega⟩
      · rw [if_neg hge]
        refine wpS_bind (byd (by omega) ?_)
        by_cases hm : ht + o < c
        · simp only [hm, decide_true, Bool.not_true, Bool.false_eq_true, if_false]
          exact wpS_pure ⟨rfl, _, _, rfl, hm, by omega, by omega⟩
        · simp only [hm, decide_false, Bool.not_false, if_true]
          exact wpS_pure ⟨rfl, l, o, rfl, g1, g2, by omega⟩
    · rintro r st' ⟨rfl, l, o, rfl, g1, g2, g3⟩
      exact ⟨rfl, l, o, rfl, g1, g2, by omega⟩
    · rintro r st' ⟨rfl, l, o, rfl, g1, g2, g3⟩
      dsimp only
      refine wpS_bind (wpS_mono (wpS_forRange (I := fun x r st' => st = st' ∧ ∃ l u, r = (none, l, u) ∧ l ≤ c ∧ c ≤ u ∧ u ≤ n ∧ u - l ≤ n - x) (Q := fun r st' => st = st' ∧ ∃ l, r = (none, l, c)) ?_ ?_ ⟨rfl, (ht + l + 1), (ht + min o (n - ht)), rfl, (by omega), g3, (by omega), by omega⟩) ?_)
      · rintro x r st' _ hx ⟨rfl, l, u, rfl, g1, g2, g3, g4⟩
        dsimp only
        by_cases hge : l ≥ u
        · rw [if_pos hge]
          have : u = c := by omega
          subst this
          exact wpS_pure ⟨rfl, l, rfl⟩
        · rw [if_neg hge]
          refine wpS_bind (byd (by omega) ?_)
          by_cases hm : l + (u - l) / 2 < c
          · simp only [hm, decide_true, if_true]
            exact wpS_pure ⟨rfl, _, _, rfl, by omega, g2, g3, by omega⟩
          · simp only [hm, decide_false, Bool.false_eq_true, if_false]
            exact wpS_pure ⟨rfl, _, _, rfl, g1, by omega, by omega, by omega⟩
      · rintro r st' ⟨rfl, l, u, rfl, g1, g2, g3, g4⟩
        have : u = c := by
          have : max 0 n = n := by omega
          omega
        subst this
        exact ⟨rfl, l, rfl⟩
      · rintro r st' ⟨rfl, l, rfl⟩
        exact wpS_pure h
  · simp only [hr, decide_false, Bool.false_eq_true, if_false]
    refine wpS_bind (wpS_mono (wpS_forRange (I := fun x r st' => st = st' ∧ ∃ l o, r = (none, l, o) ∧ c ≤ ht - l ∧ l ≤ ht ∧ l < o ∧ x + 1 ≤ o) (Q := fun r st' => st = st' ∧ ∃ l o, r = (none, l, o) ∧ c ≤ ht - l ∧ l ≤ ht ∧ l < o ∧ ht + 1 - min o (ht + 1) ≤ c) ?_ ?_ ⟨rfl, 0, 1, rfl, by omega, by omega, by omega, by omega⟩) ?_)
    · rintro x r st' _ hx ⟨rfl, l, o, rfl, g1, g0, g2, g3⟩
      dsimp only
      by_cases hge : o ≥ ht + 1
      · rw [if_pos hge]
        exact wpS_pure ⟨rfl, l, o, rfl, g1, g0, g2, by omega⟩
      · rw [if_neg hge]
        refine wpS_bind (byd (by omega) ?_)
        by_cases hm : ht - o < c
        · simp only [hm, decide_true, if_true]
          exact wpS_pure ⟨rfl, l, o, rfl, g1, g0, g2, by omega⟩
        · simp only [hm, decide_false, Bool.false_eq_true, if_false]
          exact wpS_pure ⟨rfl, _, _, rfl, by omega, by omega, by omega, by omega⟩
    · rintro r st' ⟨rfl, l, o, rfl, g1, g0, g2, g3⟩
      exact ⟨rfl, l, o, rfl, g1, g0, g2, by omega⟩
    · rintro r st' ⟨rfl, l, o, rfl, g1, g0, g2, g3⟩
      dsimp only
      refine wpS_bind (wpS_mono (wpS_forRange (I := fun x r st' => st = st' ∧ ∃ l u, r = (none, l, u) ∧ l ≤ c ∧ c ≤ u ∧ u ≤ n ∧ u - l ≤ n - x) (Q := fun r st' => st = st' ∧ ∃ l, r = (none, l, c)) ?_ ?_ ⟨rfl, (ht + 1 - min o (ht + 1)), (ht - l), rfl, g3, g1, (by omega), by omega⟩) ?_)
      · rintro x r st' _ hx ⟨rfl, l, u, rfl, g1, g2, g3, g4⟩
        dsimp only
        by_cases hge : l ≥ u
        · rw [if_pos hge]
          have : u = c := by omega
          subst this
          exact wpS_pure ⟨rfl, l, rfl⟩
        · rw [if_neg hge]
          refine wpS_bind (byd (by omega) ?_)
          by_cases hm : l + (u - l) / 2 < c
          · simp only [hm, decide_true, if_true]
            exact wpS_pure ⟨rfl, _, _, rfl, by omega, g2, g3, by omega⟩
          · simp only [hm, decide_false, Bool.false_eq_true, if_false]
            exact wpS_pure ⟨rfl, _, _, rfl, g1, by omega, by omega, by omega⟩
      · rintro r st' ⟨rfl, l, u, rfl, g1, g2, g3, g4⟩
        have : u = c := by
          have : max 0 n = n := by omega
          omega
        subst this
        exact ⟨rfl, l, rfl⟩
      · rintro r st' ⟨rfl, l, rfl⟩
        exact wpS_pure h
end
end SRV
set_option Elab.async false
set_option linter.all false
set_option maxRecDepth 100000
set_option maxHeartbeats 4000000
namespace SRV
open PySem
open PyProof.Rows hiding K SortedTo K_bubble K_mirror K_congr K_mirror_equal
variable [KV]
noncomputable def Le (x y : Keyed) : Prop := kv x ≤ kv y
structure MI (A B : List Keyed) (o : List Keyed) (ia ib : Nat) : Prop where
  perm : o.Perm (A.take ia ++ B.take ib)
  srt : o.Pairwise Le
  lea : ∀ x ∈ o, ∀ y ∈ A.drop ia, kv x ≤ kv y
  leb : ∀ x ∈ o, ∀ y ∈ B.drop ib, kv x ≤ kv y
structure Mer (A B : List Keyed) (o : List Keyed) : Prop where
  perm : o.Perm (A ++ B)
  srt : o.Pairwise Le
theorem pw_drop {l : List Keyed} (h : l.Pairwise Le) {i : Nat} (hi : i < l.length) : ∀ y ∈ l.drop (i + 1), kv l[i] ≤ kv y := by
  have e : l.drop i = l[i] :: l.drop (i + 1) := List.drop_eq_getElem_cons hi
  have h2 : (l.drop i).Pairwise Le := h.sublist (List.drop_sublist i l)
  rw [e] at h2
  exact (List.pairwise_cons.mp h2).1
theorem mem_drop_succ {l : List Keyed} {i : Nat} {y : Keyed} (h : y ∈ l.drop (i + 1)) : y ∈ l.drop i := by
  rw [← List.drop_drop] at h
  exact List.mem_of_mem_drop h
theorem MI.pushB {A B o : List Keyed} {ia ib : Nat} (m : MI A B o ia ib) (hB : B.Pairwise Le) (hi : ib < B.length) (h : ∀ z ∈ A.drop ia, kv B[ib] ≤ kv z) : MI A B (o ++ [B[ib]]) ia (ib + 1) := by
  have hm : B[ib] ∈ B.drop ib := by rw [List.drop_eq_getElem_cons hi]; exact List.mem_cons_self
  refine ⟨?_, ?_, fun x hx y hy => ?_, fun x hx y hy => ?_⟩
  · have e : B.take (ib + 1) = B.take ib ++ [B[ib]] := by rw [List.take_succ, List.getElem?_eq_getElem hi]; rfl
    rw [e, ← List.append_assoc]
    exact m.perm.append_right _
  · refine List.pairwise_append.mpr ⟨m.srt, List.pairwise_singleton _ _, fun x hx y hy => ?_⟩
    rw [List.mem_singleton.mp hy]
    exact m.leb x hx _ hm
  · rcases List.mem_append.mp hx with hx | hx
    · exact m.lea x hx y hy
    · rw [List.mem_singleton.mp hx]; exact h y hy
  · rcases List.mem_append.mp hx with hx | hx
    · exact m.leb x hx y (mem_drop_succ hy)
    · rw [List.mem_singleton.mp hx]; exact pw_drop hB hi y hy
theorem MI.pushA {A B o : List Keyed} {ia ib : Nat} (m : MI A B o ia ib) (hA : A.Pairwise Le) (hi : ia < A.length) (h : ∀ z ∈ B.drop ib, kv A[ia] ≤ kv z) : MI A B (o ++ [A[ia]]) (ia + 1) ib := by
  have hm : A[ia] ∈ A.drop ia := by rw [List.drop_eq_getElem_cons hi]; exact List.mem_cons_self
  refine ⟨?_, ?_, fun x hx y hy => ?_, fun x hx y hy => ?_⟩
  · have e : A.take (ia + 1) = A.take ia ++ [A[ia]] := by rw [List.take_succ, List.getElem?_eq_getElem hi]; rfl
    rw [e, List.append_assoc]
    refine (m.perm.append_right _).trans ?_
    rw [List.append_assoc]
    exact List.Perm.append_left _ List.perm_append_comm
  · refine List.pairwise_append.mpr ⟨m.srt, List.pairwise_singleton _ _, fun x hx y hy => ?_⟩
    rw [List.mem_singleton.mp hy]
    exact m.lea x hx _ hm
  · rcases List.mem_append.mp hx with hx | hx
    · exact m.lea x hx y (mem_drop_succ hy)
    · rw [List.mem_singleton.mp hx]; exact pw_drop hA hi y hy
  · rcases List.mem_append.mp hx with hx | hx
    · exact m.leb x hx y hy
    · rw [List.mem_singleton.mp hx]; exact h y hy
theorem MI.extA {A B o : List Keyed} {ia ib : Nat} (m : MI A B o ia ib) (hA : A.Pairwise Le) : ∀ (k : Nat), ia + k ≤ A.length → (∀ i (hi : ia + i < A.length), i < k → ∀ z ∈ B.drop ib, kv A[ia + i] ≤ kv z) → MI A B (o ++ (A.drop ia).take k) (ia + k) ib
  | 0, _, _ => by rw [List.take_zero, List.append_nil]; exact m
  | k + 1, hk, h => by
    have ih := MI.extA m hA k (by omega) fun i hi hik => h i hi (by omega)
    have hi : ia + k < A.length := by omega
    have e : (A.drop ia).take (k + 1) = (A.drop ia).take k ++ [A[ia + k]] := by rw [List.take_succ, List.getElem?_drop, List.getElem?_eq_getElem hi]; rfl
    rw [e, ← List.append_assoc]
    exact ih.pushA hA hi (h k hi (by omega))
theorem MI.extB {A B o : List Keyed} {ia ib : Nat} (m : MI A B o ia ib) (hB : B.Pairwise Le) : ∀ (k : Nat), ib + k ≤ B.length → (∀ i (hi : ib + i < B.length), i < k → ∀ z ∈ A.drop ia, kv B[ib + i] ≤ kv z) → MI A B (o ++ (B.drop ib).take k) ia (ib + k)
  | 0, _, _ => by rw [List.take_zero, List.append_nil]; exact m
  | k + 1, hk, h => by
    have ih := MI.extB m hB k (by omega) fun i hi hik => h i hi (by omega)
    have hi : ib + k < B.length := by omega
    have e : (B.drop ib).take (k + 1) = (B.drop ib).take k ++ [B[ib + k]] := by rw [List.take_succ, List.getElem?_drop, List.getElem?_eq_getElem hi]; rfl
    rw [e, ← List.append_assoc]
    exact ih.pushB hB hi (h k hi (by omega))
theorem perm_mid (a b c d : List Keyed) : (a ++ b ++ (c ++ d)).Perm (a ++ c ++ (b ++ d)) := by
  rw [List.append_assoc, List.append_assoc]
  refine List.Perm.append_left a ?_
  rw [← List.append_assoc, ← List.append_assoc]
  exact List.Perm.append_right d List.perm_append_comm
theorem MI.finAB {A B o : List Keyed} {ia ib : Nat} (m : MI A B o ia ib) (hA : A.Pairwise Le) (hB : B.Pairwise Le) (h : ∀ x ∈ A.drop ia, ∀ y ∈ B.drop ib, kv x ≤ kv y) : Mer A B (o ++ A.drop ia ++ B.drop ib) := by
  refine ⟨?_, ?_⟩
  · have e := (m.perm.append_right (A.drop ia ++ B.drop ib)).trans (perm_mid (A.take ia) (B.take ib) (A.drop ia) (B.drop ib))
    rw [List.take_append_drop, List.take_append_drop] at e
    rw [List.append_assoc]; exact e
  · refine List.pairwise_append.mpr ⟨List.pairwise_append.mpr ⟨m.srt, hA.sublist (List.drop_sublist _ _), fun x hx y hy => m.lea x hx y hy⟩, hB.sublist (List.drop_sublist _ _), fun x hx y hy => ?_⟩
    rcases List.mem_append.mp hx with hx | hx
    · exact m.leb x hx y hy
    · exact h x hx y hy
theorem MI.finBA {A B o : List Keyed} {ia ib : Nat} (m : MI A B o ia ib) (hA : A.Pairwise Le) (hB : B.Pairwise Le) (h : ∀ x ∈ A.drop ia, ∀ y ∈ B.drop ib, kv y ≤ kv x) : Mer A B (o ++ B.drop ib ++ A.drop ia) := by
  refine ⟨?_, ?_⟩
  · have e := (m.perm.append_right (A.drop ia ++ B.drop ib)).trans (perm_mid (A.take ia) (B.take ib) (A.drop ia) (B.drop ib))
    rw [List.take_append_drop, List.take_append_drop] at e
    rw [List.append_assoc]
    exact (List.Perm.append_left o List.perm_append_comm).trans e
  · refine List.pairwise_append.mpr ⟨List.pairwise_append.mpr ⟨m.srt, hB.sublist (List.drop_sublist _ _), fun x hx y hy => m.leb x hx y hy⟩, hA.sublist (List.drop_sublist _ _), fun x hx y hy => ?_⟩
    rcases List.mem_append.mp hx with hx | hx
    · exact m.lea x hx y hy
    · exact h y hy x hx
noncomputable def mlo : Array Keyed → Array Keyed → StateT SortSt Sem (Array Keyed) := sortPriv% PySem.Builtin.mergeLo
noncomputable def setG : Nat → StateT SortSt Sem Unit := sortPriv% PySem.Builtin.setMinGallop
theorem setG_eq (g : Nat) : setG g = modify fun z => SortSt.mk' (kindOf z) (arrOf z) (pendingOf z) g (failedOf z) := rfl
theorem mlo_eq (xa xb : Array Keyed) : mlo xa xb = (do
  rule "list.sort.merge-lo"
  let tot := xa.size + xb.size
  let dn (ou : Array Keyed) (i j : Nat) := ou ++ xa.extract i xa.size ++ xb.extract j xb.size
  let la (ou : Array Keyed) (i j : Nat) := ou ++ xb.extract j xb.size ++ xa.extract i xa.size
  let mut ou : Array Keyed := #[← elem' xb 0]
  let mut i := 0
  let mut j := 1
  if j == xb.size then return dn ou i j
  if i + 1 == xa.size then return la ou i j
  let mut mg := gallopOf (← get)
  for _ in [0:tot] do
    let mut ac := 0
    let mut bc := 0
    for _ in [0:tot] do
      let some bw ← lt' (← elem' xb j) (← elem' xa i) | return dn ou i j
      if bw then
        ou := ou.push (← elem' xb j); j := j + 1; bc := bc + 1; ac := 0
        if j == xb.size then return dn ou i j
        if bc ≥ mg then break
      else
        ou := ou.push (← elem' xa i); i := i + 1; ac := ac + 1; bc := 0
        if i + 1 == xa.size then return la ou i j
        if ac ≥ mg then break
    rule "list.sort.gallop"
    mg := mg + 1
    for _ in [0:tot] do
      if mg > 1 then mg := mg - 1
      setG mg
      let some k ← gal false (← elem' xb j) xa i (xa.size - i) 0 | return dn ou i j
      ac := k
      if k > 0 then
        ou := ou ++ xa.extract i (i + k); i := i + k
        if i + 1 == xa.size then return la ou i j
        if i == xa.size then return dn ou i j
      ou := ou.push (← elem' xb j); j := j + 1
      if j == xb.size then return dn ou i j
      let some k ← gal true (← elem' xa i) xb j (xb.size - j) 0 | return dn ou i j
      bc := k
      if k > 0 then
        ou := ou ++ xb.extract j (j + k); j := j + k
        if j == xb.size then return dn ou i j
      ou := ou.push (← elem' xa i); i := i + 1
      if i + 1 == xa.size then return la ou i j
      if ac < 7 && bc < 7 then break
    mg := mg + 1
    setG mg
  unsupported "internal:list.sort.merge-bound") := rfl
end SRV
set_option Elab.async false
set_option linter.all false
set_option maxRecDepth 100000
set_option maxHeartbeats 4000000
namespace SRV
open PySem
open PyProof.Rows hiding K SortedTo K_bubble K_mirror K_congr K_mirror_equal
variable [KV]
structure SameSt (a b : SortSt) : Prop where
  kind : kindOf b = kindOf a
  arr : arrOf b = arrOf a
  pend : pendingOf b = pendingOf a
  fail : failedOf b = failedOf a
theorem SameSt.refl (a : SortSt) : SameSt a a := ⟨rfl, rfl, rfl, rfl⟩
theorem SameSt.setG {a b : SortSt} (h : SameSt a b) (g : Nat) : SameSt a (SortSt.mk' (kindOf b) (arrOf b) (pendingOf b) g (failedOf b)) := ⟨h.kind, h.arr, h.pend, h.fail⟩
theorem toL_end (o x y : Array Keyed) (i j : Nat) : (o ++ x.extract i x.size ++ y.extract j y.size).toList = o.toList ++ x.toList.drop i ++ y.toList.drop j := by
  have e : ∀ (z : Array Keyed) (k : Nat), (z.extract k z.size).toList = z.toList.drop k := fun z k => by
    rw [Array.toList_extract, List.extract_eq_drop_take, List.take_of_length_le]
    rw [List.length_drop, Array.length_toList]
    exact Nat.le_refl _
  rw [Array.toList_append, Array.toList_append, e, e]
theorem toL_ext (o x : Array Keyed) (i k : Nat) : (o ++ x.extract i (i + k)).toList = o.toList ++ (x.toList.drop i).take k := by
  rw [Array.toList_append, Array.toList_extract, List.extract_eq_drop_take, Nat.add_sub_cancel_left]
section
variable {A B : List Keyed} {o : List Keyed} {ia ib : Nat}
theorem drop_len {l : List Keyed} {i : Nat} (h : i = l.length) : l.drop i = [] := List.drop_of_length_le (by omega)
theorem one_left {l : List Keyed} {i : Nat} (h : i + 1 = l.length) : ∀ x ∈ l.drop i, kv x = kv (l[l.length - 1]'(by omega)) := fun x hx => by
  have e : l.drop i = l[i] :: l.drop (i + 1) := List.drop_eq_getElem_cons (by omega)
  rw [e, drop_len h] at hx
  have : x = l[i] := by simpa using hx
  subst this
  congr 2
  omega
end
section
variable {prog : Program} {w : World} {A : Around} {E : Value → Shared → Prop}
theorem s_elemL {st : SortSt} {xs : Array Keyed} {i : Nat} {Q : Keyed → SortSt → Prop} (hi : i < xs.toList.length) (h : Q xs.toList[i] st) : wpS (model prog w) A E KV.sh (elem' xs i) Q st :=
  s_elem (by rw [← Array.getElem?_toList, List.getElem?_eq_getElem hi]) h
theorem s_setG {st : SortSt} {g : Nat} {Q : Unit → SortSt → Prop} (h : Q () (SortSt.mk' (kindOf st) (arrOf st) (pendingOf st) g (failedOf st))) : wpS (model prog w) A E KV.sh (setG g) Q st := by
  rw [setG_eq]; exact wpS_modify h
theorem cut_of {xs : Array Keyed} (hs : xs.toList.Pairwise Le) (ky : Keyed) (lf : Bool) (bs n : Nat) (hn : bs + n ≤ xs.size) : ∃ c, c ≤ n ∧ ∀ i, i < n → Byd lf ky xs bs i = decide (i < c) := by
  have mono : ∀ i j, i ≤ j → bs + j < xs.size → K xs (bs + i) ≤ K xs (bs + j) := fun i j hij hj => by
    have e1 : xs[bs + i]? = some (xs.toList[bs + i]'(by rw [Array.length_toList]; omega)) := by rw [← Array.getElem?_toList, List.getElem?_eq_getElem]
    have e2 : xs[bs + j]? = some (xs.toList[bs + j]'(by rw [Array.length_toList]; omega)) := by rw [← Array.getElem?_toList, List.getElem?_eq_getElem]
    rw [K_of e1, K_of e2]
    by_cases h : i = j
    · subst h; exact Int.le_refl _
    · exact List.pairwise_iff_getElem.mp hs _ _ _ _ (by omega)
  have down : ∀ i j, i ≤ j → j < n → Byd lf ky xs bs j = true → Byd lf ky xs bs i = true := fun i j hij hj h => by
    have := mono i j hij (by omega)
    unfold Byd at h ⊢
    cases lf with
    | true => simp only [if_true, decide_eq_true_eq] at h ⊢; omega
    | false => simp only [Bool.false_eq_true, if_false, Bool.not_eq_true', decide_eq_false_iff_not] at h ⊢; omega
  induction n with
  | zero => exact ⟨0, Nat.le_refl _, fun i hi => absurd hi (Nat.not_lt_zero _)⟩
  | succ n ih =>
    obtain ⟨c, hc, hd⟩ := ih (by omega) (fun i j hij hj h => down i j hij (by omega) h)
    by_cases hb : Byd lf ky xs bs n = true
    · refine ⟨n + 1, Nat.le_refl _, fun i hi => ?_⟩
      rw [decide_eq_true hi]
      exact down i n (by omega) (by omega) hb
    · refine ⟨c, by omega, fun i hi => ?_⟩
      by_cases h : i = n
      · subst h
        rw [decide_eq_false (by omega)]
        exact Bool.not_eq_true _ ▸ (by simpa using hb)
      · exact hd i (by omega)
theorem K_at {xs : Array Keyed} {i : Nat} (hi : i < xs.toList.length) : K xs i = kv xs.toList[i] := K_of (by rw [← Array.getElem?_toList, List.getElem?_eq_getElem hi])
end
end SRV
set_option Elab.async false
set_option linter.all false
set_option maxRecDepth 100000
set_option maxHeartbeats 4000000
namespace SRV
open PySem
open PyProof.Rows hiding K SortedTo K_bubble K_mirror K_congr K_mirror_equal
variable [KV]
theorem mem_dropE {l : List Keyed} {k : Nat} {z : Keyed} (h : z ∈ l.drop k) : ∃ u, ∃ h : k + u < l.length, z = l[k + u] := by
  obtain ⟨u, hu, rfl⟩ := List.mem_iff_getElem.mp h
  rw [List.length_drop] at hu
  exact ⟨u, by omega, by rw [List.getElem_drop]⟩
theorem head_le {l : List Keyed} (h : l.Pairwise Le) {i : Nat} (hi : i < l.length) : ∀ z ∈ l.drop i, kv l[i] ≤ kv z := fun z hz => by
  rw [List.drop_eq_getElem_cons hi] at hz
  rcases List.mem_cons.mp hz with rfl | hz
  · exact Int.le_refl _
  · exact pw_drop h hi z hz
theorem gfalse {xs : Array Keyed} {ky : Keyed} {bs n c : Nat} (hn : bs + n = xs.toList.length) (cut : ∀ i, i < n → Byd false ky xs bs i = decide (i < c)) :
    (∀ t (h : bs + t < xs.toList.length), t < c → kv xs.toList[bs + t] ≤ kv ky) ∧ (∀ z ∈ xs.toList.drop (bs + c), kv ky < kv z) := by
  constructor
  · intro t h ht
    have := cut t (by omega)
    rw [decide_eq_true ht] at this
    unfold Byd at this
    rw [K_at h] at this
    simp only [Bool.false_eq_true, if_false, Bool.not_eq_true', decide_eq_false_iff_not] at this
    omega
  · intro z hz
    obtain ⟨u, hu, rfl⟩ := mem_dropE hz
    have := cut (c + u) (by omega)
    rw [decide_eq_false (by omega)] at this
    unfold Byd at this
    have e : bs + (c + u) = bs + c + u := by omega
    rw [e, K_at hu] at this
    simpa using this
theorem gtrue {xs : Array Keyed} {ky : Keyed} {bs n c : Nat} (hn : bs + n = xs.toList.length) (cut : ∀ i, i < n → Byd true ky xs bs i = decide (i < c)) :
    (∀ t (h : bs + t < xs.toList.length), t < c → kv xs.toList[bs + t] < kv ky) ∧ (∀ z ∈ xs.toList.drop (bs + c), kv ky ≤ kv z) := by
  constructor
  · intro t h ht
    have := cut t (by omega)
    rw [decide_eq_true ht] at this
    unfold Byd at this
    rw [K_at h] at this
    simpa using this
  · intro z hz
    obtain ⟨u, hu, rfl⟩ := mem_dropE hz
    have := cut (c + u) (by omega)
    rw [decide_eq_false (by omega)] at this
    unfold Byd at this
    have e : bs + (c + u) = bs + c + u := by omega
    rw [e, K_at hu] at this
    simpa using this
theorem MI.start {A B : List Keyed} (hB : B.Pairwise Le) (hb : 0 < B.length) (h0 : ∀ z ∈ A, kv B[0] ≤ kv z) : MI A B [B[0]] 0 1 := by
  have m : MI A B [] 0 0 := ⟨by simp, List.Pairwise.nil, fun x hx => (nomatch hx), fun x hx => (nomatch hx)⟩
  exact m.pushB hB hb fun z hz => h0 z (by simpa using hz)
theorem MI.doneB {xa xb ou : Array Keyed} {i j : Nat} (m : MI xa.toList xb.toList ou.toList i j) (hA : xa.toList.Pairwise Le) (hB : xb.toList.Pairwise Le) (h : j = xb.toList.length) : Mer xa.toList xb.toList (ou ++ xa.extract i xa.size ++ xb.extract j xb.size).toList := by
  rw [toL_end]
  exact m.finAB hA hB fun x _ y hy => by rw [drop_len h] at hy; cases hy
theorem MI.doneA {xa xb ou : Array Keyed} {i j : Nat} (m : MI xa.toList xb.toList ou.toList i j) (hA : xa.toList.Pairwise Le) (hB : xb.toList.Pairwise Le) (h : i = xa.toList.length) : Mer xa.toList xb.toList (ou ++ xa.extract i xa.size ++ xb.extract j xb.size).toList := by
  rw [toL_end]
  exact m.finAB hA hB fun x hx y _ => by rw [drop_len h] at hx; cases hx
theorem MI.last {xa xb ou : Array Keyed} {i j : Nat} (m : MI xa.toList xb.toList ou.toList i j) (hA : xa.toList.Pairwise Le) (hB : xb.toList.Pairwise Le) (h : i + 1 = xa.toList.length) (hl : ∀ z ∈ xb.toList, kv z ≤ kv (xa.toList[xa.toList.length - 1]'(by omega))) : Mer xa.toList xb.toList (ou ++ xb.extract j xb.size ++ xa.extract i xa.size).toList := by
  rw [toL_end]
  exact m.finBA hA hB fun x hx y hy => by rw [one_left h x hx]; exact hl y (List.mem_of_mem_drop hy)
section
variable {prog : Program} {w : World} {A : Around} {E : Value → Shared → Prop}
theorem s_mlo {st : SortSt} {xa xb : Array Keyed} {Q : Array Keyed → SortSt → Prop} (hk : kindOf st = KV.kind) (hIa : AllI xa) (hIb : AllI xb) (hA : xa.toList.Pairwise Le) (hB : xb.toList.Pairwise Le) (ha : 0 < xa.toList.length) (hb : 0 < xb.toList.length)
    (h0 : ∀ z ∈ xa.toList, kv (xb.toList[0]) ≤ kv z) (hl : ∀ z ∈ xb.toList, kv z ≤ kv (xa.toList[xa.toList.length - 1]'(by omega)))
    (h : ∀ o st', SameSt st st' → Mer xa.toList xb.toList o.toList → Q o st') : wpS (model prog w) A E KV.sh (mlo xa xb) Q st := by
  have hsa : xa.size = xa.toList.length := (Array.length_toList ..).symm
  have hsb : xb.size = xb.toList.length := (Array.length_toList ..).symm
  rw [mlo_eq]
  refine wpS_bind (wpS_lift (wpAny_rule ⟨rfl, ?_⟩))
  dsimp only
  refine wpS_bind (s_elemL hb ?_)
  have m0 : MI xa.toList xb.toList (#[xb.toList[0]] : Array Keyed).toList 0 1 := MI.start hB hb h0
  by_cases c1 : 1 = xb.size
  · rw [if_pos (by simpa using c1)]
    exact wpS_pure (h _ _ (SameSt.refl _) (m0.doneB hA hB (by omega)))
  rw [if_neg (by simpa using c1)]
  by_cases c2 : 0 + 1 = xa.size
  · rw [if_pos (by simpa using c2)]
    exact wpS_pure (h _ _ (SameSt.refl _) (m0.last hA hB (by omega) hl))
  rw [if_neg (by simpa using c2)]
  refine wpS_bind (wpS_get ?_)
  refine wpS_bind (wpS_mono (wpS_forRange (I := fun x c st' => SameSt st st' ∧ ∃ ou i j mg, c = (none, ou, i, j, mg) ∧ MI xa.toList xb.toList ou.toList i j ∧ i + 1 < xa.size ∧ j < xb.toList.length ∧ x + 1 ≤ i + j) (Q := fun c st' => SameSt st st' ∧ ∃ res rest, c = (some res, rest) ∧ Mer xa.toList xb.toList res.toList) ?step ?fin ⟨SameSt.refl _, _, _, _, _, rfl, m0, by omega, by omega, by omega⟩) ?post)
  case post =>
    rintro c st' ⟨sm, res, rest, rfl, me⟩
    exact wpS_pure (h _ _ sm me)
  case fin =>
    rintro c st' ⟨sm, ou, i, j, mg, rfl, m, hi, hj, hx⟩
    exfalso
    omega
  case step =>
    rintro x c st1 _ hx ⟨sm, ou, i, j, mg, rfl, m, hi, hj, hx2⟩
    dsimp only
    refine wpS_bind (wpS_mono (wpS_forRange (I := fun y c st' => SameSt st st' ∧ ∃ ou i j ac bc, c = (none, ou, i, j, ac, bc) ∧ MI xa.toList xb.toList ou.toList i j ∧ i + 1 < xa.size ∧ j < xb.toList.length ∧ x + 1 + min y 1 ≤ i + j)
      (Q := fun c st' => SameSt st st' ∧ ((∃ res rest, c = (some res, rest) ∧ Mer xa.toList xb.toList res.toList) ∨ ∃ ou i j ac bc, c = (none, ou, i, j, ac, bc) ∧ MI xa.toList xb.toList ou.toList i j ∧ i + 1 < xa.size ∧ j < xb.toList.length ∧ x + 2 ≤ i + j)) ?s1 ?f1 ⟨sm, _, _, _, _, _, rfl, m, hi, hj, by omega⟩) ?p1)
    case f1 =>
      rintro c st2 ⟨sm2, ou, i, j, ac, bc, rfl, m, hi, hj, hx3⟩
      exact ⟨sm2, .inr ⟨_, _, _, _, _, rfl, m, hi, hj, by omega⟩⟩
    case s1 =>
      rintro y c st2 _ hy ⟨sm2, ou, i, j, ac, bc, rfl, m, hi, hj, hx3⟩
      dsimp only
      refine wpS_bind (s_elemL hj (wpS_bind (s_elemL (i := i) (by omega) ?_)))
      refine wpS_bind (s_lt (sm2.kind.trans hk) (hIb _ (List.getElem_mem _)) (hIa _ (List.getElem_mem _)) ?_)
      by_cases bw : kv xb.toList[j] < kv (xa.toList[i]'(by omega))
      · simp only [bw, decide_true, if_true]
        refine wpS_bind (s_elemL hj ?_)
        have m2 : MI xa.toList xb.toList (ou.push xb.toList[j]).toList i (j + 1) := by
          rw [Array.toList_push]
          exact m.pushB hB hj fun z hz => Int.le_trans (Int.le_of_lt bw) (head_le hA (by omega) z hz)
        by_cases e1 : j + 1 = xb.size
        · rw [if_pos (by simpa using e1)]
          exact wpS_pure ⟨sm2, .inl ⟨_, _, rfl, m2.doneB hA hB (by omega)⟩⟩
        · rw [if_neg (by simpa using e1)]
          split
          · exact wpS_pure ⟨sm2, .inr ⟨_, _, _, _, _, rfl, m2, hi, by omega, by omega⟩⟩
          · exact wpS_pure ⟨sm2, _, _, _, _, _, rfl, m2, hi, by omega, by omega⟩
      · simp only [bw, decide_false, Bool.false_eq_true, if_false]
        refine wpS_bind (s_elemL (i := i) (by omega) ?_)
        have m2 : MI xa.toList xb.toList (ou.push (xa.toList[i]'(by omega))).toList (i + 1) j := by
          rw [Array.toList_push]
          exact m.pushA hA (by omega) fun z hz => Int.le_trans (Int.not_lt.mp bw) (head_le hB hj z hz)
        by_cases e1 : i + 1 + 1 = xa.size
        · rw [if_pos (by simpa using e1)]
          exact wpS_pure ⟨sm2, .inl ⟨_, _, rfl, m2.last hA hB (by omega) hl⟩⟩
        · rw [if_neg (by simpa using e1)]
          split
          · exact wpS_pure ⟨sm2, .inr ⟨_, _, _, _, _, rfl, m2, by omega, hj, by omega⟩⟩
          · exact wpS_pure ⟨sm2, _, _, _, _, _, rfl, m2, by omega, hj, by omega⟩
    case p1 =>
      rintro c st2 ⟨sm2, ⟨res, rest, rfl, me⟩ | ⟨ou, i, j, ac, bc, rfl, m, hi, hj, hx3⟩⟩
      · exact wpS_pure ⟨sm2, _, _, rfl, me⟩
      dsimp only
      refine wpS_bind (wpS_lift (wpAny_rule ⟨rfl, ?_⟩))
      refine wpS_bind (wpS_mono (wpS_forRange (I := fun y c st' => SameSt st st' ∧ ∃ ou i j mg ac bc, c = (none, ou, i, j, mg, ac, bc) ∧ MI xa.toList xb.toList ou.toList i j ∧ i + 1 < xa.size ∧ j < xb.toList.length ∧ x + 2 ≤ i + j)
        (Q := fun c st' => SameSt st st' ∧ ((∃ res rest, c = (some res, rest) ∧ Mer xa.toList xb.toList res.toList) ∨ ∃ ou i j mg ac bc, c = (none, ou, i, j, mg, ac, bc) ∧ MI xa.toList xb.toList ou.toList i j ∧ i + 1 < xa.size ∧ j < xb.toList.length ∧ x + 2 ≤ i + j)) ?s2 ?f2 ⟨sm2, _, _, _, _, _, _, rfl, m, hi, hj, hx3⟩) ?p2)
      case f2 =>
        rintro c st3 ⟨sm3, ou, i, j, mg, ac, bc, rfl, m, hi, hj, hx4⟩
        exact ⟨sm3, .inr ⟨_, _, _, _, _, _, rfl, m, hi, hj, hx4⟩⟩
      case p2 =>
        rintro c st3 ⟨sm3, ⟨res, rest, rfl, me⟩ | ⟨ou, i, j, mg, ac, bc, rfl, m, hi, hj, hx4⟩⟩
        · exact wpS_pure ⟨sm3, _, _, rfl, me⟩
        · dsimp only
          refine wpS_bind (s_setG ?_)
          exact wpS_pure ⟨sm3.setG _, _, _, _, _, rfl, m, hi, hj, by omega⟩
      case s2 =>
        rintro y c st3 _ hy ⟨sm3', ou, i, j, mg, ac, bc, rfl, m, hi, hj, hx4⟩
        dsimp only
        have sm3 := fun g => sm3'.setG g
        obtain ⟨c1, hc1, cut1⟩ := cut_of hA xb.toList[j] false i (xa.size - i) (by omega)
        obtain ⟨le1, gt1⟩ := gfalse (by omega) cut1
        have m1 : MI xa.toList xb.toList (ou ++ xa.extract i (i + c1)).toList (i + c1) j := by
          rw [toL_ext]
          exact m.extA hA c1 (by omega) fun t ht htc z hz => Int.le_trans (le1 t ht htc) (head_le hB hj z hz)
        by_cases hmg : mg > 1
        · rw [if_pos hmg]
          refine wpS_bind (s_setG (wpS_bind (s_elemL hj ?_)))
          refine wpS_bind (s_gal (c := c1) ((sm3 _).kind.trans hk) hIa (hIb _ (List.getElem_mem _)) (by omega) (by omega) hc1 cut1 ?_)
          dsimp only
          by_cases k0 : c1 > 0
          · rw [if_pos k0]
            by_cases e1 : i + c1 + 1 = xa.size
            · rw [if_pos (by simpa using e1)]
              exact wpS_pure ⟨sm3 _, .inl ⟨_, _, rfl, m1.last hA hB (by omega) hl⟩⟩
            · rw [if_neg (by simpa using e1)]
              by_cases e2 : i + c1 = xa.size
              · rw [if_pos (by simpa using e2)]
                exact wpS_pure ⟨sm3 _, .inl ⟨_, _, rfl, m1.doneA hA hB (by omega)⟩⟩
              · rw [if_neg (by simpa using e2)]
                refine wpS_bind (s_elemL hj ?_)
                have M2 : MI xa.toList xb.toList (Array.push (ou ++ xa.extract i (i + c1)) xb.toList[j]).toList (i + c1) (j + 1) := by rw [Array.toList_push]; exact MI.pushB m1 hB hj (fun z hz => Int.le_of_lt (gt1 z hz))
                by_cases e3 : j + 1 = xb.size
                · rw [if_pos (by simpa using e3)]
                  exact wpS_pure ⟨sm3 _, .inl ⟨_, _, rfl, M2.doneB hA hB (by omega)⟩⟩
                · rw [if_neg (by simpa using e3)]
                  refine wpS_bind (s_elemL (i := (i + c1)) (by omega) ?_)
                  obtain ⟨c2, hc2, cut2⟩ := cut_of hB (xa.toList[(i + c1)]'(by omega)) true (j + 1) (xb.size - (j + 1)) (by omega)
                  obtain ⟨lt2, ge2⟩ := gtrue (by omega) cut2
                  refine wpS_bind (s_gal (c := c2) ((sm3 _).kind.trans hk) hIb (hIa _ (List.getElem_mem _)) (by omega) (by omega) hc2 cut2 ?_)
                  dsimp only
                  by_cases k1 : c2 > 0
                  · rw [if_pos k1]
                    have M3 : MI xa.toList xb.toList (Array.push (ou ++ xa.extract i (i + c1)) xb.toList[j] ++ xb.extract (j + 1) (j + 1 + c2)).toList (i + c1) (j + 1 + c2) := by
                      rw [toL_ext]
                      exact M2.extB hB c2 (by omega) fun t ht htc z hz => Int.le_trans (Int.le_of_lt (lt2 t ht htc)) (head_le hA (by omega) z hz)
                    by_cases e4 : j + 1 + c2 = xb.size
                    · rw [if_pos (by simpa using e4)]
                      exact wpS_pure ⟨sm3 _, .inl ⟨_, _, rfl, M3.doneB hA hB (by omega)⟩⟩
                    · rw [if_neg (by simpa using e4)]
                      refine wpS_bind (s_elemL (i := (i + c1)) (by omega) ?_)
                      have M4 : MI xa.toList xb.toList (Array.push (Array.push (ou ++ xa.extract i (i + c1)) xb.toList[j] ++ xb.extract (j + 1) (j + 1 + c2)) (xa.toList[(i + c1)]'(by omega))).toList ((i + c1) + 1) (j + 1 + c2) := by rw [Array.toList_push]; exact MI.pushA M3 hA (by omega) ge2
                      by_cases e5 : (i + c1) + 1 + 1 = xa.size
                      · rw [if_pos (by simpa using e5)]
                        exact wpS_pure ⟨sm3 _, .inl ⟨_, _, rfl, M4.last hA hB (by omega) hl⟩⟩
                      · rw [if_neg (by simpa using e5)]
                        split
                        · exact wpS_pure ⟨sm3 _, .inr ⟨_, _, _, _, _, _, rfl, M4, by omega, by omega, by omega⟩⟩
                        · exact wpS_pure ⟨sm3 _, _, _, _, _, _, _, rfl, M4, by omega, by omega, by omega⟩
                  · rw [if_neg k1]
                    have c20 : c2 = 0 := by omega
                    refine wpS_bind (s_elemL (i := (i + c1)) (by omega) ?_)
                    have M4 : MI xa.toList xb.toList (Array.push (Array.push (ou ++ xa.extract i (i + c1)) xb.toList[j]) (xa.toList[(i + c1)]'(by omega))).toList ((i + c1) + 1) (j + 1) := by rw [Array.toList_push]; exact MI.pushA M2 hA (by omega) (fun z hz => ge2 z (by rw [c20, Nat.add_zero]; exact hz))
                    by_cases e5 : (i + c1) + 1 + 1 = xa.size
                    · rw [if_pos (by simpa using e5)]
                      exact wpS_pure ⟨sm3 _, .inl ⟨_, _, rfl, M4.last hA hB (by omega) hl⟩⟩
                    · rw [if_neg (by simpa using e5)]
                      split
                      · exact wpS_pure ⟨sm3 _, .inr ⟨_, _, _, _, _, _, rfl, M4, by omega, by omega, by omega⟩⟩
                      · exact wpS_pure ⟨sm3 _, _, _, _, _, _, _, rfl, M4, by omega, by omega, by omega⟩
          · rw [if_neg k0]
            have c10 : c1 = 0 := by omega
            refine wpS_bind (s_elemL hj ?_)
            have M2 : MI xa.toList xb.toList (Array.push ou xb.toList[j]).toList i (j + 1) := by rw [Array.toList_push]; exact MI.pushB m hB hj (fun z hz => Int.le_of_lt (gt1 z (by rw [c10, Nat.add_zero]; exact hz)))
            by_cases e3 : j + 1 = xb.size
            · rw [if_pos (by simpa using e3)]
              exact wpS_pure ⟨sm3 _, .inl ⟨_, _, rfl, M2.doneB hA hB (by omega)⟩⟩
            · rw [if_neg (by simpa using e3)]
              refine wpS_bind (s_elemL (i := i) (by omega) ?_)
              obtain ⟨c2, hc2, cut2⟩ := cut_of hB (xa.toList[i]'(by omega)) true (j + 1) (xb.size - (j + 1)) (by omega)
              obtain ⟨lt2, ge2⟩ := gtrue (by omega) cut2
              refine wpS_bind (s_gal (c := c2) ((sm3 _).kind.trans hk) hIb (hIa _ (List.getElem_mem _)) (by omega) (by omega) hc2 cut2 ?_)
              dsimp only
              by_cases k1 : c2 > 0
              · rw [if_pos k1]
                have M3 : MI xa.toList xb.toList (Array.push ou xb.toList[j] ++ xb.extract (j + 1) (j + 1 + c2)).toList i (j + 1 + c2) := by
                  rw [toL_ext]
                  exact M2.extB hB c2 (by omega) fun t ht htc z hz => Int.le_trans (Int.le_of_lt (lt2 t ht htc)) (head_le hA (by omega) z hz)
                by_cases e4 : j + 1 + c2 = xb.size
                · rw [if_pos (by simpa using e4)]
                  exact wpS_pure ⟨sm3 _, .inl ⟨_, _, rfl, M3.doneB hA hB (by omega)⟩⟩
                · rw [if_neg (by simpa using e4)]
                  refine wpS_bind (s_elemL (i := i) (by omega) ?_)
                  have M4 : MI xa.toList xb.toList (Array.push (Array.push ou xb.toList[j] ++ xb.extract (j + 1) (j + 1 + c2)) (xa.toList[i]'(by omega))).toList (i + 1) (j + 1 + c2) := by rw [Array.toList_push]; exact MI.pushA M3 hA (by omega) ge2
                  by_cases e5 : i + 1 + 1 = xa.size
                  · rw [if_pos (by simpa using e5)]
                    exact wpS_pure ⟨sm3 _, .inl ⟨_, _, rfl, M4.last hA hB (by omega) hl⟩⟩
                  · rw [if_neg (by simpa using e5)]
                    split
                    · exact wpS_pure ⟨sm3 _, .inr ⟨_, _, _, _, _, _, rfl, M4, by omega, by omega, by omega⟩⟩
                    · exact wpS_pure ⟨sm3 _, _, _, _, _, _, _, rfl, M4, by omega, by omega, by omega⟩
              · rw [if_neg k1]
                have c20 : c2 = 0 := by omega
                refine wpS_bind (s_elemL (i := i) (by omega) ?_)
                have M4 : MI xa.toList xb.toList (Array.push (Array.push ou xb.toList[j]) (xa.toList[i]'(by omega))).toList (i + 1) (j + 1) := by rw [Array.toList_push]; exact MI.pushA M2 hA (by omega) (fun z hz => ge2 z (by rw [c20, Nat.add_zero]; exact hz))
                by_cases e5 : i + 1 + 1 = xa.size
                · rw [if_pos (by simpa using e5)]
                  exact wpS_pure ⟨sm3 _, .inl ⟨_, _, rfl, M4.last hA hB (by omega) hl⟩⟩
                · rw [if_neg (by simpa using e5)]
                  split
                  · exact wpS_pure ⟨sm3 _, .inr ⟨_, _, _, _, _, _, rfl, M4, by omega, by omega, by omega⟩⟩
                  · exact wpS_pure ⟨sm3 _, _, _, _, _, _, _, rfl, M4, by omega, by omega, by omega⟩
        · rw [if_neg hmg]
          refine wpS_bind (s_setG (wpS_bind (s_elemL hj ?_)))
          refine wpS_bind (s_gal (c := c1) ((sm3 _).kind.trans hk) hIa (hIb _ (List.getElem_mem _)) (by omega) (by omega) hc1 cut1 ?_)
          dsimp only
          by_cases k0 : c1 > 0
          · rw [if_pos k0]
            by_cases e1 : i + c1 + 1 = xa.size
            · rw [if_pos (by simpa using e1)]
              exact wpS_pure ⟨sm3 _, .inl ⟨_, _, rfl, m1.last hA hB (by omega) hl⟩⟩
            · rw [if_neg (by simpa using e1)]
              by_cases e2 : i + c1 = xa.size
              · rw [if_pos (by simpa using e2)]
                exact wpS_pure ⟨sm3 _, .inl ⟨_, _, rfl, m1.doneA hA hB (by omega)⟩⟩
              · rw [if_neg (by simpa using e2)]
                refine wpS_bind (s_elemL hj ?_)
                have M2 : MI xa.toList xb.toList (Array.push (ou ++ xa.extract i (i + c1)) xb.toList[j]).toList (i + c1) (j + 1) := by rw [Array.toList_push]; exact MI.pushB m1 hB hj (fun z hz => Int.le_of_lt (gt1 z hz))
                by_cases e3 : j + 1 = xb.size
                · rw [if_pos (by simpa using e3)]
                  exact wpS_pure ⟨sm3 _, .inl ⟨_, _, rfl, M2.doneB hA hB (by omega)⟩⟩
                · rw [if_neg (by simpa using e3)]
                  refine wpS_bind (s_elemL (i := (i + c1)) (by omega) ?_)
                  obtain ⟨c2, hc2, cut2⟩ := cut_of hB (xa.toList[(i + c1)]'(by omega)) true (j + 1) (xb.size - (j + 1)) (by omega)
                  obtain ⟨lt2, ge2⟩ := gtrue (by omega) cut2
                  refine wpS_bind (s_gal (c := c2) ((sm3 _).kind.trans hk) hIb (hIa _ (List.getElem_mem _)) (by omega) (by omega) hc2 cut2 ?_)
                  dsimp only
                  by_cases k1 : c2 > 0
                  · rw [if_pos k1]
                    have M3 : MI xa.toList xb.toList (Array.push (ou ++ xa.extract i (i + c1)) xb.toList[j] ++ xb.extract (j + 1) (j + 1 + c2)).toList (i + c1) (j + 1 + c2) := by
                      rw [toL_ext]
                      exact M2.extB hB c2 (by omega) fun t ht htc z hz => Int.le_trans (Int.le_of_lt (lt2 t ht htc)) (head_le hA (by omega) z hz)
                    by_cases e4 : j + 1 + c2 = xb.size
                    · rw [if_pos (by simpa using e4)]
                      exact wpS_pure ⟨sm3 _, .inl ⟨_, _, rfl, M3.doneB hA hB (by omega)⟩⟩
                    · rw [if_neg (by simpa using e4)]
                      refine wpS_bind (s_elemL (i := (i + c1)) (by omega) ?_)
                      have M4 : MI xa.toList xb.toList (Array.push (Array.push (ou ++ xa.extract i (i + c1)) xb.toList[j] ++ xb.extract (j + 1) (j + 1 + c2)) (xa.toList[(i + c1)]'(by omega))).toList ((i + c1) + 1) (j + 1 + c2) := by rw [Array.toList_push]; exact MI.pushA M3 hA (by omega) ge2
                      by_cases e5 : (i + c1) + 1 + 1 = xa.size
                      · rw [if_pos (by simpa using e5)]
                        exact wpS_pure ⟨sm3 _, .inl ⟨_, _, rfl, M4.last hA hB (by omega) hl⟩⟩
                      · rw [if_neg (by simpa using e5)]
                        split
                        · exact wpS_pure ⟨sm3 _, .inr ⟨_, _, _, _, _, _, rfl, M4, by omega, by omega, by omega⟩⟩
                        · exact wpS_pure ⟨sm3 _, _, _, _, _, _, _, rfl, M4, by omega, by omega, by omega⟩
                  · rw [if_neg k1]
                    have c20 : c2 = 0 := by omega
                    refine wpS_bind (s_elemL (i := (i + c1)) (by omega) ?_)
                    have M4 : MI xa.toList xb.toList (Array.push (Array.push (ou ++ xa.extract i (i + c1)) xb.toList[j]) (xa.toList[(i + c1)]'(by omega))).toList ((i + c1) + 1) (j + 1) := by rw [Array.toList_push]; exact MI.pushA M2 hA (by omega) (fun z hz => ge2 z (by rw [c20, Nat.add_zero]; exact hz))
                    by_cases e5 : (i + c1) + 1 + 1 = xa.size
                    · rw [if_pos (by simpa using e5)]
                      exact wpS_pure ⟨sm3 _, .inl ⟨_, _, rfl, M4.last hA hB (by omega) hl⟩⟩
                    · rw [if_neg (by simpa using e5)]
                      split
                      · exact wpS_pure ⟨sm3 _, .inr ⟨_, _, _, _, _, _, rfl, M4, by omega, by omega, by omega⟩⟩
                      · exact wpS_pure ⟨sm3 _, _, _, _, _, _, _, rfl, M4, by omega, by omega, by omega⟩
          · rw [if_neg k0]
            have c10 : c1 = 0 := by omega
            refine wpS_bind (s_elemL hj ?_)
            have M2 : MI xa.toList xb.toList (Array.push ou xb.toList[j]).toList i (j + 1) := by rw [Array.toList_push]; exact MI.pushB m hB hj (fun z hz => Int.le_of_lt (gt1 z (by rw [c10, Nat.add_zero]; exact hz)))
            by_cases e3 : j + 1 = xb.size
            · rw [if_pos (by simpa using e3)]
              exact wpS_pure ⟨sm3 _, .inl ⟨_, _, rfl, M2.doneB hA hB (by omega)⟩⟩
            · rw [if_neg (by simpa using e3)]
              refine wpS_bind (s_elemL (i := i) (by omega) ?_)
              obtain ⟨c2, hc2, cut2⟩ := cut_of hB (xa.toList[i]'(by omega)) true (j + 1) (xb.size - (j + 1)) (by omega)
              obtain ⟨lt2, ge2⟩ := gtrue (by omega) cut2
              refine wpS_bind (s_gal (c := c2) ((sm3 _).kind.trans hk) hIb (hIa _ (List.getElem_mem _)) (by omega) (by omega) hc2 cut2 ?_)
              dsimp only
              by_cases k1 : c2 > 0
              · rw [if_pos k1]
                have M3 : MI xa.toList xb.toList (Array.push ou xb.toList[j] ++ xb.extract (j + 1) (j + 1 + c2)).toList i (j + 1 + c2) := by
                  rw [toL_ext]
                  exact M2.extB hB c2 (by omega) fun t ht htc z hz => Int.le_trans (Int.le_of_lt (lt2 t ht htc)) (head_le hA (by omega) z hz)
                by_cases e4 : j + 1 + c2 = xb.size
                · rw [if_pos (by simpa using e4)]
                  exact wpS_pure ⟨sm3 _, .inl ⟨_, _, rfl, M3.doneB hA hB (by omega)⟩⟩
                · rw [if_neg (by simpa using e4)]
                  refine wpS_bind (s_elemL (i := i) (by omega) ?_)
                  have M4 : MI xa.toList xb.toList (Array.push (Array.push ou xb.toList[j] ++ xb.extract (j + 1) (j + 1 + c2)) (xa.toList[i]'(by omega))).toList (i + 1) (j + 1 + c2) := by rw [Array.toList_push]; exact MI.pushA M3 hA (by omega) ge2
                  by_cases e5 : i + 1 + 1 = xa.size
                  · rw [if_pos (by simpa using e5)]
                    exact wpS_pure ⟨sm3 _, .inl ⟨_, _, rfl, M4.last hA hB (by omega) hl⟩⟩
                  · rw [if_neg (by simpa using e5)]
                    split
                    · exact wpS_pure ⟨sm3 _, .inr ⟨_, _, _, _, _, _, rfl, M4, by omega, by omega, by omega⟩⟩
                    · exact wpS_pure ⟨sm3 _, _, _, _, _, _, _, rfl, M4, by omega, by omega, by omega⟩
              · rw [if_neg k1]
                have c20 : c2 = 0 := by omega
                refine wpS_bind (s_elemL (i := i) (by omega) ?_)
                have M4 : MI xa.toList xb.toList (Array.push (Array.push ou xb.toList[j]) (xa.toList[i]'(by omega))).toList (i + 1) (j + 1) := by rw [Array.toList_push]; exact MI.pushA M2 hA (by omega) (fun z hz => ge2 z (by rw [c20, Nat.add_zero]; exact hz))
                by_cases e5 : i + 1 + 1 = xa.size
                · rw [if_pos (by simpa using e5)]
                  exact wpS_pure ⟨sm3 _, .inl ⟨_, _, rfl, M4.last hA hB (by omega) hl⟩⟩
                · rw [if_neg (by simpa using e5)]
                  split
                  · exact wpS_pure ⟨sm3 _, .inr ⟨_, _, _, _, _, _, rfl, M4, by omega, by omega, by omega⟩⟩
                  · exact wpS_pure ⟨sm3 _, _, _, _, _, _, _, rfl, M4, by omega, by omega, by omega⟩
end
end SRV
set_option Elab.async false
set_option linter.all false
set_option maxRecDepth 100000
set_option maxHeartbeats 4000000
namespace SRV
open PySem
open PyProof.Rows hiding K SortedTo K_bubble K_mirror K_congr K_mirror_equal
variable [KV]
structure MH (A B : List Keyed) (o : List Keyed) (na nb : Nat) : Prop where
  perm : o.Perm (A.drop na ++ B.drop nb)
  srt : o.Pairwise Le
  lea : ∀ x ∈ o, ∀ y ∈ A.take na, kv y ≤ kv x
  leb : ∀ x ∈ o, ∀ y ∈ B.take nb, kv y ≤ kv x
theorem pw_take {l : List Keyed} (h : l.Pairwise Le) {i : Nat} (hi : i < l.length) : ∀ y ∈ l.take i, kv y ≤ kv l[i] := fun y hy => by
  obtain ⟨u, hu, rfl⟩ := List.mem_iff_getElem.mp hy
  rw [List.length_take] at hu
  rw [List.getElem_take]
  exact List.pairwise_iff_getElem.mp h _ _ _ _ (by omega)
theorem mem_take_succ {l : List Keyed} {i : Nat} {y : Keyed} (h : y ∈ l.take i) : y ∈ l.take (i + 1) := (List.take_sublist_take_left (Nat.le_succ i)).mem h
theorem mem_take_at {l : List Keyed} {i : Nat} (hi : i < l.length) : l[i] ∈ l.take (i + 1) := by
  rw [List.take_succ, List.getElem?_eq_getElem hi]
  exact List.mem_append_right _ (List.mem_singleton.mpr rfl)
theorem MH.pushA {A B o : List Keyed} {na nb : Nat} (m : MH A B o (na + 1) nb) (hA : A.Pairwise Le) (hi : na < A.length) (h : ∀ z ∈ B.take nb, kv z ≤ kv A[na]) : MH A B (A[na] :: o) na nb := by
  refine ⟨?_, ?_, fun x hx y hy => ?_, fun x hx y hy => ?_⟩
  · rw [List.drop_eq_getElem_cons hi, List.cons_append]
    exact List.Perm.cons _ m.perm
  · exact List.pairwise_cons.mpr ⟨fun x hx => m.lea x hx _ (mem_take_at hi), m.srt⟩
  · rcases List.mem_cons.mp hx with rfl | hx
    · exact pw_take hA hi y hy
    · exact m.lea x hx y (mem_take_succ hy)
  · rcases List.mem_cons.mp hx with rfl | hx
    · exact h y hy
    · exact m.leb x hx y hy
theorem MH.pushB {A B o : List Keyed} {na nb : Nat} (m : MH A B o na (nb + 1)) (hB : B.Pairwise Le) (hi : nb < B.length) (h : ∀ z ∈ A.take na, kv z ≤ kv B[nb]) : MH A B (B[nb] :: o) na nb := by
  refine ⟨?_, ?_, fun x hx y hy => ?_, fun x hx y hy => ?_⟩
  · rw [List.drop_eq_getElem_cons hi]
    exact (List.Perm.cons _ m.perm).trans List.perm_middle.symm
  · exact List.pairwise_cons.mpr ⟨fun x hx => m.leb x hx _ (mem_take_at hi), m.srt⟩
  · rcases List.mem_cons.mp hx with rfl | hx
    · exact h y hy
    · exact m.lea x hx y hy
  · rcases List.mem_cons.mp hx with rfl | hx
    · exact pw_take hB hi y hy
    · exact m.leb x hx y (mem_take_succ hy)
theorem MH.extA {A B o : List Keyed} {nb : Nat} (hA : A.Pairwise Le) : ∀ (k c : Nat), MH A B o (c + k) nb → c + k ≤ A.length → (∀ i (hi : i < A.length), c ≤ i → i < c + k → ∀ z ∈ B.take nb, kv z ≤ kv A[i]) → MH A B ((A.drop c).take k ++ o) c nb
  | 0, c, m, _, _ => by rw [List.take_zero]; exact m
  | k + 1, c, m, hk, h => by
    have m' : MH A B o (c + 1 + k) nb := by rw [show c + 1 + k = c + (k + 1) by omega]; exact m
    have ih := MH.extA hA k (c + 1) m' (by omega) fun i hi h1 h2 => h i hi (by omega) (by omega)
    have hi : c < A.length := by omega
    rw [List.drop_eq_getElem_cons hi, List.take_succ_cons, List.cons_append]
    exact ih.pushA hA hi (h c hi (Nat.le_refl _) (by omega))
theorem MH.extB {A B o : List Keyed} {na : Nat} (hB : B.Pairwise Le) : ∀ (k c : Nat), MH A B o na (c + k) → c + k ≤ B.length → (∀ i (hi : i < B.length), c ≤ i → i < c + k → ∀ z ∈ A.take na, kv z ≤ kv B[i]) → MH A B ((B.drop c).take k ++ o) na c
  | 0, c, m, _, _ => by rw [List.take_zero]; exact m
  | k + 1, c, m, hk, h => by
    have m' : MH A B o na (c + 1 + k) := by rw [show c + 1 + k = c + (k + 1) by omega]; exact m
    have ih := MH.extB hB k (c + 1) m' (by omega) fun i hi h1 h2 => h i hi (by omega) (by omega)
    have hi : c < B.length := by omega
    rw [List.drop_eq_getElem_cons hi, List.take_succ_cons, List.cons_append]
    exact ih.pushB hB hi (h c hi (Nat.le_refl _) (by omega))
theorem MH.finAB {A B o : List Keyed} {na nb : Nat} (m : MH A B o na nb) (hA : A.Pairwise Le) (hB : B.Pairwise Le) (h : ∀ x ∈ A.take na, ∀ y ∈ B.take nb, kv x ≤ kv y) : Mer A B (A.take na ++ B.take nb ++ o) := by
  refine ⟨?_, ?_⟩
  · have e := (List.Perm.append_left (A.take na ++ B.take nb) m.perm).trans (perm_mid (A.take na) (B.take nb) (A.drop na) (B.drop nb))
    rw [List.take_append_drop, List.take_append_drop] at e
    exact e
  · refine List.pairwise_append.mpr ⟨List.pairwise_append.mpr ⟨hA.sublist (List.take_sublist _ _), hB.sublist (List.take_sublist _ _), fun x hx y hy => h x hx y hy⟩, m.srt, fun x hx y hy => ?_⟩
    rcases List.mem_append.mp hx with hx | hx
    · exact m.lea y hy x hx
    · exact m.leb y hy x hx
theorem MH.finBA {A B o : List Keyed} {na nb : Nat} (m : MH A B o na nb) (hA : A.Pairwise Le) (hB : B.Pairwise Le) (h : ∀ x ∈ A.take na, ∀ y ∈ B.take nb, kv y ≤ kv x) : Mer A B (B.take nb ++ A.take na ++ o) := by
  refine ⟨?_, ?_⟩
  · have e := (List.Perm.append_left (A.take na ++ B.take nb) m.perm).trans (perm_mid (A.take na) (B.take nb) (A.drop na) (B.drop nb))
    rw [List.take_append_drop, List.take_append_drop] at e
    exact (List.Perm.append_right o List.perm_append_comm).trans e
  · refine List.pairwise_append.mpr ⟨List.pairwise_append.mpr ⟨hB.sublist (List.take_sublist _ _), hA.sublist (List.take_sublist _ _), fun x hx y hy => h y hy x hx⟩, m.srt, fun x hx y hy => ?_⟩
    rcases List.mem_append.mp hx with hx | hx
    · exact m.leb y hy x hx
    · exact m.lea y hy x hx
theorem toL_front (o x y : Array Keyed) (i j : Nat) : (x.extract 0 i ++ y.extract 0 j ++ o.reverse).toList = x.toList.take i ++ y.toList.take j ++ o.toList.reverse := by
  have e : ∀ (z : Array Keyed) (k : Nat), (z.extract 0 k).toList = z.toList.take k := fun z k => by
    rw [Array.toList_extract, List.extract_eq_drop_take, List.drop_zero, Nat.sub_zero]
  rw [Array.toList_append, Array.toList_append, e, e, Array.toList_reverse]
theorem toL_pushR (o : Array Keyed) (z : Keyed) : (o.push z).toList.reverse = z :: o.toList.reverse := by
  rw [Array.toList_push, List.reverse_append]; rfl
theorem toL_extR (o x : Array Keyed) (c n : Nat) : (o ++ (x.extract c n).reverse).toList.reverse = (x.toList.drop c).take (n - c) ++ o.toList.reverse := by
  rw [Array.toList_append, List.reverse_append, Array.toList_reverse, List.reverse_reverse, Array.toList_extract, List.extract_eq_drop_take]
noncomputable def MHa (xa xb ou : Array Keyed) (na nb : Nat) : Prop := MH xa.toList xb.toList ou.toList.reverse na nb
section
variable {xa xb ou : Array Keyed} {na nb : Nat}
theorem MHa.done0 (m : MHa xa xb ou na nb) (hA : xa.toList.Pairwise Le) (hB : xb.toList.Pairwise Le) (h : na = 0 ∨ nb = 0) : Mer xa.toList xb.toList (xa.extract 0 na ++ xb.extract 0 nb ++ ou.reverse).toList := by
  rw [toL_front]
  refine MH.finAB m hA hB fun x hx y hy => ?_
  rcases h with h | h
  · rw [h] at hx; simp at hx
  · rw [h] at hy; simp at hy
theorem MHa.first (m : MHa xa xb ou na nb) (hA : xa.toList.Pairwise Le) (hB : xb.toList.Pairwise Le) (hb : 0 < xb.toList.length) (h : nb = 1) (h0 : ∀ z ∈ xa.toList, kv xb.toList[0] ≤ kv z) : Mer xa.toList xb.toList (xb.extract 0 nb ++ xa.extract 0 na ++ ou.reverse).toList := by
  rw [toL_front]
  refine MH.finBA m hA hB fun x hx y hy => ?_
  rw [h, List.take_succ, List.getElem?_eq_getElem hb] at hy
  have : y = xb.toList[0] := by simpa using hy
  rw [this]
  exact h0 x (List.mem_of_mem_take hx)
theorem MHa.pushA (m : MHa xa xb ou (na + 1) nb) (hA : xa.toList.Pairwise Le) (hi : na < xa.toList.length) (h : ∀ z ∈ xb.toList.take nb, kv z ≤ kv xa.toList[na]) : MHa xa xb (ou.push xa.toList[na]) na nb := by
  unfold MHa; rw [toL_pushR]; exact MH.pushA m hA hi h
theorem MHa.pushB (m : MHa xa xb ou na (nb + 1)) (hB : xb.toList.Pairwise Le) (hi : nb < xb.toList.length) (h : ∀ z ∈ xa.toList.take na, kv z ≤ kv xb.toList[nb]) : MHa xa xb (ou.push xb.toList[nb]) na nb := by
  unfold MHa; rw [toL_pushR]; exact MH.pushB m hB hi h
theorem MHa.extA {c : Nat} (m : MHa xa xb ou na nb) (hA : xa.toList.Pairwise Le) (hc : c ≤ na) (hn : na ≤ xa.toList.length) (h : ∀ i (hi : i < xa.toList.length), c ≤ i → i < na → ∀ z ∈ xb.toList.take nb, kv z ≤ kv xa.toList[i]) : MHa xa xb (ou ++ (xa.extract c na).reverse) c nb := by
  unfold MHa; rw [toL_extR]
  exact MH.extA hA (na - c) c (by rw [show c + (na - c) = na by omega]; exact m) (by omega) fun i hi h1 h2 => h i hi h1 (by omega)
theorem MHa.extB {c : Nat} (m : MHa xa xb ou na nb) (hB : xb.toList.Pairwise Le) (hc : c ≤ nb) (hn : nb ≤ xb.toList.length) (h : ∀ i (hi : i < xb.toList.length), c ≤ i → i < nb → ∀ z ∈ xa.toList.take na, kv z ≤ kv xb.toList[i]) : MHa xa xb (ou ++ (xb.extract c nb).reverse) na c := by
  unfold MHa; rw [toL_extR]
  exact MH.extB hB (nb - c) c (by rw [show c + (nb - c) = nb by omega]; exact m) (by omega) fun i hi h1 h2 => h i hi h1 (by omega)
end
theorem ffalse {xs : Array Keyed} {ky : Keyed} {n c : Nat} (hn : n ≤ xs.toList.length) (hc : c ≤ n) (cut : ∀ i, i < n → Byd false ky xs 0 i = decide (i < c)) :
    (∀ z ∈ xs.toList.take c, kv z ≤ kv ky) ∧ (∀ i (h : i < xs.toList.length), c ≤ i → i < n → kv ky < kv xs.toList[i]) := by
  have key : ∀ i (h : i < xs.toList.length), i < n → (!decide (kv ky < kv xs.toList[i])) = decide (i < c) := fun i h hi => by
    have := cut i hi
    unfold Byd at this
    rw [Nat.zero_add, K_at h] at this
    simpa using this
  constructor
  · intro z hz
    obtain ⟨u, hu, rfl⟩ := List.mem_iff_getElem.mp hz
    rw [List.length_take] at hu
    have := key u (by omega) (by omega)
    rw [List.getElem_take]
    rw [decide_eq_true (show u < c by omega)] at this
    simpa using this
  · intro i h h1 h2
    have := key i h h2
    rw [decide_eq_false (show ¬ i < c by omega)] at this
    simpa using this
theorem ftrue {xs : Array Keyed} {ky : Keyed} {n c : Nat} (hn : n ≤ xs.toList.length) (hc : c ≤ n) (cut : ∀ i, i < n → Byd true ky xs 0 i = decide (i < c)) :
    (∀ z ∈ xs.toList.take c, kv z < kv ky) ∧ (∀ i (h : i < xs.toList.length), c ≤ i → i < n → kv ky ≤ kv xs.toList[i]) := by
  have key : ∀ i (h : i < xs.toList.length), i < n → decide (kv xs.toList[i] < kv ky) = decide (i < c) := fun i h hi => by
    have := cut i hi
    unfold Byd at this
    rw [Nat.zero_add, K_at h] at this
    simpa using this
  constructor
  · intro z hz
    obtain ⟨u, hu, rfl⟩ := List.mem_iff_getElem.mp hz
    rw [List.length_take] at hu
    have := key u (by omega) (by omega)
    rw [List.getElem_take]
    rw [decide_eq_true (show u < c by omega)] at this
    simpa using this
  · intro i h h1 h2
    have := key i h h2
    rw [decide_eq_false (show ¬ i < c by omega)] at this
    simpa using this
theorem take_le {l : List Keyed} (h : l.Pairwise Le) {n : Nat} (hn : n < l.length) : ∀ z ∈ l.take (n + 1), kv z ≤ kv l[n] := fun z hz => by
  rw [List.take_succ, List.getElem?_eq_getElem hn] at hz
  rcases List.mem_append.mp hz with hz | hz
  · exact pw_take h hn z hz
  · have : z = l[n] := by simpa using hz
    rw [this]; exact Int.le_refl _
noncomputable def mhi : Array Keyed → Array Keyed → StateT SortSt Sem (Array Keyed) := sortPriv% PySem.Builtin.mergeHi
theorem mhi_eq (xa xb : Array Keyed) : mhi xa xb = (do
  rule "list.sort.merge-hi"
  let tot := xa.size + xb.size
  let dn (ou : Array Keyed) (i j : Nat) := xa.extract 0 i ++ xb.extract 0 j ++ ou.reverse
  let fb (ou : Array Keyed) (i j : Nat) := xb.extract 0 j ++ xa.extract 0 i ++ ou.reverse
  let mut i := xa.size - 1
  let mut j := xb.size
  let mut ou : Array Keyed := #[← elem' xa i]
  if i == 0 then return dn ou i j
  if j == 1 then return fb ou i j
  let mut mg := gallopOf (← get)
  for _ in [0:tot] do
    let mut ac := 0
    let mut bc := 0
    for _ in [0:tot] do
      let some aw ← lt' (← elem' xb (j - 1)) (← elem' xa (i - 1)) | return dn ou i j
      if aw then
        i := i - 1; ou := ou.push (← elem' xa i); ac := ac + 1; bc := 0
        if i == 0 then return dn ou i j
        if ac ≥ mg then break
      else
        j := j - 1; ou := ou.push (← elem' xb j); bc := bc + 1; ac := 0
        if j == 1 then return fb ou i j
        if bc ≥ mg then break
    rule "list.sort.gallop"
    mg := mg + 1
    for _ in [0:tot] do
      if mg > 1 then mg := mg - 1
      setG mg
      let some t ← gal false (← elem' xb (j - 1)) xa 0 i (i - 1) | return dn ou i j
      let k := i - t
      ac := k
      if k > 0 then
        ou := ou ++ (xa.extract t i).reverse; i := t
        if i == 0 then return dn ou i j
      j := j - 1; ou := ou.push (← elem' xb j)
      if j == 1 then return fb ou i j
      let some t ← gal true (← elem' xa (i - 1)) xb 0 j (j - 1) | return dn ou i j
      let k := j - t
      bc := k
      if k > 0 then
        ou := ou ++ (xb.extract t j).reverse; j := t
        if j == 1 then return fb ou i j
        if j == 0 then return dn ou i j
      i := i - 1; ou := ou.push (← elem' xa i)
      if i == 0 then return dn ou i j
      if ac < 7 && bc < 7 then break
    mg := mg + 1
    setG mg
  unsupported "internal:list.sort.merge-bound") := rfl
end SRV
set_option Elab.async false
set_option linter.all false
set_option maxRecDepth 100000
set_option maxHeartbeats 4000000
namespace SRV
open PySem
open PyProof.Rows hiding K SortedTo K_bubble K_mirror K_congr K_mirror_equal
variable [KV]
section
variable {prog : Program} {w : World} {A : Around} {E : Value → Shared → Prop}
theorem s_mhi {st : SortSt} {xa xb : Array Keyed} {Q : Array Keyed → SortSt → Prop} (hk : kindOf st = KV.kind) (hIa : AllI xa) (hIb : AllI xb) (hA : xa.toList.Pairwise Le) (hB : xb.toList.Pairwise Le) (ha : 0 < xa.toList.length) (hb : 0 < xb.toList.length)
    (h0 : ∀ z ∈ xa.toList, kv (xb.toList[0]) ≤ kv z) (hl : ∀ z ∈ xb.toList, kv z ≤ kv (xa.toList[xa.toList.length - 1]'(by omega)))
    (h : ∀ o st', SameSt st st' → Mer xa.toList xb.toList o.toList → Q o st') : wpS (model prog w) A E KV.sh (mhi xa xb) Q st := by
  have hsa : xa.size = xa.toList.length := (Array.length_toList ..).symm
  have hsb : xb.size = xb.toList.length := (Array.length_toList ..).symm
  rw [mhi_eq]
  refine wpS_bind (wpS_lift (wpAny_rule ⟨rfl, ?_⟩))
  dsimp only
  refine wpS_bind (s_elemL (i := xa.size - 1) (by omega) ?_)
  have m0 : MHa xa xb #[xa.toList[xa.size - 1]'(by omega)] (xa.size - 1) xb.size := by
    have mm : MHa xa xb #[] (xa.size - 1 + 1) xb.size := by
      refine ⟨?_, List.Pairwise.nil, fun x hx => (nomatch hx), fun x hx => (nomatch hx)⟩
      rw [drop_len (show xa.size - 1 + 1 = xa.toList.length by omega), drop_len hsb]
      exact List.Perm.refl _
    refine mm.pushA hA (by omega) fun z hz => ?_
    have := hl z (List.mem_of_mem_take hz)
    have e : xa.toList[xa.toList.length - 1]'(by omega) = xa.toList[xa.size - 1]'(by omega) := by congr 1
    rw [← e]; exact this
  by_cases c1 : xa.size - 1 = 0
  · rw [if_pos (by simpa using c1)]
    exact wpS_pure (h _ _ (SameSt.refl _) (m0.done0 hA hB (.inl c1)))
  rw [if_neg (by simpa using c1)]
  by_cases c2 : xb.size = 1
  · rw [if_pos (by simpa using c2)]
    exact wpS_pure (h _ _ (SameSt.refl _) (m0.first hA hB hb c2 h0))
  rw [if_neg (by simpa using c2)]
  refine wpS_bind (wpS_get ?_)
  refine wpS_bind (wpS_mono (wpS_forRange (I := fun x c st' => SameSt st st' ∧ ∃ i j ou mg, c = (none, i, j, ou, mg) ∧ MHa xa xb ou i j ∧ 0 < i ∧ i < xa.size ∧ 1 < j ∧ j ≤ xb.size ∧ i + j + x + 1 ≤ xa.size + xb.size) (Q := fun c st' => SameSt st st' ∧ ∃ res rest, c = (some res, rest) ∧ Mer xa.toList xb.toList res.toList) ?step ?fin ⟨SameSt.refl _, _, _, _, _, rfl, m0, by omega, by omega, by omega, by omega, by omega⟩) ?post)
  case post =>
    rintro c st' ⟨sm, res, rest, rfl, me⟩
    exact wpS_pure (h _ _ sm me)
  case fin =>
    rintro c st' ⟨sm, i, j, ou, mg, rfl, m, hi, hi2, hj, hj2, hx⟩
    exfalso
    omega
  case step =>
    rintro x c st1 _ hx ⟨sm, i, j, ou, mg, rfl, m, hi, hi2, hj, hj2, hx2⟩
    dsimp only
    refine wpS_bind (wpS_mono (wpS_forRange (I := fun y c st' => SameSt st st' ∧ ∃ i j ou ac bc, c = (none, i, j, ou, ac, bc) ∧ MHa xa xb ou i j ∧ 0 < i ∧ i < xa.size ∧ 1 < j ∧ j ≤ xb.size ∧ i + j + x + 1 + min y 1 ≤ xa.size + xb.size)
      (Q := fun c st' => SameSt st st' ∧ ((∃ res rest, c = (some res, rest) ∧ Mer xa.toList xb.toList res.toList) ∨ ∃ i j ou ac bc, c = (none, i, j, ou, ac, bc) ∧ MHa xa xb ou i j ∧ 0 < i ∧ i < xa.size ∧ 1 < j ∧ j ≤ xb.size ∧ i + j + x + 2 ≤ xa.size + xb.size)) ?s1 ?f1 ⟨sm, _, _, _, _, _, rfl, m, hi, hi2, hj, hj2, by omega⟩) ?p1)
    case f1 =>
      rintro c st2 ⟨sm2, i, j, ou, ac, bc, rfl, m, hi, hi2, hj, hj2, hx3⟩
      exact ⟨sm2, .inr ⟨_, _, _, _, _, rfl, m, hi, hi2, hj, hj2, by omega⟩⟩
    case s1 =>
      rintro y c st2 _ hy ⟨sm2, i, j, ou, ac, bc, rfl, m, hi, hi2, hj, hj2, hx3⟩
      dsimp only
      refine wpS_bind (s_elemL (i := j - 1) (by omega) (wpS_bind (s_elemL (i := i - 1) (by omega) ?_)))
      refine wpS_bind (s_lt (sm2.kind.trans hk) (hIb _ (List.getElem_mem _)) (hIa _ (List.getElem_mem _)) ?_)
      by_cases aw : kv (xb.toList[j - 1]'(by omega)) < kv (xa.toList[i - 1]'(by omega))
      · simp only [aw, decide_true, if_true]
        refine wpS_bind (s_elemL (i := i - 1) (by omega) ?_)
        have m2 : MHa xa xb (ou.push (xa.toList[i - 1]'(by omega))) (i - 1) j := MHa.pushA (by rw [show i - 1 + 1 = i by omega]; exact m) hA (by omega) fun z hz => by
          refine Int.le_trans ?_ (Int.le_of_lt aw)
          exact take_le hB (n := j - 1) (by omega) z (by rw [show j - 1 + 1 = j by omega]; exact hz)
        by_cases e1 : i - 1 = 0
        · rw [if_pos (by simpa using e1)]
          exact wpS_pure ⟨sm2, .inl ⟨_, _, rfl, m2.done0 hA hB (.inl e1)⟩⟩
        · rw [if_neg (by simpa using e1)]
          split
          · exact wpS_pure ⟨sm2, .inr ⟨_, _, _, _, _, rfl, m2, by omega, by omega, hj, hj2, by omega⟩⟩
          · exact wpS_pure ⟨sm2, _, _, _, _, _, rfl, m2, by omega, by omega, hj, hj2, by omega⟩
      · simp only [aw, decide_false, Bool.false_eq_true, if_false]
        refine wpS_bind (s_elemL (i := j - 1) (by omega) ?_)
        have m2 : MHa xa xb (ou.push (xb.toList[j - 1]'(by omega))) i (j - 1) := MHa.pushB (by rw [show j - 1 + 1 = j by omega]; exact m) hB (by omega) fun z hz => by
          refine Int.le_trans ?_ (Int.not_lt.mp aw)
          exact take_le hA (n := i - 1) (by omega) z (by rw [show i - 1 + 1 = i by omega]; exact hz)
        by_cases e1 : j - 1 = 1
        · rw [if_pos (by simpa using e1)]
          exact wpS_pure ⟨sm2, .inl ⟨_, _, rfl, m2.first hA hB hb e1 h0⟩⟩
        · rw [if_neg (by simpa using e1)]
          split
          · exact wpS_pure ⟨sm2, .inr ⟨_, _, _, _, _, rfl, m2, hi, hi2, by omega, by omega, by omega⟩⟩
          · exact wpS_pure ⟨sm2, _, _, _, _, _, rfl, m2, hi, hi2, by omega, by omega, by omega⟩
    case p1 =>
      rintro c st2 ⟨sm2, ⟨res, rest, rfl, me⟩ | ⟨i, j, ou, ac, bc, rfl, m, hi, hi2, hj, hj2, hx3⟩⟩
      · exact wpS_pure ⟨sm2, _, _, rfl, me⟩
      dsimp only
      refine wpS_bind (wpS_lift (wpAny_rule ⟨rfl, ?_⟩))
      refine wpS_bind (wpS_mono (wpS_forRange (I := fun y c st' => SameSt st st' ∧ ∃ i j ou mg ac bc, c = (none, i, j, ou, mg, ac, bc) ∧ MHa xa xb ou i j ∧ 0 < i ∧ i < xa.size ∧ 1 < j ∧ j ≤ xb.size ∧ i + j + x + 2 ≤ xa.size + xb.size)
        (Q := fun c st' => SameSt st st' ∧ ((∃ res rest, c = (some res, rest) ∧ Mer xa.toList xb.toList res.toList) ∨ ∃ i j ou mg ac bc, c = (none, i, j, ou, mg, ac, bc) ∧ MHa xa xb ou i j ∧ 0 < i ∧ i < xa.size ∧ 1 < j ∧ j ≤ xb.size ∧ i + j + x + 2 ≤ xa.size + xb.size)) ?s2 ?f2 ⟨sm2, _, _, _, _, _, _, rfl, m, hi, hi2, hj, hj2, hx3⟩) ?p2)
      case f2 =>
        rintro c st3 ⟨sm3, i, j, ou, mg, ac, bc, rfl, m, hi, hi2, hj, hj2, hx4⟩
        exact ⟨sm3, .inr ⟨_, _, _, _, _, _, rfl, m, hi, hi2, hj, hj2, hx4⟩⟩
      case p2 =>
        rintro c st3 ⟨sm3, ⟨res, rest, rfl, me⟩ | ⟨i, j, ou, mg, ac, bc, rfl, m, hi, hi2, hj, hj2, hx4⟩⟩
        · exact wpS_pure ⟨sm3, _, _, rfl, me⟩
        · dsimp only
          refine wpS_bind (s_setG ?_)
          exact wpS_pure ⟨sm3.setG _, _, _, _, _, rfl, m, hi, hi2, hj, hj2, by omega⟩
      case s2 =>
        rintro y c st3 _ hy ⟨sm3', i, j, ou, mg, ac, bc, rfl, m, hi, hi2, hj, hj2, hx4⟩
        dsimp only
        have sm3 := fun g => sm3'.setG g
        obtain ⟨c1, hc1, cut1⟩ := cut_of hA (xb.toList[j - 1]'(by omega)) false 0 i (by omega)
        obtain ⟨le1, gt1⟩ := ffalse (by omega) hc1 cut1
        have m1 : MHa xa xb (ou ++ (xa.extract c1 i).reverse) c1 j := m.extA hA hc1 (by omega) fun t ht h1 h2 z hz => by
          refine Int.le_trans ?_ (Int.le_of_lt (gt1 t ht h1 h2))
          exact take_le hB (n := j - 1) (by omega) z (by rw [show j - 1 + 1 = j by omega]; exact hz)
        by_cases hmg : mg > 1
        · rw [if_pos hmg]
          refine wpS_bind (s_setG (wpS_bind (s_elemL (i := j - 1) (by omega) ?_)))
          refine wpS_bind (s_gal (c := c1) ((sm3 _).kind.trans hk) hIa (hIb _ (List.getElem_mem _)) (by omega) (by omega) hc1 cut1 ?_)
          dsimp only
          by_cases k0 : i - c1 > 0
          · rw [if_pos k0]
            by_cases e1 : c1 = 0
            · rw [if_pos (by simpa using e1)]
              exact wpS_pure ⟨sm3 _, .inl ⟨_, _, rfl, m1.done0 hA hB (.inl e1)⟩⟩
            · rw [if_neg (by simpa using e1)]
              refine wpS_bind (s_elemL (i := j - 1) (by omega) ?_)
              have M2 : MHa xa xb (Array.push (ou ++ (xa.extract c1 i).reverse) (xb.toList[j - 1]'(by omega))) c1 (j - 1) := MHa.pushB (by rw [show j - 1 + 1 = j by omega]; exact m1) hB (by omega) (fun z hz => le1 z hz)
              by_cases e3 : j - 1 = 1
              · rw [if_pos (by simpa using e3)]
                exact wpS_pure ⟨sm3 _, .inl ⟨_, _, rfl, M2.first hA hB hb e3 h0⟩⟩
              · rw [if_neg (by simpa using e3)]
                refine wpS_bind (s_elemL (i := c1 - 1) (by omega) ?_)
                obtain ⟨c2, hc2, cut2⟩ := cut_of hB (xa.toList[c1 - 1]'(by omega)) true 0 (j - 1) (by omega)
                obtain ⟨lt2, ge2⟩ := ftrue (by omega) hc2 cut2
                refine wpS_bind (s_gal (c := c2) ((sm3 _).kind.trans hk) hIb (hIa _ (List.getElem_mem _)) (by omega) (by omega) hc2 cut2 ?_)
                dsimp only
                by_cases k1 : j - 1 - c2 > 0
                · rw [if_pos k1]
                  have M3 : MHa xa xb (Array.push (ou ++ (xa.extract c1 i).reverse) (xb.toList[j - 1]'(by omega)) ++ (xb.extract c2 (j - 1)).reverse) c1 c2 := M2.extB hB hc2 (by omega) fun t ht h1 h2 z hz => by
                    refine Int.le_trans ?_ (ge2 t ht h1 h2)
                    exact take_le hA (n := c1 - 1) (by omega) z (by rw [show c1 - 1 + 1 = c1 by omega]; exact hz)
                  by_cases e4 : c2 = 1
                  · rw [if_pos (by simpa using e4)]
                    exact wpS_pure ⟨sm3 _, .inl ⟨_, _, rfl, M3.first hA hB hb e4 h0⟩⟩
                  · rw [if_neg (by simpa using e4)]
                    by_cases e6 : c2 = 0
                    · rw [if_pos (by simpa using e6)]
                      exact wpS_pure ⟨sm3 _, .inl ⟨_, _, rfl, M3.done0 hA hB (.inr e6)⟩⟩
                    · rw [if_neg (by simpa using e6)]
                      refine wpS_bind (s_elemL (i := c1 - 1) (by omega) ?_)
                      have M4 : MHa xa xb (Array.push (Array.push (ou ++ (xa.extract c1 i).reverse) (xb.toList[j - 1]'(by omega)) ++ (xb.extract c2 (j - 1)).reverse) (xa.toList[c1 - 1]'(by omega))) (c1 - 1) c2 := MHa.pushA (by rw [show c1 - 1 + 1 = c1 by omega]; exact M3) hA (by omega) (fun z hz => Int.le_of_lt (lt2 z hz))
                      by_cases e5 : c1 - 1 = 0
                      · rw [if_pos (by simpa using e5)]
                        exact wpS_pure ⟨sm3 _, .inl ⟨_, _, rfl, M4.done0 hA hB (.inl e5)⟩⟩
                      · rw [if_neg (by simpa using e5)]
                        split
                        · exact wpS_pure ⟨sm3 _, .inr ⟨_, _, _, _, _, _, rfl, M4, by omega, by omega, by omega, by omega, by omega⟩⟩
                        · exact wpS_pure ⟨sm3 _, _, _, _, _, _, _, rfl, M4, by omega, by omega, by omega, by omega, by omega⟩
                · rw [if_neg k1]
                  have c20 : c2 = j - 1 := by omega
                  refine wpS_bind (s_elemL (i := c1 - 1) (by omega) ?_)
                  have M4 : MHa xa xb (Array.push (Array.push (ou ++ (xa.extract c1 i).reverse) (xb.toList[j - 1]'(by omega))) (xa.toList[c1 - 1]'(by omega))) (c1 - 1) (j - 1) := MHa.pushA (by rw [show c1 - 1 + 1 = c1 by omega]; exact M2) hA (by omega) (fun z hz => Int.le_of_lt (lt2 z (by rw [c20]; exact hz)))
                  by_cases e5 : c1 - 1 = 0
                  · rw [if_pos (by simpa using e5)]
                    exact wpS_pure ⟨sm3 _, .inl ⟨_, _, rfl, M4.done0 hA hB (.inl e5)⟩⟩
                  · rw [if_neg (by simpa using e5)]
                    split
                    · exact wpS_pure ⟨sm3 _, .inr ⟨_, _, _, _, _, _, rfl, M4, by omega, by omega, by omega, by omega, by omega⟩⟩
                    · exact wpS_pure ⟨sm3 _, _, _, _, _, _, _, rfl, M4, by omega, by omega, by omega, by omega, by omega⟩
          · rw [if_neg k0]
            have c10 : c1 = i := by omega
            refine wpS_bind (s_elemL (i := j - 1) (by omega) ?_)
            have M2 : MHa xa xb (Array.push ou (xb.toList[j - 1]'(by omega))) i (j - 1) := MHa.pushB (by rw [show j - 1 + 1 = j by omega]; exact m) hB (by omega) (fun z hz => le1 z (by rw [c10]; exact hz))
            by_cases e3 : j - 1 = 1
            · rw [if_pos (by simpa using e3)]
              exact wpS_pure ⟨sm3 _, .inl ⟨_, _, rfl, M2.first hA hB hb e3 h0⟩⟩
            · rw [if_neg (by simpa using e3)]
              refine wpS_bind (s_elemL (i := i - 1) (by omega) ?_)
              obtain ⟨c2, hc2, cut2⟩ := cut_of hB (xa.toList[i - 1]'(by omega)) true 0 (j - 1) (by omega)
              obtain ⟨lt2, ge2⟩ := ftrue (by omega) hc2 cut2
              refine wpS_bind (s_gal (c := c2) ((sm3 _).kind.trans hk) hIb (hIa _ (List.getElem_mem _)) (by omega) (by omega) hc2 cut2 ?_)
              dsimp only
              by_cases k1 : j - 1 - c2 > 0
              · rw [if_pos k1]
                have M3 : MHa xa xb (Array.push ou (xb.toList[j - 1]'(by omega)) ++ (xb.extract c2 (j - 1)).reverse) i c2 := M2.extB hB hc2 (by omega) fun t ht h1 h2 z hz => by
                  refine Int.le_trans ?_ (ge2 t ht h1 h2)
                  exact take_le hA (n := i - 1) (by omega) z (by rw [show i - 1 + 1 = i by omega]; exact hz)
                by_cases e4 : c2 = 1
                · rw [if_pos (by simpa using e4)]
                  exact wpS_pure ⟨sm3 _, .inl ⟨_, _, rfl, M3.first hA hB hb e4 h0⟩⟩
                · rw [if_neg (by simpa using e4)]
                  by_cases e6 : c2 = 0
                  · rw [if_pos (by simpa using e6)]
                    exact wpS_pure ⟨sm3 _, .inl ⟨_, _, rfl, M3.done0 hA hB (.inr e6)⟩⟩
                  · rw [if_neg (by simpa using e6)]
                    refine wpS_bind (s_elemL (i := i - 1) (by omega) ?_)
                    have M4 : MHa xa xb (Array.push (Array.push ou (xb.toList[j - 1]'(by omega)) ++ (xb.extract c2 (j - 1)).reverse) (xa.toList[i - 1]'(by omega))) (i - 1) c2 := MHa.pushA (by rw [show i - 1 + 1 = i by omega]; exact M3) hA (by omega) (fun z hz => Int.le_of_lt (lt2 z hz))
                    by_cases e5 : i - 1 = 0
                    · rw [if_pos (by simpa using e5)]
                      exact wpS_pure ⟨sm3 _, .inl ⟨_, _, rfl, M4.done0 hA hB (.inl e5)⟩⟩
                    · rw [if_neg (by simpa using e5)]
                      split
                      · exact wpS_pure ⟨sm3 _, .inr ⟨_, _, _, _, _, _, rfl, M4, by omega, by omega, by omega, by omega, by omega⟩⟩
                      · exact wpS_pure ⟨sm3 _, _, _, _, _, _, _, rfl, M4, by omega, by omega, by omega, by omega, by omega⟩
              · rw [if_neg k1]
                have c20 : c2 = j - 1 := by omega
                refine wpS_bind (s_elemL (i := i - 1) (by omega) ?_)
                have M4 : MHa xa xb (Array.push (Array.push ou (xb.toList[j - 1]'(by omega))) (xa.toList[i - 1]'(by omega))) (i - 1) (j - 1) := MHa.pushA (by rw [show i - 1 + 1 = i by omega]; exact M2) hA (by omega) (fun z hz => Int.le_of_lt (lt2 z (by rw [c20]; exact hz)))
                by_cases e5 : i - 1 = 0
                · rw [if_pos (by simpa using e5)]
                  exact wpS_pure ⟨sm3 _, .inl ⟨_, _, rfl, M4.done0 hA hB (.inl e5)⟩⟩
                · rw [if_neg (by simpa using e5)]
                  split
                  · exact wpS_pure ⟨sm3 _, .inr ⟨_, _, _, _, _, _, rfl, M4, by omega, by omega, by omega, by omega, by omega⟩⟩
                  · exact wpS_pure ⟨sm3 _, _, _, _, _, _, _, rfl, M4, by omega, by omega, by omega, by omega, by omega⟩
        · rw [if_neg hmg]
          refine wpS_bind (s_setG (wpS_bind (s_elemL (i := j - 1) (by omega) ?_)))
          refine wpS_bind (s_gal (c := c1) ((sm3 _).kind.trans hk) hIa (hIb _ (List.getElem_mem _)) (by omega) (by omega) hc1 cut1 ?_)
          dsimp only
          by_cases k0 : i - c1 > 0
          · rw [if_pos k0]
            by_cases e1 : c1 = 0
            · rw [if_pos (by simpa using e1)]
              exact wpS_pure ⟨sm3 _, .inl ⟨_, _, rfl, m1.done0 hA hB (.inl e1)⟩⟩
            · rw [if_neg (by simpa using e1)]
              refine wpS_bind (s_elemL (i := j - 1) (by omega) ?_)
              have M2 : MHa xa xb (Array.push (ou ++ (xa.extract c1 i).reverse) (xb.toList[j - 1]'(by omega))) c1 (j - 1) := MHa.pushB (by rw [show j - 1 + 1 = j by omega]; exact m1) hB (by omega) (fun z hz => le1 z hz)
              by_cases e3 : j - 1 = 1
              · rw [if_pos (by simpa using e3)]
                exact wpS_pure ⟨sm3 _, .inl ⟨_, _, rfl, M2.first hA hB hb e3 h0⟩⟩
              · rw [if_neg (by simpa using e3)]
                refine wpS_bind (s_elemL (i := c1 - 1) (by omega) ?_)
                obtain ⟨c2, hc2, cut2⟩ := cut_of hB (xa.toList[c1 - 1]'(by omega)) true 0 (j - 1) (by omega)
                obtain ⟨lt2, ge2⟩ := ftrue (by omega) hc2 cut2
                refine wpS_bind (s_gal (c := c2) ((sm3 _).kind.trans hk) hIb (hIa _ (List.getElem_mem _)) (by omega) (by omega) hc2 cut2 ?_)
                dsimp only
                by_cases k1 : j - 1 - c2 > 0
                · rw [if_pos k1]
                  have M3 : MHa xa xb (Array.push (ou ++ (xa.extract c1 i).reverse) (xb.toList[j - 1]'(by omega)) ++ (xb.extract c2 (j - 1)).reverse) c1 c2 := M2.extB hB hc2 (by omega) fun t ht h1 h2 z hz => by
                    refine Int.le_trans ?_ (ge2 t ht h1 h2)
                    exact take_le hA (n := c1 - 1) (by omega) z (by rw [show c1 - 1 + 1 = c1 by omega]; exact hz)
                  by_cases e4 : c2 = 1
                  · rw [if_pos (by simpa using e4)]
                    exact wpS_pure ⟨sm3 _, .inl ⟨_, _, rfl, M3.first hA hB hb e4 h0⟩⟩
                  · rw [if_neg (by simpa using e4)]
                    by_cases e6 : c2 = 0
                    · rw [if_pos (by simpa using e6)]
                      exact wpS_pure ⟨sm3 _, .inl ⟨_, _, rfl, M3.done0 hA hB (.inr e6)⟩⟩
                    · rw [if_neg (by simpa using e6)]
                      refine wpS_bind (s_elemL (i := c1 - 1) (by omega) ?_)
                      have M4 : MHa xa xb (Array.push (Array.push (ou ++ (xa.extract c1 i).reverse) (xb.toList[j - 1]'(by omega)) ++ (xb.extract c2 (j - 1)).reverse) (xa.toList[c1 - 1]'(by omega))) (c1 - 1) c2 := MHa.pushA (by rw [show c1 - 1 + 1 = c1 by omega]; exact M3) hA (by omega) (fun z hz => Int.le_of_lt (lt2 z hz))
                      by_cases e5 : c1 - 1 = 0
                      · rw [if_pos (by simpa using e5)]
                        exact wpS_pure ⟨sm3 _, .inl ⟨_, _, rfl, M4.done0 hA hB (.inl e5)⟩⟩
                      · rw [if_neg (by simpa using e5)]
                        split
                        · exact wpS_pure ⟨sm3 _, .inr ⟨_, _, _, _, _, _, rfl, M4, by omega, by omega, by omega, by omega, by omega⟩⟩
                        · exact wpS_pure ⟨sm3 _, _, _, _, _, _, _, rfl, M4, by omega, by omega, by omega, by omega, by omega⟩
                · rw [if_neg k1]
                  have c20 : c2 = j - 1 := by omega
                  refine wpS_bind (s_elemL (i := c1 - 1) (by omega) ?_)
                  have M4 : MHa xa xb (Array.push (Array.push (ou ++ (xa.extract c1 i).reverse) (xb.toList[j - 1]'(by omega))) (xa.toList[c1 - 1]'(by omega))) (c1 - 1) (j - 1) := MHa.pushA (by rw [show c1 - 1 + 1 = c1 by omega]; exact M2) hA (by omega) (fun z hz => Int.le_of_lt (lt2 z (by rw [c20]; exact hz)))
                  by_cases e5 : c1 - 1 = 0
                  · rw [if_pos (by simpa using e5)]
                    exact wpS_pure ⟨sm3 _, .inl ⟨_, _, rfl, M4.done0 hA hB (.inl e5)⟩⟩
                  · rw [if_neg (by simpa using e5)]
                    split
                    · exact wpS_pure ⟨sm3 _, .inr ⟨_, _, _, _, _, _, rfl, M4, by omega, by omega, by omega, by omega, by omega⟩⟩
                    · exact wpS_pure ⟨sm3 _, _, _, _, _, _, _, rfl, M4, by omega, by omega, by omega, by omega, by omega⟩
          · rw [if_neg k0]
            have c10 : c1 = i := by omega
            refine wpS_bind (s_elemL (i := j - 1) (by omega) ?_)
            have M2 : MHa xa xb (Array.push ou (xb.toList[j - 1]'(by omega))) i (j - 1) := MHa.pushB (by rw [show j - 1 + 1 = j by omega]; exact m) hB (by omega) (fun z hz => le1 z (by rw [c10]; exact hz))
            by_cases e3 : j - 1 = 1
            · rw [if_pos (by simpa using e3)]
              exact wpS_pure ⟨sm3 _, .inl ⟨_, _, rfl, M2.first hA hB hb e3 h0⟩⟩
            · rw [if_neg (by simpa using e3)]
              refine wpS_bind (s_elemL (i := i - 1) (by omega) ?_)
              obtain ⟨c2, hc2, cut2⟩ := cut_of hB (xa.toList[i - 1]'(by omega)) true 0 (j - 1) (by omega)
              obtain ⟨lt2, ge2⟩ := ftrue (by omega) hc2 cut2
              refine wpS_bind (s_gal (c := c2) ((sm3 _).kind.trans hk) hIb (hIa _ (List.getElem_mem _)) (by omega) (by omega) hc2 cut2 ?_)
              dsimp only
              by_cases k1 : j - 1 - c2 > 0
              · rw [if_pos k1]
                have M3 : MHa xa xb (Array.push ou (xb.toList[j - 1]'(by omega)) ++ (xb.extract c2 (j - 1)).reverse) i c2 := M2.extB hB hc2 (by omega) fun t ht h1 h2 z hz => by
                  refine Int.le_trans ?_ (ge2 t ht h1 h2)
                  exact take_le hA (n := i - 1) (by omega) z (by rw [show i - 1 + 1 = i by omega]; exact hz)
                by_cases e4 : c2 = 1
                · rw [if_pos (by simpa using e4)]
                  exact wpS_pure ⟨sm3 _, .inl ⟨_, _, rfl, M3.first hA hB hb e4 h0⟩⟩
                · rw [if_neg (by simpa using e4)]
                  by_cases e6 : c2 = 0
                  · rw [if_pos (by simpa using e6)]
                    exact wpS_pure ⟨sm3 _, .inl ⟨_, _, rfl, M3.done0 hA hB (.inr e6)⟩⟩
                  · rw [if_neg (by simpa using e6)]
                    refine wpS_bind (s_elemL (i := i - 1) (by omega) ?_)
                    have M4 : MHa xa xb (Array.push (Array.push ou (xb.toList[j - 1]'(by omega)) ++ (xb.extract c2 (j - 1)).reverse) (xa.toList[i - 1]'(by omega))) (i - 1) c2 := MHa.pushA (by rw [show i - 1 + 1 = i by omega]; exact M3) hA (by omega) (fun z hz => Int.le_of_lt (lt2 z hz))
                    by_cases e5 : i - 1 = 0
                    · rw [if_pos (by simpa using e5)]
                      exact wpS_pure ⟨sm3 _, .inl ⟨_, _, rfl, M4.done0 hA hB (.inl e5)⟩⟩
                    · rw [if_neg (by simpa using e5)]
                      split
                      · exact wpS_pure ⟨sm3 _, .inr ⟨_, _, _, _, _, _, rfl, M4, by omega, by omega, by omega, by omega, by omega⟩⟩
                      · exact wpS_pure ⟨sm3 _, _, _, _, _, _, _, rfl, M4, by omega, by omega, by omega, by omega, by omega⟩
              · rw [if_neg k1]
                have c20 : c2 = j - 1 := by omega
                refine wpS_bind (s_elemL (i := i - 1) (by omega) ?_)
                have M4 : MHa xa xb (Array.push (Array.push ou (xb.toList[j - 1]'(by omega))) (xa.toList[i - 1]'(by omega))) (i - 1) (j - 1) := MHa.pushA (by rw [show i - 1 + 1 = i by omega]; exact M2) hA (by omega) (fun z hz => Int.le_of_lt (lt2 z (by rw [c20]; exact hz)))
                by_cases e5 : i - 1 = 0
                · rw [if_pos (by simpa using e5)]
                  exact wpS_pure ⟨sm3 _, .inl ⟨_, _, rfl, M4.done0 hA hB (.inl e5)⟩⟩
                · rw [if_neg (by simpa using e5)]
                  split
                  · exact wpS_pure ⟨sm3 _, .inr ⟨_, _, _, _, _, _, rfl, M4, by omega, by omega, by omega, by omega, by omega⟩⟩
                  · exact wpS_pure ⟨sm3 _, _, _, _, _, _, _, rfl, M4, by omega, by omega, by omega, by omega, by omega⟩
end
end SRV
set_option Elab.async false
set_option linter.all false
set_option maxRecDepth 100000
set_option maxHeartbeats 4000000
namespace SRV
open PySem
open PyProof.Rows hiding K SortedTo K_bubble K_mirror K_congr K_mirror_equal
variable [KV]
noncomputable def PM : List (Nat × Nat × Nat) → List (List Keyed) → Nat → Prop
  | [], [], _ => True
  | p :: r, l :: ls, lo => p.1 = lo ∧ p.2.1 = l.length ∧ PM r ls (lo + l.length)
  | _, _, _ => False
theorem PM.len : ∀ {ps : List (Nat × Nat × Nat)} {ls : List (List Keyed)} {lo : Nat}, PM ps ls lo → ps.length = ls.length
  | [], [], _, _ => rfl
  | _ :: r, _ :: ls, lo, h => by rw [List.length_cons, List.length_cons, PM.len h.2.2]
  | [], _ :: _, _, h => h.elim
  | _ :: _, [], _, h => h.elim
theorem PM.at : ∀ {ps : List (Nat × Nat × Nat)} {a : List (List Keyed)} {l : List Keyed} {b : List (List Keyed)} {lo : Nat}, PM ps (a ++ l :: b) lo → ∃ pw, ps[a.length]? = some (lo + a.flatten.length, l.length, pw)
  | (s, n, p) :: r, [], l, b, lo, h => ⟨p, by have h1 := h.1; have h2 := h.2.1; simp only at h1 h2; subst h1 h2; rfl⟩
  | p :: r, x :: a, l, b, lo, h => by
    obtain ⟨pw, e⟩ := PM.at (a := a) h.2.2
    refine ⟨pw, ?_⟩
    rw [List.length_cons, List.getElem?_cons_succ, e, List.flatten_cons, List.length_append, Nat.add_assoc]
  | [], [], _, _, _, h => h.elim
  | [], _ :: _, _, _, _, h => h.elim
theorem PM.merge : ∀ {ps : List (Nat × Nat × Nat)} {a : List (List Keyed)} {l m : List Keyed} {b : List (List Keyed)} {lo : Nat} {x : List Keyed} {pw : Nat}, PM ps (a ++ l :: m :: b) lo → x.length = l.length + m.length →
    PM ((ps.set a.length (lo + a.flatten.length, l.length + m.length, pw)).eraseIdx (a.length + 1)) (a ++ x :: b) lo
  | p :: q :: r, [], l, m, b, lo, x, pw, h, hx => by
    obtain ⟨h1, h2, h3, h4, h5⟩ := h
    show PM ((lo + 0, l.length + m.length, pw) :: r) (x :: b) lo
    refine ⟨rfl, hx.symm, ?_⟩
    rw [hx, ← Nat.add_assoc]
    exact h5
  | p :: r, y :: a, l, m, b, lo, x, pw, h, hx => by
    obtain ⟨h1, h2, h3⟩ := h
    have ih := PM.merge (pw := pw) h3 hx
    show PM (p :: ((r.set a.length _).eraseIdx (a.length + 1))) (y :: (a ++ x :: b)) lo
    refine ⟨h1, h2, ?_⟩
    rw [List.flatten_cons, List.length_append, ← Nat.add_assoc]
    exact ih
  | [], [], _, _, _, _, _, _, h, _ => h.elim
  | [_], [], _, _, _, _, _, _, h, _ => h.2.2.elim
  | [], _ :: _, _, _, _, _, _, _, h, _ => h.elim
theorem seg_at {xs : Array Keyed} {pre R post : List Keyed} (e : xs.toList = pre ++ R ++ post) {t : Nat} (ht : t < R.length) : xs[pre.length + t]? = some R[t] := by
  rw [← Array.getElem?_toList, e, List.append_assoc, List.getElem?_append_right (by omega), Nat.add_sub_cancel_left, List.getElem?_append_left ht, List.getElem?_eq_getElem ht]
theorem cut_seg {xs : Array Keyed} {R : List Keyed} (hs : R.Pairwise Le) (ky : Keyed) (lf : Bool) (bs : Nat) (hK : ∀ t (h : t < R.length), K xs (bs + t) = kv R[t]) : ∃ c, c ≤ R.length ∧ ∀ i, i < R.length → Byd lf ky xs bs i = decide (i < c) := by
  have down : ∀ i j, i ≤ j → j < R.length → Byd lf ky xs bs j = true → Byd lf ky xs bs i = true := fun i j hij hj h => by
    have hm : kv (R[i]'(by omega)) ≤ kv R[j] := by
      by_cases e : i = j
      · subst e; exact Int.le_refl _
      · exact List.pairwise_iff_getElem.mp hs _ _ _ _ (by omega)
    unfold Byd at h ⊢
    rw [hK j hj] at h
    rw [hK i (by omega)]
    cases lf with
    | true => simp only [if_true, decide_eq_true_eq] at h ⊢; omega
    | false => simp only [Bool.false_eq_true, if_false, Bool.not_eq_true', decide_eq_false_iff_not] at h ⊢; omega
  have main : ∀ n, n ≤ R.length → ∃ c, c ≤ n ∧ ∀ i, i < n → Byd lf ky xs bs i = decide (i < c) := by
    intro n
    induction n with
    | zero => exact fun _ => ⟨0, Nat.le_refl _, fun i hi => absurd hi (Nat.not_lt_zero _)⟩
    | succ n ih =>
      intro hn
      obtain ⟨c, hc, hd⟩ := ih (by omega)
      by_cases hb : Byd lf ky xs bs n = true
      · refine ⟨n + 1, Nat.le_refl _, fun i hi => ?_⟩
        rw [decide_eq_true hi]
        exact down i n (by omega) (by omega) hb
      · refine ⟨c, by omega, fun i hi => ?_⟩
        by_cases h : i = n
        · subst h
          rw [decide_eq_false (by omega)]
          exact Bool.not_eq_true _ ▸ (by simpa using hb)
        · exact hd i (by omega)
  exact main _ (Nat.le_refl _)
theorem write_back : ∀ (l : List Keyed) (k off : Nat) (xs : Array Keyed), off + k + l.length ≤ xs.size → ((l.zipIdx k).foldl (fun a (x : Keyed × Nat) => a.setIfInBounds (off + x.2) x.1) xs).toList = xs.toList.take (off + k) ++ l ++ xs.toList.drop (off + k + l.length)
  | [], k, off, xs, _ => by simp
  | p :: l, k, off, xs, h => by
    rw [List.zipIdx_cons, List.foldl_cons]
    rw [List.length_cons] at h
    rw [write_back l (k + 1) off _ (by rw [Array.size_setIfInBounds]; omega)]
    rw [Array.toList_setIfInBounds]
    have hlen : off + k < xs.toList.length := by rw [Array.length_toList]; omega
    rw [List.drop_set_of_lt (by omega), List.length_cons]
    have e1 : (xs.toList.set (off + k) p).take (off + (k + 1)) = xs.toList.take (off + k) ++ [p] := by
      rw [← Nat.add_assoc, List.take_succ, List.take_set_of_le (by omega), List.getElem?_set_self hlen]
      rfl
    have e2 : off + (k + 1) + l.length = off + k + (l.length + 1) := by omega
    rw [e1, e2]
    simp
theorem pw3 {a b c : List Keyed} (ha : a.Pairwise Le) (hb : b.Pairwise Le) (hc : c.Pairwise Le) (hab : ∀ x ∈ a, ∀ y ∈ b, kv x ≤ kv y) (hac : ∀ x ∈ a, ∀ y ∈ c, kv x ≤ kv y) (hbc : ∀ x ∈ b, ∀ y ∈ c, kv x ≤ kv y) : (a ++ b ++ c).Pairwise Le := by
  refine List.pairwise_append.mpr ⟨List.pairwise_append.mpr ⟨ha, hb, hab⟩, hc, fun x hx y hy => ?_⟩
  rcases List.mem_append.mp hx with hx | hx
  · exact hac x hx y hy
  · exact hbc x hx y hy
noncomputable def mat : Nat → StateT SortSt Sem Bool := sortPriv% PySem.Builtin.mergeAt
theorem mat_is : mergeAt' = mat := rfl
theorem mat_eq (i : Nat) : mat i = (do
  let z ← get
  let (some (p, n, pw), some (q, m, _)) := ((pendingOf z)[i]?, (pendingOf z)[i + 1]?) | unsupported "internal:list.sort.pending"
  set (setPending z (((pendingOf z).setIfInBounds i (p, n + m, pw)).eraseIdxIfInBounds (i + 1)))
  let some k ← gal false (← elem' (arrOf z) q) (arrOf z) p n 0 | return false
  let (p, n) := (p + k, n - k)
  if n == 0 then return true
  let some m ← gal true (← elem' (arrOf z) (p + n - 1)) (arrOf z) q m (m - 1) | return false
  if m == 0 then return true
  let x := (arrOf z).extract p q
  let y := (arrOf z).extract q (q + m)
  let mg ← if n ≤ m then mlo x y else mhi x y
  modify fun v => setArr v (mg.toList.zipIdx.foldl (fun a (u, j) => a.setIfInBounds (p + j) u) (arrOf v))
  return (failedOf (← get)).isNone) := rfl
end SRV
set_option Elab.async false
set_option linter.all false
set_option maxRecDepth 100000
set_option maxHeartbeats 4000000
namespace SRV
open PySem
open PyProof.Rows hiding K SortedTo K_bubble K_mirror K_congr K_mirror_equal
variable [KV]
theorem s_set {prog : Program} {w : World} {A : Around} {E : Value → Shared → Prop} {st v : SortSt} {Q : PUnit → SortSt → Prop} (h : Q ⟨⟩ v) : wpS (model prog w) A E KV.sh (set v : StateT SortSt Sem PUnit) Q st := by
  unfold wpS
  rw [StateT.run_set]
  exact wpAny_pure ⟨rfl, h⟩
theorem drop_pre : ∀ (p z : List Keyed) (c : Nat), (p ++ z).drop (p.length + c) = z.drop c
  | [], z, c => by simp
  | x :: p, z, c => by
    rw [List.length_cons, show p.length + 1 + c = p.length + c + 1 by omega, List.cons_append, List.drop_succ_cons]
    exact drop_pre p z c
theorem ext_seg {xs : Array Keyed} {pre R post : List Keyed} (e : xs.toList = pre ++ R ++ post) (c d : Nat) (hd : d ≤ R.length) (hc : c ≤ d) : (xs.extract (pre.length + c) (pre.length + d)).toList = (R.drop c).take (d - c) := by
  rw [Array.toList_extract, List.extract_eq_drop_take, e, List.append_assoc, drop_pre]
  have : (R ++ post).drop c = R.drop c ++ post := List.drop_append_of_le_length (by omega)
  rw [this, show pre.length + d - (pre.length + c) = d - c by omega, List.take_append_of_le_length (by rw [List.length_drop]; omega)]
theorem AllI.sub {xs ys : Array Keyed} (h : AllI xs) (hs : ∀ p ∈ ys.toList, p ∈ xs.toList) : AllI ys := fun p hp => h p (hs p hp)
section
variable {prog : Program} {w : World} {A : Around} {E : Value → Shared → Prop}
structure Kept (a b : SortSt) : Prop where
  kind : kindOf b = kindOf a
  fail : failedOf b = failedOf a
theorem s_mat {st : SortSt} {L1 L2 : List (List Keyed)} {R1 R2 rest : List Keyed} {Q : Bool → SortSt → Prop} (hk : kindOf st = KV.kind) (hf : failedOf st = none) (hI : AllI (arrOf st))
    (ha : (arrOf st).toList = (L1 ++ R1 :: R2 :: L2).flatten ++ rest) (pm : PM (pendingOf st).toList (L1 ++ R1 :: R2 :: L2) 0) (n1 : R1 ≠ []) (n2 : R2 ≠ []) (s1 : R1.Pairwise Le) (s2 : R2.Pairwise Le)
    (h : ∀ st' R, Kept st st' → R.Perm (R1 ++ R2) → R.Pairwise Le → (arrOf st').toList = (L1 ++ R :: L2).flatten ++ rest → PM (pendingOf st').toList (L1 ++ R :: L2) 0 → Q true st') : wpS (model prog w) A E KV.sh (mat L1.length) Q st := by
  have p1 : 0 < R1.length := List.length_pos_iff.mpr n1
  have p2 : 0 < R2.length := List.length_pos_iff.mpr n2
  obtain ⟨pw, e1⟩ := pm.at
  have e2' := (show PM (pendingOf st).toList ((L1 ++ [R1]) ++ R2 :: L2) 0 by rw [List.append_assoc]; exact pm).at
  obtain ⟨pw2, e2⟩ := e2'
  rw [List.length_append, List.length_singleton, List.flatten_append, List.flatten_cons, List.flatten_nil, List.append_nil, List.length_append] at e2
  rw [Array.getElem?_toList] at e1 e2
  have ea : (arrOf st).toList = L1.flatten ++ R1 ++ (R2 ++ L2.flatten ++ rest) := by rw [ha]; simp
  have eb : (arrOf st).toList = (L1.flatten ++ R1) ++ R2 ++ (L2.flatten ++ rest) := by rw [ha]; simp
  have hsz : (arrOf st).size = L1.flatten.length + R1.length + R2.length + L2.flatten.length + rest.length := by
    rw [← Array.length_toList, ha]
    simp only [List.flatten_append, List.flatten_cons, List.length_append]
    omega
  have pmR : ∀ R : List Keyed, R.length = R1.length + R2.length → PM (((pendingOf st).setIfInBounds L1.length (0 + L1.flatten.length, R1.length + R2.length, pw)).eraseIdxIfInBounds (L1.length + 1)).toList (L1 ++ R :: L2) 0 := fun R hR => by
    have := PM.merge (pw := pw) pm hR
    rw [Array.toList_eraseIdxIfInBounds, Array.toList_setIfInBounds]
    exact this
  have join : (L1 ++ (R1 ++ R2) :: L2).flatten ++ rest = (arrOf st).toList := by rw [ha]; simp
  rw [mat_eq]
  refine wpS_bind (wpS_get ?_)
  rw [e1, e2]
  dsimp only
  refine wpS_bind (s_set ?_)
  have g2 : (arrOf st)[0 + (L1.flatten.length + R1.length)]? = some R2[0] := by
    have := seg_at eb p2
    rw [List.length_append, Nat.add_zero] at this
    rw [Nat.zero_add]; exact this
  refine wpS_bind (s_elem g2 ?_)
  have hK1 : ∀ t (ht : t < R1.length), K (arrOf st) (0 + L1.flatten.length + t) = kv R1[t] := fun t ht => by
    rw [Nat.zero_add]; exact K_of (seg_at ea ht)
  have hK2 : ∀ t (ht : t < R2.length), K (arrOf st) (0 + (L1.flatten.length + R1.length) + t) = kv R2[t] := fun t ht => by
    have := K_of (seg_at eb ht)
    rw [List.length_append] at this
    rw [Nat.zero_add]; exact this
  have hI2 : IsI R2[0] := hI _ (by rw [eb]; exact List.mem_append_left _ (List.mem_append_right _ (List.getElem_mem _)))
  obtain ⟨c, hc, cut⟩ := cut_seg s1 R2[0] false (0 + L1.flatten.length) hK1
  have lo : ∀ t (ht : t < R1.length), t < c → kv R1[t] ≤ kv R2[0] := fun t ht htc => by
    have := cut t ht
    unfold Byd at this
    rw [hK1 t ht, decide_eq_true htc] at this
    simp only [Bool.false_eq_true, if_false, Bool.not_eq_true', decide_eq_false_iff_not] at this
    omega
  have up : ∀ t (ht : t < R1.length), c ≤ t → kv R2[0] < kv R1[t] := fun t ht htc => by
    have := cut t ht
    unfold Byd at this
    rw [hK1 t ht, decide_eq_false (show ¬ t < c by omega)] at this
    simpa using this
  refine wpS_bind (s_gal (st := setPending st _) (c := c) hk hI hI2 (by omega) p1 hc cut ?_)
  dsimp only
  have b0 : ∀ y ∈ R2, kv R2[0] ≤ kv y := fun y hy => head_le s2 p2 y (by simpa using hy)
  by_cases c1 : R1.length - c = 0
  · rw [if_pos (by simpa using c1)]
    refine wpS_pure (h _ (R1 ++ R2) ⟨rfl, rfl⟩ (List.Perm.refl _) ?_ join.symm (pmR _ (by rw [List.length_append])))
    refine List.pairwise_append.mpr ⟨s1, s2, fun x hx y hy => ?_⟩
    obtain ⟨t, ht, rfl⟩ := List.mem_iff_getElem.mp hx
    exact Int.le_trans (lo t ht (by omega)) (b0 y hy)
  rw [if_neg (by simpa using c1)]
  have gl : (arrOf st)[0 + L1.flatten.length + c + (R1.length - c) - 1]? = some (R1[R1.length - 1]'(by omega)) := by
    have := seg_at ea (t := R1.length - 1) (by omega)
    rw [show 0 + L1.flatten.length + c + (R1.length - c) - 1 = L1.flatten.length + (R1.length - 1) by omega]; exact this
  refine wpS_bind (s_elem gl ?_)
  have hI1 : IsI (R1[R1.length - 1]'(by omega)) := hI _ (by rw [ea]; exact List.mem_append_left _ (List.mem_append_right _ (List.getElem_mem _)))
  obtain ⟨d, hd, cut2⟩ := cut_seg s2 (R1[R1.length - 1]'(by omega)) true (0 + (L1.flatten.length + R1.length)) hK2
  have lo2 : ∀ t (ht : t < R2.length), t < d → kv R2[t] < kv (R1[R1.length - 1]'(by omega)) := fun t ht htc => by
    have := cut2 t ht
    unfold Byd at this
    rw [hK2 t ht, decide_eq_true htc] at this
    simpa using this
  have up2 : ∀ t (ht : t < R2.length), d ≤ t → kv (R1[R1.length - 1]'(by omega)) ≤ kv R2[t] := fun t ht htc => by
    have := cut2 t ht
    unfold Byd at this
    rw [hK2 t ht, decide_eq_false (show ¬ t < d by omega)] at this
    simpa using this
  refine wpS_bind (s_gal (st := setPending st _) (c := d) hk hI hI1 (by omega) (by omega) hd cut2 ?_)
  dsimp only
  have lastA : ∀ x ∈ R1, kv x ≤ kv (R1[R1.length - 1]'(by omega)) := fun x hx => by
    refine take_le s1 (n := R1.length - 1) (by omega) x ?_
    rw [List.take_of_length_le (by omega)]; exact hx
  by_cases c2 : d = 0
  · rw [if_pos (by simpa using c2)]
    refine wpS_pure (h _ (R1 ++ R2) ⟨rfl, rfl⟩ (List.Perm.refl _) ?_ join.symm (pmR _ (by rw [List.length_append])))
    refine List.pairwise_append.mpr ⟨s1, s2, fun x hx y hy => ?_⟩
    exact Int.le_trans (lastA x hx) (Int.le_trans (up2 0 p2 (by omega)) (b0 y hy))
  rw [if_neg (by simpa using c2)]
  have ex : ((arrOf st).extract (0 + L1.flatten.length + c) (0 + (L1.flatten.length + R1.length))).toList = R1.drop c := by
    have := ext_seg ea c R1.length (Nat.le_refl _) hc
    rw [Nat.zero_add, Nat.zero_add, this, List.take_of_length_le (by rw [List.length_drop]; exact Nat.le_refl _)]
  have ey : ((arrOf st).extract (0 + (L1.flatten.length + R1.length)) (0 + (L1.flatten.length + R1.length) + d)).toList = R2.take d := by
    have := ext_seg eb 0 d hd (Nat.zero_le _)
    rw [List.length_append, Nat.add_zero, List.drop_zero, Nat.sub_zero] at this
    rw [Nat.zero_add]; exact this
  generalize hx : (arrOf st).extract (0 + L1.flatten.length + c) (0 + (L1.flatten.length + R1.length)) = xx at ex ⊢
  generalize hy : (arrOf st).extract (0 + (L1.flatten.length + R1.length)) (0 + (L1.flatten.length + R1.length) + d) = yy at ey ⊢
  have Ix : AllI xx := hI.sub fun p hp => by rw [ex] at hp; rw [ea]; exact List.mem_append_left _ (List.mem_append_right _ (List.mem_of_mem_drop hp))
  have Iy : AllI yy := hI.sub fun p hp => by rw [ey] at hp; rw [eb]; exact List.mem_append_left _ (List.mem_append_right _ (List.mem_of_mem_take hp))
  have Sx : xx.toList.Pairwise Le := by rw [ex]; exact s1.sublist (List.drop_sublist _ _)
  have Sy : yy.toList.Pairwise Le := by rw [ey]; exact s2.sublist (List.take_sublist _ _)
  have lx : xx.toList.length = R1.length - c := by rw [ex, List.length_drop]
  have ly : yy.toList.length = d := by rw [ey, List.length_take]; omega
  have y0 : yy.toList[0]'(by omega) = R2[0] := by simp only [ey, List.getElem_take]
  have xl : xx.toList[xx.toList.length - 1]'(by omega) = R1[R1.length - 1]'(by omega) := by
    simp only [ex, List.getElem_drop, List.length_drop]
    congr 1
    omega
  have h0 : ∀ z ∈ xx.toList, kv (yy.toList[0]'(by omega)) ≤ kv z := fun z hz => by
    rw [y0]
    rw [ex] at hz
    obtain ⟨u, hu, rfl⟩ := mem_dropE hz
    exact Int.le_of_lt (up _ hu (by omega))
  have hl : ∀ z ∈ yy.toList, kv z ≤ kv (xx.toList[xx.toList.length - 1]'(by omega)) := fun z hz => by
    rw [xl]
    rw [ey] at hz
    obtain ⟨u, hu, rfl⟩ := List.mem_iff_getElem.mp hz
    rw [List.length_take] at hu
    rw [List.getElem_take]
    exact Int.le_of_lt (lo2 u (by omega) (by omega))
  have fin : ∀ (o : Array Keyed) (st2 : SortSt), SameSt (setPending st (((pendingOf st).setIfInBounds L1.length (0 + L1.flatten.length, R1.length + R2.length, pw)).eraseIdxIfInBounds (L1.length + 1))) st2 → Mer xx.toList yy.toList o.toList →
      wpS (model prog w) A E KV.sh (do modify fun v => setArr v (o.toList.zipIdx.foldl (fun a (u, j) => a.setIfInBounds (0 + L1.flatten.length + c + j) u) (arrOf v)); return (failedOf (← get)).isNone) Q st2 := by
    intro o st2 sm me
    refine wpS_bind (wpS_modify (wpS_bind (wpS_get ?_)))
    have hf2 : failedOf st2 = none := sm.fail.trans hf
    show wpS _ _ _ _ (pure (failedOf st2).isNone) Q _
    rw [hf2]
    have harr : arrOf st2 = arrOf st := sm.arr
    have lo' : o.toList.length = R1.length - c + d := by rw [me.perm.length_eq, List.length_append, lx, ly]
    have hwb := write_back o.toList 0 (0 + L1.flatten.length + c) (arrOf st) (by rw [lo']; omega)
    refine wpS_pure (h _ (R1.take c ++ o.toList ++ R2.drop d) ⟨sm.kind, sm.fail⟩ ?_ ?_ ?_ ?_)
    · have e := me.perm
      rw [ex, ey] at e
      have e3 : (R1.take c ++ o.toList ++ R2.drop d).Perm (R1.take c ++ (R1.drop c ++ R2.take d) ++ R2.drop d) := List.Perm.append_right _ (List.Perm.append_left _ e)
      have e4 : R1.take c ++ (R1.drop c ++ R2.take d) ++ R2.drop d = R1 ++ R2 := by
        rw [← List.append_assoc, List.take_append_drop, List.append_assoc, List.take_append_drop]
      rw [e4] at e3
      exact e3
    · have om : ∀ z ∈ o.toList, z ∈ R1.drop c ∨ z ∈ R2.take d := fun z hz => by
        have := me.perm.mem_iff.mp hz
        rw [ex, ey] at this
        exact List.mem_append.mp this
      have ta : ∀ x ∈ R1.take c, kv x ≤ kv R2[0] := fun x hx => by
        obtain ⟨u, hu, rfl⟩ := List.mem_iff_getElem.mp hx
        rw [List.length_take] at hu
        rw [List.getElem_take]
        exact lo u (by omega) (by omega)
      have td : ∀ y ∈ R2.drop d, kv (R1[R1.length - 1]'(by omega)) ≤ kv y := fun y hy => by
        obtain ⟨u, hu, rfl⟩ := mem_dropE hy
        exact up2 _ hu (by omega)
      refine pw3 (s1.sublist (List.take_sublist _ _)) me.srt (s2.sublist (List.drop_sublist _ _)) (fun x hx y hy => ?_) (fun x hx y hy => ?_) (fun x hx y hy => ?_)
      · rcases om y hy with hy | hy
        · obtain ⟨u, hu, rfl⟩ := mem_dropE hy
          exact Int.le_trans (ta x hx) (Int.le_of_lt (up _ hu (by omega)))
        · exact Int.le_trans (ta x hx) (b0 y (List.mem_of_mem_take hy))
      · exact Int.le_trans (ta x hx) (b0 y (List.mem_of_mem_drop hy))
      · rcases om x hx with hx | hx
        · exact Int.le_trans (lastA x (List.mem_of_mem_drop hx)) (td y hy)
        · obtain ⟨u, hu, rfl⟩ := List.mem_iff_getElem.mp hx
          rw [List.length_take] at hu
          rw [List.getElem_take]
          exact Int.le_trans (Int.le_of_lt (lo2 u (by omega) (by omega))) (td y hy)
    · show (o.toList.zipIdx.foldl (fun a (x : Keyed × Nat) => a.setIfInBounds (0 + L1.flatten.length + c + x.2) x.1) (arrOf st2)).toList = _
      rw [harr]
      refine hwb.trans ?_
      rw [Nat.add_zero, lo']
      have t1 : (arrOf st).toList.take (0 + L1.flatten.length + c) = L1.flatten ++ R1.take c := by
        rw [ea, List.append_assoc, Nat.zero_add, List.take_append, List.take_of_length_le (by omega), Nat.add_sub_cancel_left, List.take_append_of_le_length (by omega)]
      have t2 : (arrOf st).toList.drop (0 + L1.flatten.length + c + (R1.length - c + d)) = R2.drop d ++ (L2.flatten ++ rest) := by
        rw [eb, List.append_assoc, show 0 + L1.flatten.length + c + (R1.length - c + d) = (L1.flatten ++ R1).length + d by rw [List.length_append]; omega, drop_pre, List.drop_append_of_le_length (by omega)]
      rw [t1, t2]
      simp only [List.flatten_append, List.flatten_cons, List.append_assoc]
    · show PM (pendingOf st2).toList _ _
      rw [sm.pend]
      refine pmR _ ?_
      rw [List.length_append, List.length_append, List.length_take, List.length_drop, lo']
      omega
  by_cases c3 : R1.length - c ≤ d
  · rw [if_pos c3]
    exact wpS_bind (s_mlo hk Ix Iy Sx Sy (by omega) (by omega) h0 hl fun o st2 sm me => fin o st2 sm me)
  · rw [if_neg c3]
    exact wpS_bind (s_mhi hk Ix Iy Sx Sy (by omega) (by omega) h0 hl fun o st2 sm me => fin o st2 sm me)
end
end SRV
set_option Elab.async false
set_option linter.all false
set_option maxRecDepth 100000
set_option maxHeartbeats 4000000
namespace SRV
open PySem
open PyProof.Rows hiding K SortedTo K_bubble K_mirror K_congr K_mirror_equal
variable [KV]
structure SX (a₀ : Array Keyed) (lo : Nat) (st₀ st : SortSt) : Prop where
  perm : (arrOf st).Perm a₀
  kind : kindOf st = KV.kind
  fail : failedOf st = none
  pend : pendingOf st = pendingOf st₀
  pre : ∀ k, k < lo → (arrOf st)[k]? = a₀[k]?
theorem SX.size {a₀ : Array Keyed} {lo : Nat} {st₀ st : SortSt} (h : SX a₀ lo st₀ st) : (arrOf st).size = a₀.size := h.perm.size_eq
theorem SX.setA {a₀ : Array Keyed} {lo : Nat} {st₀ st : SortSt} (h : SX a₀ lo st₀ st) {xs : Array Keyed} (hp : xs.Perm (arrOf st)) (he : ∀ k, k < lo → xs[k]? = (arrOf st)[k]?) : SX a₀ lo st₀ (setArr st xs) :=
  ⟨hp.trans h.perm, h.kind, h.fail, h.pend, fun k hk => (he k hk).trans (h.pre k hk)⟩
noncomputable def SrtL (xs : Array Keyed) (lo n : Nat) : Prop := ∀ i j, i ≤ j → j < n → K xs (lo + i) ≤ K xs (lo + j)
noncomputable def NonL (xs : Array Keyed) (lo n : Nat) : Prop := ∀ i j, i ≤ j → j < n → K xs (lo + j) ≤ K xs (lo + i)
section
variable {prog : Program} {w : World} {A : Around} {E : Value → Shared → Prop} {a₀ : Array Keyed} {lo : Nat} {st₀ : SortSt}
theorem sx_lt {st : SortSt} {i j : Nat} {Q : Option Bool → SortSt → Prop} (hX : SX a₀ lo st₀ st) (h0 : AllI a₀) (hi : i < a₀.size) (hj : j < a₀.size) (h : Q (some (decide (K (arrOf st) i < K (arrOf st) j))) st) : wpS (model prog w) A E KV.sh (ltAt' i j) Q st := by
  have get : ∀ k, k < a₀.size → ∃ p, (arrOf st)[k]? = some p ∧ IsI p := fun k hk => by
    have hk' : k < (arrOf st).size := by rw [hX.size]; exact hk
    have hm : (arrOf st)[k] ∈ a₀.toList := (Array.perm_iff_toList_perm.mp hX.perm).mem_iff.mp (by simp)
    exact ⟨_, getElem?_pos (arrOf st) k hk', h0 _ hm⟩
  obtain ⟨p, e1, g1⟩ := get i hi
  obtain ⟨q, e2, g2⟩ := get j hj
  rw [K_of e1, K_of e2] at h
  rw [ltAt'_eq]
  exact wpS_bind (wpS_get (wpS_bind (s_elem e1 (wpS_bind (s_elem e2 (s_lt hX.kind g1 g2 h))))))
theorem sx_mirror {st : SortSt} {i j : Nat} (hX : SX a₀ lo st₀ st) (hi : lo ≤ i) (hj : j ≤ a₀.size) : SX a₀ lo st₀ (setArr st (mirror (arrOf st) i j ((j - i) / 2))) :=
  hX.setA (mirror_perm _ _ _ _) fun k hk => by
    rw [getElem?_mirror_all (by rw [hX.size]; exact hj), if_neg (by omega)]
theorem s_bin {st : SortSt} {n ok : Nat} {Q : Bool → SortSt → Prop} (h0 : AllI a₀) (hn : lo + n ≤ a₀.size) (hok : ok ≤ n) (hX : SX a₀ lo st₀ st) (hs : SrtL (arrOf st) lo ok)
    (h : ∀ st', SX a₀ lo st₀ st' → SrtL (arrOf st') lo n → Q true st') : wpS (model prog w) A E KV.sh (binarySort' lo n ok) Q st := by
  rw [binarySort'_eq]
  refine wpS_bind (wpS_mono (wpS_forRange (I := fun k c z => c = (none, ()) ∧ SX a₀ lo st₀ z ∧ SrtL (arrOf z) lo (min k n)) (Q := fun c z => c = (none, ()) ∧ SX a₀ lo st₀ z ∧ SrtL (arrOf z) lo n) ?st1 ?fi1 ?in1) ?po1)
  case po1 => rintro c z ⟨rfl, zX, zs⟩; exact wpS_pure (h z zX zs)
  case in1 =>
    refine ⟨rfl, hX, fun i j hij hj => ?_⟩
    by_cases h1 : ok = 0
    · have : i = j := by omega
      subst this; exact Int.le_refl _
    · exact hs i j hij (by omega)
  case fi1 =>
    rintro c z ⟨hc, zX, zs⟩
    refine ⟨hc, zX, ?_⟩
    rwa [show min (max (max ok 1) n) n = n by omega] at zs
  case st1 =>
    rintro k c z hak hkn ⟨rfl, zX, zs⟩
    rw [show min k n = k by omega] at zs
    refine wpS_bind (wpS_mono (wpS_forRange (I := fun x c v => z = v ∧ ∃ l r, c = (none, l, r) ∧ l ≤ r ∧ r ≤ k ∧ r - l ≤ k - x ∧ (∀ i, i < l → K (arrOf z) (lo + i) ≤ K (arrOf z) (lo + k)) ∧ (∀ i, r ≤ i → i < k → K (arrOf z) (lo + k) < K (arrOf z) (lo + i)))
      (Q := fun c v => z = v ∧ ∃ l r, c = (none, l, r) ∧ l ≤ k ∧ (∀ i, i < l → K (arrOf z) (lo + i) ≤ K (arrOf z) (lo + k)) ∧ (∀ i, l ≤ i → i < k → K (arrOf z) (lo + k) < K (arrOf z) (lo + i))) ?ist ?ifi ⟨rfl, 0, k, rfl, by omega, by omega, by omega, fun i hi => by omega, fun i g1 g2 => by omega⟩) ?ipo)
    case ifi =>
      rintro c v ⟨rfl, l, r, rfl, hlr, hrk, hm, hlo, hhi⟩
      have : l = r := by omega
      subst this
      exact ⟨rfl, l, l, rfl, hrk, hlo, hhi⟩
    case ist =>
      rintro x c v _ hxk ⟨rfl, l, r, rfl, hlr, hrk, hm, hlo, hhi⟩
      dsimp only
      by_cases hge : l ≥ r
      · rw [if_pos hge]
        have : l = r := by omega
        subst this
        exact wpS_pure ⟨rfl, l, l, rfl, hrk, hlo, hhi⟩
      · rw [if_neg hge]
        refine wpS_bind (sx_lt zX h0 (by omega) (by omega) ?_)
        by_cases hz : K (arrOf z) (lo + k) < K (arrOf z) (lo + (l + r) / 2)
        · simp only [hz, decide_true, if_true]
          exact wpS_pure ⟨rfl, l, (l + r) / 2, rfl, by omega, by omega, by omega, hlo, fun i g1 g2 => Int.lt_of_lt_of_le hz (zs _ _ g1 g2)⟩
        · simp only [hz, decide_false, Bool.false_eq_true, if_false]
          exact wpS_pure ⟨rfl, (l + r) / 2 + 1, r, rfl, by omega, by omega, by omega, fun i g1 => Int.le_trans (zs i ((l + r) / 2) (by omega) (by omega)) (Int.not_lt.mp hz), hhi⟩
    case ipo =>
      rintro c v ⟨rfl, l, r, rfl, hlk, hlo, hhi⟩
      show wpS _ _ _ _ (do moveDown' (lo + k) (lo + l); pure (ForInStep.yield (none, ()))) _ _
      rw [moveDown'_eq]
      have hks : lo + k < (arrOf z).size := by rw [zX.size]; omega
      have hd : lo + k - (lo + k - (lo + l)) = lo + l := by omega
      refine wpS_bind (wpS_modify (wpS_pure ⟨rfl, zX.setA (bubble_perm _ _ _) fun q hq => ?_, ?_⟩))
      · rw [getElem?_bubble hks _ (by omega), hd, if_neg (by omega), if_neg (by omega)]
      · rw [show min (k + 1) n = k + 1 by omega]
        intro i j hij hj
        show K (bubble (arrOf z) (lo + k) (lo + k - (lo + l))) (lo + i) ≤ K (bubble (arrOf z) (lo + k) (lo + k - (lo + l))) (lo + j)
        rw [K_bubble hks (by omega), K_bubble hks (by omega), hd]
        have back : ∀ q, 0 < q → lo + q - 1 = lo + (q - 1) := fun q hq => by omega
        repeat' split
        all_goals first
          | (exfalso; omega)
          | exact Int.le_refl _
          | exact hlo _ (by omega)
          | (rw [back j (by omega)]; exact Int.le_of_lt (hhi _ (by omega) (by omega)))
          | exact Int.le_of_lt (hhi _ (by omega) (by omega))
          | (rw [back i (by omega), back j (by omega)]; exact zs _ _ (by omega) (by omega))
          | (rw [back i (by omega)]; exact zs _ _ (by omega) (by omega))
          | (rw [back j (by omega)]; exact zs _ _ (by omega) (by omega))
          | exact zs _ _ (by omega) (by omega)
end
end SRV
set_option Elab.async false
set_option linter.all false
set_option maxRecDepth 100000
set_option maxHeartbeats 4000000
namespace SRV
open PySem
open PyProof.Rows hiding K SortedTo K_bubble K_mirror K_congr K_mirror_equal
variable [KV]
noncomputable def upL (lo a m : Nat) : StateT SortSt Sem (Option (Option Nat) × Nat) :=
  forIn [a:m] ((none, a) : Option (Option Nat) × Nat) fun _ c => do
    let t ← ltAt' (lo + c.snd) (lo + c.snd - 1)
    match t with
    | some b => if b = true then pure (.done (none, c.snd)) else pure (.yield (none, c.snd + 1))
    | _ => pure (.done (some none, c.snd))
noncomputable def dnL (lo a m : Nat) : StateT SortSt Sem (Option (Option Nat) × Nat × Nat) :=
  forIn [a:m] ((none, a, 0) : Option (Option Nat) × Nat × Nat) fun _ c => do
    let t ← ltAt' (lo + c.snd.fst) (lo + c.snd.fst - 1)
    match t with
    | some b =>
      if b = true then
        if c.snd.snd > 0 then do
          reverseSlice' (lo + c.snd.fst - (c.snd.snd + 1)) (lo + c.snd.fst)
          pure (.yield (none, c.snd.fst + 1, 0))
        else pure (.yield (none, c.snd.fst + 1, 0))
      else do
        let u ← ltAt' (lo + c.snd.fst - 1) (lo + c.snd.fst)
        match u with
        | some d => if d = true then pure (.done (none, c.snd.fst, c.snd.snd)) else pure (.yield (none, c.snd.fst + 1, c.snd.snd + 1))
        | _ => pure (.done (some none, c.snd.fst, c.snd.snd))
    | _ => pure (.done (some none, c.snd.fst, c.snd.snd))
noncomputable def enL (lo a m : Nat) : StateT SortSt Sem (Option Nat) := do
  reverseSlice' lo (lo + a)
  let c ← upL lo a m
  match c.fst with
  | some r => pure r
  | none => pure (some c.snd)
noncomputable def faL (lo a m : Nat) : StateT SortSt Sem (Option Nat) := do
  liftM (rule "list.sort.descending-run")
  let c ← dnL lo (a + 1) m
  match c.fst with
  | some r => pure r
  | none =>
    if c.snd.snd > 0 then do
      reverseSlice' (lo + c.snd.fst - (c.snd.snd + 1)) (lo + c.snd.fst)
      enL lo c.snd.fst m
    else enL lo c.snd.fst m
theorem run_eq (lo m : Nat) : countRun' lo m = (do
    let c ← upL lo 1 m
    match c.fst with
    | some r => pure r
    | none =>
      if (c.snd == m) = true then pure (some c.snd)
      else if c.snd > 1 then do
        let t ← ltAt' lo (lo + c.snd - 1)
        match t with
        | some b => if b = true then pure (some c.snd) else do
            reverseSlice' lo (lo + c.snd)
            faL lo c.snd m
        | _ => pure none
      else faL lo c.snd m) := by
  rw [countRun'_eq]
  dsimp only
  unfold faL enL dnL upL
  congr 1
  funext c
  obtain ⟨r, k⟩ := c
  cases r with
  | some r => rfl
  | none =>
    dsimp only
    split
    · rfl
    · split
      · congr 1
        funext t
        cases t with
        | none => rfl
        | some b =>
          dsimp only
          split
          · rfl
          · congr 1
            funext _y
            congr 1
            funext _x
            congr 1
            congr 1
            funext y
            obtain ⟨r, k, q⟩ := y
            cases r with
            | some r => rfl
            | none =>
              dsimp only
              split
              · congr 1
                funext _z
                congr 1
                funext _x
                congr 1
                funext y
                obtain ⟨r, k⟩ := y
                cases r <;> rfl
              · congr 1
                funext _x
                congr 1
                funext y
                obtain ⟨r, k⟩ := y
                cases r <;> rfl
      · skip
        congr 1
        funext _x
        congr 1
        congr 1
        funext y
        obtain ⟨r, k, q⟩ := y
        cases r with
        | some r => rfl
        | none =>
          dsimp only
          split
          · congr 1
            funext _z
            congr 1
            funext _x
            congr 1
            funext y
            obtain ⟨r, k⟩ := y
            cases r <;> rfl
          · congr 1
            funext _x
            congr 1
            funext y
            obtain ⟨r, k⟩ := y
            cases r <;> rfl
section
variable {prog : Program} {w : World} {A : Around} {E : Value → Shared → Prop} {a₀ : Array Keyed} {lo : Nat} {st₀ : SortSt}
theorem s_rev {st : SortSt} {i j : Nat} {Q : Unit → SortSt → Prop} (h : Q () (setArr st (mirror (arrOf st) i j ((j - i) / 2)))) : wpS (model prog w) A E KV.sh (reverseSlice' i j) Q st := by
  rw [reverseSlice'_eq]
  exact wpS_modify h
theorem back1 {lo x : Nat} (h : 1 ≤ x) : lo + x - 1 = lo + (x - 1) := by omega
theorem s_up {st : SortSt} {a m : Nat} {Q : Option (Option Nat) × Nat → SortSt → Prop} (h0 : AllI a₀) (hm : lo + m ≤ a₀.size) (ha : 1 ≤ a) (ham : a ≤ m) (hX : SX a₀ lo st₀ st)
    (hs : SrtL (arrOf st) lo a)
    (h : ∀ n, a ≤ n → n ≤ m → SrtL (arrOf st) lo n → (n = m ∨ K (arrOf st) (lo + n) < K (arrOf st) (lo + (n - 1))) → Q (none, n) st) : wpS (model prog w) A E KV.sh (upL lo a m) Q st := by
  unfold upL
  refine wpS_forRange (I := fun x c v => st = v ∧ c = (none, x) ∧ SrtL (arrOf st) lo x) ?s1 ?f1 ⟨rfl, rfl, hs⟩
  case f1 =>
    rintro c v ⟨rfl, rfl, g⟩
    rw [show max a m = m by omega] at g ⊢
    exact h m ham (Nat.le_refl _) g (.inl rfl)
  case s1 =>
    rintro x c v hax hxm ⟨rfl, rfl, g⟩
    dsimp only
    rw [back1 (by omega)]
    refine wpS_bind (sx_lt hX h0 (by omega) (by omega) ?_)
    by_cases hl : K (arrOf st) (lo + x) < K (arrOf st) (lo + (x - 1))
    · simp only [hl, decide_true, if_true]
      exact wpS_pure (h x hax (by omega) g (.inr hl))
    · simp only [hl, decide_false, Bool.false_eq_true, if_false]
      refine wpS_pure ⟨rfl, rfl, fun i j hij hj => ?_⟩
      rcases Nat.lt_or_ge j x with q | q
      · exact g i j hij q
      · obtain rfl : j = x := by omega
        rcases Nat.eq_or_lt_of_le hij with rfl | q2
        · exact Int.le_refl _
        · exact Int.le_trans (g i (j - 1) (by omega) (by omega)) (Int.not_lt.mp hl)
theorem s_en {st : SortSt} {a m : Nat} {Q : Option Nat → SortSt → Prop} (h0 : AllI a₀) (hm : lo + m ≤ a₀.size) (ha : 1 ≤ a) (ham : a ≤ m) (hX : SX a₀ lo st₀ st)
    (hs : NonL (arrOf st) lo a) (h : ∀ n v, SX a₀ lo st₀ v → 1 ≤ n → n ≤ m → SrtL (arrOf v) lo n → Q (some n) v) : wpS (model prog w) A E KV.sh (enL lo a m) Q st := by
  unfold enL
  have hz : lo + a ≤ (arrOf st).size := by rw [hX.size]; omega
  refine wpS_bind (s_rev ?_)
  have hX' := sx_mirror (i := lo) (j := lo + a) hX (Nat.le_refl _) (by omega)
  refine wpS_bind (s_up h0 hm ha ham hX' ?_ fun n g1 g2 g3 _ => wpS_pure (h n _ hX' (by omega) g2 g3))
  intro i j hij hj
  show K (mirror (arrOf st) lo (lo + a) ((lo + a - lo) / 2)) _ ≤ K (mirror (arrOf st) lo (lo + a) ((lo + a - lo) / 2)) _
  rw [K_mirror hz, K_mirror hz, if_pos (by omega), if_pos (by omega), show lo + (lo + a) - 1 - (lo + i) = lo + (a - 1 - i) by omega, show lo + (lo + a) - 1 - (lo + j) = lo + (a - 1 - j) by omega]
  exact hs _ _ (by omega) (by omega)
noncomputable def Alike (xs : Array Keyed) (lo n q : Nat) : Prop := ∀ i, lo + n - (q + 1) ≤ i → i < lo + n → K xs i = K xs (lo + n - 1)
theorem alike0 {xs : Array Keyed} {n : Nat} (h : 1 ≤ n) : Alike xs lo n 0 := fun i a b => by
  obtain rfl : i = lo + n - 1 := by omega
  rfl
theorem s_dn {st : SortSt} {a m : Nat} {Q : Option (Option Nat) × Nat × Nat → SortSt → Prop} (h0 : AllI a₀) (hm : lo + m ≤ a₀.size) (ha : 1 ≤ a) (ham : a ≤ m) (hX : SX a₀ lo st₀ st)
    (hs : NonL (arrOf st) lo a)
    (h : ∀ n q v, SX a₀ lo st₀ v → a ≤ n → n ≤ m → NonL (arrOf v) lo n → q + 1 ≤ n → Alike (arrOf v) lo n q → Q (none, n, q) v) : wpS (model prog w) A E KV.sh (dnL lo a m) Q st := by
  unfold dnL
  refine wpS_forRange (I := fun x c v => ∃ q, c = (none, x, q) ∧ SX a₀ lo st₀ v ∧ NonL (arrOf v) lo x ∧ q + 1 ≤ x ∧ Alike (arrOf v) lo x q) ?s1 ?f1 ⟨0, rfl, hX, hs, by omega, alike0 ha⟩
  case f1 =>
    rintro c v ⟨q, rfl, vX, vs, vq, va⟩
    rw [show max a m = m by omega] at vs vq va ⊢
    exact h m q v vX ham (Nat.le_refl _) vs vq va
  case s1 =>
    rintro x c v hax hxm ⟨q, rfl, vX, vs, vq, va⟩
    dsimp only
    have hz : lo + x ≤ (arrOf v).size := by rw [vX.size]; omega
    have grow : ∀ xs : Array Keyed, (∀ k, K xs k = K (arrOf v) k) → K (arrOf v) (lo + x) ≤ K (arrOf v) (lo + (x - 1)) → NonL xs lo (x + 1) := by
      intro xs hk hl i j hij hj
      rw [hk, hk]
      rcases Nat.lt_or_ge j x with g | g
      · exact vs i j hij g
      · obtain rfl : j = x := by omega
        rcases Nat.eq_or_lt_of_le hij with rfl | g2
        · exact Int.le_refl _
        · exact Int.le_trans hl (vs i (j - 1) (by omega) (by omega))
    rw [back1 (by omega)]
    refine wpS_bind (sx_lt vX h0 (by omega) (by omega) ?_)
    by_cases hl : K (arrOf v) (lo + x) < K (arrOf v) (lo + (x - 1))
    · simp only [hl, decide_true, if_true]
      by_cases hq : q > 0
      · rw [if_pos hq]
        exact wpS_bind (s_rev (wpS_pure ⟨0, rfl, sx_mirror vX (by omega) (by omega), grow _ (K_mirror_equal hz va) (Int.le_of_lt hl), by omega, alike0 (by omega)⟩))
      · rw [if_neg hq]
        exact wpS_pure ⟨0, rfl, vX, grow _ (fun _ => rfl) (Int.le_of_lt hl), by omega, alike0 (by omega)⟩
    · simp only [hl, decide_false, Bool.false_eq_true, if_false]
      refine wpS_bind (sx_lt vX h0 (by omega) (by omega) ?_)
      by_cases hg : K (arrOf v) (lo + (x - 1)) < K (arrOf v) (lo + x)
      · simp only [hg, decide_true, if_true]
        exact wpS_pure (h x q v vX hax (by omega) vs vq va)
      · simp only [hg, decide_false, Bool.false_eq_true, if_false]
        have he : K (arrOf v) (lo + x) = K (arrOf v) (lo + (x - 1)) := by omega
        refine wpS_pure ⟨q + 1, rfl, vX, grow _ (fun _ => rfl) (by omega), by omega, fun i g1 g2 => ?_⟩
        rw [show lo + (x + 1) - 1 = lo + x by omega]
        by_cases hi : i = lo + x
        · rw [hi]
        · rw [he, ← back1 (by omega)]
          exact va i (by omega) (by omega)
theorem s_fa {st : SortSt} {a m : Nat} {Q : Option Nat → SortSt → Prop} (h0 : AllI a₀) (hm : lo + m ≤ a₀.size) (ham : a + 1 ≤ m) (hX : SX a₀ lo st₀ st)
    (hs : NonL (arrOf st) lo (a + 1)) (h : ∀ n v, SX a₀ lo st₀ v → 1 ≤ n → n ≤ m → SrtL (arrOf v) lo n → Q (some n) v) : wpS (model prog w) A E KV.sh (faL lo a m) Q st := by
  unfold faL
  refine wpS_bind (wpS_lift (wpAny_rule ⟨rfl, ?_⟩))
  refine wpS_bind (s_dn h0 hm (by omega) ham hX hs fun n q v vX g1 g2 vs vq va => ?_)
  dsimp only
  have hz : lo + n ≤ (arrOf v).size := by rw [vX.size]; omega
  by_cases hq : q > 0
  · rw [if_pos hq]
    refine wpS_bind (s_rev (s_en h0 hm (by omega) g2 (sx_mirror vX (by omega) (by omega)) ?_ h))
    intro i j hij hj
    show K (mirror (arrOf v) _ _ _) _ ≤ K (mirror (arrOf v) _ _ _) _
    rw [K_mirror_equal hz va, K_mirror_equal hz va]
    exact vs i j hij hj
  · rw [if_neg hq]
    exact s_en h0 hm (by omega) g2 vX vs h
theorem s_run {st : SortSt} {m : Nat} {Q : Option Nat → SortSt → Prop} (h0 : AllI a₀) (hm : lo + m ≤ a₀.size) (h1 : 1 ≤ m) (hX : SX a₀ lo st₀ st)
    (h : ∀ n v, SX a₀ lo st₀ v → 1 ≤ n → n ≤ m → SrtL (arrOf v) lo n → Q (some n) v) : wpS (model prog w) A E KV.sh (countRun' lo m) Q st := by
  rw [run_eq]
  have one : SrtL (arrOf st) lo 1 := fun i j hij hj => by
    obtain rfl : i = j := by omega
    exact Int.le_refl _
  refine wpS_bind (s_up h0 hm (Nat.le_refl 1) h1 hX one fun n g1 g2 gs go => ?_)
  dsimp only
  by_cases hn : n = m
  · rw [if_pos (by simpa using hn)]
    exact wpS_pure (h n st hX g1 g2 gs)
  · rw [if_neg (by simpa using hn)]
    have hl := go.resolve_left hn
    by_cases hg : n > 1
    · rw [if_pos hg]
      rw [back1 (by omega)]
      refine wpS_bind (sx_lt (i := lo) hX h0 (by omega) (by omega) ?_)
      by_cases hr : K (arrOf st) lo < K (arrOf st) (lo + (n - 1))
      · simp only [hr, decide_true, if_true]
        exact wpS_pure (h n st hX g1 g2 gs)
      · simp only [hr, decide_false, Bool.false_eq_true, if_false]
        have hz : lo + n ≤ (arrOf st).size := by rw [hX.size]; omega
        have al : ∀ k, lo ≤ k → k < lo + n → K (arrOf st) k = K (arrOf st) (lo + n - 1) := by
          intro k k1 k2
          obtain ⟨d, rfl⟩ := Nat.exists_eq_add_of_le k1
          have e1 := gs 0 d (by omega) (by omega)
          have e2 := gs d (n - 1) (by omega) (by omega)
          rw [back1 (by omega)]
          rw [Nat.add_zero] at e1
          omega
        refine wpS_bind (s_rev (s_fa h0 hm (by omega) (sx_mirror hX (Nat.le_refl _) (by omega)) ?_ h))
        intro i j hij hj
        show K (mirror (arrOf st) _ _ _) _ ≤ K (mirror (arrOf st) _ _ _) _
        rw [K_mirror_equal hz al, K_mirror_equal hz al]
        rcases Nat.lt_or_ge j n with q | q
        · rw [al (lo + i) (by omega) (by omega), al (lo + j) (by omega) (by omega)]
          exact Int.le_refl _
        · obtain rfl : j = n := by omega
          rcases Nat.eq_or_lt_of_le hij with rfl | q2
          · exact Int.le_refl _
          · rw [al (lo + i) (by omega) (by omega), back1 (by omega)]
            exact Int.le_of_lt hl
    · rw [if_neg hg]
      obtain rfl : n = 1 := by omega
      refine s_fa h0 hm (by omega) hX ?_ h
      intro i j hij hj
      rcases Nat.eq_or_lt_of_le hij with rfl | q2
      · exact Int.le_refl _
      · obtain rfl : i = 0 := by omega
        obtain rfl : j = 1 := by omega
        exact Int.le_of_lt hl
end
end SRV
set_option Elab.async false
set_option linter.all false
set_option maxRecDepth 100000
set_option maxHeartbeats 4000000
namespace SRV
open PySem
open PyProof.Rows hiding K SortedTo K_bubble K_mirror K_congr K_mirror_equal
variable [KV]
structure RS (a₀ : Array Keyed) (st : SortSt) (Ls : List (List Keyed)) (rest : List Keyed) : Prop where
  kind : kindOf st = KV.kind
  fail : failedOf st = none
  perm : (arrOf st).Perm a₀
  arr : (arrOf st).toList = Ls.flatten ++ rest
  pm : PM (pendingOf st).toList Ls 0
  runs : ∀ R ∈ Ls, R ≠ [] ∧ R.Pairwise Le
theorem AllI.perm {xs ys : Array Keyed} (h : AllI xs) (p : ys.Perm xs) : AllI ys := fun q hq => h q ((Array.perm_iff_toList_perm.mp p).mem_iff.mp hq)
theorem PM.alter : ∀ {ps : List (Nat × Nat × Nat)} {ls : List (List Keyed)} {lo : Nat} (k : Nat) {f : Nat × Nat × Nat → Nat × Nat × Nat}, (∀ p, (f p).1 = p.1 ∧ (f p).2.1 = p.2.1) → PM ps ls lo → PM (ps.modify k f) ls lo
  | [], [], _, k, f, _, _ => by cases k <;> trivial
  | p :: r, l :: ls, lo, 0, f, hf, h => by
    show PM (f p :: r) (l :: ls) lo
    exact ⟨(hf p).1.trans h.1, (hf p).2.trans h.2.1, h.2.2⟩
  | p :: r, l :: ls, lo, k + 1, f, hf, h => by
    show PM (p :: r.modify k f) (l :: ls) lo
    exact ⟨h.1, h.2.1, PM.alter k hf h.2.2⟩
  | [], _ :: _, _, _, _, _, h => h.elim
  | _ :: _, [], _, _, _, _, h => h.elim
theorem PM.snoc : ∀ {ps : List (Nat × Nat × Nat)} {ls : List (List Keyed)} {lo : Nat} {R : List Keyed} {k n : Nat}, PM ps ls lo → k = lo + ls.flatten.length → n = R.length → PM (ps ++ [(k, n, 0)]) (ls ++ [R]) lo
  | [], [], lo, R, k, n, _, e, e2 => ⟨by simpa using e, e2, trivial⟩
  | p :: r, l :: ls, lo, R, k, n, h, e, e2 => by
    refine ⟨h.1, h.2.1, PM.snoc h.2.2 ?_ e2⟩
    rw [e, List.flatten_cons, List.length_append, Nat.add_assoc]
  | [], _ :: _, _, _, _, _, h, _, _ => h.elim
  | _ :: _, [], _, _, _, _, h, _, _ => h.elim
section
variable {prog : Program} {w : World} {A : Around} {E : Value → Shared → Prop} {a₀ : Array Keyed}
theorem s_join {st : SortSt} {Ls : List (List Keyed)} {rest : List Keyed} {i : Nat} {Q : Bool → SortSt → Prop} (h0 : AllI a₀) (r : RS a₀ st Ls rest) (hi : i + 1 < Ls.length)
    (h : ∀ v Ms, RS a₀ v Ms rest → Ms.length + 1 = Ls.length → Ms.flatten.length = Ls.flatten.length → Q true v) : wpS (model prog w) A E KV.sh (mergeAt' i) Q st := by
  obtain ⟨L1, R1, R2, L2, rfl, rfl⟩ : ∃ L1 R1 R2 L2, Ls = L1 ++ R1 :: R2 :: L2 ∧ i = L1.length := by
    refine ⟨Ls.take i, Ls[i], Ls[i + 1], Ls.drop (i + 2), ?_, by rw [List.length_take]; omega⟩
    rw [← List.drop_eq_getElem_cons hi, ← List.drop_eq_getElem_cons (by omega), List.take_append_drop]
  have m1 := r.runs R1 (by simp)
  have m2 := r.runs R2 (by simp)
  rw [mat_is]
  refine s_mat r.kind r.fail (h0.perm r.perm) r.arr r.pm m1.1 m2.1 m1.2 m2.2 fun v R hk hp hs ha hpm => ?_
  have hl := hp.length_eq
  rw [List.length_append] at hl
  refine h v (L1 ++ R :: L2) ⟨hk.kind.trans r.kind, hk.fail.trans r.fail, ?_, ha, hpm, ?_⟩ (by simp; omega) ?_
  · refine Array.Perm.trans ?_ r.perm
    rw [Array.perm_iff_toList_perm, ha, r.arr]
    refine List.Perm.append_right _ ?_
    rw [List.flatten_append, List.flatten_append, List.flatten_cons, List.flatten_cons, List.flatten_cons, ← List.append_assoc R1]
    exact List.Perm.append_left _ (List.Perm.append_right _ hp)
  · intro T hT
    rcases List.mem_append.mp hT with g | g
    · exact r.runs T (by simp [g])
    · rcases List.mem_cons.mp g with rfl | g
      · refine ⟨fun e => ?_, hs⟩
        rw [e] at hl
        have := List.length_pos_iff.mpr m1.1
        simp at hl
        omega
      · exact r.runs T (by simp [g])
  · simp only [List.flatten_append, List.flatten_cons, List.length_append]
    omega
theorem many_runs : ∀ {Ls : List (List Keyed)}, (∀ R ∈ Ls, R ≠ [] ∧ R.Pairwise Le) → Ls.length ≤ Ls.flatten.length
  | [], _ => Nat.le_refl _
  | R :: Ls, h => by
    have := many_runs (Ls := Ls) fun T hT => h T (List.mem_cons_of_mem _ hT)
    have := List.length_pos_iff.mpr (h R (by simp)).1
    rw [List.length_cons, List.flatten_cons, List.length_append]
    omega
theorem RS.psize {st : SortSt} {Ls : List (List Keyed)} {rest : List Keyed} (r : RS a₀ st Ls rest) : (pendingOf st).size = Ls.length := by
  rw [← Array.length_toList]; exact r.pm.len
theorem RS.total {st : SortSt} {Ls : List (List Keyed)} {rest : List Keyed} (r : RS a₀ st Ls rest) : Ls.flatten.length + rest.length = a₀.size := by
  rw [← List.length_append, ← r.arr, Array.length_toList, r.perm.size_eq]
theorem RS.cut {st v : SortSt} {Ls : List (List Keyed)} {rest : List Keyed} {n : Nat} (r : RS a₀ st Ls rest) (x : SX (arrOf st) Ls.flatten.length st v) (hn : Ls.flatten.length + n ≤ a₀.size) (hs : SrtL (arrOf v) Ls.flatten.length n) :
    ∃ R rest', R.length = n ∧ R.Pairwise Le ∧ RS a₀ v Ls (R ++ rest') := by
  have hz : (arrOf v).toList.length = a₀.size := by rw [Array.length_toList, x.size, r.perm.size_eq]
  have ht : (arrOf v).toList.take Ls.flatten.length = Ls.flatten := by
    have e : (arrOf v).toList.take Ls.flatten.length = (arrOf st).toList.take Ls.flatten.length := by
      refine List.ext_getElem? fun k => ?_
      rw [List.getElem?_take, List.getElem?_take]
      split
      · rename_i g
        rw [Array.getElem?_toList, Array.getElem?_toList]
        exact x.pre k g
      · rfl
    rw [e, r.arr, List.take_left]
  refine ⟨((arrOf v).toList.drop Ls.flatten.length).take n, ((arrOf v).toList.drop Ls.flatten.length).drop n, ?_, ?_, x.kind, x.fail, x.perm.trans r.perm, ?_, ?_, r.runs⟩
  · rw [List.length_take, List.length_drop, hz]; omega
  · refine List.pairwise_iff_getElem.mpr fun i j hi hj hij => ?_
    rw [List.length_take, List.length_drop, hz] at hi hj
    have := hs i j (Nat.le_of_lt hij) (by omega)
    rw [K_at (by omega), K_at (by omega)] at this
    rw [List.getElem_take, List.getElem_take, List.getElem_drop, List.getElem_drop]
    exact this
  · rw [List.take_append_drop]
    conv => lhs; rw [← List.take_append_drop Ls.flatten.length (arrOf v).toList, ht]
  · rw [x.pend]; exact r.pm
theorem RS.add {st : SortSt} {Ls : List (List Keyed)} {R rest : List Keyed} {k n : Nat} (r : RS a₀ st Ls (R ++ rest)) (hR : R ≠ []) (hs : R.Pairwise Le) (hk : k = Ls.flatten.length) (hn : n = R.length) :
    RS a₀ (setPending st ((pendingOf st).push (k, n, 0))) (Ls ++ [R]) rest where
  kind := r.kind
  fail := r.fail
  perm := r.perm
  arr := by show (arrOf st).toList = _; rw [r.arr]; simp
  pm := by
    show PM ((pendingOf st).push (k, n, 0)).toList _ 0
    rw [Array.toList_push]
    exact r.pm.snoc (by omega) hn
  runs := fun T hT => by
    rcases List.mem_append.mp hT with g | g
    · exact r.runs T g
    · rw [List.mem_singleton.mp g]; exact ⟨hR, hs⟩
theorem RS.alter {st : SortSt} {Ls : List (List Keyed)} {rest : List Keyed} {k : Nat} {f : Nat × Nat × Nat → Nat × Nat × Nat} (hf : ∀ p, (f p).1 = p.1 ∧ (f p).2.1 = p.2.1) (r : RS a₀ st Ls rest) :
    RS a₀ (setPending st ((pendingOf st).modify k f)) Ls rest where
  kind := r.kind
  fail := r.fail
  perm := r.perm
  arr := r.arr
  pm := by
    show PM ((pendingOf st).modify k f).toList _ 0
    rw [Array.toList_modify]
    exact r.pm.alter k hf
  runs := r.runs
theorem RS.sorted {st : SortSt} {Ls : List (List Keyed)} (r : RS a₀ st Ls []) (h1 : Ls.length ≤ 1) : SortedTo (arrOf st) a₀.size := by
  have hz : (arrOf st).toList.length = a₀.size := by rw [Array.length_toList, r.perm.size_eq]
  have hp : (arrOf st).toList.Pairwise Le := by
    rw [r.arr]
    match Ls, h1, r.runs with
    | [], _, _ => simp
    | [R], _, g => simpa using (g R (by simp)).2
  intro i j hij hj
  rw [K_at (by omega), K_at (by omega)]
  rcases Nat.eq_or_lt_of_le hij with e | e
  · subst e; exact Int.le_refl _
  · exact List.pairwise_iff_getElem.mp hp i j (by omega) (by omega) e
end
end SRV
set_option Elab.async false
set_option linter.all false
set_option maxRecDepth 100000
set_option maxHeartbeats 4000000
namespace SRV
open PySem
open PyProof.Rows hiding K SortedTo K_bubble K_mirror K_congr K_mirror_equal
variable [KV]
section
variable {prog : Program} {w : World} {A : Around} {E : Value → Shared → Prop} {a₀ : Array Keyed}
noncomputable def putRun (sz lo n : Nat) : StateT SortSt Sem (ForInStep (Option Unit × Nat)) := do
  let z ← get
  match (pendingOf z).back? with
  | some (p, k, _) => do
    let c ← forIn [0:sz] ((none, ()) : Option Unit × Unit) fun _ _ => do
      let z ← get
      match if (pendingOf z).size > 1 then (pendingOf z)[(pendingOf z).size - 2]? else none with
      | some (_, _, o) =>
        if o ≤ power' sz (2 * p + k) (2 * p + k + k + n) sz then pure (.done (none, ()))
        else do
          let b ← mergeAt' ((pendingOf z).size - 2)
          if (!b) = true then pure (.done (some (), ())) else pure (.yield (none, ()))
      | _ => pure (.done (none, ()))
    match c.fst with
    | some r => pure (.done (some r, lo))
    | none => do
      modify fun s => setPending s ((pendingOf s).modify ((pendingOf s).size - 1) fun x => (x.fst, x.2.fst, power' sz (2 * p + k) (2 * p + k + k + n) sz))
      modify fun s => setPending s ((pendingOf s).push (lo, n, 0))
      pure (.yield (none, lo + n))
  | _ => do
    modify fun s => setPending s ((pendingOf s).push (lo, n, 0))
    pure (.yield (none, lo + n))
theorem s_put {st : SortSt} {Ls : List (List Keyed)} {R rest : List Keyed} {sz lo n : Nat} {Q : ForInStep (Option Unit × Nat) → SortSt → Prop} (h0 : AllI a₀) (r : RS a₀ st Ls (R ++ rest)) (hlo : lo = Ls.flatten.length) (hn : n = R.length) (hR : R ≠ []) (hs : R.Pairwise Le)
    (h : ∀ v Ms, RS a₀ v Ms rest → Ms.flatten.length = lo + n → Q (.yield (none, lo + n)) v) : wpS (model prog w) A E KV.sh (putRun sz lo n) Q st := by
  unfold putRun
  refine wpS_bind (wpS_get ?_)
  have fin : ∀ {v : SortSt} {Ms : List (List Keyed)}, RS a₀ v Ms (R ++ rest) → Ms.flatten.length = lo → Q (.yield (none, lo + n)) (setPending v ((pendingOf v).push (lo, n, 0))) := fun {v Ms} g e =>
    h _ (Ms ++ [R]) (g.add hR hs e.symm hn) (by rw [List.flatten_append, List.length_append, e, List.flatten_cons, List.flatten_nil, List.append_nil, hn])
  split
  · rename_i p k _ _
    generalize power' sz (2 * p + k) (2 * p + k + k + n) sz = pw
    refine wpS_bind (wpS_mono (wpS_forRange (I := fun x c v => c = (none, ()) ∧ ∃ Ms, RS a₀ v Ms (R ++ rest) ∧ Ms.flatten.length = lo) (Q := fun c v => c = (none, ()) ∧ ∃ Ms, RS a₀ v Ms (R ++ rest) ∧ Ms.flatten.length = lo) ?s2 (fun _ _ g => g) ⟨rfl, Ls, r, hlo.symm⟩) ?p2)
    case p2 =>
      rintro c v ⟨rfl, Ms, g, e⟩
      dsimp only
      refine wpS_bind (wpS_modify (wpS_bind (wpS_modify (wpS_pure ?_))))
      exact fin (g.alter (fun _ => ⟨rfl, rfl⟩)) e
    case s2 =>
      rintro x c v _ _ ⟨rfl, Ms, g, e⟩
      refine wpS_bind (wpS_get ?_)
      rw [g.psize]
      split
      · rename_i o ho
        by_cases h1 : Ms.length > 1
        · by_cases h2 : o ≤ pw
          · rw [if_pos h2]
            exact wpS_pure ⟨rfl, Ms, g, e⟩
          · rw [if_neg h2]
            refine wpS_bind (s_join h0 g (by omega) fun u Ns g2 e1 e2 => ?_)
            simp only [Bool.not_true, Bool.false_eq_true, if_false]
            exact wpS_pure ⟨rfl, Ns, g2, e2.trans e⟩
        · rw [if_neg h1] at ho
          cases ho
      · exact wpS_pure ⟨rfl, Ms, g, e⟩
  · exact wpS_bind (wpS_modify (wpS_pure (fin r hlo.symm)))
theorem pick_lt {c : Bool} {m : Nat} (h : ¬ m ≤ 1) : (if c = true then m - 2 - 1 else m - 2) + 1 < m := by
  split <;> omega
theorem s_all {st : SortSt} {Q : Unit → SortSt → Prop} (h0 : AllI a₀) (hk : kindOf st = KV.kind) (hf : failedOf st = none) (hp : arrOf st = a₀) (he : pendingOf st = #[])
    (h : ∀ v, (arrOf v).Perm a₀ → failedOf v = none → SortedTo (arrOf v) a₀.size → Q () v) : wpS (model prog w) A E KV.sh sortRuns' Q st := by
  rw [sortRuns'_eq]
  refine wpS_bind (wpS_get ?_)
  dsimp only
  rw [hp]
  generalize minRun' a₀.size a₀.size 0 = mr
  have r0 : RS a₀ st [] a₀.toList := ⟨hk, hf, by rw [hp], by rw [hp]; rfl, by rw [he]; trivial, fun R hR => by cases hR⟩
  refine wpS_bind (wpS_mono (wpS_forRange (I := fun x c z => ∃ Ls rest, c = (none, Ls.flatten.length) ∧ RS a₀ z Ls rest ∧ x ≤ Ls.flatten.length)
    (Q := fun c z => ∃ Ls k, c = (none, k) ∧ RS a₀ z Ls []) ?s1 ?f1 ⟨[], _, rfl, r0, Nat.le_refl _⟩) ?p1)
  case f1 =>
    rintro c z ⟨Ls, rest, rfl, r, hx⟩
    have := r.total
    have e : rest = [] := List.length_eq_zero_iff.mp (by omega)
    subst e
    exact ⟨Ls, _, rfl, r⟩
  case p1 =>
    rintro c z ⟨Ls, k, rfl, r⟩
    dsimp only
    refine wpS_bind (wpS_mono (wpS_forRange (I := fun x c v => c = (none, ()) ∧ ∃ Ms, RS a₀ v Ms [] ∧ Ms.length + x ≤ a₀.size) (Q := fun c v => c = (none, ()) ∧ ∃ Ms, RS a₀ v Ms [] ∧ Ms.length ≤ 1) ?s2 ?f2 ?i2) ?p2)
    case i2 =>
      have e1 := many_runs r.runs
      have e2 := r.total
      exact ⟨rfl, Ls, r, by simp only [List.length_nil] at e2; omega⟩
    case f2 =>
      rintro c v ⟨rfl, Ms, g, hl⟩
      exact ⟨rfl, Ms, g, by omega⟩
    case p2 =>
      rintro c v ⟨rfl, Ms, g, hl⟩
      exact wpS_pure (h v g.perm g.fail (g.sorted hl))
    case s2 =>
      rintro x c v _ hx ⟨rfl, Ms, g, hl⟩
      refine wpS_bind (wpS_get ?_)
      rw [g.psize]
      by_cases h1 : Ms.length ≤ 1
      · rw [if_pos h1]
        exact wpS_pure ⟨rfl, Ms, g, h1⟩
      · rw [if_neg h1]
        refine wpS_bind (s_join h0 g (pick_lt h1) fun u Ns g2 e1 e2 => ?_)
        simp only [Bool.not_true, Bool.false_eq_true, if_false]
        exact wpS_pure ⟨rfl, Ns, g2, by omega⟩
  case s1 =>
    rintro x c z _ hx ⟨Ls, rest, rfl, r, hxl⟩
    dsimp only
    have tot := r.total
    by_cases hge : Ls.flatten.length ≥ a₀.size
    · rw [if_pos hge]
      have e : rest = [] := List.length_eq_zero_iff.mp (by omega)
      subst e
      exact wpS_pure ⟨Ls, _, rfl, r⟩
    · rw [if_neg hge]
      have hI := h0.perm r.perm
      have hsz := r.perm.size_eq
      have x0 : SX (arrOf z) Ls.flatten.length z z := ⟨Array.Perm.refl _, r.kind, r.fail, rfl, fun _ _ => rfl⟩
      refine wpS_bind (s_run hI (by omega) (by omega) x0 fun n v vX g1 g2 gs => ?_)
      dsimp only
      refine Eq.mp (congrArg (fun p => wpS (model prog w) A E KV.sh p _ v) (?_ : (if n < mr then do
        liftM (rule "list.sort.binary-insertion")
        let b ← binarySort' Ls.flatten.length (min (a₀.size - Ls.flatten.length) mr) n
        if (!b) = true then pure (ForInStep.done (some (), Ls.flatten.length)) else putRun a₀.size Ls.flatten.length (min (a₀.size - Ls.flatten.length) mr)
        else putRun a₀.size Ls.flatten.length n) = _)) ?_
      · unfold putRun
        congr 1
        · congr 1
          funext _y
          congr 1
          funext b
          congr 1
          congr 1
          funext z
          cases (pendingOf z).back? with
          | none => rfl
          | some t =>
            obtain ⟨p, k, o⟩ := t
            dsimp only
            congr 1
            funext c
            obtain ⟨r, _⟩ := c
            cases r <;> rfl
        · congr 1
          funext z
          cases (pendingOf z).back? with
          | none => rfl
          | some t =>
            obtain ⟨p, k, o⟩ := t
            dsimp only
            congr 1
            funext c
            obtain ⟨r, _⟩ := c
            cases r <;> rfl
      have last : ∀ {u : SortSt} {k : Nat}, 1 ≤ k → k ≤ a₀.size - Ls.flatten.length → SX (arrOf z) Ls.flatten.length z u → SrtL (arrOf u) Ls.flatten.length k → wpS (model prog w) A E KV.sh (putRun a₀.size Ls.flatten.length k) (fun t st' => ∃ Ms rs, t = .yield (none, Ms.flatten.length) ∧ RS a₀ st' Ms rs ∧ x + 1 ≤ Ms.flatten.length) u := fun {u k} k1 k2 uX us => by
        obtain ⟨R, rest', e1, e2, e3⟩ := r.cut uX (by omega) us
        refine s_put h0 e3 rfl e1.symm (fun e => by rw [e] at e1; simp at e1; omega) e2 fun v2 Ms g e => ?_
        exact ⟨Ms, rest', by rw [e], g, by omega⟩
      by_cases hm : n < mr
      · rw [if_pos hm]
        refine wpS_bind (wpS_lift (wpAny_rule ⟨rfl, ?_⟩))
        refine wpS_bind (s_bin hI (by omega) (by omega) vX gs fun u uX us => ?_)
        simp only [Bool.not_true, Bool.false_eq_true, if_false]
        refine wpS_mono (last (by omega) (by omega) uX us) ?_
        rintro t u2 ⟨Ms, rs, rfl, g, e⟩
        exact ⟨Ms, rs, rfl, g, e⟩
      · rw [if_neg hm]
        refine wpS_mono (last g1 g2 vX gs) ?_
        rintro t u2 ⟨Ms, rs, rfl, g, e⟩
        exact ⟨Ms, rs, rfl, g, e⟩
end
end SRV
set_option Elab.async false
set_option linter.all false
set_option maxRecDepth 100000
set_option maxHeartbeats 4000000
namespace SRT
open PySem PyProof.Rows
section
variable {prog : Program} {w : World} {A : Around} {E : Value → Shared → Prop} {s : Shared}
end
end SRT
set_option Elab.async false
set_option linter.all false
set_option maxRecDepth 100000
set_option maxHeartbeats 4000000
namespace SRT
open PySem PyProof.Rows
end SRT
set_option Elab.async false
set_option linter.all false
set_option maxRecDepth 100000
set_option maxHeartbeats 4000000
namespace SRT
open PySem PyProof.Rows
section
variable {A B : List Keyed} {o : List Keyed} {ia ib : Nat}
end
section
variable {prog : Program} {w : World} {A : Around} {E : Value → Shared → Prop} {s : Shared}
end
end SRT
set_option Elab.async false
set_option linter.all false
set_option maxRecDepth 100000
set_option maxHeartbeats 4000000
namespace SRT
open PySem PyProof.Rows
section
variable {prog : Program} {w : World} {A : Around} {E : Value → Shared → Prop} {s : Shared}
end
end SRT
set_option Elab.async false
set_option linter.all false
set_option maxRecDepth 100000
set_option maxHeartbeats 4000000
namespace SRT
open PySem PyProof.Rows
section
variable {xa xb ou : Array Keyed} {na nb : Nat}
end
end SRT
set_option Elab.async false
set_option linter.all false
set_option maxRecDepth 100000
set_option maxHeartbeats 4000000
namespace SRT
open PySem PyProof.Rows
section
variable {prog : Program} {w : World} {A : Around} {E : Value → Shared → Prop} {s : Shared}
end
end SRT
set_option Elab.async false
set_option linter.all false
set_option maxRecDepth 100000
set_option maxHeartbeats 4000000
namespace SRT
open PySem PyProof.Rows
end SRT
set_option Elab.async false
set_option linter.all false
set_option maxRecDepth 100000
set_option maxHeartbeats 4000000
namespace SRT
open PySem PyProof.Rows
section
variable {prog : Program} {w : World} {A : Around} {E : Value → Shared → Prop} {s : Shared}
end
end SRT
set_option Elab.async false
set_option linter.all false
set_option maxRecDepth 100000
set_option maxHeartbeats 4000000
namespace SRT
open PySem PyProof.Rows
section
variable {prog : Program} {w : World} {A : Around} {E : Value → Shared → Prop} {s : Shared} {a₀ : Array Keyed} {lo : Nat} {st₀ : SortSt}
end
end SRT
set_option Elab.async false
set_option linter.all false
set_option maxRecDepth 100000
set_option maxHeartbeats 4000000
namespace SRT
open PySem PyProof.Rows
section
variable {prog : Program} {w : World} {A : Around} {E : Value → Shared → Prop} {s : Shared} {a₀ : Array Keyed} {lo : Nat} {st₀ : SortSt}
end
end SRT
set_option Elab.async false
set_option linter.all false
set_option maxRecDepth 100000
set_option maxHeartbeats 4000000
namespace SRT
open PySem PyProof.Rows
section
variable {prog : Program} {w : World} {A : Around} {E : Value → Shared → Prop} {s : Shared} {a₀ : Array Keyed}
end
end SRT
set_option Elab.async false
set_option linter.all false
set_option maxRecDepth 100000
set_option maxHeartbeats 4000000
namespace SRT
open PySem PyProof.Rows
section
variable {prog : Program} {w : World} {A : Around} {E : Value → Shared → Prop} {s : Shared} {a₀ : Array Keyed}
end
end SRT
set_option Elab.async false
set_option linter.all false
set_option maxRecDepth 100000
set_option maxHeartbeats 4000000
namespace SRT
open PySem PyProof.Rows
noncomputable def core (a : Addr) (e1 : Nat) (ar : Array Value) (b : Bool) : Sem Fin := do
  let knd ← if ar.size < 2 then pure general' else keyKind' ar
  let ((), z) ← (if ar.size < 2 then pure () else sortRuns').run (SortSt.mk' knd (if b then (ar.zip ar).reverse else ar.zip ar) #[] 7 none)
  let srt := (arrOf z).map (·.2)
  let tch := (← seqEpoch a) != e1
  Builtin.List.listUpdate (.ref a) fun _ => if b then srt.reverse else srt
  if let some e := failedOf z then rule "list.sort.comparison-raised"; throw e
  if tch then rule "list.sort.modified"; raiseError "ValueError" "list modified during sort"
  ret .none
theorem plain_core (a : Addr) : Builtin.«list.sort» ⟨[.ref a], []⟩ = (do
    let ar ← Builtin.List.listItems (.ref a)
    Builtin.List.listUpdate (.ref a) fun _ => #[]
    let e1 ← seqEpoch a
    let t ← newTuple ar.toList
    let l ← newList []
    holding [t, l] (core a e1 ar false)) := by rw [list_sort_plain]; rfl
section
variable {prog : Program} {w : World} {A : Around} {E : Value → Shared → Prop} {s : Shared}
theorem w_start {a : Addr} {vs : List Value} {n : Nat} {P : Fin → Shared → Prop} {f : Nat → Array Value → Sem Fin} (hA : s.heap.get? a = some (seqObj "list" vs.toArray n)) (hz : vs.length ≤ sizeLine)
    (h : ∀ (s' : Shared) e1, s' = { s with heap := ((s.heap.update a (Obj.mapSeq fun _ => #[])).push (seqObj "tuple" vs.toArray 0)).push (seqObj "list" #[] 0) } → s'.heap.get? a = some (seqObj "list" #[] e1) → wpAny (model prog w) A (f e1 vs.toArray) P E s') :
    wpAny (model prog w) A (do
      let ar ← Builtin.List.listItems (.ref a)
      Builtin.List.listUpdate (.ref a) fun _ => #[]
      let e1 ← seqEpoch a
      let t ← newTuple ar.toList
      let l ← newList []
      holding [t, l] (f e1 ar)) P E s := by
  have ha : a < s.heap.objs.size := Heap.lt_size hA
  refine wpAny_bind (listItems_at hA rfl (wpAny_bind (listUpdate_at hA rfl ?_ (hsz := by rw [List.size_toArray]; exact hz))))
  obtain ⟨e1, hE⟩ : ∃ e1, (s.heap.update a (Obj.mapSeq fun _ => #[])).get? a = some (seqObj "list" #[] e1) := ⟨_, get?_update_seq hA fun _ => #[]⟩
  refine wpAny_bind (seqEpoch_at hE rfl (wpAny_bind (wpAny_newTuple (wpAny_bind (wpAny_newList (wpAny_holding ?_)) ) ?hs)))
  case hs => exact hz
  refine h _ e1 rfl ?_
  show (((s.heap.update a (Obj.mapSeq fun _ => #[])).push (seqObj "tuple" vs.toArray 0)).push (seqObj "list" #[] 0)).get? a = _
  rw [Heap.get?_push_ne _ _ _ (by rw [size_push', Heap.size_update]; exact fun e => absurd ha (by rw [e]; exact Nat.not_lt.mpr (Nat.le_succ _))), Heap.get?_push_ne _ _ _ (by rw [Heap.size_update]; exact fun e => absurd ha (by rw [e]; exact Nat.lt_irrefl _))]
  exact hE
theorem w_collect {l : Addr} {vs : List Value} {o : Obj} {T : String} {n : Nat} {Q : List Value → Shared → Prop} (ho : s.heap.get? l = some o) (hc : o.cls = .type T) (hd : o.data = .seq vs.toArray n) (hT : T = "list" ∨ T = "tuple") (hz : vs.length ≤ sizeLine)
    (h : Q vs { s with heap := (s.heap.push (seqObj "list" #[] 0)).update s.heap.objs.size (Obj.mapSeq (· ++ vs.toArray)) }) : wpAny (model prog w) A (collect (.ref l)) Q E s := by
  unfold collect
  refine wpAny_bind (wpAny_runValue (codeAny_builtin entry_proto_collect' ?mk))
  case mk =>
  show wpAny _ _ (do again (.builtin "list.__iadd__" ⟨[← newList [], .ref l], []⟩)) _ _ _
  refine wpAny_bind (wpAny_newList (wpAny_pure (And.intro (Code.quiet_builtin _ (by decide +kernel)) (codeAny_builtin entry_list_iadd' ?_))))
  show wpAny (model prog w) _ (Builtin.List.listExtendWith (.ref s.heap.objs.size) (.ref l) (.ref s.heap.objs.size)) _ _ { s with heap := s.heap.push (seqObj "list" #[] 0) }
  unfold Builtin.List.listExtendWith
  have hO' : (s.heap.push (seqObj "list" #[] 0)).get? l = some o := Heap.get?_push_of_some _ ho
  have hN : (s.heap.push (seqObj "list" #[] 0)).get? s.heap.objs.size = some (seqObj "list" #[] 0) := Heap.get?_push_size _ rfl
  refine wpAny_bind (wpAny_typeOf (T := T) ⟨o, hO', hc⟩ ?_)
  have e1 : (Value.type "list" == Value.type "list") = true := by rfl
  have e2 : (Value.type "tuple" == Value.type "tuple") = true := by rfl
  rw [if_pos (by rcases hT with rfl | rfl <;> simp [e1, e2])]
  refine wpAny_bind (listItems_at hO' hd (wpAny_bind (listItems_at hN rfl ?_)))
  rw [if_neg (by simp)]
  refine wpAny_bind (listUpdate_at hN rfl (wpAny_pure ?_) (Nat.zero_le _) (by rw [Array.size_append, List.size_toArray]; show 0 + vs.length ≤ _; omega))
  show wpAny (model prog w) A (do
      let z ← load s.heap.objs.size
      match z.data with
      | .seq xs _ => pure xs.toList
      | _ => unsupported "internal:collect") Q E ⟨(s.heap.push (seqObj "list" #[] 0)).update s.heap.objs.size (Obj.mapSeq (· ++ vs.toArray)), s.gens, s.drawn, s.toks, s.os⟩
  refine wpAny_bind (wpAny_load (get?_update_seq hN _) ?_)
  show wpAny (model prog w) _ (pure ((#[] : Array Value) ++ vs.toArray).toList) Q E _
  have e3 : ((#[] : Array Value) ++ vs.toArray).toList = vs := by simp
  rw [e3]
  exact wpAny_pure h
end
end SRT
set_option Elab.async false
set_option linter.all false
set_option maxRecDepth 100000
set_option maxHeartbeats 4000000
namespace SRV
open PySem PySem.W PySem.Calls
open PyProof.Rows hiding K SortedTo K_bubble K_mirror K_congr K_mirror_equal
noncomputable def lexb : List Int → List Int → Bool
  | [], [] => false
  | [], _ :: _ => true
  | _ :: _, [] => false
  | a :: as, b :: bs => if a = b then lexb as bs else decide (a < b)
theorem lexb_irr : ∀ a, lexb a a = false
  | [] => rfl
  | a :: as => by rw [lexb, if_pos rfl]; exact lexb_irr as
theorem lexb_trans : ∀ {a b c : List Int}, lexb a b = true → lexb b c = true → lexb a c = true
  | [], [], _, h, _ => by cases h
  | [], _ :: _, [], _, h => by cases h
  | [], _ :: _, _ :: _, _, _ => rfl
  | _ :: _, [], _, h, _ => by cases h
  | _ :: _, _ :: _, [], _, h => by cases h
  | a :: as, b :: bs, c :: cs, h1, h2 => by
    rw [lexb] at h1 h2 ⊢
    by_cases e1 : a = b
    · rw [if_pos e1] at h1
      subst e1
      by_cases e2 : a = c
      · rw [if_pos e2] at h2 ⊢; exact lexb_trans h1 h2
      · rw [if_neg e2] at h2 ⊢; exact h2
    · rw [if_neg e1] at h1
      have l1 := of_decide_eq_true h1
      by_cases e2 : b = c
      · subst e2; rw [if_neg e1]; exact h1
      · rw [if_neg e2] at h2
        have l2 := of_decide_eq_true h2
        rw [if_neg (by omega)]
        exact decide_eq_true (by omega)
theorem lexb_total : ∀ (a b : List Int), lexb a b = false → lexb b a = false → a = b
  | [], [], _, _ => rfl
  | [], _ :: _, h, _ => by cases h
  | _ :: _, [], _, h => by cases h
  | a :: as, b :: bs, h1, h2 => by
    rw [lexb] at h1 h2
    by_cases e : a = b
    · subst e
      rw [if_pos rfl] at h1 h2
      rw [lexb_total as bs h1 h2]
    · rw [if_neg e] at h1
      rw [if_neg (fun x => e x.symm)] at h2
      have := of_decide_eq_false h1
      have := of_decide_eq_false h2
      omega
noncomputable def pos (D : List (List Int)) (x : List Int) : Int := (D.countP fun d => lexb d x : Nat)
theorem pos_lt {D : List (List Int)} {x y : List Int} (hx : x ∈ D) (h : lexb x y = true) : pos D x < pos D y := by
  unfold pos
  have le : ∀ (D : List (List Int)), (D.countP fun d => lexb d x) ≤ D.countP fun d => lexb d y := fun D => List.countP_mono_left fun d _ hd => lexb_trans hd h
  have : (D.countP fun d => lexb d x) < D.countP fun d => lexb d y := by
    induction D with
    | nil => cases hx
    | cons d D ih =>
      rw [List.countP_cons, List.countP_cons]
      rcases List.mem_cons.mp hx with e | hx
      · subst e
        have := le D
        rw [lexb_irr, if_neg (by simp), if_pos h]
        omega
      · have := ih hx
        by_cases hd : lexb d x = true
        · rw [if_pos hd, if_pos (lexb_trans hd h)]; omega
        · rw [if_neg hd]; split <;> omega
  omega
theorem pos_is {D : List (List Int)} {x y : List Int} (hx : x ∈ D) (hy : y ∈ D) : decide (pos D x < pos D y) = lexb x y := by
  cases h : lexb x y with
  | true => exact decide_eq_true (pos_lt hx h)
  | false =>
    refine decide_eq_false ?_
    cases h2 : lexb y x with
    | true => have := pos_lt hy h2; omega
    | false => rw [lexb_total x y h h2]; omega
noncomputable def datOf (h : Heap) : Value → List Int
  | .ref a => match h.get? a with
    | some o => match o.data with
      | .seq xs _ => xs.toList.map numOf
      | _ => []
    | none => []
  | _ => []
noncomputable def TI (h : Heap) (v : Value) (ns : List Int) : Prop := ∃ a o its n, v = .ref a ∧ h.get? a = some o ∧ o.cls = .type "tuple" ∧ o.data = .seq (List.toArray its) n ∧ IntsAre its ns
theorem ints_num : ∀ {its : List Value} {ns : List Int}, IntsAre its ns → its.map numOf = ns
  | _, _, .nil => rfl
  | _, _, .cons _ _ h => by rw [List.map_cons, ints_num h]; rfl
theorem TI.dat {h : Heap} {v : Value} {ns : List Int} (t : TI h v ns) : datOf h v = ns := by
  obtain ⟨a, o, its, n, rfl, ho, hc, hd, hI⟩ := t
  unfold datOf
  dsimp only
  rw [ho]
  dsimp only
  rw [hd]
  exact ints_num hI
section
variable {prog : Program} {w : World} {A : Around} {E : Value → Shared → Prop} {s : Shared}
theorem lex_ask {b fin : Bool} {Q : Bool → Shared → Prop} : ∀ {xs ys : List Value} {ns ms : List Int} (i : Nat), IntsAre xs ns → IntsAre ys ms → (b = true → i = 0 ∨ True) → fin = decide (ns.length < ms.length) → Q (lexb ns ms) s → KatLex prog w A b fin Q (xs.zip ys) i s
  | _, _, _, _, i, .nil, .nil, _, e, h => by
    subst e
    exact kat_nil h
  | _, _, _, _, i, .nil, .cons _ _ _, _, e, h => by
    subst e
    refine kat_nil ?_
    rw [decide_eq_true (by simp)]
    exact h
  | _, _, _, _, i, .cons _ _ _, .nil, _, e, h => by
    subst e
    refine kat_nil ?_
    rw [decide_eq_false (by simp)]
    exact h
  | _, _, _, _, i, .cons n _ hx, .cons m _ hy, _, e, h => by
    refine kat_cons (wpAny_eqBool_int ?_)
    by_cases hn : n = m
    · rw [show (n == m) = true by simpa using hn]
      refine kat_yes (lex_ask (i + 1) hx hy (fun _ => .inr trivial) (by rw [e, List.length_cons, List.length_cons]; exact decide_eq_decide.mpr (by omega)) ?_)
      rw [lexb, if_pos hn] at h
      exact h
    · rw [show (n == m) = false by simpa using hn]
      rw [lexb, if_neg hn] at h
      refine kat_no ?_
      cases hb : (b && i == 0) with
      | true => exact oneLt_int h
      | false => exact kat_one _ _ (PyProof.Rows.lt_int h)
theorem tup_lt {st : SortSt} {x y : Keyed} {b : Bool} {ns ms : List Int} {Q : Option Bool → SortSt → Prop} (hk : kindOf st = tuples' b) (hx : TI s.heap x.1 ns) (hy : TI s.heap y.1 ms) (h : Q (some (lexb ns ms)) st) : wpS (model prog w) A E s (lt' x y) Q st := by
  obtain ⟨a, o, its, n, e1, ho, hc, hd, hI⟩ := hx
  obtain ⟨a', o', its', n', e1', ho', hc', hd', hI'⟩ := hy
  rw [lt'_eq]
  refine wpS_bind (wpS_get ?_)
  rw [hk, e1, e1']
  refine wpS_bind (wpS_lift (wpAny_attempt (kat_lt ho hd ho' hd' (lex_ask 0 hI hI' (fun _ => .inr trivial) ?_ ⟨rfl, wpS_pure h⟩))))
  rw [List.size_toArray, List.size_toArray, hI.length, hI'.length]
noncomputable abbrev kvT (s : Shared) (D : List (List Int)) : KV where
  sh := s
  kind := tuples' true
  kv := fun p => pos D (datOf s.heap p.1)
  good := fun p => ∃ ns ∈ D, TI s.heap p.1 ns
  lt := fun {prog w A E st x y Q} hk hx hy h => by
    obtain ⟨ns, m1, t1⟩ := hx
    obtain ⟨ms, m2, t2⟩ := hy
    rw [t1.dat, t2.dat, pos_is m1 m2] at h
    exact tup_lt hk t1 t2 h
theorem ti_firsts {h : Heap} : ∀ {vs : List Value}, (∀ v ∈ vs, ∃ ns, ns ≠ [] ∧ TI h v ns) → ∃ fs, KatTups h vs fs ∧ fs.length = vs.length ∧ ∀ v ∈ fs, ∃ k t, v = Value.int k t
  | [], _ => ⟨[], trivial, rfl, fun v hv => nomatch hv⟩
  | v :: vs, g => by
    obtain ⟨fs, a, b, c⟩ := ti_firsts (vs := vs) fun v hv => g v (List.mem_cons_of_mem _ hv)
    obtain ⟨ns, hne, x, o, its, n, rfl, ho, hc, hd, hI⟩ := g v List.mem_cons_self
    cases hI with
    | nil => exact absurd rfl hne
    | cons k t hI =>
      refine ⟨.int k t :: fs, KatTups.cons ho hc hd rfl a, by simp [b], fun w hw => ?_⟩
      rcases List.mem_cons.mp hw with rfl | hw
      · exact ⟨_, _, rfl⟩
      · exact c w hw
theorem t_core {a : Addr} {e1 : Nat} {vs : List Value} {P : Fin → Shared → Prop} (hA : s.heap.get? a = some (seqObj "list" #[] e1)) (hT : ∀ v ∈ vs, ∃ ns, TI s.heap v ns) (hN : 2 ≤ vs.length → ∀ v ∈ vs, datOf s.heap v ≠ []) (hz : vs.length ≤ sizeLine)
    (h : ∀ o : List Value, o.Perm vs → o.Pairwise (fun u v => lexb (datOf s.heap v) (datOf s.heap u) = false) → P (.done (.ret .none)) { s with heap := s.heap.update a (Obj.mapSeq fun _ => List.toArray o) }) : wpAny (model prog w) A (SRT.core a e1 vs.toArray false) P E s := by
  unfold SRT.core
  have fin : ∀ z : SortSt, (arrOf z).Perm (pairsOf vs) → failedOf z = none → (arrOf z).toList.Pairwise (fun p q => lexb (datOf s.heap q.1) (datOf s.heap p.1) = false) → wpAny (model prog w) A (do
      let tch := (← seqEpoch a) != e1
      Builtin.List.listUpdate (.ref a) fun _ => if false then ((arrOf z).map (·.2)).reverse else (arrOf z).map (·.2)
      if let some e := failedOf z then rule "list.sort.comparison-raised"; throw e
      if tch then rule "list.sort.modified"; raiseError "ValueError" "list modified during sort"
      ret .none) P E s := fun z hp hf hs => by
    have hlen : ((arrOf z).map (·.2)).size ≤ sizeLine + 1 := by rw [Array.size_map, hp.size_eq, pairsOf_size]; omega
    rw [if_neg Bool.false_ne_true]
    refine wpAny_bind (seqEpoch_at hA rfl (wpAny_bind (listUpdate_at hA rfl ?_ (hsz2 := hlen))))
    rw [hf]
    simp only [bne_self_eq_false, Bool.false_eq_true, if_false]
    have hpl := Array.perm_iff_toList_perm.mp hp
    rw [pairsOf_toList] at hpl
    have same : ∀ p ∈ (arrOf z).toList, p.1 = p.2 := fun p hp' => by
      have := hpl.mem_iff.mp hp'
      have zz : ∀ (l : List Value), ∀ p ∈ l.zip l, p.1 = p.2 := fun l => by
        induction l with
        | nil => intro p hp; cases hp
        | cons x l ih =>
          intro p hp
          rcases List.mem_cons.mp hp with rfl | hp
          · rfl
          · exact ih p hp
      exact zz vs p this
    have e2 : (arrOf z).map (·.2) = List.toArray ((arrOf z).toList.map (·.2)) := by
      apply Array.ext'
      simp
    rw [e2]
    refine wpAny_pure (h _ ?_ ?_)
    · have := hpl.map (·.2)
      have e3 : (vs.zip vs).map (·.2) = vs := by
        rw [List.map_snd_zip]
        exact Nat.le_refl _
      rw [e3] at this
      exact this
    · rw [List.pairwise_map]
      refine List.Pairwise.imp_of_mem (fun {p q} hp hq hpq => ?_) hs
      rw [← same p hp, ← same q hq]
      exact hpq
  rw [if_neg Bool.false_ne_true]
  by_cases h2 : vs.toArray.size < 2
  · rw [if_pos h2, if_pos h2]
    refine wpAny_bind (wpAny_pure ?_)
    dsimp only
    rw [StateT.run_pure]
    refine wpAny_bind (wpAny_pure (fin (SortSt.mk' general' _ #[] 7 none) (Array.Perm.refl _) rfl ?_))
    rw [List.size_toArray] at h2
    show (pairsOf vs).toList.Pairwise _
    rw [pairsOf_toList]
    match vs, h2 with
    | [], _ => exact .nil
    | [x], _ => exact List.pairwise_singleton _ _
    | x :: y :: r, g => simp only [List.length_cons] at g; omega
  · rw [if_neg h2, if_neg h2]
    rw [List.size_toArray] at h2
    obtain ⟨fs, t1, t2, t3⟩ := ti_firsts (h := s.heap) (vs := vs) fun v hv => by
      obtain ⟨ns, t⟩ := hT v hv
      refine ⟨ns, fun e => hN (by omega) v hv ?_, t⟩
      rw [t.dat, e]
    refine wpAny_bind (kat_kind t1 (by omega) (T := .type "int") (fun v hv => ?_) rfl ?_)
    · obtain ⟨k, t, rfl⟩ := t3 v hv; exact .now
    letI inst : KV := kvT s (vs.map (datOf s.heap))
    have good : AllI (vs.toArray.zip vs.toArray) := fun p hp => by
      have hp : p ∈ (pairsOf vs).toList := hp
      rw [pairsOf_toList] at hp
      have hv : p.1 ∈ vs := (List.of_mem_zip hp).1
      obtain ⟨ns, t⟩ := hT p.1 hv
      exact ⟨ns, List.mem_map.mpr ⟨p.1, hv, t.dat⟩, t⟩
    refine wpAny_bind (wpAny_mono (s_all (st := SortSt.mk' (tuples' true) (vs.toArray.zip vs.toArray) #[] 7 none)
      (Q := fun _ z => (arrOf z).Perm (pairsOf vs) ∧ failedOf z = none ∧ SortedTo (arrOf z) (pairsOf vs).size) good rfl rfl rfl rfl fun z g1 g2 g3 => ⟨g1, g2, g3⟩) ?_ fun _ _ e => e)
    rintro ⟨⟨⟩, z⟩ s' ⟨e, g1, g2, g3⟩
    have e : s' = s := e
    rw [e]
    refine fin z g1 g2 ?_
    rw [List.pairwise_iff_getElem]
    intro i j hi hj hij
    have sz : (arrOf z).size = (pairsOf vs).size := g1.size_eq
    have le := g3 i j (by omega) (by rw [← sz]; simpa using hj)
    rw [K_at hi, K_at hj] at le
    have le : pos (vs.map (datOf s.heap)) (datOf s.heap (arrOf z).toList[i].1) ≤ pos (vs.map (datOf s.heap)) (datOf s.heap (arrOf z).toList[j].1) := le
    have inD : ∀ p ∈ (arrOf z).toList, datOf s.heap p.1 ∈ vs.map (datOf s.heap) := fun p hp => by
      have hp := (Array.perm_iff_toList_perm.mp g1).mem_iff.mp hp
      rw [pairsOf_toList] at hp
      exact List.mem_map.mpr ⟨_, (List.of_mem_zip hp).1, rfl⟩
    rw [← pos_is (inD _ (List.getElem_mem hj)) (inD _ (List.getElem_mem hi))]
    exact decide_eq_false (by omega)
end
end SRV
set_option Elab.async false
set_option linter.all false
set_option maxRecDepth 100000
set_option maxHeartbeats 4000000
namespace M63
open M11 M66 SRV
noncomputable def toI (x : List Nat) : List Int := x.map fun (k : Nat) => (k : Int)
noncomputable def Asc (m n : Nat) : List (List Nat) := (Lst m n).reverse
theorem asc_zero (n : Nat) : Asc 0 n = if n = 0 then [[]] else [] := by
  unfold Asc
  show (if n = 0 then [[]] else [] : List (List Nat)).reverse = _
  split <;> rfl
theorem asc_eq (m n : Nat) : Asc (m + 1) n = Asc m n ++ (if m + 1 ≤ n then (Asc (m + 1) (n - (m + 1))).map ((m + 1) :: ·) else []) := by
  unfold Asc
  rw [ls_eq, List.reverse_append]
  congr 1
  split
  · rw [List.map_reverse]
  · rfl
theorem asc_mem {m n : Nat} {x : List Nat} : x ∈ Asc m n ↔ x ∈ Lst m n := List.mem_reverse
theorem asc_low {m n : Nat} (h : n ≤ m) : Asc m n = Asc n n := by
  obtain ⟨e, rfl⟩ : ∃ e, m = n + e := ⟨m - n, by omega⟩
  induction e with
  | zero => rfl
  | succ e ih => rw [show n + (e + 1) = (n + e) + 1 by omega, asc_eq, if_neg (by omega), List.append_nil]; exact ih (by omega)
theorem ls_fl : ∀ (m n : Nat) (x : List Nat), x ∈ Asc m n → Fl x := by
  intro m
  induction m with
  | zero =>
    intro n x hx
    rw [asc_zero] at hx
    split at hx
    · rw [List.mem_singleton.mp hx]; trivial
    · cases hx
  | succ m ih =>
    intro n
    induction n using Nat.strongRecOn with
    | ind n ihn =>
      intro x hx
      rw [asc_eq] at hx
      rcases List.mem_append.mp hx with hx | hx
      · exact ih n x hx
      · split at hx
        · rename_i hn
          obtain ⟨y, hy, rfl⟩ := List.mem_map.mp hx
          have fy := ihn _ (by omega) y hy
          have by' := (ls_mem _ _ y (asc_mem.mp hy)).1
          cases y with
          | nil => show 1 ≤ m + 1; omega
          | cons b r => exact ⟨(by' b List.mem_cons_self).2, fy⟩
        · cases hx
theorem asc_up : ∀ (m n : Nat), (Asc m n).Pairwise (fun a b => lexb (toI a) (toI b) = true) := by
  intro m
  induction m with
  | zero =>
    intro n
    rw [asc_zero]
    split
    · exact List.pairwise_singleton _ _
    · exact .nil
  | succ m ih =>
    intro n
    induction n using Nat.strongRecOn with
    | ind n ihn =>
      rw [asc_eq]
      refine List.pairwise_append.mpr ⟨ih n, ?_, fun a ha b hb => ?_⟩
      · split
        · rename_i hn
          rw [List.pairwise_map]
          refine (ihn _ (by omega)).imp fun {a b} h => ?_
          show lexb (((m + 1 : Nat) : Int) :: toI a) (((m + 1 : Nat) : Int) :: toI b) = true
          rw [lexb, if_pos rfl]
          exact h
        · exact .nil
      · split at hb
        · obtain ⟨y, hy, rfl⟩ := List.mem_map.mp hb
          show lexb (toI a) (((m + 1 : Nat) : Int) :: toI y) = true
          cases a with
          | nil => rfl
          | cons c r =>
            have := ((ls_mem _ _ _ (asc_mem.mp ha)).1 c List.mem_cons_self).2
            show lexb ((c : Int) :: toI r) (((m + 1 : Nat) : Int) :: toI y) = true
            rw [lexb, if_neg (by omega)]
            exact decide_eq_true (by omega)
        · cases hb
theorem sorted_self {α : Type} {d : α → List Int} : ∀ {ps ps' : List α}, ps.Pairwise (fun a b => lexb (d a) (d b) = true) → ps'.Perm ps → ps'.Pairwise (fun a b => lexb (d b) (d a) = false) → ps' = ps
  | [], ps', _, perm, _ => perm.eq_nil
  | p :: r, [], _, perm, _ => absurd perm.length_eq (by simp)
  | p :: r, q :: r', up, perm, ord => by
    have up' := List.pairwise_cons.mp up
    have ord' := List.pairwise_cons.mp ord
    have hq : q ∈ p :: r := perm.mem_iff.mp List.mem_cons_self
    have hp : p ∈ q :: r' := perm.mem_iff.mpr List.mem_cons_self
    have e : q = p := by
      rcases List.mem_cons.mp hq with h | h
      · exact h
      · rcases List.mem_cons.mp hp with g | g
        · exact g.symm
        · have h1 := up'.1 q h
          have h2 := ord'.1 p g
          rw [h1] at h2
          cases h2
    subst e
    rw [sorted_self up'.2 (List.Perm.cons_inv perm) ord'.2]
end M63
set_option linter.all false
set_option maxRecDepth 100000
set_option maxHeartbeats 4000000
namespace MP
noncomputable def pb : Nat → Nat → Nat → List (List Int)
  | 0, _, _ => [[]]
  | f + 1, n, m => if n = 0 then [[]] else (List.range (min n m)).flatMap fun i => (pb f (n - (i + 1)) (i + 1)).map fun b => ((i + 1 : Nat) : Int) :: b
theorem pb_zero (f m : Nat) : pb f 0 m = [[]] := by cases f <;> rfl
theorem flat_congr {α β : Type} {f g : α → List β} : ∀ {l : List α}, (∀ a ∈ l, f a = g a) → l.flatMap f = l.flatMap g
  | [], _ => rfl
  | a :: l, h => by rw [List.flatMap_cons, List.flatMap_cons, h a List.mem_cons_self, flat_congr fun b hb => h b (List.mem_cons_of_mem _ hb)]
theorem pb_fuel : ∀ (f n m : Nat), n ≤ f → pb f n m = pb n n m
  | 0, n, m, h => by
    have : n = 0 := by omega
    subst this; rfl
  | f + 1, 0, m, _ => by rw [pb_zero]; rfl
  | f + 1, n + 1, m, h => by
    show (if n + 1 = 0 then [[]] else (List.range (min (n + 1) m)).flatMap fun i => (pb f (n + 1 - (i + 1)) (i + 1)).map fun b => ((i + 1 : Nat) : Int) :: b) = (if n + 1 = 0 then [[]] else (List.range (min (n + 1) m)).flatMap fun i => (pb n (n + 1 - (i + 1)) (i + 1)).map fun b => ((i + 1 : Nat) : Int) :: b)
    rw [if_neg (by omega), if_neg (by omega)]
    refine flat_congr fun i hi => ?_
    rw [pb_fuel f (n + 1 - (i + 1)) (i + 1) (by omega), pb_fuel n (n + 1 - (i + 1)) (i + 1) (by omega)]
noncomputable def PB (n m : Nat) : List (List Int) := pb n n m
noncomputable def blk (n i : Nat) : List (List Int) := (PB (n - (i + 1)) (i + 1)).map fun b => ((i + 1 : Nat) : Int) :: b
theorem PB_zero (m : Nat) : PB 0 m = [[]] := rfl
theorem PB_eq {n : Nat} (h : n ≠ 0) (m : Nat) : PB n m = (List.range (min n m)).flatMap (blk n) := by
  cases n with
  | zero => exact absurd rfl h
  | succ n =>
    show (if n + 1 = 0 then [[]] else (List.range (min (n + 1) m)).flatMap fun i => (pb n (n + 1 - (i + 1)) (i + 1)).map fun b => ((i + 1 : Nat) : Int) :: b) = _
    rw [if_neg (by omega)]
    refine flat_congr fun i hi => ?_
    unfold blk PB
    rw [pb_fuel n (n + 1 - (i + 1)) (i + 1) (by omega)]
noncomputable def bs (n k : Nat) : List (List Int) := (List.range k).flatMap (blk n)
theorem bs_succ (n k : Nat) : bs n (k + 1) = bs n k ++ blk n k := by unfold bs; rw [List.range_succ, List.flatMap_append]; simp
theorem blk_len (n i : Nat) : (blk n i).length = (PB (n - (i + 1)) (i + 1)).length := by unfold blk; rw [List.length_map]
theorem PB_pos : ∀ (N n m : Nat), n ≤ N → ∀ b ∈ PB n m, (∀ x ∈ b, (1 : Int) ≤ x ∧ x ≤ n) ∧ b.length ≤ n ∧ b.sum = n
  | 0, n, m, h, b, hb => by
    have : n = 0 := by omega
    subst this
    have : b = [] := by simpa [PB, pb] using hb
    subst this
    exact ⟨(fun _ z => nomatch z), Nat.le_refl _, rfl⟩
  | N + 1, n, m, h, b, hb => by
    by_cases h0 : n = 0
    · subst h0
      have : b = [] := by simpa [PB, pb] using hb
      subst this
      exact ⟨(fun _ z => nomatch z), Nat.le_refl _, rfl⟩
    · rw [PB_eq h0] at hb
      obtain ⟨i, hi, hb⟩ := List.mem_flatMap.mp hb
      have hi' := List.mem_range.mp hi
      obtain ⟨c, hc, rfl⟩ := List.mem_map.mp hb
      obtain ⟨h1, h2, h3⟩ := PB_pos N (n - (i + 1)) (i + 1) (by omega) c hc
      refine ⟨fun x hx => ?_, ?_, ?_⟩
      · rcases List.mem_cons.mp hx with rfl | hx
        · omega
        · have := h1 x hx; omega
      · rw [List.length_cons]; omega
      · rw [List.sum_cons, h3]; omega
end MP
set_option Elab.async false
set_option linter.all false
set_option maxRecDepth 100000
set_option maxHeartbeats 4000000
namespace M05
open MRow M80 M17 M12 M11 M66 M63 MP
theorem asc_blocks {n : Nat} (h : n ≠ 0) : ∀ m, Asc m n = (List.range m).flatMap fun i => if i + 1 ≤ n then (Asc (i + 1) (n - (i + 1))).map ((i + 1) :: ·) else []
  | 0 => by rw [asc_zero, if_neg h]; rfl
  | m + 1 => by
    rw [asc_eq, asc_blocks h m, List.range_succ, List.flatMap_append]
    simp
theorem PB_asc : ∀ (N n m : Nat), n ≤ N → PB n m = (Asc m n).map toI := by
  intro N
  induction N with
  | zero =>
    intro n m h
    have : n = 0 := by omega
    subst this
    rw [PB_zero]
    rw [asc_low (Nat.zero_le m), asc_zero]
    rfl
  | succ N ih =>
    intro n m h
    by_cases h0 : n = 0
    · subst h0
      rw [PB_zero, asc_low (Nat.zero_le m), asc_zero]
      rfl
    · have e : Asc m n = Asc (min n m) n := by
        by_cases hm : n ≤ m
        · rw [Nat.min_eq_left hm, asc_low hm]
        · rw [Nat.min_eq_right (by omega)]
      rw [PB_eq h0, e, asc_blocks h0, List.map_flatMap]
      refine flat_congr fun i hi => ?_
      have hi := List.mem_range.mp hi
      rw [if_pos (by omega), List.map_map]
      unfold MP.blk
      rw [ih (n - (i + 1)) (i + 1) (by omega), List.map_map]
      rfl
theorem row30 : PLL 31 (tb dl 31) (ups 30) = [1, 1, 2, 3, 5, 7, 11, 15, 22, 30, 42, 56, 77, 101, 135, 176, 231, 297, 385, 490, 627, 792, 1002, 1255, 1575, 1958, 2436, 3010, 3718, 4565, 5604] := by decide +kernel
theorem len_row {n : Nat} (h : n ≤ 30) : ((Lst 30 n).length : Int) = ([1, 1, 2, 3, 5, 7, 11, 15, 22, 30, 42, 56, 77, 101, 135, 176, 231, 297, 385, 490, 627, 792, 1002, 1255, 1575, 1958, 2436, 3010, 3718, 4565, 5604] : List Int).getD n 0 := by
  have e1 : cn 30 n (fun l => l.all fun _ => true) = PL dl (fl (fun _ => true) 30) n := cn_all _ 30 n
  rw [fl_all] at e1
  have e2 : PLL 31 (tb dl 31) (ups 30) = tb (PL dl (ups 30)) 31 := PLL_ok 31 _ dl (by decide)
  rw [row30] at e2
  have e3 : cn 30 n (fun l => l.all fun _ => true) = ((Lst 30 n).length : Int) := by
    unfold cn
    congr 1
    rw [List.countP_eq_length]
    exact fun x _ => List.all_eq_true.mpr fun _ _ => rfl
  rw [← e3, e1, e2, List.getD_eq_getElem?_getD, tb_get (by omega)]
  rfl
theorem len30 {n : Nat} (h : n ≤ 30) : (Lst 30 n).length ≤ 6000 := by
  have e := len_row h
  have key : ((List.range 31).all fun n => decide (([1, 1, 2, 3, 5, 7, 11, 15, 22, 30, 42, 56, 77, 101, 135, 176, 231, 297, 385, 490, 627, 792, 1002, 1255, 1575, 1958, 2436, 3010, 3718, 4565, 5604] : List Int).getD n 0 ≤ 6000)) = true := by decide +kernel
  have := of_decide_eq_true (List.all_eq_true.mp key n (List.mem_range.mpr (by omega)))
  omega
theorem asc_len30 {m n : Nat} (hn : n ≤ 30) : (Asc m n).length ≤ 6000 := by
  have key : ∀ m, m ≤ 30 → (Asc m n).length ≤ 6000 := fun m hm => by
    unfold Asc
    rw [List.length_reverse]
    have h30 := len30 hn
    have le := cn_le n (fun _ => true) hm
    unfold cn at le
    rw [List.countP_true] at le
    omega
  by_cases hm : m ≤ 30
  · exact key m hm
  · rw [asc_low (by omega)]
    exact key n hn
theorem PB_len30 {n m : Nat} (hn : n ≤ 30) : (PB n m).length ≤ 6000 := by rw [PB_asc n n m (Nat.le_refl n), List.length_map]; exact asc_len30 hn
theorem bs_len30 {n k : Nat} (hn : n ≤ 30) (hk : k ≤ n) (h0 : n ≠ 0) : (bs n k).length ≤ 6000 := by
  have := PB_len30 (n := n) (m := k) hn
  rw [PB_eq h0, Nat.min_eq_right hk] at this
  exact this
end M05
set_option Elab.async false
set_option linter.all false
set_option maxRecDepth 100000
set_option maxHeartbeats 4000000
namespace L2
open PySem PySem.Spec PyProof.Rows
section
variable {X : Cx}
end
section
variable {X : Cx} {e : Expr} {es : List Expr} {t : TA} {o : Expr} {to : TE} {apos cpos : Pos}
end
end L2
namespace L2
open PySem PySem.Spec PyProof.Rows
inductive Tps (H : Hp) : List V → List (List Int) → Prop where
  | nil : Tps H [] []
  | cons {b : Addr} {ls : List Int} {vs lss} : H b = some (.tup (ls.map V.int)) → Tps H vs lss → Tps H (.ref b :: vs) (ls :: lss)
theorem Tps.same {H H' : Hp} (y : Same H H') : ∀ {vs ps}, Tps H vs ps → Tps H' vs ps
  | _, _, .nil => .nil
  | _, _, .cons h r => .cons (y _ _ h) (Tps.same y r)
theorem Tps.length {H : Hp} : ∀ {vs ps}, Tps H vs ps → vs.length = ps.length
  | _, _, .nil => rfl
  | _, _, .cons _ r => by rw [List.length_cons, List.length_cons, Tps.length r]
theorem Tps.get {H : Hp} : ∀ {vs ps} {i : Nat} {v : V}, Tps H vs ps → vs[i]? = some v → ∃ ls b, ps[i]? = some ls ∧ v = .ref b ∧ H b = some (.tup (ls.map V.int))
  | _, _, _, _, .nil, h => by simp at h
  | _, _, 0, _, .cons h _, e => by simp at e; exact ⟨_, _, rfl, e.symm, h⟩
  | _, _, i + 1, _, .cons _ r, e => by
    obtain ⟨ls, b, h1, h2⟩ := Tps.get (i := i) r (by simpa using e)
    exact ⟨ls, b, by simpa using h1, h2⟩
theorem Tps.snoc {H : Hp} {b : Addr} {ls : List Int} (h : H b = some (.tup (ls.map V.int))) : ∀ {vs ps}, Tps H vs ps → Tps H (vs ++ [.ref b]) (ps ++ [ls])
  | _, _, .nil => .cons h .nil
  | _, _, .cons q r => .cons q (Tps.snoc h r)
theorem Tps.updL {H : Hp} {t : Addr} {xs ys : List V} (h : H t = some (.lst xs)) : ∀ {us ps}, Tps H us ps → Tps (upd H t (.lst ys)) us ps
  | _, _, .nil => .nil
  | _, _, .cons hb r => .cons (by rw [upd_ne (ne_of hb h (by intro z; cases z))]; exact hb) (Tps.updL h r)
end L2
namespace L2
open PySem PySem.Spec PyProof.Rows
section
variable {X : Cx} {e : Expr} {es : List Expr} {t : TA} {p pos : Pos} {K : PySem.W.Frag} {o : Expr} {to : TE} {apos cpos : Pos}
end
end L2
namespace L2
open PySem
end L2
set_option Elab.async false
set_option linter.all false
set_option maxRecDepth 100000
set_option maxHeartbeats 4000000
namespace L2
open PySem PySem.Spec PyProof.Rows
section
variable {X : Cx} {pins : List (Addr × Obj)} {σ : St} {H : Hp} {s : Shared}
end
section
variable {X : Cx}
end
end L2
set_option Elab.async false
set_option linter.all false
set_option maxRecDepth 100000
set_option maxHeartbeats 4000000
namespace L2
open PySem PySem.Spec PyProof.Rows
section
variable {M : Model} {A : Around} {E : Value → Shared → Prop} {s : Shared}
end
section
variable {X : Cx} {x : Str} {nv : List Str} {ix : List (Str × Nat)} {scope : Scope} {pins : List (Addr × Obj)} {σ : St} {H : Hp} {s : Shared}
end
section
variable {X : Cx} {x : Str} {nv : List Str} {ix : List (Str × Nat)} {scope : Scope} {pins : List (Addr × Obj)} {σ : St} {H : Hp} {s : Shared} {elt tg iter : Expr} {ifs : List Expr} {pos : Pos}
end
end L2
namespace L2
open PySem PySem.Spec PyProof.Rows
section
variable {X : Cx} {K : PySem.W.Frag}
end
end L2
set_option Elab.async false
set_option linter.all false
set_option maxRecDepth 100000
set_option maxHeartbeats 4000000
namespace L2
open PySem PySem.Spec PyProof.Rows
section
variable {prog : Program} {w : World} {A : Around} {E : Value → Shared → Prop} {s : Shared}
end
section
variable {X : Cx} {pins : List (Addr × Obj)} {σ : St} {H : Hp} {s : Shared}
noncomputable def rngO (p : Addr) (i j c : Int) : HO := .ext fun h => ∃ t u v, IsRange h p i j c t u v
theorem rng_laid {pins : List (Addr × Obj)} {σ : St} {H : Hp} {s : Shared} {i j c : Int} {t u v : Tok} {tk : Nat} (I : Inv X pins σ H s) : Inv X pins σ (upd H s.heap.objs.size (rngO s.heap.objs.size i j c)) { s with heap := s.heap.push { cls := .type "range", data := .fields #[.int i t, .int j u, .int c v] }, toks := tk } := by
  refine I.laid (fun b o e => Heap.get?_push_of_some _ e) (Nat.le_refl _) ⟨⟨t, u, v, IsRange.new ..⟩, ⟨_, Heap.get?_push_size _ rfl⟩, ?_⟩
  rintro h1 h2 ⟨t, u, v, e⟩ k
  exact ⟨t, u, v, k _ e⟩
noncomputable def rRng : List V → Hp → VK → Prop := fun vs H1 Q => match vs with
  | [.int i, .int j] => ∀ p, H1 p = none → Q (.ref p) (upd H1 p (rngO p i j 1))
  | [.int i, .int j, .int c] => (c ≠ 0 ∧ c < 2 ^ 29 ∧ -(2 ^ 29) < c) ∧ ∀ p, H1 p = none → Q (.ref p) (upd H1 p (rngO p i j c))
  | _ => False
theorem call_rng : CallR X (.type "range") rRng := by
  intro pins s σ H xs us Q I r h
  unfold rRng at h
  split at h
  · obtain ⟨u1, u2, rfl, ⟨t1, rfl⟩, t2, rfl⟩ := vals2 r
    exact call_range_2 ⟨.ref s.heap.objs.size, _, rng_laid I, rfl, h _ (I.hok.fresh (Nat.le_refl _))⟩
  · obtain ⟨⟨h1, h2, h3⟩, q⟩ := h
    cases r with
    | cons a1 r =>
      cases r with
      | cons a2 r =>
        cases r with
        | cons a3 r =>
          cases r
          obtain ⟨t1, rfl⟩ := a1
          obtain ⟨t2, rfl⟩ := a2
          obtain ⟨t3, rfl⟩ := a3
          exact PySem.call_range_3 h1 ⟨.ref s.heap.objs.size, _, rng_laid I, rfl, q _ (I.hok.fresh (Nat.le_refl _))⟩ (Or.inl (PyProof.noPylong_small (by omega)))
  · exact h.elim
theorem vals_of_items {F : Nat → Int} : ∀ (n : Nat) {us : List Value}, us.length = n → (∀ (j : Nat) (v : Value), us[j]? = some v → ∃ t, v = .int (F j) t) → Vals (((List.range n).map F).map V.int) us := by
  intro n us hl h
  have : ∀ (us : List Value) (G : Nat → Int), (∀ (j : Nat) (v : Value), us[j]? = some v → ∃ t, v = .int (G j) t) → Vals (((List.range us.length).map G).map V.int) us := by
    intro us
    induction us with
    | nil => intro G _; exact .nil
    | cons u r ih =>
      intro G hG
      rw [List.length_cons, List.range_succ_eq_map, List.map_cons, List.map_cons]
      refine .cons (hG 0 u rfl) ?_
      have := ih (fun j => G (j + 1)) fun j v e => hG (j + 1) v (by simpa using e)
      have e : ((List.range r.length).map Nat.succ).map G = (List.range r.length).map (fun j => G (j + 1)) := by rw [List.map_map]; rfl
      rw [e]
      exact this
  have := this us F h
  rw [hl] at this
  exact this
variable {e : Expr} {es : List Expr} {t : TA} {p pos : Pos}
theorem pcb_range (hg : Gl X "range") (hm : X.mg "range" = none) (ha : PA X (e :: es) t) (he : starEach (e :: es) X.env = (false, eval e X.env) :: starEach es X.env) (hpl : (backTo pos (starEach es X.env)).any (·.1) = false) :
    PE X (.Call (.Name "range" p) (e :: es) [] pos) (tCB rRng t) := pe_callTy call_rng hg hm boot_range ha (by decide) (by decide) he hpl
theorem zcb_range (hg : Gl X "range") (hm : X.mg "range" = none) (ha : ZA X (e :: es) t) (he : starEach (e :: es) X.env = (false, eval e X.env) :: starEach es X.env) (hpl : (backTo pos (starEach es X.env)).any (·.1) = false) :
    ZE X (.Call (.Name "range" p) (e :: es) [] pos) (tCB rRng t) := by with_unfolding_all exact pcb_range hg hm ha he hpl
end
end L2
set_option Elab.async false
set_option linter.all false
set_option maxRecDepth 100000
set_option maxHeartbeats 4000000
namespace L2
open PySem PySem.Spec PyProof.Rows
section
variable {prog : Program} {w : World} {A : Around} {E : Value → Shared → Prop} {s : Shared}
end
section
variable {prog : Program} {w : World} {A : Around} {E : Value → Shared → Prop} {s : Shared}
end
section
variable {X : Cx} {pins : List (Addr × Obj)} {σ : St} {H : Hp} {s : Shared}
theorem kpg_two {K : PySem.W.Frag} {x y : Str} : KpG [x, y] (gTup K 2 (gCons (gName 0) (gCons (gName 1) gNil))) := fun fr v H Q h => by
  obtain ⟨a, xs, e, hq, hl, v1, r1, e1, v2, r2, e2, e3, q⟩ := h
  refine ⟨a, xs, e, hq, hl, v1, r1, e1, v2, r2, e2, e3, ⟨by simp, fun i w e => ?_⟩, q⟩
  match i, e with
  | 0, e => cases e
  | 1, e => cases e
  | i + 2, e => exact e
end
end L2
set_option Elab.async false
set_option linter.all false
set_option maxRecDepth 100000
set_option maxHeartbeats 4000000
namespace L2
open PySem PySem.Spec PyProof.Rows
section
variable {X : Cx}
variable {e : Expr} {es : List Expr} {t : TA} {p pos : Pos}
variable {o : Expr} {to : TE} {apos cpos : Pos}
end
end L2
set_option Elab.async false
set_option linter.all false
set_option maxRecDepth 100000
set_option maxHeartbeats 4000000
namespace MXD
open PySem
section
variable {prog : Program} {w : World} {A : Around} {R : Result → Shared → Prop} {I : Addr} {fp wr : List Addr} {n : Nat} {P : Nat → Value → Prop} {St : Nat → Heap → Prop}
end
section
variable {prog : Program} {w : World} {A : Around} {E : Value → Shared → Prop} {s : Shared}
end
end MXD
namespace L2
open PySem PySem.Spec PyProof.Rows
section
variable {X : Cx}
variable {e : Expr} {es : List Expr} {t : TA} {p pos : Pos}
variable {o : Expr} {to : TE} {apos cpos : Pos}
end
end L2
set_option Elab.async false
set_option linter.all false
set_option maxRecDepth 100000
set_option maxHeartbeats 4000000
namespace L2
open PySem PySem.Spec PyProof.Rows
section
variable {X : Cx} {e : Expr} {es : List Expr} {t : TA} {p pos : Pos}
end
end L2
set_option Elab.async false
set_option linter.all false
set_option maxRecDepth 100000
set_option maxHeartbeats 4000000
namespace L2
open PySem PySem.Spec PyProof.Rows
theorem fresh_back {H H' : Hp} {p : Addr} (y : Same H H') (h : H' p = none) : H p = none := by
  cases e : H p with
  | none => rfl
  | some o =>
    have := y _ _ e
    rw [h] at this
    cases this
theorem small6k {n : Nat} (h : n ≤ 6000) : n < sizeLine := by rw [sizeLine_eq]; omega
theorem line6k {n : Nat} (h : n ≤ 6000) : n ≤ sizeLine := Nat.le_of_lt (small6k h)
noncomputable def tD (ls : List Int) : PyData := .tuple (ls.map PyData.int)
noncomputable def ttD (lss : List (List Int)) : PyData := .tuple (lss.map tD)
theorem Tps.all {H : Hp} : ∀ {us lss}, Tps H us lss → DatAll H us (lss.map tD)
  | _, _, .nil => .nil
  | _, _, .cons h r => .cons (.ints h) (Tps.all r)
theorem Tps.dtt {H : Hp} {r : Addr} {us lss} (e : H r = some (.tup us)) (h : Tps H us lss) : DatV H (.ref r) (ttD lss) := .tup e (Tps.all h)
theorem can_tt : ∀ lss : List (List Int), PyData.canLayAll0 (lss.map tD) = true ∧ PyData.depthAll (lss.map tD) ≤ 2
  | [] => ⟨by simp [PyData.canLayAll0], by simp [PyData.depthAll]⟩
  | ls :: r => by
    obtain ⟨h1, h2⟩ := can_tt r
    obtain ⟨g1, g2⟩ := canInts ls
    refine ⟨by simp only [List.map_cons, PyData.canLayAll0, tD, PyData.canLay0, g1, Bool.true_and]; exact h1, ?_⟩
    simp only [List.map_cons, PyData.depthAll, tD, PyData.depth]
    exact Nat.max_le.mpr ⟨by omega, h2⟩
theorem shaped_tt (lss : List (List Int)) : SeqAt.shaped (ttD lss) = true := by
  obtain ⟨h1, h2⟩ := can_tt lss
  unfold SeqAt.shaped
  rw [Bool.and_eq_true]
  exact ⟨by simp only [ttD, PyData.canLay0]; exact h1, decide_eq_true (by simp only [ttD, PyData.depth]; omega)⟩
end L2
set_option Elab.async false
set_option linter.all false
set_option maxRecDepth 100000
set_option maxHeartbeats 4000000
namespace L2
open PySem PySem.Spec PyProof.Rows
section
variable {X : Cx} {e : Expr} {es : List Expr} {t : TA} {p pos : Pos} {o : Expr} {to : TE} {apos cpos : Pos}
end
end L2
set_option Elab.async false
set_option linter.all false
set_option maxRecDepth 100000
set_option maxHeartbeats 4000000
namespace K10
open PySem L2 MP M05
section
variable {P : Program} {w : World} {K : PySem.W.Frag} {mg : Str → Option Value} {base : Heap} {f : Addr} {fd : FuncData}
noncomputable def sp_pb : Nat → Sp
  | 0 => fun _ _ _ _ => False
  | N + 1 => fun vs H Q _ => ∃ n m : Nat, vs = [.int n, .int m] ∧ n ≤ N ∧ n ≤ 30 ∧ ∀ F us H', H F = none → Same H H' → H' F = some (.lst us) → Tps H' us (PB n m) → Q (.ref F) H'
theorem sc_pb : FnScope ["n", "most", "told", "first", "behind"] ["n", "most"] (defScope (top 1)) := ⟨rfl, rfl, rfl, by decide +kernel, rfl, by decide +kernel, by decide +kernel⟩
theorem pb_ok (F : Fun K "partings_below" "partings_below" (top 1) f fd) (m_min : mg "min" = none) (m_range : mg "range" = none) (b : Binds K fd ["n", "most"] []) (kp : PySem.W.keepIn K (.ref f) = true) (m : mg "partings_below" = some (.ref f)) : ∀ N, FnOk P w K mg base CX0 N f fd ["n", "most"] (sp_pb N)
  | 0 => ⟨fun _ _ _ _ h => h.elim, fun _ _ _ _ _ _ _ _ _ _ _ _ _ h => h.elim⟩
  | N + 1 => by
    have F_partings_below : FnA P w K mg base "partings_below" N ["n", "most"] (sp_pb N) := ⟨⟨f, fd, pb_ok F m_min m_range b kp m N, b, kp, m⟩⟩
    refine F.okz sc_pb (fun vs H Q E h => ?_) (fun cdv A outer s H vs Q E hr h => ?_)
    · obtain ⟨n, m, rfl, _⟩ := h; rfl
    obtain ⟨n, m, rfl, hN, hn, q⟩ := h
    have nd := sc_pb.nd
    have hu := hr.units
    refine ⟨_, (zss_cons (zs_if (zt_cmpP (op_eqD hu) (zn 0) ze_int (nomark _)) (zss_one (zs_ret (ze_lst (za_cons (ze_tup za_nil) za_nil)))) zss_nil)
      (zss_cons (zs_set (i := 2) nd rfl (Or.inl rfl) (ze_lst za_nil))
      (zss_cons (zs_for PassesOwn.never rfl (zi_range2 rfl m_range (za_cons ze_int (za_cons (ze_op op_addP (zcb_min rfl rfl m_min (za_cons (zn 0) (za_cons (zn 1) za_nil)) rfl rfl) ze_int) za_nil))) (zg_name (i := 3) nd rfl (Or.inl rfl)) (zss_one (zs_for PassesOwn.never rfl (zi_list (ze_fn F_partings_below hr (Nat.le_refl _) rfl (za_cons (ze_op op_subP (zn 0) (zn 3)) (za_cons (zn 3) za_nil)))) (zg_name (i := 4) nd rfl (Or.inl rfl)) (zss_one (zs_expr (zm_append (zn 2) (za_cons (ze_op op_addP (ze_tup (za_cons (zn 3) za_nil)) (zn 4)) za_nil)))))))
      (zss_one (zs_ret (zn 2)))))), ?_⟩
    refine iteD (fun c => ?_) (fun c => ?_)
    · have e0 : n = 0 := by have := V.int.inj c; omega
      subst e0
      refine ⟨by show 0 ≤ sizeLine; decide, fun t ht => ?_⟩
      have y1 := Same.new ht (.tup [])
      refine ⟨by show 1 ≤ sizeLine; decide, fun L hL => ?_⟩
      refine q L [.ref t] _ (fresh_back y1 hL) (y1.trans (Same.new hL _)) upd_same ?_
      rw [PB_zero]
      exact .cons (ls := []) (Same.new hL _ _ _ upd_same) .nil
    · have e0 : n ≠ 0 := fun z => c (by show V.int (n : Int) = V.int 0; rw [z]; rfl)
      obtain ⟨N', rfl⟩ : ∃ N', N = N' + 1 := ⟨N - 1, by omega⟩
      refine ⟨by show 0 ≤ sizeLine; decide, fun L hL => ?_⟩
      have yL := Same.new hL (.lst [])
      have gL : upd H L (.lst []) L = some (.lst []) := upd_same
      generalize upd H L (.lst []) = H1 at yL gL
      have em : (if (m : Int) < (n : Int) then (m : Int) else (n : Int)) = ((min n m : Nat) : Int) := by split <;> omega
      have hl2 : 6000 < sizeLine := small6k (Nat.le_refl _)
      refine ⟨1, ((min n m : Nat) : Int) + 1, by rw [← em], ⟨by omega, by omega, by omega, by omega⟩, ?_⟩
      have eN : (((min n m : Nat) : Int) + 1 - 1).toNat = min n m := by omega
      rw [eN]
      refine for_range (fun i σ H' => i ≤ min n m ∧ Same H H' ∧ ∃ us x3 x4, H' L = some (.lst us) ∧ Tps H' us (bs n i) ∧ σ = [some (.int n), some (.int m), some (.ref L), x3, x4]) ⟨Nat.zero_le _, yL, [], none, none, gL, .nil, rfl⟩ ?_ ?_
      · rintro i σ H2 hi ⟨_, y2, us, x3, x4, hL2, tp2, rfl⟩
        have e1 : (n : Int) - (1 + (i : Int)) = ((n - (i + 1) : Nat) : Int) := by omega
        have e2 : (1 : Int) + (i : Int) = ((i + 1 : Nat) : Int) := by omega
        refine ⟨n - (i + 1), i + 1, by dsimp only; rw [e1, e2], by omega, by omega, fun B vs H3 hB y3 hB3 tpB => ?_⟩
        have BL : B ≠ L := fun z => by rw [z, hL2] at hB; cases hB
        have hL3 := y3 _ _ hL2
        have tp3 := tp2.same y3
        have z3 := y2.trans y3
        have lvs := tpB.length
        refine ⟨B, rfl, ⟨_, SqL.of hB3⟩, for_list (xs := vs) (fun j σ H' => j ≤ vs.length ∧ Same H H' ∧ H' B = some (.lst vs) ∧ Tps H' vs (PB (n - (i + 1)) (i + 1)) ∧ ∃ us x4, H' L = some (.lst us) ∧ Tps H' us (bs n i ++ (blk n i).take j) ∧ σ = [some (.int n), some (.int m), some (.ref L), some (.int (1 + (i : Int))), x4]) ⟨Nat.zero_le _, z3, hB3, tpB, us, x4, hL3, by rw [List.take_zero, List.append_nil]; exact tp3, rfl⟩ ?_ ?_ ?_⟩
        · rintro j σ H' _ ⟨_, _, h, _⟩
          exact SqL.of h
        · rintro j z σ H4 hz ⟨_, y4, hB4, tpB4, us4, x4', hL4, tp4, rfl⟩
          have hj : j < vs.length := (List.getElem?_eq_some_iff.mp hz).1
          obtain ⟨ls, b', hls, rfl, hb'⟩ := tpB4.get hz
          refine ⟨tyL hL4, ?_⟩
          refine ⟨by show 1 ≤ sizeLine; decide, fun d hd => ?_⟩
          have yd := Same.new hd (.tup [V.int (1 + (i : Int))])
          have gd : upd H4 d (.tup [V.int (1 + (i : Int))]) d = some (.tup [V.int (1 + (i : Int))]) := upd_same
          have hB5 := yd _ _ hB4
          have tpB5 := tpB4.same yd
          have hL5 := yd _ _ hL4
          have tp5 := tp4.same yd
          have hb5 := yd _ _ hb'
          have z5 := y4.trans yd
          generalize upd H4 d (.tup [V.int (1 + (i : Int))]) = H5 at yd gd hB5 tpB5 hL5 tp5 hb5 z5
          have lls := (PB_pos _ _ _ (Nat.le_refl _) ls (List.mem_of_getElem? hls)).2.1
          refine .inr ⟨_, _, gd, hb5, Nat.le_trans (show 1 + (ls.map V.int).length ≤ 1000 by rw [List.length_map]; omega) (by rw [sizeLine_eq]; omega), fun r H6 y6 hr6 => ?_⟩
          have hL6 := y6 _ _ hL5
          have tp6 := tp5.same y6
          have l6 := tp6.length
          have hbl : (bs n i ++ (blk n i).take j).length < 6000 := by
            have h1 := bs_len30 (n := n) (k := i + 1) hn (by omega) e0
            rw [bs_succ, List.length_append, blk_len] at h1
            rw [List.length_append, List.length_take, blk_len]
            omega
          refine ⟨us4, hL6, by omega, ?_⟩
          have hr7 : H6 r = some (.tup (((((i + 1 : Nat) : Int)) :: ls).map V.int)) := by rw [hr6, e2]; rfl
          refine ⟨by omega, Same.updN (z5.trans y6) hL, by rw [upd_ne BL]; exact y6 _ _ hB5, (tpB5.same y6).updL hL6, us4 ++ [.ref r], _, upd_same, ?_, rfl⟩
          have eb : (blk n i)[j]? = some (((i + 1 : Nat) : Int) :: ls) := by unfold blk; rw [List.getElem?_map, hls]; rfl
          rw [List.take_succ, eb, ← List.append_assoc]
          exact Tps.snoc (by rw [upd_ne (ne_of hr7 hL6 (by intro z; cases z))]; exact hr7) (tp6.updL hL6)
        · rintro σ H4 ⟨_, y4, hB4, tpB4, us4, x4', hL4, tp4, rfl⟩
          refine ⟨by omega, y4, us4, _, _, hL4, ?_, rfl⟩
          rw [bs_succ]
          rw [List.take_of_length_le (by rw [blk_len, lvs]; exact Nat.le_refl _)] at tp4
          exact tp4
      · rintro σ H2 ⟨_, y2, us, x3, x4, hL2, tp2, rfl⟩
        refine q L us H2 hL y2 hL2 ?_
        rw [PB_eq e0]
        exact tp2
theorem ok_pb (N : Nat) (F : Fun K "partings_below" "partings_below" (top 1) f fd) (m_min : mg "min" = none) (m_range : mg "range" = none) (b : Binds K fd ["n", "most"] []) (kp : PySem.W.keepIn K (.ref f) = true) (m : mg "partings_below" = some (.ref f)) : FnOk P w K mg base CX0 N f fd ["n", "most"] (sp_pb N) := pb_ok F m_min m_range b kp m N
theorem sc_ps : FnScope ["n"] ["n"] (defScope (top 2)) := ⟨rfl, rfl, rfl, by decide +kernel, rfl, by decide +kernel, by decide +kernel⟩
noncomputable def sp_ps : Sp := fun vs H Q _ => ∃ n : Nat, vs = [.int n] ∧ n ≤ 30 ∧ ∀ F us H', Same H H' → H' F = some (.tup us) → Tps H' us (PB n n) → Q (.ref F) H'
theorem ok_ps (F : Fun K "partings" "partings" (top 2) f fd) (m_tuple : mg "tuple" = none) (F_partings_below : FnA P w K mg base "partings_below" 31 ["n", "most"] (sp_pb 31)) : FnOk P w K mg base CX0 32 f fd ["n"] sp_ps := by
  refine F.okz sc_ps (fun vs H Q E h => ?_) (fun cdv A outer s H vs Q E hr h => ?_)
  · obtain ⟨n, rfl, _⟩ := h; rfl
  obtain ⟨n, rfl, hn, q⟩ := h
  have nd := sc_ps.nd
  refine ⟨_, (zss_one (zs_ret (zcb_tuple rfl m_tuple (za_cons (ze_fn F_partings_below hr (by decide) rfl (za_cons (zn 0) (za_cons (zn 0) za_nil))) za_nil) rfl rfl))), ?_⟩
  refine ⟨n, n, rfl, hn, hn, fun L us H1 hL y1 hL1 tp => ?_⟩
  refine ⟨us, .inl (SqL.of hL1), fun r H2 y2 hr2 => ?_⟩
  exact q r us H2 (y1.trans y2) hr2 (tp.same y2)
end
end K10
set_option Elab.async false
set_option linter.all false
set_option maxRecDepth 100000
set_option maxHeartbeats 4000000
namespace SRV
open PySem PySem.W PySem.Calls
open PyProof.Rows hiding K SortedTo K_bubble K_mirror K_congr K_mirror_equal
section
variable {prog : Program} {w : World} {A : Around} {E : Value → Shared → Prop} {s : Shared}
theorem TI.keep {h h' : Heap} {v : Value} {ns : List Int} (t : TI h v ns) (k : ∀ a o, v = .ref a → h.get? a = some o → h'.get? a = some o) : TI h' v ns := by
  obtain ⟨a, o, its, n, rfl, ho, hc, hd, hI⟩ := t
  exact ⟨a, o, its, n, rfl, k a o rfl ho, hc, hd, hI⟩
noncomputable def Up (h : Heap) (u v : Value) : Prop := lexb (datOf h v) (datOf h u) = false
theorem t_sort {a : Addr} {vs : List Value} {n : Nat} {P : Fin → Shared → Prop} (hA : s.heap.get? a = some (seqObj "list" vs.toArray n)) (hT : ∀ v ∈ vs, ∃ ns, TI s.heap v ns) (hne : ∀ v ∈ vs, v ≠ .ref a) (hN : 2 ≤ vs.length → ∀ v ∈ vs, datOf s.heap v ≠ []) (hz : vs.length ≤ sizeLine)
    (h : ∀ o : List Value, o.Perm vs → o.Pairwise (Up s.heap) → P (.done (.ret .none)) { s with heap := sortedHeap s.heap a vs (List.toArray o) }) : wpAny (model prog w) A (Builtin.«list.sort» ⟨[.ref a], []⟩) P E s := by
  rw [SRT.plain_core]
  refine SRT.w_start hA hz fun s' e1 e hA' => ?_
  have keep : ∀ v ∈ vs, ∀ ns, TI s.heap v ns → TI s'.heap v ns := fun v hv ns t => t.keep fun b o eb ho => by
    subst e
    have hb : b ≠ a := fun x => hne v hv (by rw [eb, x])
    refine Heap.get?_push_of_some _ (Heap.get?_push_of_some _ ?_)
    rw [Heap.get?_update_ne _ _ _ _ hb]
    exact ho
  have dat : ∀ v ∈ vs, datOf s'.heap v = datOf s.heap v := fun v hv => by
    obtain ⟨ns, t⟩ := hT v hv
    rw [t.dat, (keep v hv ns t).dat]
  refine t_core hA' (fun v hv => ?_) (fun h2 v hv => ?_) hz fun o p1 p2 => ?_
  · obtain ⟨ns, t⟩ := hT v hv
    exact ⟨ns, keep v hv ns t⟩
  · rw [dat v hv]
    exact hN h2 v hv
  · have p3 : o.Pairwise (Up s.heap) := p2.imp_of_mem fun {u v} hu hv g => by
      unfold Up
      rw [← dat v (p1.mem_iff.mp hv), ← dat u (p1.mem_iff.mp hu)]
      exact g
    have := h o p1 p3
    subst e
    exact this
theorem t_sorted {l : Addr} {vs : List Value} {o : Obj} {T : String} {n : Nat} {Q : Value → Shared → Prop} (ho : s.heap.get? l = some o) (hc : o.cls = .type T) (hd : o.data = .seq vs.toArray n) (hT : T = "list" ∨ T = "tuple") (hI : ∀ v ∈ vs, ∃ ns, TI s.heap v ns) (hN : 2 ≤ vs.length → ∀ v ∈ vs, datOf s.heap v ≠ []) (hz : vs.length ≤ sizeLine)
    (h : ∀ r : List Value, r.Perm vs → r.Pairwise (Up s.heap) → Q (.ref (s.heap.objs.size + 1)) { s with heap := sortedAll s.heap vs (List.toArray r) }) : wpAny (model prog w) A (call (.builtin "sorted") [.ref l]) Q E s := by
  refine call_function_entry kind_sorted plain_sorted entry_sorted (args_sorted1 _) ?_
  unfold Builtin.«sorted»
  refine wpAny_bind (m := checkCount "sorted" 1 1 _) (wpAny_pure (wpAny_bind (SRT.w_collect ho hc hd hT hz (wpAny_bind (wpAny_newList ?_ ?hs)))))
  case hs => exact hz
  generalize hG : (s.heap.push (seqObj "list" #[] 0)).update s.heap.objs.size (Obj.mapSeq (· ++ vs.toArray)) = G
  have sG : G.objs.size = s.heap.objs.size + 1 := by rw [← hG, Heap.size_update, size_push']
  have old : ∀ b ob, s.heap.get? b = some ob → G.get? b = some ob := fun b ob e => by
    rw [← hG, Heap.get?_update_ne _ _ _ _ (Nat.ne_of_lt (Heap.lt_size e))]
    exact Heap.get?_push_of_some _ e
  have hL : (G.push (seqObj "list" vs.toArray 0)).get? (s.heap.objs.size + 1) = some (seqObj "list" vs.toArray 0) := by rw [← sG]; exact Heap.get?_push_size _ rfl
  show wpAny _ _ _ _ _ { s with heap := G.push (seqObj "list" vs.toArray 0) }
  rw [show ({ s with heap := G } : Shared).heap.objs.size = s.heap.objs.size + 1 from sG]
  have keep : ∀ v ns, TI s.heap v ns → TI (G.push (seqObj "list" vs.toArray 0)) v ns := fun v ns t => t.keep fun b o _ e => Heap.get?_push_of_some _ (old b o e)
  have dat : ∀ v ∈ vs, datOf (G.push (seqObj "list" vs.toArray 0)) v = datOf s.heap v := fun v hv => by
    obtain ⟨ns, t⟩ := hI v hv
    rw [t.dat, (keep v ns t).dat]
  refine wpAny_bind (wpAny_holding (wpAny_call_entry slot_list_sort ⟨_, hL, rfl⟩ entry_list_sort (t_sort hL (fun v hv => ?_) (fun v hv => ?_) (fun h2 v hv => ?_) hz fun r g1 g2 => ⟨_, rfl, wpAny_pure ⟨_, rfl, ?_⟩⟩) (args_list_sort _)))
  · obtain ⟨ns, t⟩ := hI v hv
    exact ⟨ns, keep v ns t⟩
  · intro e
    obtain ⟨ns, b, ob, its, k, e2, e3, _⟩ := hI v hv
    rw [e2] at e
    cases e
    exact absurd (Heap.lt_size e3) (Nat.not_lt.mpr (Nat.le_succ _))
  · have := hN h2 v hv
    rw [← dat v hv] at this
    exact this
  · have g3 : r.Pairwise (Up s.heap) := g2.imp_of_mem fun {u v} hu hv g => by
      unfold Up at g ⊢
      rw [← dat v (g1.mem_iff.mp hv), ← dat u (g1.mem_iff.mp hu)]
      exact g
    have := h r g1 g3
    unfold sortedAll at this
    rw [hG] at this
    exact this
end
end SRV
namespace L2
open PySem PySem.Spec PyProof.Rows
section
variable {X : Cx}
noncomputable def rSortT (K : PySem.W.Frag) : List V → Hp → VK → Prop := fun xs H Q => match xs with
  | [.ref p] => ∃ ps : List (Addr × List Int), SqL K H p (ps.map fun q => V.ref q.1) ∧ (∀ q ∈ ps, H q.1 = some (.tup (q.2.map V.int))) ∧ (2 ≤ ps.length → ∀ q ∈ ps, q.2 ≠ []) ∧ ∀ l ps', H l = none → List.Perm ps' ps → ps'.Pairwise (fun a b => SRV.lexb b.2 a.2 = false) → Q (.ref l) (upd H l (.lst (ps'.map fun q => V.ref q.1)))
  | _ => False
theorem vals_rfs : ∀ {ps : List (Addr × List Int)} {its : List Value}, Vals (ps.map fun q => V.ref q.1) its → its = ps.map fun q => Value.ref q.1
  | [], _, .nil => rfl
  | _ :: _, _, .cons h r => by rw [List.map_cons, ← vals_rfs r]; cases h; rfl
theorem rfs_vals : ∀ (ps : List (Addr × List Int)), Vals (ps.map fun q => V.ref q.1) (ps.map fun q => Value.ref q.1)
  | [] => .nil
  | _ :: ps => .cons rfl (rfs_vals ps)
theorem call_sortT : CallR X (.builtin "sorted") (rSortT X.K) := by
  intro pins s σ H xs us Q I r h
  unfold rSortT at h
  split at h
  · rename_i p
    obtain ⟨ps, hq, hd, hne, q⟩ := h
    obtain ⟨u, rfl, rx⟩ := vals1 r
    cases rx
    obtain ⟨its, rv, pl, hz⟩ := I.list hq
    obtain ⟨o, ho, hc, n, hdd⟩ := id pl.isList
    obtain rfl := vals_rfs rv
    have ti : ∀ x ∈ ps, SRV.TI s.heap (.ref x.1) x.2 := fun x hx => by
      obtain ⟨its, rv, pl, hz⟩ := I.tuple (SqT.of (hd x hx))
      obtain ⟨o, ho, hc, n, hdd⟩ := id pl
      exact ⟨_, o, its, n, rfl, ho, hc, hdd, intsAre_of rv⟩
    have hz2 : ps.length ≤ sizeLine := by rw [List.length_map] at hz; exact hz
    refine SRV.t_sorted ho hc hdd (.inl rfl) (fun v hv => ?_) (fun h2 v hv => ?_) (by rw [List.length_map]; exact hz2) fun out a1 a2 => ?_
    · obtain ⟨x, hx, rfl⟩ := List.mem_map.mp hv
      exact ⟨_, ti x hx⟩
    · obtain ⟨x, hx, rfl⟩ := List.mem_map.mp hv
      rw [(ti x hx).dat]
      exact hne (by rw [List.length_map] at h2; exact h2) x hx
    · let g : Value → Addr × List Int := fun v => match v with
        | .ref a => (a, SRV.datOf s.heap (.ref a))
        | _ => (0, [])
      have gr : ∀ x ∈ ps, g (.ref x.1) = x := fun x hx => by
        show (x.1, SRV.datOf s.heap (.ref x.1)) = x
        rw [(ti x hx).dat]
      have perm : (out.map g).Perm ps := by
        have := a1.map g
        rw [List.map_map] at this
        rw [show ps.map (g ∘ fun q => Value.ref q.1) = ps from by
          have : ps.map (g ∘ fun q => Value.ref q.1) = ps.map id := List.map_congr_left fun x hx => gr x hx
          rw [this, List.map_id]] at this
        exact this
      have back : out = (out.map g).map fun q => Value.ref q.1 := by
        rw [List.map_map]
        have : out.map ((fun q => Value.ref q.1) ∘ g) = out.map id := List.map_congr_left fun v hv => by
          obtain ⟨x, hx, rfl⟩ := List.mem_map.mp (a1.mem_iff.mp hv)
          show Value.ref (g (.ref x.1)).1 = _
          rw [gr x hx]
          rfl
        rw [this, List.map_id]
      have up : (out.map g).Pairwise (fun a b => SRV.lexb b.2 a.2 = false) := by
        rw [List.pairwise_map]
        refine a2.imp_of_mem fun {u v} hu hv h => ?_
        obtain ⟨x, hx, rfl⟩ := List.mem_map.mp (a1.mem_iff.mp hu)
        obtain ⟨y, hy, rfl⟩ := List.mem_map.mp (a1.mem_iff.mp hv)
        exact h
      generalize out.map g = qs at perm back up
      subst back
      obtain ⟨e, he⟩ := sortedAll_at s.heap (ps.map fun q => Value.ref q.1) (List.toArray (qs.map fun q => Value.ref q.1))
      refine ⟨.ref (s.heap.objs.size + 1), _, I.laid (t' := s.toks) (a := s.heap.objs.size + 1) (o := .lst (qs.map fun q => V.ref q.1)) (fun c ob q => sortedAll_old q) (Nat.le_succ _) ?_, rfl, q _ qs (I.hok.fresh (Nat.le_succ _)) perm up⟩
      refine ⟨?_, _, e, rfs_vals qs, he⟩
      rw [List.length_map, perm.length_eq]
      exact hz2
  · exact h.elim
variable {e : Expr} {es : List Expr} {t : TA} {p pos : Pos}
theorem pcb_sortT (hg : Gl X "sorted") (hm : X.mg "sorted" = none) (ha : PA X (e :: es) t) (he : starEach (e :: es) X.env = (false, eval e X.env) :: starEach es X.env) (hpl : (backTo pos (starEach es X.env)).any (·.1) = false) :
    PE X (.Call (.Name "sorted" p) (e :: es) [] pos) (tCB (rSortT X.K) t) := pe_callB call_sortT hg hm boot_sorted' ha (by decide) (by decide) he hpl
theorem zcb_sortT (hg : Gl X "sorted") (hm : X.mg "sorted" = none) (ha : ZA X (e :: es) t) (he : starEach (e :: es) X.env = (false, eval e X.env) :: starEach es X.env) (hpl : (backTo pos (starEach es X.env)).any (·.1) = false) :
    ZE X (.Call (.Name "sorted" p) (e :: es) [] pos) (tCB (rSortT X.K) t) := by with_unfolding_all exact pcb_sortT hg hm ha he hpl
end
end L2
set_option Elab.async false
set_option linter.all false
set_option maxRecDepth 100000
set_option maxHeartbeats 4000000
namespace K10
open PySem L2 M11 M66 M63 M05
noncomputable def TA (H : Hp) (as : List Addr) (xs : List (List Nat)) : Prop := as.length = xs.length ∧ ∀ (j : Nat) a x, as[j]? = some a → xs[j]? = some x → H a = some (.tup ((toI x).map V.int))
theorem TA.keep {H H' : Hp} {as : List Addr} {xs : List (List Nat)} (h : TA H as xs) (k : ∀ a ys, H a = some (.tup ys) → H' a = some (.tup ys)) : TA H' as xs := ⟨h.1, fun j a x e1 e2 => k _ _ (h.2 j a x e1 e2)⟩
theorem TA.same {H H' : Hp} {as : List Addr} {xs : List (List Nat)} (h : TA H as xs) (y : Same H H') : TA H' as xs := h.keep fun a ys e => y _ _ e
theorem TA.app {H : Hp} {as bs : List Addr} {xs ys : List (List Nat)} (h : TA H as xs) (g : TA H bs ys) : TA H (as ++ bs) (xs ++ ys) := by
  refine ⟨by rw [List.length_append, List.length_append, h.1, g.1], fun j a x e1 e2 => ?_⟩
  by_cases hj : j < as.length
  · rw [List.getElem?_append_left hj] at e1
    rw [List.getElem?_append_left (by have := h.1; omega)] at e2
    exact h.2 j a x e1 e2
  · rw [List.getElem?_append_right (by omega)] at e1
    rw [List.getElem?_append_right (by have := h.1; omega), ← h.1] at e2
    exact g.2 _ a x e1 e2
theorem TA.at {H : Hp} {as : List Addr} {xs : List (List Nat)} (h : TA H as xs) {j : Nat} {v : V} (e : (as.map V.ref)[j]? = some v) : ∃ a x, as[j]? = some a ∧ xs[j]? = some x ∧ v = .ref a ∧ H a = some (.tup ((toI x).map V.int)) := by
  rw [List.getElem?_map] at e
  cases ea : as[j]? with
  | none => rw [ea] at e; cases e
  | some a =>
    rw [ea] at e
    have hj := (List.getElem?_eq_some_iff.mp ea).1
    have hx : xs[j]? = some (xs[j]'(by have := h.1; omega)) := List.getElem?_eq_getElem _
    exact ⟨a, _, rfl, hx, (Option.some.inj e).symm, h.2 j a _ ea hx⟩
theorem zip_fst {as : List Addr} {xs : List (List Int)} (h : as.length = xs.length) : (as.zip xs).map (fun q => V.ref q.1) = as.map V.ref := by
  have : (as.zip xs).map (fun q => V.ref q.1) = ((as.zip xs).map Prod.fst).map V.ref := by rw [List.map_map]; rfl
  rw [this, List.map_fst_zip (by omega)]
end K10
namespace M03
noncomputable def cn (ns : List Int) (j : Int) : Nat := ns.countP fun n => decide (j < n)
noncomputable def tab (ns : List Int) (g : Nat) : List Int := (List.range g).map fun (j : Nat) => (cn ns j : Int)
theorem tab_len (ns : List Int) (g : Nat) : (tab ns g).length = g := by unfold tab; rw [List.length_map, List.length_range]
theorem tab_at {ns : List Int} {g j : Nat} (h : j < (tab ns g).length) : (tab ns g)[j] = (cn ns j : Int) := by
  simp [tab]
theorem tab_mem {ns : List Int} {g : Nat} {x : Int} (h : x ∈ tab ns g) : ∃ j, j < g ∧ x = (cn ns (j : Nat) : Int) := by
  unfold tab at h
  obtain ⟨j, hj, rfl⟩ := List.mem_map.mp h
  exact ⟨j, List.mem_range.mp hj, rfl⟩
theorem tab_succ (ns : List Int) (g : Nat) : tab ns (g + 1) = tab ns g ++ [(cn ns g : Int)] := by
  unfold tab; rw [List.range_succ, List.map_append]; rfl
theorem cn_le (ns : List Int) (j : Int) : cn ns j ≤ ns.length := List.countP_le_length
theorem cn_anti (ns : List Int) {i j : Int} (h : i ≤ j) : cn ns j ≤ cn ns i := by
  unfold cn
  refine List.countP_mono_left fun x _ hx => ?_
  have := of_decide_eq_true hx
  exact decide_eq_true (by omega)
theorem cn_at : ∀ {ns : List Int} {j : Int} {i : Nat}, ns.Pairwise (· ≥ ·) → (h : i < ns.length) → (i < cn ns j ↔ j < ns[i])
  | [], _, _, _, h => absurd h (Nat.not_lt_zero _)
  | n :: r, j, i, hp, h => by
    obtain ⟨p1, p2⟩ := List.pairwise_cons.mp hp
    unfold cn
    rw [List.countP_cons]
    by_cases hn : j < n
    · rw [if_pos (decide_eq_true hn)]
      cases i with
      | zero => simp [hn]
      | succ i =>
        have := cn_at (j := j) p2 (i := i) (by simpa using h)
        unfold cn at this
        simp only [List.getElem_cons_succ]
        rw [← this]
        omega
    · rw [if_neg (by simpa using hn)]
      have hz : r.countP (fun n => decide (j < n)) = 0 := by
        rw [List.countP_eq_zero]
        intro x hx
        have := p1 x hx
        simp; omega
      rw [hz]
      have : (n :: r)[i] ≤ n := by
        cases i with
        | zero => exact Int.le_refl _
        | succ i => simp only [List.getElem_cons_succ]; exact p1 _ (List.getElem_mem _)
      omega
theorem cn_zero {ns : List Int} (h : ∀ n ∈ ns, (1 : Int) ≤ n) : cn ns 0 = ns.length := by
  unfold cn
  rw [List.countP_eq_length]
  intro x hx
  have := h x hx
  exact decide_eq_true (by omega)
noncomputable def hd (ns : List Int) : Int := ns.headD 0
theorem hd_max {ns : List Int} (hp : ns.Pairwise (· ≥ ·)) : ∀ n ∈ ns, n ≤ hd ns := by
  cases ns with
  | nil => intro n h; cases h
  | cons a r =>
    intro n h
    rcases List.mem_cons.mp h with rfl | h
    · exact Int.le_refl _
    · exact (List.pairwise_cons.mp hp).1 n h
theorem cn_pos {ns : List Int} (j : Int) (h : j < hd ns) (h0 : 0 ≤ j) : 0 < cn ns j := by
  cases ns with
  | nil => simp [hd] at h; omega
  | cons a r =>
    unfold cn
    rw [List.countP_cons, if_pos (decide_eq_true (show j < a from h))]
    omega
noncomputable def tn (ns : List Int) : List Int := tab ns (hd ns).toNat
theorem tn_ge1 {ns : List Int} : ∀ x ∈ tn ns, (1 : Int) ≤ x ∧ x ≤ ns.length := fun x hx => by
  obtain ⟨j, hj, rfl⟩ := tab_mem hx
  have := cn_pos (ns := ns) j (by omega) (by omega)
  have := cn_le ns j
  omega
theorem tab_pw (ns : List Int) : ∀ g, (tab ns g).Pairwise (· ≥ ·)
  | 0 => by simp [tab]
  | g + 1 => by
    rw [tab_succ, List.pairwise_append]
    refine ⟨tab_pw ns g, by simp, fun a ha b hb => ?_⟩
    obtain ⟨j, hj, rfl⟩ := tab_mem ha
    have : b = (cn ns g : Int) := by simpa using hb
    subst this
    have := cn_anti ns (i := j) (j := g) (by omega)
    show ((cn ns g : Nat) : Int) ≤ _
    omega
theorem tn_pw (ns : List Int) : (tn ns).Pairwise (· ≥ ·) := tab_pw ns _
theorem cnt_range (m g : Nat) (h : m ≤ g) : (List.range g).countP (fun (j : Nat) => decide (j < m)) = m := by
  induction g with
  | zero => have : m = 0 := by omega
            subst this; rfl
  | succ g ih =>
    rw [List.range_succ, List.countP_append]
    by_cases hm : m ≤ g
    · rw [ih hm]
      simp; omega
    · have e : m = g + 1 := by omega
      subst e
      have : (List.range g).countP (fun (j : Nat) => decide (j < g + 1)) = (List.range g).length := by
        rw [List.countP_eq_length]
        intro x hx
        have := List.mem_range.mp hx
        exact decide_eq_true (by omega)
      rw [this, List.length_range]
      simp
theorem tn_tn {ns : List Int} (hp : ns.Pairwise (· ≥ ·)) (h1 : ∀ n ∈ ns, (1 : Int) ≤ n) : tn (tn ns) = ns := by
  have hlen : (hd (tn ns)).toNat = ns.length := by
    cases ns with
    | nil => rfl
    | cons a r =>
      have ha := h1 a List.mem_cons_self
      have : 0 < (hd (a :: r)).toNat := by show 0 < a.toNat; omega
      unfold tn hd tab
      have e : (hd (a :: r)).toNat = ((hd (a :: r)).toNat - 1) + 1 := by omega
      show ((List.map (fun (j : Nat) => (cn (a :: r) j : Int)) (List.range (hd (a :: r)).toNat)).headD 0).toNat = _
      rw [e, List.range_succ_eq_map, List.map_cons, List.headD_cons]
      have := cn_zero h1
      have e0 : ((0 : Nat) : Int) = 0 := rfl
      rw [e0, this]
      simp
  refine List.ext_getElem (by show (tab (tn ns) (hd (tn ns)).toNat).length = ns.length; rw [tab_len]; exact hlen) fun i hi1 hi2 => ?_
  have e : (tn (tn ns))[i] = (cn (tn ns) i : Int) := tab_at (ns := tn ns) hi1
  rw [e]
  have hni := h1 _ (List.getElem_mem hi2)
  have hmx := hd_max hp _ (List.getElem_mem hi2)
  have : cn (tn ns) i = ns[i].toNat := by
    unfold cn tn tab
    rw [List.countP_map]
    rw [← cnt_range ns[i].toNat (hd ns).toNat (by omega)]
    refine List.countP_congr fun j _ => ?_
    simp only [Function.comp, decide_eq_true_eq]
    have := cn_at (j := (j : Int)) hp hi2
    omega
  omega
end M03
set_option Elab.async false
set_option linter.all false
set_option maxRecDepth 100000
set_option maxHeartbeats 4000000
namespace K10
open PySem L2 M03
section
variable {P : Program} {w : World} {K : PySem.W.Frag} {mg : Str → Option Value} {base : Heap} {f : Addr} {fd : FuncData}
theorem sc_turned : FnScope ["parting", "told", "many", "greatest", "size"] ["parting"] (defScope (top 4)) := ⟨rfl, rfl, rfl, by decide +kernel, rfl, by decide +kernel, by decide +kernel⟩
noncomputable def sp_turned : Sp := fun vs H Q _ => ∃ (a : Addr) (ns : List Int), vs = [.ref a] ∧ H a = some (.tup (ns.map V.int)) ∧ ns.length ≤ 1000 ∧ (∀ n ∈ ns, (1 : Int) ≤ n ∧ n ≤ 1000) ∧ ns.Pairwise (· ≥ ·) ∧ ∀ r H', Same H H' → H' r = some (.tup ((tn ns).map V.int)) → Q (.ref r) H'
theorem ok_turned (F : Fun K "turned" "turned" (top 4) f fd) (m_len : mg "len" = none) (m_range : mg "range" = none) (m_tuple : mg "tuple" = none) : FnOk P w K mg base CX0 1 f fd ["parting"] sp_turned := by
  refine F.okz sc_turned (fun vs H Q E h => ?_) (fun cdv A outer s H vs Q E hr h => ?_)
  · obtain ⟨a, ns, rfl, _⟩ := h; rfl
  obtain ⟨a, ns, rfl, ha, hl, h1, hpw, q⟩ := h
  have nd := sc_turned.nd
  have hu := hr.units
  have hg0 : 0 ≤ hd ns ∧ hd ns ≤ 1000 := by
    cases ns with
    | nil => exact ⟨by decide, by decide⟩
    | cons n r => have := h1 n List.mem_cons_self; exact ⟨by show 0 ≤ n; omega, this.2⟩
  have rest : ∃ t2, ZSs (cxOf CX0 P w K mg base ["parting", "told", "many", "greatest", "size"] "turned" (defScope (top 4)) f cdv A outer s H E).nox ((defBody (top 4)).drop 3) t2 ∧
      ∀ (H8 : Hp) (t : Addr), H t = none → Same H H8 → H8 t = some (.lst []) → t2 { nx := fun _ H' => Q .non H', rt := Q } [some (.ref a), some (.ref t), some (.int ns.length), some (.int (hd ns)), none] H8 := by
    refine ⟨_, (zss_cons (zs_for PassesOwn.never rfl (zi_range2 rfl m_range (za_cons ze_int (za_cons (ze_op op_addP (zn 3) ze_int) za_nil))) (zg_name (i := 4) nd rfl (Or.inl rfl)) (zss_cons (zs_while PassesOwn.never (zt_cmpP op_ltP (ze_ix ix_P (zn 0) (ze_op op_subP (zn 2) ze_int) (fun _ _ => rfl)) (zn 4) (nomark _)) (zss_one (zs_aug (i := 2) nd rfl (Or.inl rfl) ze_int ip_sub)))
      (zss_one (zs_expr (zm_append (zn 1) (za_cons (zn 2) za_nil))))))
      (zss_one (zs_ret (zcb_tuple rfl m_tuple (za_cons (zn 1) za_nil) rfl rfl)))), ?_⟩
    intro H8 t ht g0 ht8
    refine ⟨1, hd ns + 1, rfl, ⟨by decide, by decide, by omega, by omega⟩, ?_⟩
    have e0 : (hd ns + 1 - 1).toNat = (hd ns).toNat := by omega
    rw [e0]
    refine for_range (fun i σ H' => Same H H' ∧ H' t = some (.lst ((tab ns i).map V.int)) ∧ ∃ m : Int, ∃ pp, σ = [some (.ref a), some (.ref t), some (.int m), some (.int (hd ns)), pp] ∧ (cn ns ((i : Int) - 1) : Int) ≤ m ∧ m ≤ ns.length) ⟨g0, ht8, _, none, rfl, by have := cn_le ns (((0 : Nat) : Int) - 1); omega, Int.le_refl _⟩ ?_ ?_
    · rintro i σ H' hi ⟨y, htt, m, pp, rfl, hm1, hm2⟩
      have hca := cn_anti ns (i := (i : Int) - 1) (j := (i : Int)) (by omega)
      have hcp := cn_pos (ns := ns) (i : Int) (by omega) (by omega)
      refine while_by2 (fun k σ H2 => H2 = H' ∧ ∃ m : Int, k = m.toNat ∧ σ = [some (.ref a), some (.ref t), some (.int m), some (.int (hd ns)), some (.int (1 + (i : Int)))] ∧ (cn ns (i : Int) : Int) ≤ m ∧ m ≤ ns.length) _ ⟨rfl, m, rfl, rfl, by omega, hm2⟩ ?_
      rintro _ σ _ ⟨rfl, m, rfl, rfl, k1, k2⟩
      have hj : m.toNat - 1 < ns.length := by omega
      refine ⟨_, .inr (y _ _ ha), .int ns[m.toNat - 1], atI_of (j := m.toNat - 1) (by omega) (getI hj), ?_⟩
      have key := cn_at (j := (i : Int)) hpw hj
      refine iteD (fun c => ?_) (fun c => ?_)
      · refine ⟨_, fun _ _ z => z, .int m, rfl, m, 1, rfl, rfl, (m - 1).toNat, by omega, rfl, m - 1, rfl, rfl, by omega, by omega⟩
      · have e1 : m = (cn ns (i : Int) : Int) := by omega
        subst e1
        refine ⟨tyL htt, _, htt, ?_, ?_⟩
        · rw [List.length_map, tab_len]; exact small1000 (by omega)
        · refine ⟨Same.updN y ht, ?_, _, _, rfl, ?_, k2⟩
          · rw [upd_same, tab_succ, List.map_append]; rfl
          · have e2 : ((i + 1 : Nat) : Int) - 1 = (i : Int) := by omega
            rw [e2]
            exact Int.le_refl _
    · rintro σ H' ⟨y, htt, m, pp, rfl, _⟩
      refine ⟨_, .inl (SqL.of htt), fun r H2 y2 hr2 => ?_⟩
      exact q r H2 (y.trans y2) hr2
  obtain ⟨t2, ht2, rest⟩ := rest
  refine ⟨_, (zss_cons (zs_set (i := 1) nd rfl (Or.inl rfl) (ze_lst za_nil))
      (zss_cons (zs_set (i := 2) nd rfl (Or.inl rfl) (zcb_len rfl m_len (za_cons (zn 0) za_nil) rfl rfl))
      (zss_cons (zs_set (i := 3) nd rfl (Or.inl rfl) (ze_ifExp (zt_truP (zn 0)) (ze_ix ix_P (zn 0) ze_int (fun _ _ => rfl)) ze_int))
      ht2))), ?_⟩
  refine ⟨Nat.zero_le _, fun t ht => ?_⟩
  have g0 : Same H (upd H t (.lst [])) := Same.new ht _
  have ha0 := g0 _ _ ha
  refine ⟨_, .inr ha0, ?_⟩
  rw [List.length_map]
  refine ⟨_, .inr ha0, ?_⟩
  cases ns with
  | nil => exact rest _ t ht g0 upd_same
  | cons n r => exact ⟨_, .inr ha0, .int n, atI_of (j := 0) rfl rfl, rest _ t ht g0 upd_same⟩
end
end K10
set_option Elab.async false
set_option linter.all false
set_option maxRecDepth 100000
set_option exponentiation.threshold 3000
set_option maxHeartbeats 4000000
namespace M27
open PySem L2 MRow
theorem size_up {a b m : Int} (hm : 1 ≤ m) : Builtin.Range.rangeSize a b m = if a < b then (b - a - 1) / m + 1 else 0 := by
  unfold Builtin.Range.rangeSize
  rw [if_pos (by omega)]
theorem small_up {a b m : Int} (hm : 1 ≤ m) (hm' : m ≤ 1000000) (ha : 0 ≤ a) (ha' : a ≤ 1000000) (hb : 0 ≤ b) (hb' : b ≤ 1000000) : Builtin.Range.small a b m = true := by
  have e := size_up (a := a) (b := b) hm
  unfold Builtin.Range.small
  rw [e]
  by_cases hab : a < b
  · rw [if_pos hab]
    have h0 : 0 ≤ (b - a - 1) / m := Int.ediv_nonneg (by omega) (by omega)
    have h1 : (b - a - 1) / m ≤ b - a - 1 := Int.ediv_le_self _ (by omega)
    simp only [Builtin.Range.rangeFitsLong, Bool.and_eq_true, Bool.or_eq_true, decide_eq_true_eq, beq_iff_eq, show m > 0 by omega, if_true]
    generalize (b - a - 1) / m = k at h0 h1
    omega
  · rw [if_neg hab]
    simp only [Builtin.Range.rangeFitsLong, Bool.and_eq_true, Bool.or_eq_true, decide_eq_true_eq, beq_iff_eq, show m > 0 by omega, if_true]
    omega
end M27
set_option Elab.async false
set_option linter.all false
set_option maxRecDepth 100000
set_option maxHeartbeats 4000000
namespace L2
open PySem PySem.Spec PyProof.Rows
section
variable {prog : Program} {w : World} {A : Around} {E : Value → Shared → Prop} {R : Result → Shared → Prop} {s : Shared}
end
section
variable {X : Cx} {nv : List Str} {ix : List (Str × Nat)} {scope : Scope} {pins : List (Addr × Obj)} {σ : St} {H : Hp} {s : Shared} {elt t1 i1 t2 i2 : Expr} {c1 c2 : List Expr} {pos : Pos}
end
end L2
set_option Elab.async false
set_option linter.all false
set_option maxRecDepth 100000
set_option maxHeartbeats 4000000
namespace L2
open PySem PySem.Spec PyProof.Rows
section
variable {X : Cx} {e v₁ v₂ : Expr} {es : List Expr} {te : TE} {pos : Pos}
end
end L2
set_option Elab.async false
set_option linter.all false
set_option maxRecDepth 100000
set_option maxHeartbeats 4000000
namespace L2
open PySem PySem.Spec PyProof.Rows
section
variable {κ : Type} [DecidableEq κ]
noncomputable def valV (kvs : List (κ × V)) (k : κ) : Option V := (kvs.find? fun kv => decide (kv.1 = k)).map (·.2)
noncomputable def putK (kvs : List (κ × V)) (k : κ) (v : V) : List (κ × V) :=
  if (kvs.any fun kv => decide (kv.1 = k)) = true then kvs.map (fun kv => if kv.1 = k then (kv.1, v) else kv) else kvs ++ [(k, v)]
theorem valV_pos {p : κ × V} {r : List (κ × V)} {k : κ} (e : p.1 = k) : valV (p :: r) k = some p.2 := by simp [valV, List.find?_cons, e]
theorem valV_neg {p : κ × V} {r : List (κ × V)} {k : κ} (e : ¬ p.1 = k) : valV (p :: r) k = valV r k := by simp [valV, List.find?_cons, e]
theorem valV_any (k : κ) : ∀ kvs : List (κ × V), (kvs.any fun kv => decide (kv.1 = k)) = (valV kvs k).isSome
  | [] => rfl
  | p :: r => by
    rw [List.any_cons]
    by_cases e : p.1 = k
    · simp only [valV_pos e, decide_eq_true e, Bool.true_or, Option.isSome_some]
    · rw [valV_neg e, decide_eq_false e, Bool.false_or]; exact valV_any k r
theorem valV_map (k j : κ) (y : V) : ∀ kvs : List (κ × V), valV (kvs.map fun kv => if kv.1 = k then (kv.1, y) else kv) j = (valV kvs j).map fun x => if j = k then y else x
  | [] => rfl
  | p :: r => by
    have ih := valV_map k j y r
    rw [List.map_cons]
    by_cases h : p.1 = k
    · rw [if_pos h]
      by_cases e : p.1 = j
      · rw [valV_pos (p := (p.1, y)) e, valV_pos e, Option.map_some, if_pos (e.symm.trans h)]
      · rw [valV_neg (p := (p.1, y)) e, valV_neg e, ih]
    · rw [if_neg h]
      by_cases e : p.1 = j
      · rw [valV_pos (p := p) e, valV_pos e, Option.map_some, if_neg (fun z => h (e.trans z))]
      · rw [valV_neg (p := p) e, valV_neg e, ih]
theorem valV_snoc (k j : κ) (y : V) : ∀ kvs : List (κ × V), valV kvs k = none → valV (kvs ++ [(k, y)]) j = if j = k then some y else valV kvs j
  | [], _ => by
    by_cases e : k = j
    · rw [if_pos e.symm]; exact valV_pos (p := (k, y)) e
    · rw [if_neg (fun z => e z.symm)]; exact valV_neg (p := (k, y)) e
  | p :: r, hn => by
    rw [List.cons_append]
    have hk : ¬ p.1 = k := fun z => by rw [valV_pos z] at hn; cases hn
    rw [valV_neg hk] at hn
    have ih := valV_snoc k j y r hn
    by_cases e : p.1 = j
    · rw [valV_pos e, valV_pos e, if_neg (fun z => hk (e.trans z))]
    · rw [valV_neg e, valV_neg e, ih]
theorem valV_put (kvs : List (κ × V)) (k j : κ) (y : V) : valV (putK kvs k y) j = if j = k then some y else valV kvs j := by
  unfold putK
  by_cases a : (kvs.any fun kv => decide (kv.1 = k)) = true
  · rw [if_pos a, valV_map]
    rw [valV_any] at a
    by_cases e : j = k
    · obtain ⟨x, hx⟩ := Option.isSome_iff_exists.mp a
      rw [if_pos e, e, hx, Option.map_some, if_pos rfl]
    · rw [if_neg e]
      cases valV kvs j with
      | none => rfl
      | some x => rw [Option.map_some, if_neg e]
  · rw [if_neg a]
    refine valV_snoc k j y kvs ?_
    rw [valV_any] at a
    cases q : valV kvs k with
    | none => rfl
    | some x => rw [q] at a; exact (a rfl).elim
theorem length_putK (kvs : List (κ × V)) (k : κ) (v : V) : (putK kvs k v).length ≤ kvs.length + 1 := by
  unfold putK
  split
  · rw [List.length_map]; omega
  · rw [List.length_append, List.length_cons, List.length_nil]; omega
theorem RelO.isSome_eq {o : Option V} {u : Option Value} (r : RelO o u) : o.isSome = u.isSome := by
  cases o with
  | none => cases u with
    | none => rfl
    | some _ => exact (show False from r).elim
  | some _ => cases u with
    | none => exact (show False from r).elim
    | some _ => rfl
theorem KV.val {kvs : List (κ × V)} {vs : List (κ × Value)} (r : KV kvs vs) (k : κ) : RelO (valV kvs k) (valueAt vs k) := by
  unfold KV at r
  induction r with
  | nil => exact True.intro
  | @cons p q ps qs h t ih =>
    obtain ⟨h1, h2⟩ := h
    by_cases e : p.1 = k
    · have e' : q.1 = k := h1.symm.trans e
      have b : valueAt (q :: qs) k = some q.2 := by simp [valueAt, List.find?_cons, e']
      rw [valV_pos e, b]; exact h2
    · have e' : ¬ q.1 = k := fun z => e (h1.trans z)
      have b : valueAt (q :: qs) k = valueAt qs k := by simp [valueAt, List.find?_cons, e']
      rw [valV_neg e, b]; exact ih
end
theorem kV_is {P : Program} {w : World} {k : Key} {u : Value} (r : RelV (kV k) u) : (mixKind P w).is k u = true := by
  cases k with
  | inl i => obtain ⟨t, e⟩ := (show ∃ t, u = Value.int i t from r); subst e; exact mixKind_int P w i t
  | inr x => obtain ⟨t, e⟩ := (show ∃ t, u = Value.str x t from r); subst e; exact mixKind_str P w x t
theorem items_are {P : Program} {w : World} : ∀ {ks : List Key} {us : List Value}, Vals (ks.map kV) us → ItemsAre (mixKind P w) ks us
  | [], _, r => by rw [List.map_nil] at r; cases r; exact .nil
  | k :: ks, _, r => by
    rw [List.map_cons] at r
    cases r with
    | cons h t => exact .cons (kV_is h) (items_are t)

noncomputable abbrev KT (H : Hp) : List (List Key × V) → List (List Key × Addr × Value) → Prop := Paired fun p q => p.1 = q.1 ∧ H q.2.1 = some (.tup (p.1.map kV)) ∧ RelV p.2 q.2.2
theorem KT.val {H : Hp} {kvs : List (List Key × V)} {xs : List (List Key × Addr × Value)} (r : KT H kvs xs) (k : List Key) : RelO (valV kvs k) ((atKey xs k).map (·.2)) := by
  induction r with
  | nil => exact True.intro
  | @cons p q ps qs h t ih =>
    obtain ⟨h1, _, h2⟩ := h
    by_cases e : p.1 = k
    · have e' : q.1 = k := h1.symm.trans e
      have b : atKey (q :: qs) k = some q.2 := by simp [atKey, List.find?_cons, e']
      rw [valV_pos e, b]; exact h2
    · have e' : ¬ q.1 = k := fun z => e (h1.trans z)
      have b : atKey (q :: qs) k = atKey qs k := by simp [atKey, List.find?_cons, e']
      rw [valV_neg e, b]; exact ih
theorem KT.repl {H : Hp} {kvs : List (List Key × V)} {xs : List (List Key × Addr × Value)} (r : KT H kvs xs) (k : List Key) {y : V} {u : Value} (ry : RelV y u) :
    KT H (kvs.map fun kv => if kv.1 = k then (kv.1, y) else kv) (xs.map (putAt k u)) := by
  induction r with
  | nil => exact .nil
  | @cons p q ps qs h t ih =>
    rw [List.map_cons, List.map_cons]
    refine .cons ?_ ih
    obtain ⟨h1, h2, h3⟩ := h
    unfold putAt
    by_cases e : p.1 = k
    · rw [if_pos e, if_pos (h1.symm.trans e)]; exact ⟨h1, h2, ry⟩
    · rw [if_neg e, if_neg (fun z => e (h1.trans z))]; exact ⟨h1, h2, h3⟩
theorem KT.put {H : Hp} {kvs : List (List Key × V)} {xs : List (List Key × Addr × Value)} (r : KT H kvs xs) (k : List Key) {b : Addr} {y : V} {u : Value} (hb : H b = some (.tup (k.map kV))) (ry : RelV y u) :
    KT H (putK kvs k y) (storedH xs k b u) := by
  have e : (kvs.any fun kv => decide (kv.1 = k)) = (atKey xs k).isSome := by
    rw [valV_any, (r.val k).isSome_eq, Option.isSome_map]
  unfold putK storedH
  rw [e]
  by_cases q : (atKey xs k).isSome = true
  · rw [if_pos q, if_pos q]; exact r.repl k ry
  · rw [if_neg q, if_neg q]; exact Paired.snoc r ⟨rfl, hb, ry⟩
theorem KT.keeps {H H' : Hp} {kvs : List (List Key × V)} {xs : List (List Key × Addr × Value)} (r : KT H kvs xs) (ht : ∀ b ys, H b = some (.tup ys) → H' b = some (.tup ys)) : KT H' kvs xs :=
  Paired.mapP r fun _ _ z => ⟨z.1, ht _ _ z.2.1, z.2.2⟩

section
variable {P : Program} {w : World} {H : Hp} {h : Heap} {a : Addr}
theorem rd_of {u : HO} (ok : HOk P w H h) (e : Rd H a u) : ObjOk P w H h a u := e.ok ok
theorem dk_rd {kvs : List (Key × V)} (ok : HOk P w H h) (e : Rd H a (.dK kvs)) : kvs.length ≤ sizeLine ∧ (a == sysModules) = false ∧ ∃ vs, KV kvs vs ∧ h.DictOf (mixKind P w) a vs :=
  show ObjOk P w H h a (.dK kvs) from rd_of ok e
theorem key_of {ks : List Key} (ok : HOk P w H h) (e : H a = some (.tup (ks.map kV))) : (tupleKind (mixKind P w)).is h ks a := by
  obtain ⟨_, its, r, pT⟩ := (show ObjOk P w H h a (.tup (ks.map kV)) from ok a _ e)
  obtain ⟨o, h1, h2, n, h3⟩ := pT.tup
  exact ⟨o, its.toArray, n, h1, h2, h3, by simpa using items_are r⟩
theorem dt_rd {kvs : List (List Key × V)} (ok : HOk P w H h) (e : Rd H a (.dT kvs)) : kvs.length ≤ sizeLine ∧ (a == sysModules) = false ∧
    ∃ xs, KT H kvs xs ∧ h.DictOfH (tupleKind (mixKind P w)) a xs := by
  obtain ⟨z, y, xs, r, o, es, ep, h1, h2, h3, h4, h5⟩ := (show ObjOk P w H h a (.dT kvs) from rd_of ok e)
  refine ⟨z, y, xs, r, o, es, ep, h1, h2, h3, h4, fun x hx => ?_, h5⟩
  have all : ∀ {l : List (List Key × V)} {m : List (List Key × Addr × Value)}, KT H l m → ∀ x ∈ m, (tupleKind (mixKind P w)).is h x.1 x.2.1 := by
    intro l m q
    induction q with
    | nil => intro x hx; exact nomatch hx
    | @cons p q ps qs hq t ih =>
      intro x hx
      rcases List.mem_cons.mp hx with e | hx
      · subst e
        exact key_of ok (by rw [← hq.1]; exact hq.2.1)
      · exact ih x hx
  exact all r x hx
end
noncomputable def DGet (H : Hp) (a : Addr) (y : V) (r : Option V) : Prop :=
  (∃ kvs k, Rd H a (.dK kvs) ∧ y = kV k ∧ r = valV kvs k) ∨ ∃ kvs k b, Rd H a (.dT kvs) ∧ y = .ref b ∧ H b = some (.tup (k.map kV)) ∧ r = valV kvs k
theorem DGet.t {H : Hp} {a b : Addr} {kvs : List (List Key × V)} {k : List Key} (e : H a = some (.dT kvs)) (eb : H b = some (.tup (k.map kV))) : DGet H a (.ref b) (valV kvs k) := .inr ⟨kvs, k, b, .inl e, rfl, eb, rfl⟩
section
variable {X : Cx} {pins : List (Addr × Obj)} {σ : St} {H : Hp} {s : Shared} {a : Addr} {y v : V} {u r : Value} {o : Option V} {A : Around} {E : Value → Shared → Prop}
theorem d_in {Q : Value → Shared → Prop} (hu : A.units + 1 < cLine) (I : Inv X pins σ H s) (g : DGet H a y o) (ry : RelV y u) (h : ∀ s', Inv X pins σ H s' → Q (.bool o.isSome) s') :
    wpAny (model X.prog X.w) A (compareOp .In u (.ref a)) Q E s := by
  rcases g with ⟨kvs, k, e, ey, l⟩ | ⟨kvs, k, b, e, ey, eb, l⟩
  · subst ey
    obtain ⟨z, hd, vs, rel, dd⟩ := dk_rd I.hok e
    refine wpAny_in_of (kV_is ry) hd dd.mapOf ?_
    rw [← (rel.val k).isSome_eq, ← l]
    exact h _ (I.tok _)
  · subst ey
    cases (show u = Value.ref b from ry)
    obtain ⟨z, hd, xs, rel, dd⟩ := dt_rd I.hok e
    refine wpAny_in_heap (tupleKind_room_in1 hu) (key_of I.hok eb) hd dd ?_
    have q := (rel.val k).isSome_eq
    rw [Option.isSome_map] at q
    rw [← q, ← l]
    exact h _ (I.tok _)
end
section
variable {X : Cx} {pins : List (Addr × Obj)} {σ : St} {H : Hp} {s : Shared} {a : Addr} {kvs : List (Key × V)} {k : Key} {u : Value} {A : Around} {E : Value → Shared → Prop}
end
noncomputable def tDIn (ty td : TE) : TE := fun σ H Q => ty σ H fun y H1 => td σ H1 fun x H2 => ∃ a o, x = .ref a ∧ DGet H2 a y o ∧ Q (.bl o.isSome) H2
section
variable {X : Cx} {o i e value : Expr} {pos pos' tpos : Pos} {td ty tv : TE}
theorem pc_din (hu : X.A.units + 1 < cLine) (hi : PE X i ty) (ho : PE X o td) : PC X .In i o (tDIn ty td) := by
  intro pins s σ H Q I h
  refine thn (hi pins s σ H _ I h) fun iv s1 ⟨y, H1, I1, ry, q1⟩ => thn (ho pins s1 σ H1 _ I1 q1) fun u s2 ⟨x, H2, I2, rx, a, ov, ex, g, q2⟩ => ?_
  subst ex
  obtain rfl : u = Value.ref a := rx
  exact d_in hu I2 g ry fun s3 I3 => ⟨.bl ov.isSome, H2, I3, rfl, q2⟩
theorem zc_din (hu : X.A.units + 1 < cLine) (hi : ZE X i ty) (ho : ZE X o td) : ZC X .In i o (tDIn ty td) := by with_unfolding_all exact pc_din hu hi ho
end
section
variable {X : Cx} {pos : Pos}
end
end L2
set_option Elab.async false
set_option linter.all false
set_option maxRecDepth 100000
set_option maxHeartbeats 4000000
namespace DCT
open PySem PyProof.Rows SRT L2
section
variable {prog : Program} {w : World} {A : Around} {E : Value → Shared → Prop} {s : Shared} {K : Type} [DecidableEq K] {knd : KeyKind prog w K}
end
end DCT
namespace L2
open PySem PySem.Spec PyProof.Rows
section
variable {X : Cx}
variable {e : Expr} {es : List Expr} {t : TA} {p pos : Pos}
end
end L2
set_option Elab.async false
set_option linter.all false
set_option maxRecDepth 100000
set_option maxHeartbeats 4000000
namespace PySem
open Sem (wp)
theorem keys_miss : typeLookup (.type "list") "keys" = pure none := by rw [typeLookup_type, builtinLookup_eq_fast]; kernel_rfl
theorem keys_none {prog : Program} {w : World} {A : Around} {E : Value → Shared → Prop} {s : Shared} {a : Addr} {xs : Array Value} {k : Nat} {sl : Array (Option Value)} {Q : Option Value → Shared → Prop}
    (hx : s.heap.get? a = some { cls := .type "list", dict := none, data := .seq xs k, slots := sl }) (hA : A.handled = none)
    (h : ∀ h' tk, (∀ b o, s.heap.get? b = some o → h'.get? b = some o) → Q none { s with heap := h', toks := tk }) :
    wpAny (model prog w) A (getAttr? (.ref a) "keys") Q E s := by
  obtain ⟨hp, g, d, tk, os⟩ := s
  have hT : ∀ tk', (⟨hp, g, d, tk', os⟩ : Shared).TypeIs (.ref a) "list" := fun _ => ⟨_, hx, rfl⟩
  have f1 := sub_AttributeError
  have f3 := F.slot_list_getattribute.lookup
  have f4 := F.slot_list_getattribute.bind (.ref a)
  have f5 := am_list_getattr_none
  have hmiss := keys_miss
  have hname : (["__module__", "__name__", "__qualname__", "__doc__", "__annotations__"] : List Str).contains "keys" = false := by decide +kernel
  have hsz : ("keys" : Str).length + 100 ≤ sizeLine := by rw [sizeLine_eq]; decide +kernel
  unfold getAttr? getAttrBy? getAttrBy
  repeat (any_goals (first | assumption | exact hT _ | ((with_reducible show wpAny _ _ (call (Value.builtin "list.__getattribute__") _ _) _ _ _); refine call_meets F.slot_list_getattribute (hT _) am_entry_list_getattribute (F.args_list_getattribute_2 _ _) (meets_getattribute_miss_list a xs k sl "keys" _ hmiss hname hsz) ⟨hx, hA, fun h' tk' e hx' => ?_⟩) | wp_step))
  obtain ⟨t', u', he⟩ := hx'.there
  show wpAny _ _ (getattributeRaised _ _ _ _ _ _ _) _ _ _
  unfold getattributeRaised
  repeat (any_goals (first | assumption | wp_step))
  exact h _ _ hx'.keeps

theorem plain_upd : plainId "dict.update.loop" = true := by decide +kernel
theorem entry_upd : entryFor table "dict.update.loop" = some Builtin.«dict.update.loop» := entryFor_of_tree (by kernel_rfl)
section
variable {prog : Program} {w : World} {A : Around} {E : Value → Shared → Prop} {K : Type} [DecidableEq K] {knd : KeyKind prog w K}
end
end PySem
namespace L2
open PySem PySem.Spec PyProof.Rows
section
variable {X : Cx}
theorem refs_of : ∀ (cs : List Addr) (its : List Value), Vals (cs.map V.ref) its → its = cs.map Value.ref
  | [], _, r => by cases r; rfl
  | c :: cs, _, r => by
    cases r with
    | cons a b =>
      cases a
      rw [refs_of cs _ b]
      rfl
variable {e : Expr} {es : List Expr} {t : TA} {p pos : Pos}
theorem boot_dict' : bootBuiltins "dict" = some (.type "dict") := by decide +kernel
end
end L2
set_option Elab.async false
set_option linter.all false
set_option maxRecDepth 100000
set_option maxHeartbeats 4000000
namespace L2
open PySem PySem.Spec PyProof.Rows
section
variable {X : Cx} {pins : List (Addr × Obj)} {σ : St} {H : Hp} {s : Shared} {a : Addr} {y d : V} {u r : Value} {o : Option V} {A : Around} {E : Value → Shared → Prop}
end
section
variable {X : Cx} {o e f : Expr} {apos cpos : Pos} {td ty tx : TE}
end
end L2
set_option Elab.async false
set_option linter.all false
set_option maxRecDepth 100000
set_option maxHeartbeats 4000000
namespace L2
open PySem PySem.Spec PyProof.Rows
section
variable {X : Cx}
end
end L2
set_option Elab.async false
set_option linter.all false
set_option maxRecDepth 100000
set_option maxHeartbeats 4000000
namespace L2
open PySem PySem.Spec PyProof.Rows
section
variable {X : Cx}
variable {e : Expr} {es : List Expr} {t : TA} {p pos : Pos}
end
end L2
set_option Elab.async false
set_option linter.all false
set_option maxRecDepth 100000
set_option maxHeartbeats 4000000
namespace L2
open PySem PySem.Spec PyProof.Rows
section
variable {X : Cx}
variable {e : Expr} {es : List Expr} {t : TA} {p pos : Pos}
end
end L2
set_option Elab.async false
set_option linter.all false
set_option maxRecDepth 100000
set_option maxHeartbeats 4000000
namespace L2
open PySem PySem.Spec PyProof.Rows
section
variable {prog : Program} {w : World} {A : Around} {E : Value → Shared → Prop} {s : Shared}
variable {z TI TO i1 i2 i3 l1 l2 l3 : Addr} {k1 k2 k3 : Nat} {xs ys zs : Array Value}
end
section
variable {prog : Program} {w : World} {A : Around} {E : Value → Shared → Prop} {s : Shared}
end
section
variable {X : Cx} {pins : List (Addr × Obj)} {σ : St} {H : Hp} {s : Shared}
end
end L2
set_option Elab.async false
set_option linter.all false
set_option maxRecDepth 100000
set_option maxHeartbeats 4000000
namespace L2
open PySem PySem.Spec PyProof.Rows
section
variable {X : Cx}
variable {e : Expr} {es : List Expr} {t : TA} {p pos : Pos}
end
end L2
set_option Elab.async false
set_option linter.all false
set_option maxRecDepth 100000
set_option maxHeartbeats 4000000
namespace L2
open PySem PySem.Spec PyProof.Rows
section
variable {X : Cx} {e : Expr} {es : List Expr} {t : TA} {p pos : Pos}
end
end L2
set_option Elab.async false
set_option linter.all false
set_option maxRecDepth 100000
set_option maxHeartbeats 4000000
namespace L2
open PySem PySem.Spec PyProof.Rows
end L2
set_option Elab.async false
set_option linter.all false
set_option maxRecDepth 100000
set_option maxHeartbeats 4000000
namespace L2
open PySem PySem.Spec PyProof.Rows
section
variable {X : Cx}
variable {e : Expr} {es : List Expr} {t : TA} {p pos : Pos}
end
end L2
set_option Elab.async false
set_option linter.all false
set_option maxRecDepth 100000
set_option maxHeartbeats 4000000
namespace HT
open PySem PyProof.Rows PySem.SeqAt
variable {prog : Program} {w : World} {A : Around} {E : Value → Shared → Prop} {s : Shared}
end HT
namespace L2
open PySem PySem.Spec PyProof.Rows
section
variable {X : Cx} {e lo hi : Expr} {te tl tk : TE} {pos p2 : Pos}
theorem ze_cmp {a b : Expr} {op : CmpOp} {t : TE} (h : ZC X op a b t) (h1 : behindInMarks op b = false := by first | exact nobehind _ (by decide) (by decide) | rfl) : ZE X (.Compare a [op] [b] pos) t := by with_unfolding_all exact pe_cmp h h1
end
end L2
set_option Elab.async false
set_option linter.all false
set_option maxRecDepth 100000
set_option maxHeartbeats 4000000
namespace EN1
open PySem PyProof.Rows
section
variable {prog : Program} {w : World} {A : Around} {E : Value → Shared → Prop} {s : Shared}
end
end EN1
set_option Elab.async false
set_option linter.all false
set_option maxRecDepth 100000
set_option maxHeartbeats 4000000
namespace EN1
open PySem PyProof.Rows
section
end
end EN1
namespace L2
open PySem PySem.Spec PyProof.Rows
section
variable {X : Cx}
end
end L2
set_option Elab.async false
set_option linter.all false
set_option maxRecDepth 100000
set_option maxHeartbeats 4000000
namespace PySem
open PyProof.Rows
section
variable {prog : Program} {w : World} {A : Around} {E : Value → Shared → Prop} {s : Shared}
theorem collect_rng {r : Addr} {a b c : Int} {t u v : Tok} {n : Nat} {Q : List Value → Shared → Prop} (hh : A.handled = none) (hr : IsRange s.heap r a b c t u v) (hsmall : Builtin.Range.small a b c = true)
    (hn : Builtin.Range.rangeSize a b c = n) (hlen : n ≤ 2 ^ 24)
    (h : ∀ h' tk acc, (∀ b o, s.heap.get? b = some o → h'.get? b = some o) → ItemsOf (fun i v => ∃ t, v = .int (a + i * c) t) acc n → Q acc.toList { s with heap := h', toks := tk }) : wpAny (model prog w) A (collect (.ref r)) Q E s := by
  unfold collect
  refine wpAny_bind (wpAny_runValue (codeAny_builtin F.entry_proto_collect ?_))
  rw [Around.under_plainId F.plain_proto_collect _]
  show wpAny _ A.in1 (newList [] >>= fun l => again (.builtin "list.__iadd__" ⟨[l, .ref r], []⟩)) _ _ s
  refine wpAny_bind (wpAny_newObj_type ?_)
  refine wpAny_pure ⟨plainId_quiet F.plain_list_iadd _, codeAny_builtin F.entry_list_iadd ?_⟩
  rw [Around.under_plainId F.plain_list_iadd _]
  have hN : (s.heap.push { cls := .type "list", data := .seq ([] : List Value).toArray }).get? s.heap.objs.size = some { cls := .type "list", data := .seq ([] : List Value).toArray } := Heap.get?_push_size _ rfl
  show wpAny _ A.in1 (Builtin.List.listExtendWith (.ref s.heap.objs.size) (.ref r) (.ref s.heap.objs.size)) _ _ _
  refine wpAny_extend_range (R := fun r s' => match r with
    | .ok (.ret v) => wpAny (model prog w) A (match v with
      | .ref a => do
        let z ← load a
        match z.data with
        | .seq xs _ => pure xs.toList
        | _ => unsupported "internal:collect"
      | _ => unsupported "internal:collect") Q E s'
    | .ok _ => False
    | .error e => E e s') hh (Heap.get?_push_of_some _ hr) hsmall hn hlen s.heap.objs.size (.ref s.heap.objs.size) 0 hN fun h' tk acc' c' hk hS' hacc => ?_
  refine wpAny_bind (wpAny_load hS' ?_)
  exact wpAny_pure (h h' tk acc' (fun b o e => hk b o (Nat.ne_of_lt (Heap.lt_size e)) (Heap.get?_push_of_some _ e)) hacc)
end
theorem meets_tuple_new_rng (r : Addr) (a b c : Int) (t u v : Tok) (n : Nat) (hsmall : Builtin.Range.small a b c = true) (hn : Builtin.Range.rangeSize a b c = n) (hlen : n ≤ 2 ^ 24) :
    Meets (Builtin.«tuple.__new__» ⟨[.type "tuple", .ref r], []⟩)
      (fun A R s => A.handled = none ∧ IsRange s.heap r a b c t u v ∧ ∀ (h' : Heap) (tk : Nat) (acc : Array Value), (∀ b o', s.heap.get? b = some o' → h'.get? b = some o') → ItemsOf (fun i v => ∃ t, v = .int (a + i * c) t) acc n → R (.ok (.ret (.ref h'.objs.size))) { s with heap := h'.push { cls := .type "tuple", data := .seq acc }, toks := tk }) :=
  .of_wp fun prog w A R s h => by
    obtain ⟨hp, g, d, tk, os⟩ := s; obtain ⟨hh, ht, h⟩ := h
    have hsub := sub_tuple_self
    have hinit := init_tuple_lookup
    have hmh := madeHere_tuple
    have hT : Shared.TypeIs ⟨hp, g, d, tk, os⟩ (.ref r) "range" := ⟨_, ht, rfl⟩
    wp_walk using wpAny_loadPart' ht, wpAny_typeOf hT, collect_rng (A := A.in1) hh ht hsmall hn hlen
    intro h' tk' acc hk hacc
    show wpAny _ _ (Builtin.Tuple.tupleExact acc.toList.toArray >>= fun v => ret v) _ _ _
    unfold Builtin.Tuple.tupleExact
    refine wpAny_bind (wpAny_newObj_type ?_ (by show acc.toList.toArray.size ≤ sizeLine; rw [Array.toArray_toList, hacc.1, sizeLine_eq]; omega))
    refine wpAny_pure ⟨_, rfl, ?_⟩
    rw [Array.toArray_toList]
    exact h h' tk' acc hk hacc
theorem call_tuple_rng {prog : Program} {w : World} {A : Around} {E : Value → Shared → Prop} {s : Shared} {Q : Value → Shared → Prop} {r : Addr} {a b c : Int} {t u v : Tok} {n : Nat} (hh : A.handled = none) (hr : IsRange s.heap r a b c t u v) (hsmall : Builtin.Range.small a b c = true)
    (hn : Builtin.Range.rangeSize a b c = n) (hlen : n ≤ 2 ^ 24)
    (hQ : ∀ (h' : Heap) (tk : Nat) (acc : Array Value), (∀ b o', s.heap.get? b = some o' → h'.get? b = some o') → ItemsOf (fun i v => ∃ t, v = .int (a + i * c) t) acc n → Q (.ref h'.objs.size) { s with heap := h'.push { cls := .type "tuple", data := .seq acc }, toks := tk }) :
    wpAny (model prog w) A (call (.type "tuple") [.ref r]) Q E s :=
  callType_new F.called_tuple (by decide) (F.typeCall_tuple_1 _) (F.newCall_tuple_1 _) (fun obj => F.args_object_init_2 obj _) F.entry_tuple_new
    (meets_tuple_new_rng r a b c t u v n hsmall hn hlen) ⟨hh, hr, fun h' tk acc hk ha => ⟨⟨_, Heap.get?_push_size _ rfl, rfl⟩, hQ h' tk acc hk ha⟩⟩
end PySem
namespace L2
open PySem PySem.Spec PyProof.Rows
section
variable {X : Cx}
noncomputable def rTupR : List V → Hp → VK → Prop := fun vs H Q => match vs with
  | [.ref p] => ∃ i j c, H p = some (rngO p i j c) ∧ Builtin.Range.small i j c = true ∧ c ≠ 0 ∧ (Builtin.Range.rangeSize i j c).toNat ≤ 1000000 ∧ ∀ l, H l = none → Q (.ref l) (upd H l (.tup (((List.range (Builtin.Range.rangeSize i j c).toNat).map fun (k : Nat) => i + (k : Int) * c).map V.int)))
  | _ => False
theorem call_trng (hc : X.calm = true) : CallR X (.type "tuple") rTupR := by
  intro pins s σ H xs us Q I r h
  unfold rTupR at h
  split at h
  · rename_i p
    obtain ⟨i, j, c, hp, hs, hc0, hn, q⟩ := h
    obtain ⟨u, rfl, rx⟩ := vals1 r
    cases rx
    obtain ⟨⟨t, u, v, hr⟩, _⟩ := I.hok p _ hp
    have h0 := size_nonneg (a := i) (b := j) hc0
    refine call_tuple_rng (I.ok.hd hc) hr hs (n := (Builtin.Range.rangeSize i j c).toNat) (by omega) (by omega) fun h' tk acc' hk hit => ?_
    have rv : Vals (((List.range (Builtin.Range.rangeSize i j c).toNat).map fun (k : Nat) => i + (k : Int) * c).map V.int) acc'.toList := vals_of_items _ (by rw [Array.length_toList]; exact hit.1) fun k v e => hit.2 k v (by simpa using e)
    have I1 : Inv X pins σ H { s with heap := h', toks := tk } := I.kept (t' := tk) hk
    have I2 : Inv X pins σ (upd H h'.objs.size (.tup (((List.range (Builtin.Range.rangeSize i j c).toNat).map fun (k : Nat) => i + (k : Int) * c).map V.int))) { s with heap := h'.push { cls := .type "tuple", data := .seq acc' }, toks := tk } :=
      I1.laid (t' := tk) (fun b o e => Heap.get?_push_of_some _ e) (Nat.le_refl _) (show ObjOk X.prog X.w _ _ _ (.tup (((List.range (Builtin.Range.rangeSize i j c).toNat).map fun (k : Nat) => i + (k : Int) * c).map V.int)) from ⟨by rw [List.length_map, List.length_map, List.length_range, sizeLine_eq]; omega, acc'.toList, rv, by rw [Array.toArray_toList]; exact TupD.new _ _⟩)
    exact ⟨.ref h'.objs.size, _, I2, rfl, q _ (I1.hok.fresh (Nat.le_refl _))⟩
  · exact h.elim
theorem op_in_seq' {K : PySem.W.Frag} (h : X.K = K) : OpR X (compareOp .In) (rIn K false) := by subst h; exact op_in_seq
variable {e : Expr} {es : List Expr} {t : TA} {p pos : Pos}
theorem boot_tuple9 : bootBuiltins "tuple" = some (.type "tuple") := by decide +kernel
theorem pcb_trange (hc : X.calm = true) (hg : Gl X "tuple") (hm : X.mg "tuple" = none) (ha : PA X (e :: es) t) (he : starEach (e :: es) X.env = (false, eval e X.env) :: starEach es X.env) (hpl : (backTo pos (starEach es X.env)).any (·.1) = false) :
    PE X (.Call (.Name "tuple" p) (e :: es) [] pos) (tCB rTupR t) := pe_callTy (call_trng hc) hg hm boot_tuple9 ha (by decide) (by decide) he hpl
theorem zcb_trange (hc : X.calm = true) (hg : Gl X "tuple") (hm : X.mg "tuple" = none) (ha : ZA X (e :: es) t) (he : starEach (e :: es) X.env = (false, eval e X.env) :: starEach es X.env) (hpl : (backTo pos (starEach es X.env)).any (·.1) = false) :
    ZE X (.Call (.Name "tuple" p) (e :: es) [] pos) (tCB rTupR t) := by with_unfolding_all exact pcb_trange hc hg hm ha he hpl
end
end L2
set_option Elab.async false
set_option linter.all false
set_option maxRecDepth 100000
set_option maxHeartbeats 4000000
namespace K10
open PySem L2 MRow M27 M80 M17 M12
inductive Kn where
  | all
  | most (k : Nat)
  | times (m : Nat)
  | rests (m : Nat) (rs : List Int)
  | few (k : Nat)
  | box (k l : Nat)
  | off (d : Nat)
  | own
noncomputable def Kn.Ok : Kn → Prop
  | .all => True
  | .most k => k ≤ 600
  | .times m => 0 < m ∧ m ≤ 1000
  | .rests m _ => 0 < m ∧ m ≤ 1000
  | .few k => k ≤ 600
  | .box k l => k ≤ 600 ∧ l ≤ 600
  | .off d => 1 ≤ d ∧ d ≤ 600
  | .own => True
noncomputable def KnAt (H : Hp) (c : Addr) : Kn → Prop
  | .all => H c = some (.tup [.str "all"])
  | .most k => H c = some (.tup [.str "most", .int k])
  | .times m => H c = some (.tup [.str "times", .int m])
  | .few k => H c = some (.tup [.str "few", .int k])
  | .box k l => H c = some (.tup [.str "box", .int k, .int l])
  | .off d => H c = some (.tup [.str "off", .int d])
  | .own => H c = some (.tup [.str "own"])
  | .rests m rs => ∃ d, H c = some (.tup [.str "rests", .int m, .ref d]) ∧ H d = some (.tup (rs.map V.int))
theorem KnAt.same {H H' : Hp} {c : Addr} {k : Kn} (h : KnAt H c k) (y : Same H H') : KnAt H' c k := by
  cases k with
  | all => exact y _ _ h
  | most k => exact y _ _ h
  | times m => exact y _ _ h
  | rests m rs => obtain ⟨d, h1, h2⟩ := h; exact ⟨d, y _ _ h1, y _ _ h2⟩
  | few k => exact y _ _ h
  | box k l => exact y _ _ h
  | off d => exact y _ _ h
  | own => exact y _ _ h
noncomputable def cf : Kn → Nat → Nat → Int
  | .all, n => PL dl (ups n)
  | .most k, n => PL dl (ups (min k n))
  | .times m, n => below m (ups n) dl
  | .rests m rs, n => PL dl (rsz m rs n)
  | .few k, n => PL dl (ups (min k n))
  | .box k l, n => bx l (min k n)
  | .off d, _ => fow d
  | .own, n => below 2 (odds n) dl
theorem in_ints (p : Int) (ns : List Int) : inV (.int p) (ns.map V.int) = decide (p ∈ ns) := by
  unfold inV
  rw [List.any_map]
  induction ns with
  | nil => rfl
  | cons n r ih =>
    rw [List.any_cons, ih]
    show (n == p || decide (p ∈ r)) = _
    by_cases h : n = p
    · subst h; simp
    · have : (n == p) = false := by simpa using h
      rw [this, Bool.false_or]
      have h' : ¬ p = n := fun e => h e.symm
      simp [h']
theorem flat_ints (ns : List Int) : (ns.map V.int).all flatV = true := by
  rw [List.all_map]
  exact List.all_eq_true.mpr fun _ _ => rfl
noncomputable def nI (ss : List Nat) : List V := (ss.map fun (k : Nat) => (k : Int)).map V.int
theorem nI_len (ss : List Nat) : (nI ss).length = ss.length := by unfold nI; rw [List.length_map, List.length_map]
theorem nI_at {ss : List Nat} {i : Nat} {x : V} (h : (nI ss)[i]? = some x) : ∃ s, ss[i]? = some s ∧ x = .int (s : Int) := by
  unfold nI at h
  rw [List.getElem?_map, List.getElem?_map] at h
  cases e : ss[i]? with
  | none => rw [e] at h; cases h
  | some s => rw [e] at h; exact ⟨s, rfl, (Option.some.inj h).symm⟩
end K10
namespace M02
noncomputable def rstep (acc : List (Int × Int)) (p : Int) : List (Int × Int) := match acc.getLast? with
  | some q => if q.1 = p then acc.set (acc.length - 1) (p, q.2 + 1) else acc ++ [(p, 1)]
  | none => acc ++ [(p, 1)]
noncomputable def runs (ns : List Int) : List (Int × Int) := ns.foldl rstep []
theorem runs_snoc (ns : List Int) (p : Int) : runs (ns ++ [p]) = rstep (runs ns) p := by unfold runs; rw [List.foldl_append]; rfl
theorem last_split {α : Type} {l : List α} {q : α} (h : l.getLast? = some q) : ∃ i, l = i ++ [q] := by
  refine ⟨l.dropLast, ?_⟩
  have hne : l ≠ [] := by intro e; subst e; cases h
  have e := List.dropLast_concat_getLast hne
  rw [List.getLast?_eq_some_getLast hne] at h
  cases h
  exact e.symm
theorem set_last {α : Type} (i : List α) (q x : α) : (i ++ [q]).set ((i ++ [q]).length - 1) x = i ++ [x] := by
  rw [List.length_append, List.length_singleton, Nat.add_sub_cancel, List.set_append_right _ _ (Nat.le_refl _), Nat.sub_self]
  rfl
noncomputable def rep (q : Int × Int) : List Int := List.replicate q.2.toNat q.1
structure Ok (ns : List Int) (ps : List (Int × Int)) : Prop where
  pw : ps.Pairwise fun a b => a.1 > b.1
  mem : ∀ s c, (s, c) ∈ ps ↔ c = (ns.count s : Int) ∧ 0 < ns.count s
  flat : (ps.map rep).flatten = ns
  last : ns.getLast? = ps.getLast?.map (·.1)
theorem ok_runs : ∀ rs : List Int, rs.reverse.Pairwise (· ≥ ·) → Ok rs.reverse (runs rs.reverse)
  | [], _ => ⟨.nil, fun s c => by simp [runs], rfl, rfl⟩
  | p :: rs, h => by
    rw [List.reverse_cons] at h ⊢
    obtain ⟨h1, _, h3⟩ := List.pairwise_append.mp h
    have ih := ok_runs rs h1
    have hp : ∀ x ∈ rs.reverse, x ≥ p := fun x hx => h3 x hx p (by simp)
    generalize rs.reverse = ns at *
    rw [runs_snoc]
    generalize runs ns = ps at ih
    unfold rstep
    cases e : ps.getLast? with
    | none =>
      have e0 : ps = [] := List.getLast?_eq_none_iff.mp e
      subst e0
      have en : ns = [] := by have := ih.flat; simpa using this.symm
      subst en
      refine ⟨by simp, fun s c => ?_, rfl, rfl⟩
      simp only [List.nil_append, List.mem_singleton, Prod.mk.injEq, List.count_singleton, beq_iff_eq]
      by_cases hs : p = s
      · subst hs; simp
      · simp [hs]; intro z; exact absurd z.symm hs
    | some q =>
      obtain ⟨i, rfl⟩ := last_split e
      have hl : ns.getLast? = some q.1 := by rw [ih.last, e]; rfl
      have hpw := List.pairwise_append.mp ih.pw
      dsimp only
      by_cases hq : q.1 = p
      · rw [if_pos hq, set_last]
        have hc := (ih.mem q.1 q.2).mp (by simp)
        refine ⟨?_, fun s c => ?_, ?_, ?_⟩
        · rw [List.pairwise_append]
          refine ⟨hpw.1, by simp, fun a ha b hb => ?_⟩
          have : b = (p, q.2 + 1) := by simpa using hb
          subst this
          have := hpw.2.2 a ha q (by simp)
          show a.1 > p
          omega
        · rw [List.count_append, List.count_singleton]
          by_cases hs : p = s
          · subst hs
            simp only [beq_self_eq_true, if_true]
            constructor
            · intro z
              rcases List.mem_append.mp z with z | z
              · have := hpw.2.2 _ z q (by simp)
                simp only at this
                omega
              · have : c = q.2 + 1 := by simpa using z
                rw [hq] at hc
                omega
            · intro z
              refine List.mem_append.mpr (.inr ?_)
              rw [hq] at hc
              have : c = q.2 + 1 := by omega
              simp [this]
          · have e1 : (p == s) = false := by simpa using hs
            simp only [e1, Bool.false_eq_true, if_false, Nat.add_zero]
            rw [← ih.mem s c]
            constructor
            · intro z
              rcases List.mem_append.mp z with z | z
              · exact List.mem_append.mpr (.inl z)
              · have : s = p := by have := List.mem_singleton.mp z; exact congrArg Prod.fst this
                exact absurd this.symm hs
            · intro z
              rcases List.mem_append.mp z with z | z
              · exact List.mem_append.mpr (.inl z)
              · have : s = q.1 := by have := List.mem_singleton.mp z; exact congrArg Prod.fst this
                exact absurd (hq.symm.trans this.symm) hs
        · have := ih.flat
          rw [List.map_append, List.flatten_append] at this ⊢
          rw [← this]
          simp only [List.map_cons, List.map_nil, List.flatten_cons, List.flatten_nil, List.append_nil, List.append_assoc]
          congr 1
          show List.replicate (q.2 + 1).toNat p = List.replicate q.2.toNat q.1 ++ [p]
          have e2 : (q.2 + 1).toNat = q.2.toNat + 1 := by omega
          rw [e2, hq, List.replicate_succ']
        · simp
      · rw [if_neg hq]
        have hlt : ∀ a ∈ i ++ [q], a.1 > p := fun a ha => by
          have h0 : p < q.1 := by
            have : q.1 ∈ ns := List.mem_of_getLast? hl
            have := hp _ this
            omega
          rcases List.mem_append.mp ha with ha | ha
          · have := hpw.2.2 a ha q (by simp); omega
          · have : a = q := by simpa using ha
            subst this; exact h0
        have hz : ns.count p = 0 := by
          cases hc : ns.count p with
          | zero => rfl
          | succ k =>
            have := (ih.mem p (ns.count p)).mpr ⟨rfl, by omega⟩
            have := hlt _ this
            simp only at this
            omega
        refine ⟨?_, fun s c => ?_, ?_, ?_⟩
        · rw [List.pairwise_append]
          refine ⟨ih.pw, by simp, fun a ha b hb => ?_⟩
          have : b = (p, 1) := by simpa using hb
          subst this
          exact hlt a ha
        · rw [List.count_append, List.count_singleton]
          by_cases hs : p = s
          · subst hs
            simp only [beq_self_eq_true, if_true, hz]
            constructor
            · intro z
              rcases List.mem_append.mp z with z | z
              · have := hlt _ z; simp only at this; omega
              · have : c = 1 := by simpa using z
                omega
            · intro z
              have : c = 1 := by omega
              simp [this]
          · have e1 : (p == s) = false := by simpa using hs
            simp only [e1, Bool.false_eq_true, if_false, Nat.add_zero]
            rw [← ih.mem s c]
            constructor
            · intro z
              rcases List.mem_append.mp z with z | z
              · exact z
              · have : s = p := by have := List.mem_singleton.mp z; exact congrArg Prod.fst this
                exact absurd this.symm hs
            · intro z
              exact List.mem_append.mpr (.inl z)
        · rw [List.map_append, List.flatten_append, ih.flat]; rfl
        · simp
theorem ok_of {ns : List Int} (h : ns.Pairwise (· ≥ ·)) : Ok ns (runs ns) := by
  have := ok_runs ns.reverse (by rw [List.reverse_reverse]; exact h)
  rw [List.reverse_reverse] at this
  exact this
theorem uniq : ∀ {l m : List (Int × Int)}, (l.Pairwise fun a b => a.1 > b.1) → (m.Pairwise fun a b => a.1 > b.1) → (∀ x, x ∈ l ↔ x ∈ m) → l = m
  | [], [], _, _, _ => rfl
  | [], y :: m, _, _, h => by have := (h y).mpr List.mem_cons_self; cases this
  | x :: l, [], _, _, h => by have := (h x).mp List.mem_cons_self; cases this
  | x :: l, y :: m, hl, hm, h => by
    obtain ⟨l1, l2⟩ := List.pairwise_cons.mp hl
    obtain ⟨m1, m2⟩ := List.pairwise_cons.mp hm
    have exy : x = y := by
      rcases List.mem_cons.mp ((h x).mp List.mem_cons_self) with e | e
      · exact e
      · rcases List.mem_cons.mp ((h y).mpr List.mem_cons_self) with e' | e'
        · exact e'.symm
        · have := m1 x e; have := l1 y e'; omega
    subst exy
    congr 1
    refine uniq l2 m2 fun z => ?_
    constructor
    · intro hz
      rcases List.mem_cons.mp ((h z).mp (List.mem_cons_of_mem _ hz)) with e | e
      · subst e; have := l1 z hz; omega
      · exact e
    · intro hz
      rcases List.mem_cons.mp ((h z).mpr (List.mem_cons_of_mem _ hz)) with e | e
      · subst e; have := m1 z hz; omega
      · exact e
noncomputable def lsz (ns : List Int) (M : Int) (k : Nat) : List (Int × Int) := (List.range k).filterMap fun (i : Nat) => if 0 < ns.count (M + (i : Int) * (-1)) then some (M + (i : Int) * (-1), (ns.count (M + (i : Int) * (-1)) : Int)) else none
theorem lsz_succ (ns : List Int) (M : Int) (k : Nat) : lsz ns M (k + 1) = lsz ns M k ++ (if 0 < ns.count (M + (k : Int) * (-1)) then [(M + (k : Int) * (-1), (ns.count (M + (k : Int) * (-1)) : Int))] else []) := by
  unfold lsz
  rw [List.range_succ, List.filterMap_append]
  congr 1
  by_cases h : 0 < ns.count (M + (k : Int) * (-1))
  · rw [if_pos h, List.filterMap_cons, if_pos h]; rfl
  · rw [if_neg h, List.filterMap_cons, if_neg h]; rfl
theorem lsz_mem {ns : List Int} {M : Int} {k : Nat} {x : Int × Int} : x ∈ lsz ns M k ↔ x.2 = (ns.count x.1 : Int) ∧ 0 < ns.count x.1 ∧ M - k < x.1 ∧ x.1 ≤ M := by
  unfold lsz
  rw [List.mem_filterMap]
  constructor
  · rintro ⟨i, hi, h⟩
    have hi' := List.mem_range.mp hi
    split at h
    · cases h; dsimp only; exact ⟨rfl, by assumption, by omega, by omega⟩
    · cases h
  · rintro ⟨h1, h2, h3, h4⟩
    refine ⟨(M - x.1).toNat, List.mem_range.mpr (by omega), ?_⟩
    have e : M + (((M - x.1).toNat : Nat) : Int) * (-1) = x.1 := by omega
    rw [e, if_pos h2]
    cases x
    simp only at h1
    rw [h1]
theorem lsz_pw (ns : List Int) (M : Int) : ∀ k, (lsz ns M k).Pairwise fun a b => a.1 > b.1
  | 0 => by simp [lsz]
  | k + 1 => by
    rw [lsz_succ, List.pairwise_append]
    refine ⟨lsz_pw ns M k, ?_, fun a ha b hb => ?_⟩
    · split <;> simp
    · split at hb
      · have : b = (M + (k : Int) * (-1), (ns.count (M + (k : Int) * (-1)) : Int)) := by simpa using hb
        subst this
        have := (lsz_mem.mp ha).2.2.1
        show a.1 > M + (k : Int) * (-1)
        omega
      · cases hb
theorem same {ns : List Int} {M : Int} (h : ns.Pairwise (· ≥ ·)) (h1 : ∀ n ∈ ns, 1 ≤ n) (hM : ∀ n ∈ ns, n ≤ M) (h0 : 0 ≤ M) : lsz ns M M.toNat = runs ns := by
  have o := ok_of h
  refine uniq (lsz_pw ns M _) o.pw fun x => ?_
  rw [lsz_mem]
  have := o.mem x.1 x.2
  constructor
  · rintro ⟨a, b, _, _⟩; exact this.mpr ⟨a, b⟩
  · intro z
    obtain ⟨a, b⟩ := this.mp z
    have hm : x.1 ∈ ns := List.count_pos_iff.mp b
    exact ⟨a, b, by have := h1 _ hm; omega, hM _ hm⟩
theorem runs_len : ∀ rs : List Int, (runs rs.reverse).length ≤ rs.length
  | [] => Nat.le_refl _
  | p :: rs => by
    rw [List.reverse_cons, runs_snoc]
    have := runs_len rs
    unfold rstep
    split
    · split
      · rw [List.length_set, List.length_cons]; omega
      · rw [List.length_append, List.length_cons]; simp; omega
    · rw [List.length_append, List.length_cons]; simp; omega
theorem runs_len' (ns : List Int) : (runs ns).length ≤ ns.length := by
  have := runs_len ns.reverse
  rw [List.reverse_reverse, List.length_reverse] at this
  exact this
end M02
set_option Elab.async false
set_option linter.all false
set_option maxRecDepth 100000
set_option maxHeartbeats 4000000
namespace K10
open PySem L2 MRow M27 M80 M17 M12 M24 M11 M66
noncomputable def zb (d : Nat) (x : List Nat) : List Bool := List.zipWith (fun a b => decide (b + d ≤ a)) x x.tail
theorem vd_zb (d : Nat) : ∀ x, vd d x = (zb d x).all id
  | [] => rfl
  | [_] => rfl
  | a :: b :: r => by
    show (decide (b + d ≤ a) && vd d (b :: r)) = (decide (b + d ≤ a) && (zb d (b :: r)).all id)
    rw [vd_zb d (b :: r)]
noncomputable def isf : Kn → List Nat → Bool
  | .all => fun _ => true
  | .most k => fun x => x.all fun a => decide (a ≤ k)
  | .few k => fun x => decide (x.length ≤ k)
  | .times m => cts m
  | .rests m rs => fun x => x.all fun a => decide ((a : Int) % (m : Int) ∈ rs)
  | .box k l => inb k l
  | .off d => vd d
  | .own => own
theorem nI_get {x : List Nat} {i a : Nat} (h : x[i]? = some a) : (nI x)[i]? = some (.int (a : Int)) := by unfold nI; rw [List.getElem?_map, List.getElem?_map, h]; rfl
theorem take_more {α β : Type} (f : α → β) {x : List α} {i : Nat} {a : α} (h : x[i]? = some a) : (x.take (i + 1)).map f = (x.take i).map f ++ [f a] := by rw [List.take_succ, h, List.map_append]; rfl
theorem countI (x : List Nat) (a : Nat) : (x.map fun (k : Nat) => (k : Int)).count (a : Int) = x.count a := by
  induction x with
  | nil => rfl
  | cons b x ih =>
    rw [List.map_cons, List.count_cons, List.count_cons, ih]
    congr 1
    by_cases h : b = a
    · rw [h]; simp
    · rw [if_neg (by simpa using fun e : (b : Int) = (a : Int) => h (Int.ofNat_inj.mp e)), if_neg (by simpa using h)]
theorem gr_ge : ∀ (x : List Nat), ∀ a ∈ x, a ≤ gr x
  | [], _, h => nomatch h
  | b :: r, a, h => by
    show a ≤ if gr r ≤ b then b else gr r
    rcases List.mem_cons.mp h with e | e
    · subst e; split <;> omega
    · have := gr_ge r a e; split <;> omega
theorem eqv_ints : ∀ (as bs : List Int), PyData.eqvAll (as.map PyData.int) (bs.map PyData.int) = decide (as = bs)
  | [], [] => by simp [PyData.eqvAll]
  | [], b :: bs => by simp [PyData.eqvAll]
  | a :: as, [] => by simp [PyData.eqvAll]
  | a :: as, b :: bs => by
    have ih := eqv_ints as bs
    simp only [List.map_cons, PyData.eqvAll, ih, PyData.eqv]
    by_cases h : a = b
    · subst h
      simp
    · simp [h]
theorem eqv_tup (as bs : List Int) : PyData.eqv (.tuple (as.map PyData.int)) (.tuple (bs.map PyData.int)) = decide (as = bs) := by
  show PyData.eqvAll _ _ = _
  exact eqv_ints as bs
theorem Fl.pw : ∀ {x : List Nat}, Fl x → (M63.toI x).Pairwise (· ≥ ·)
  | [], _ => .nil
  | a :: r, f => .cons (fun b hb => by
      obtain ⟨c, hc, rfl⟩ := List.mem_map.mp hb
      have := Fl.head f c (List.mem_cons_of_mem _ hc)
      show (c : Int) ≤ (a : Int)
      omega) (Fl.pw f.tail)
noncomputable def isg : Kn → List Nat → Bool
  | .own => fun x => decide (M03.tn (M63.toI x) = M63.toI x)
  | k => isf k
noncomputable def noown : Kn → Prop
  | .own => False
  | _ => True
theorem Fl.all_le {x : List Nat} {a : Nat} {r : List Nat} (h : x = a :: r) (f : Fl x) (k : Nat) : (x.all fun a => decide (a ≤ k)) = decide (a ≤ k) := by
  subst h
  by_cases c : a ≤ k
  · rw [decide_eq_true c, List.all_eq_true]
    intro b hb
    have := Fl.head f b hb
    exact decide_eq_true (by omega)
  · rw [decide_eq_false c]
    refine Bool.eq_false_iff.mpr fun g => ?_
    exact c (of_decide_eq_true (List.all_eq_true.mp g a List.mem_cons_self))
theorem cts_runs {x : List Nat} (f : Fl x) (m : Nat) : ((M02.runs (x.map fun (k : Nat) => (k : Int))).all fun p => decide (p.2 < (m : Int))) = cts m x := by
  have hp : (x.map fun (k : Nat) => (k : Int)).Pairwise (· ≥ ·) := by
    rw [List.pairwise_map]
    induction x with
    | nil => exact .nil
    | cons a r ih => exact .cons (fun b hb => by have := Fl.head f b (List.mem_cons_of_mem _ hb); show (b : Int) ≤ (a : Int); omega) (ih f.tail)
  have h1 : ∀ n ∈ x.map fun (k : Nat) => (k : Int), 1 ≤ n := fun n hn => by obtain ⟨a, ha, rfl⟩ := List.mem_map.mp hn; have := Fl.pos f a ha; omega
  have hM : ∀ n ∈ x.map fun (k : Nat) => (k : Int), n ≤ (gr x : Int) := fun n hn => by obtain ⟨a, ha, rfl⟩ := List.mem_map.mp hn; have := gr_ge x a ha; omega
  rw [← M02.same hp h1 hM (by omega)]
  unfold cts
  rw [Bool.eq_iff_iff, List.all_eq_true, List.all_eq_true]
  refine ⟨fun g a ha => ?_, fun g p hp => ?_⟩
  · have c0 : 0 < x.count a := List.count_pos_iff.mpr ha
    have := g ((a : Int), (x.count a : Int)) (M02.lsz_mem.mpr ⟨by rw [countI], by rw [countI]; exact c0, by have := Fl.pos f a ha; omega, by have := gr_ge x a ha; omega⟩)
    have := of_decide_eq_true this
    exact decide_eq_true (by dsimp only at this; omega)
  · obtain ⟨e1, e2, e3, e4⟩ := M02.lsz_mem.mp hp
    have hm : p.1 ∈ x.map fun (k : Nat) => (k : Int) := List.count_pos_iff.mp e2
    obtain ⟨a, ha, ea⟩ := List.mem_map.mp hm
    have := of_decide_eq_true (g a ha)
    refine decide_eq_true ?_
    rw [e1, ← ea, countI]
    omega
section
variable {P : Program} {w : World} {K : PySem.W.Frag} {mg : Str → Option Value} {base : Heap} {f : Addr} {fd : FuncData}
theorem sc_sizes : FnScope ["parting", "told", "part"] ["parting"] (defScope (top 5)) := ⟨rfl, rfl, rfl, by decide +kernel, rfl, by decide +kernel, by decide +kernel⟩
noncomputable def sp_sizes : Sp := fun vs H Q _ => ∃ (a : Addr) (ns : List Int), vs = [.ref a] ∧ H a = some (.tup (ns.map V.int)) ∧ ns.length ≤ 1000 ∧ ∀ r H' us, Same H H' → H' r = some (.tup us) → Prs H' us (M02.runs ns) → Q (.ref r) H'
theorem ok_sizes (F : Fun K "sizes" "sizes" (top 5) f fd) (m_tuple : mg "tuple" = none) : FnOk P w K mg base CX0 1 f fd ["parting"] sp_sizes := by
  refine F.okz sc_sizes (fun vs H Q E h => ?_) (fun cdv A outer s H vs Q E hr h => ?_)
  · obtain ⟨a, ns, rfl, _⟩ := h; rfl
  obtain ⟨a, ns, rfl, ha, hl, q⟩ := h
  have nd := sc_sizes.nd
  have hu := hr.units
  refine ⟨_, (zss_cons (zs_set (i := 1) nd rfl (Or.inl rfl) (ze_lst za_nil))
      (zss_cons (zs_for PassesOwn.never rfl (zi_tup (zn 0)) (zg_name (i := 2) nd rfl (Or.inl rfl)) (zss_one (zs_if (ZW.zt (zw_and (zt_truP (zn 1)) (zw_and1 (zt_cmpP (op_eqD hu) (ze_ix ix_P (ze_ix ix_P (zn 1) (ze_un un_neg ze_int) (fun _ _ => rfl)) ze_int (fun _ _ => rfl)) (zn 2) (nomark _))))) (zss_one (zs_asg (ze_tup (za_cons (zn 2) (za_cons (ze_op op_addP (ze_ix ix_P (ze_ix ix_P (zn 1) (ze_un un_neg ze_int) (fun _ _ => rfl)) ze_int (fun _ _ => rfl)) ze_int) za_nil))) (zg_sub (zn 1) (ze_un un_neg ze_int) set_list))) (zss_one (zs_expr (zm_append (zn 1) (za_cons (ze_tup (za_cons (zn 2) (za_cons ze_int za_nil))) za_nil)))))))
      (zss_one (zs_ret (zcb_tuple rfl m_tuple (za_cons (zn 1) za_nil) rfl rfl))))), ?_⟩
  refine ⟨Nat.zero_le _, fun t ht => ?_⟩
  have g0 : Same H (upd H t (.lst [])) := Same.new ht _
  refine ⟨a, rfl, ⟨_, SqT.of (g0 _ _ ha)⟩, for_tup (xs := ns.map V.int) (fun i σ H' => Same H H' ∧ ∃ us pp, σ = [some (.ref a), some (.ref t), pp] ∧ H' t = some (.lst us) ∧ Prs H' us (M02.runs (ns.take i)))
    ⟨g0, [], none, rfl, upd_same, by rw [List.take_zero]; exact .nil⟩ ?_ ?_ ?_⟩
  · rintro i σ H' _ ⟨y, _⟩
    exact SqT.of (y _ _ ha)
  · rintro i x σ H' hx ⟨y, us, pp, rfl, hus, hp⟩
    have hi : i < ns.length := by
      have := (List.getElem?_eq_some_iff.mp hx).1
      rw [List.length_map] at this
      exact this
    have ex : x = .int ns[i] := by rw [getI hi] at hx; exact (Option.some.inj hx).symm
    subst ex
    have etake : ns.take (i + 1) = ns.take i ++ [ns[i]] := by rw [List.take_succ, List.getElem?_eq_getElem hi]; rfl
    have hlen : us.length ≤ 1000 := by
      rw [hp.length]
      have := M02.runs_len' (ns.take i)
      rw [List.length_take] at this
      omega
    have app : M02.rstep (M02.runs (ns.take i)) ns[i] = M02.runs (ns.take i) ++ [(ns[i], 1)] →
        1 + 1 ≤ sizeLine ∧ ∀ b, H' b = none → us.length < sizeLine ∧ True := fun _ => ⟨by decide, fun _ _ => ⟨small1000 hlen, trivial⟩⟩
    have more : ∀ b, H' b = none → M02.rstep (M02.runs (ns.take i)) ns[i] = M02.runs (ns.take i) ++ [(ns[i], 1)] →
        Same H (upd (upd H' b (.tup [.int ns[i], .int 1])) t (.lst (us ++ [.ref b]))) ∧ ∃ us' pp', [some (V.ref a), some (.ref t), some (.int ns[i])] = [some (.ref a), some (.ref t), pp'] ∧ (upd (upd H' b (.tup [.int ns[i], .int 1])) t (.lst (us ++ [.ref b]))) t = some (.lst us') ∧ Prs (upd (upd H' b (.tup [.int ns[i], .int 1])) t (.lst (us ++ [.ref b]))) us' (M02.runs (ns.take (i + 1))) := fun b hb e => by
      have g1 := Same.new hb (.tup [.int ns[i], .int 1])
      refine ⟨Same.updN (y.trans g1) ht, _, _, rfl, upd_same, ?_⟩
      rw [etake, M02.runs_snoc, e]
      refine Prs.updL (g1 _ _ hus) ((hp.same g1).snoc (p := (ns[i], 1)) ⟨b, rfl, upd_same⟩)
    refine ⟨us, .inl (SqL.of hus), ?_⟩
    refine iteB (fun c => ?_) (fun c => ?_)
    · have hne : M02.runs (ns.take i) ≠ [] := by
        intro e
        rw [hp.nilOf, e] at c
        cases c
      cases el : (M02.runs (ns.take i)).getLast? with
      | none => exact absurd (List.getLast?_eq_none_iff.mp el) hne
      | some z =>
        obtain ⟨ini, eini⟩ := M02.last_split el
        have hp0 := hp
        rw [eini] at hp
        obtain ⟨vs, b, rfl, hvl, hb⟩ := hp.split
        refine ⟨_, rfl, _, .inl (SqL.of hus), .ref b, atI_last vs _, ?_⟩
        refine ⟨_, .inr hb, .int z.1, rfl, ?_⟩
        refine iteD (fun c2 => ?_) (fun c2 => ?_)
        · have c3 : z.1 = ns[i] := V.int.inj c2
          refine ⟨_, rfl, _, .inl (SqL.of hus), .ref b, atI_last vs _, ?_⟩
          refine ⟨_, .inr hb, .int z.2, rfl, ?_⟩
          refine ⟨by show 2 ≤ sizeLine; decide, fun d hd => ?_⟩
          have g1 := Same.new hd (.tup [.int ns[i], .int (z.2 + 1)])
          refine ⟨_, rfl, t, _, _, vs.length, rfl, rfl, g1 _ _ hus, ?_, ?_⟩
          · unfold ixN
            rw [if_neg (by decide), List.length_append, List.length_singleton, if_pos (by omega)]
            congr 1
            omega
          · refine ⟨Same.updN (y.trans g1) ht, _, _, rfl, upd_same, ?_⟩
            rw [etake, M02.runs_snoc]
            have e1 : M02.rstep (M02.runs (ns.take i)) ns[i] = (ini ++ [z]).set (vs.length) (ns[i], z.2 + 1) := by
              unfold M02.rstep
              rw [el]
              dsimp only
              rw [if_pos c3, eini, List.length_append, List.length_singleton, Nat.add_sub_cancel, hvl]
            rw [e1]
            exact Prs.updL (g1 _ _ hus) ((hp.same g1).set (p := (ns[i], z.2 + 1)) ⟨d, rfl, upd_same⟩ _)
        · have c3 : z.1 ≠ ns[i] := fun e => c2 (by rw [e])
          refine ⟨tyL hus, by show 2 ≤ sizeLine; decide, fun d hd => ?_⟩
          refine ⟨_, (Same.new hd _) _ _ hus, small1000 hlen, ?_⟩
          refine more d hd ?_
          unfold M02.rstep
          rw [el]
          dsimp only
          rw [if_neg c3]
    · have e0 : M02.runs (ns.take i) = [] := by
        have := hp.nilOf
        rw [Bool.not_eq_false'] at c
        rw [c] at this
        exact List.isEmpty_iff.mp this.symm
      refine iteF ?_
      refine ⟨tyL hus, by show 2 ≤ sizeLine; decide, fun d hd => ?_⟩
      refine ⟨_, (Same.new hd _) _ _ hus, small1000 hlen, ?_⟩
      refine more d hd ?_
      rw [e0]
      rfl
  · rintro σ H' ⟨y, us, pp, rfl, hus, hp⟩
    refine ⟨us, .inl (SqL.of hus), fun r H2 y2 hr2 => ?_⟩
    rw [List.take_of_length_le (by rw [List.length_map]; exact Nat.le_refl _)] at hp
    exact q r H2 us (y.trans y2) hr2 (hp.same y2)
theorem sc_na : FnScope ["parting", "k"] ["parting", "k"] (defScope (top 7)) := ⟨rfl, rfl, rfl, by decide +kernel, rfl, by decide +kernel, by decide +kernel⟩
noncomputable def sp_na : Sp := fun vs H Q _ => ∃ (p : Addr) (x : List Nat) (k : Nat), vs = [.ref p, .int k] ∧ H p = some (.tup (nI x)) ∧ Fl x ∧ Q (.bl (x.all fun a => decide (a ≤ k))) H
theorem ok_na (F : Fun K "has_none_above" "has_none_above" (top 7) f fd) (m_len : mg "len" = none)  : FnOk P w K mg base CX0 1 f fd ["parting", "k"] sp_na := by
  refine F.okz sc_na (fun vs H Q E h => ?_) (fun cdv A outer s H vs Q E hr h => ?_)
  · obtain ⟨p, x, k, rfl, _⟩ := h; rfl
  obtain ⟨p, x, k, rfl, hp, hf, q⟩ := h
  have nd := sc_na.nd
  have hu := hr.units
  refine ⟨_, (zss_one (zs_ret (ze_orP (ze_cmpR (op_eqD hu) (zcb_len rfl m_len (za_cons (zn 0) za_nil) rfl rfl) ze_int (nomark _)) (ze_one (ze_cmpR op_leP (ze_ix ix_P (zn 0) ze_int (fun _ _ => rfl)) (zn 1) (nomark _)))))), ?_⟩
  refine ⟨_, .inr hp, ?_⟩
  rw [nI_len]
  refine iteB (fun c => ?_) (fun c => ?_)
  · have c' : decide (V.int (x.length : Int) = V.int 0) = true := c
    have e := V.int.inj (of_decide_eq_true c')
    cases x with
    | nil => exact q
    | cons a r => rw [List.length_cons] at e; omega
  · cases x with
    | nil => exact absurd c (by decide)
    | cons a r =>
      refine ⟨_, .inr hp, .int (a : Int), atI_of (j := 0) rfl rfl, ?_⟩
      rw [Fl.all_le rfl hf] at q
      show Q (.bl (decide ((a : Int) ≤ (k : Int)))) H
      rw [show decide ((a : Int) ≤ (k : Int)) = decide (a ≤ k) from decide_eq_decide.mpr (by omega)]
      exact q
theorem sc_fa : FnScope ["parting", "d", "at"] ["parting", "d"] (defScope (top 8)) := ⟨rfl, rfl, rfl, by decide +kernel, rfl, by decide +kernel, by decide +kernel⟩
noncomputable def sp_fa : Sp := fun vs H Q _ => ∃ (p : Addr) (x : List Nat) (d : Nat), vs = [.ref p, .int d] ∧ H p = some (.tup (nI x)) ∧ x.length ≤ 1000 ∧ Q (.bl (vd d x)) H
theorem zb_get {d : Nat} {x : List Nat} {i a b : Nat} (ha : x[i]? = some a) (hb : x[i + 1]? = some b) : (zb d x)[i]? = some (decide (b + d ≤ a)) := by
  unfold zb
  rw [List.getElem?_zipWith, ha, List.getElem?_tail, hb]
theorem ok_fa (F : Fun K "falls_by" "falls_by" (top 8) f fd) (m_len : mg "len" = none) (m_range : mg "range" = none)  : FnOk P w K mg base CX0 1 f fd ["parting", "d"] sp_fa := by
  refine F.okz sc_fa (fun vs H Q E h => ?_) (fun cdv A outer s H vs Q E hr h => ?_)
  · obtain ⟨p, x, d, rfl, _⟩ := h; rfl
  obtain ⟨p, x, d, rfl, hp, hl, q⟩ := h
  have nd := sc_fa.nd
  have hu := hr.units
  refine ⟨_, (zss_cons (zs_for PassesOwn.never rfl (zi_range2 rfl m_range (za_cons ze_int (za_cons (zcb_len rfl m_len (za_cons (zn 0) za_nil) rfl rfl) za_nil))) (zg_name (i := 2) nd rfl (Or.inl rfl)) (zss_one (zs_if (zt_cmpP op_ltP (ze_op op_subP (ze_ix ix_P (zn 0) (ze_op op_subP (zn 2) ze_int) (fun _ _ => rfl)) (ze_ix ix_P (zn 0) (zn 2) (fun _ _ => rfl))) (zn 1) (nomark _)) (zss_one (zs_ret ze_bl)) zss_nil)))
      (zss_one (zs_ret ze_bl))), ?_⟩
  refine ⟨_, .inr hp, ?_⟩
  rw [nI_len]
  refine ⟨1, (x.length : Int), rfl, ⟨by omega, by omega, by omega, by omega⟩, ?_⟩
  have eN : ((x.length : Int) - 1).toNat = x.length - 1 := by omega
  rw [eN]
  have zl : (zb d x).length = x.length - 1 := by unfold zb; rw [List.length_zipWith, List.length_tail]; omega
  rw [vd_zb] at q
  refine for_range (fun i σ H' => i ≤ x.length - 1 ∧ H' = H ∧ (∀ j b, j < i → (zb d x)[j]? = some b → b = true) ∧ ∃ x2, σ = [some (.ref p), some (.int d), x2]) ⟨Nat.zero_le _, rfl, fun j b h => absurd h (Nat.not_lt_zero _), _, rfl⟩ ?_ ?_
  · rintro i σ H' hi ⟨_, rfl, pv, x2, rfl⟩
    have h0 : i < x.length := by omega
    have h1 : i + 1 < x.length := by omega
    have g0 : x[i]? = some x[i] := List.getElem?_eq_getElem h0
    have g1 : x[i + 1]? = some x[i + 1] := List.getElem?_eq_getElem h1
    have hz := zb_get (d := d) g0 g1
    generalize x[i] = a at g0 hz
    generalize x[i + 1] = b at g1 hz
    refine ⟨_, .inr hp, .int (a : Int), atI_of (j := i) (by omega) (nI_get g0), ?_⟩
    refine ⟨_, .inr hp, .int (b : Int), atI_of (j := i + 1) (by omega) (nI_get g1), ?_⟩
    refine iteD (fun c => ?_) (fun c => ?_)
    · have c' : (a : Int) - (b : Int) < (d : Int) := c
      have e : (zb d x).all id = false := by
        refine Bool.eq_false_iff.mpr fun g => ?_
        have := List.all_eq_true.mp g _ (List.mem_of_getElem? hz)
        have := of_decide_eq_true this
        omega
      rw [e] at q
      exact q
    · have c' : ¬ (a : Int) - (b : Int) < (d : Int) := c
      refine ⟨by omega, rfl, fun j v hj hv => ?_, _, rfl⟩
      by_cases e : j = i
      · subst e
        rw [hz] at hv
        rw [← Option.some.inj hv]
        exact decide_eq_true (by omega)
      · exact pv j v (by omega) hv
  · rintro σ H' ⟨_, rfl, pv, x2, rfl⟩
    have e : (zb d x).all id = true := List.all_eq_true.mpr fun b hb => by
      obtain ⟨j, hj, e⟩ := List.getElem_of_mem hb
      exact pv j b (by omega) (by rw [List.getElem?_eq_getElem hj, e])
    rw [e] at q
    exact q
theorem sc_no : FnScope ["parting", "m"] ["parting", "m"] (defScope (top 9)) := ⟨rfl, rfl, rfl, by decide +kernel, rfl, by decide +kernel, by decide +kernel⟩
noncomputable def sp_no : Sp := fun vs H Q _ => ∃ (p : Addr) (x : List Nat) (m : Nat), vs = [.ref p, .int m] ∧ H p = some (.tup (nI x)) ∧ x.length ≤ 1000 ∧ Fl x ∧ ∀ H', Same H H' → Q (.bl (cts m x)) H'
theorem ok_no (F : Fun K "has_none_often" "has_none_often" (top 9) f fd) (m_all : mg "all" = none) (F_sizes : FnA P w K mg base "sizes" 1 ["parting"] sp_sizes) : FnOk P w K mg base CX0 2 f fd ["parting", "m"] sp_no := by
  refine F.okz sc_no (fun vs H Q E h => ?_) (fun cdv A outer s H vs Q E hr h => ?_)
  · obtain ⟨p, x, m, rfl, _⟩ := h; rfl
  obtain ⟨p, x, m, rfl, hp, hl, hf, q⟩ := h
  have nd := sc_no.nd
  have hu := hr.units
  refine ⟨_, (zss_one (zs_ret (zcb_all rfl rfl m_all (za_cons (ze_comp ["size", "often"] [("m", 1)] rfl ⟨rfl, by decide +kernel, by decide +kernel, rfl, rfl⟩ (zi_tup (ze_fn F_sizes hr (by decide) rfl (za_cons (zn 0) za_nil))) kpg_two (fun _ _ _ _ => zg_tup rfl (zgs_cons (zg_name (i := 0) (show List.Nodup (["size", "often", "m"] : List Str) by decide +kernel) rfl (Or.inl rfl)) (zgs_cons (zg_name (i := 1) (show List.Nodup (["size", "often", "m"] : List Str) by decide +kernel) rfl (Or.inl rfl)) zgs_nil))) (fun _ _ _ _ => zif_nil) (fun _ _ _ _ => (ze_cmpR op_ltP (zn 1) (zn 2) (nomark _)))) za_nil) rfl rfl))), ?_⟩
  refine ⟨p, x.map fun (k : Nat) => (k : Int), rfl, hp, by rw [List.length_map]; exact hl, fun r H1 us y1 hr1 hP => ?_⟩
  have lr := M02.runs_len' (x.map fun (k : Nat) => (k : Int))
  rw [List.length_map] at lr
  have lu := hP.length
  rw [← cts_runs hf] at q
  generalize M02.runs (x.map fun (k : Nat) => (k : Int)) = ps at hP lr lu q
  refine ⟨r, rfl, ⟨_, SqT.of hr1⟩, cmp_tup (xs := us) (fun i ys H' => H' = H1 ∧ i ≤ ps.length ∧ ys = ((ps.take i).map fun p => decide (p.2 < (m : Int))).map V.bl) ⟨rfl, Nat.zero_le _, rfl⟩ ?_ ?_ ?_⟩
  · rintro i ys H' _ ⟨rfl, _⟩
    exact SqT.of hr1
  · rintro i v ys H' hv ⟨rfl, hi, rfl⟩
    obtain ⟨z, hz, d, rfl, hd⟩ := hP.get hv
    have hi' := (List.getElem?_eq_some_iff.mp hz).1
    refine ⟨by rw [List.length_map, List.length_map, List.length_take]; exact small1000 (by omega), ?_⟩
    refine ⟨d, _, rfl, SqT.of hd, rfl, _, _, rfl, _, _, rfl, rfl, ?_⟩
    refine ⟨rfl, hi', ?_⟩
    rw [take_more _ hz, List.map_append]
    rfl
  · rintro ys H' ⟨rfl, hi, rfl⟩ D hD
    refine ⟨_, SqL.of upd_same, ?_⟩
    rw [lu, List.take_of_length_le (Nat.le_refl _), List.all_map]
    exact q _ (y1.trans (Same.new hD _))
theorem sc_lo : FnScope ["parting", "m", "rests"] ["parting", "m", "rests"] (defScope (top 10)) := ⟨rfl, rfl, rfl, by decide +kernel, rfl, by decide +kernel, by decide +kernel⟩
noncomputable def sp_lo : Sp := fun vs H Q _ => ∃ (p d : Addr) (x : List Nat) (m : Nat) (rs : List Int), vs = [.ref p, .int m, .ref d] ∧ H p = some (.tup (nI x)) ∧ x.length ≤ 1000 ∧ 0 < m ∧ H d = some (.tup (rs.map V.int)) ∧ ∀ H', Same H H' → Q (.bl (x.all fun a => decide ((a : Int) % (m : Int) ∈ rs))) H'
theorem ok_lo (F : Fun K "leaves_only" "leaves_only" (top 10) f fd) (m_all : mg "all" = none)  : FnOk P w K mg base CX0 1 f fd ["parting", "m", "rests"] sp_lo := by
  refine F.okz sc_lo (fun vs H Q E h => ?_) (fun cdv A outer s H vs Q E hr h => ?_)
  · obtain ⟨p, d, x, m, rs, rfl, _⟩ := h; rfl
  obtain ⟨p, d, x, m, rs, rfl, hp, hl, hm, hd, q⟩ := h
  have nd := sc_lo.nd
  have hu := hr.units
  refine ⟨_, (zss_one (zs_ret (zcb_all rfl rfl m_all (za_cons (ze_comp ["part"] [("m", 1), ("rests", 2)] rfl ⟨rfl, by decide +kernel, by decide +kernel, rfl, rfl⟩ (zi_tup (zn 0)) kpg_name (fun _ _ _ _ => zg_name (i := 0) (show List.Nodup (["part", "m", "rests"] : List Str) by decide +kernel) rfl (Or.inl rfl)) (fun _ _ _ _ => zif_nil) (fun _ _ _ _ => (ze_cmpR (op_in_seq' rfl) (ze_op op_modP (zn 0) (zn 1)) (zn 2) (by with_unfolding_all rfl)))) za_nil) rfl rfl))), ?_⟩
  refine ⟨p, rfl, ⟨_, SqT.of hp⟩, cmp_tup (xs := nI x) (fun i ys H' => H' = H ∧ i ≤ x.length ∧ ys = ((x.take i).map fun a : Nat => decide ((a : Int) % (m : Int) ∈ rs)).map V.bl) ⟨rfl, Nat.zero_le _, rfl⟩ ?_ ?_ ?_⟩
  · rintro i ys H' _ ⟨rfl, _⟩
    exact SqT.of hp
  · rintro i v ys H' hv ⟨rfl, hi, rfl⟩
    obtain ⟨a, ha, rfl⟩ := nI_at hv
    have hi' := (List.getElem?_eq_some_iff.mp ha).1
    refine ⟨by rw [List.length_map, List.length_map, List.length_take]; exact small1000 (by omega), ?_⟩
    refine ⟨(show (0 : Int) < (m : Int) by omega), ?_⟩
    refine ⟨d, _, rfl, .inr (SqT.of hd), rfl, flat_ints rs, ?_⟩
    rw [in_ints]
    refine ⟨rfl, hi', ?_⟩
    rw [take_more _ ha, List.map_append]
    rfl
  · rintro ys H' ⟨rfl, hi, rfl⟩ D hD
    refine ⟨_, SqL.of upd_same, ?_⟩
    rw [nI_len, List.take_of_length_le (Nat.le_refl _), List.all_map]
    exact q _ (Same.new hD _)
theorem sc_pi : FnScope ["kind", "parting", "word"] ["kind", "parting"] (defScope (top 11)) := ⟨rfl, rfl, rfl, by decide +kernel, rfl, by decide +kernel, by decide +kernel⟩
noncomputable def sp_pi : Sp := fun vs H Q _ => ∃ (c p : Addr) (k : Kn) (x : List Nat), vs = [.ref c, .ref p] ∧ KnAt H c k ∧ k.Ok ∧ H p = some (.tup (nI x)) ∧ x.length ≤ 1000 ∧ (∀ a ∈ x, a ≤ 1000) ∧ Fl x ∧ ∀ H', Same H H' → Q (.bl (isg k x)) H'
theorem ok_pi (F : Fun K "is_of" "is_of" (top 11) f fd) (m_len : mg "len" = none) (F_falls_by : FnA P w K mg base "falls_by" 1 ["parting", "d"] sp_fa) (F_has_none_above : FnA P w K mg base "has_none_above" 1 ["parting", "k"] sp_na) (F_has_none_often : FnA P w K mg base "has_none_often" 2 ["parting", "m"] sp_no) (F_leaves_only : FnA P w K mg base "leaves_only" 1 ["parting", "m", "rests"] sp_lo) (F_turned : FnA P w K mg base "turned" 1 ["parting"] sp_turned) : FnOk P w K mg base CX0 3 f fd ["kind", "parting"] sp_pi := by
  refine F.okz sc_pi (fun vs H Q E h => ?_) (fun cdv A outer s H vs Q E hr h => ?_)
  · obtain ⟨c, p, k, x, rfl, _⟩ := h; rfl
  obtain ⟨c, p, k, x, rfl, hk, hok, hp, hl, hx, hf, q⟩ := h
  have nd := sc_pi.nd
  have hu := hr.units
  refine ⟨_, (zss_cons (zs_set (i := 2) nd rfl (Or.inl rfl) (ze_ix ix_P (zn 0) ze_int (fun _ _ => rfl)))
      (zss_cons (zs_if (zt_cmpP (op_eqD hu) (zn 2) ze_str (nomark _)) (zss_one (zs_ret (ze_fn F_has_none_above hr (by decide) rfl (za_cons (zn 1) (za_cons (ze_ix ix_P (zn 0) ze_int (fun _ _ => rfl)) za_nil))))) zss_nil)
      (zss_cons (zs_if (zt_cmpP (op_eqD hu) (zn 2) ze_str (nomark _)) (zss_one (zs_ret (ze_cmpR op_leP (zcb_len rfl m_len (za_cons (zn 1) za_nil) rfl rfl) (ze_ix ix_P (zn 0) ze_int (fun _ _ => rfl)) (nomark _)))) zss_nil)
      (zss_cons (zs_if (zt_cmpP (op_eqD hu) (zn 2) ze_str (nomark _)) (zss_one (zs_ret (ze_andP (ze_fn F_has_none_above hr (by decide) rfl (za_cons (zn 1) (za_cons (ze_ix ix_P (zn 0) ze_int (fun _ _ => rfl)) za_nil))) (ze_one (ze_cmpR op_leP (zcb_len rfl m_len (za_cons (zn 1) za_nil) rfl rfl) (ze_ix ix_P (zn 0) ze_int (fun _ _ => rfl)) (nomark _)))))) zss_nil)
      (zss_cons (zs_if (zt_cmpP (op_eqD hu) (zn 2) ze_str (nomark _)) (zss_one (zs_ret (ze_fn F_falls_by hr (by decide) rfl (za_cons (zn 1) (za_cons (ze_ix ix_P (zn 0) ze_int (fun _ _ => rfl)) za_nil))))) zss_nil)
      (zss_cons (zs_if (zt_cmpP (op_eqD hu) (zn 2) ze_str (nomark _)) (zss_one (zs_ret (ze_fn F_has_none_often hr (by decide) rfl (za_cons (zn 1) (za_cons (ze_ix ix_P (zn 0) ze_int (fun _ _ => rfl)) za_nil))))) zss_nil)
      (zss_cons (zs_if (zt_cmpP (op_eqD hu) (zn 2) ze_str (nomark _)) (zss_one (zs_ret (ze_fn F_leaves_only hr (by decide) rfl (za_cons (zn 1) (za_cons (ze_ix ix_P (zn 0) ze_int (fun _ _ => rfl)) (za_cons (ze_ix ix_P (zn 0) ze_int (fun _ _ => rfl)) za_nil)))))) zss_nil)
      (zss_cons (zs_if (zt_cmpP (op_eqD hu) (zn 2) ze_str (nomark _)) (zss_one (zs_ret (ze_cmpR (op_eqD hu) (ze_fn F_turned hr (by decide) rfl (za_cons (zn 1) za_nil)) (zn 1) (nomark _)))) zss_nil)
      (zss_one (zs_ret ze_bl)))))))))), ?_⟩
  cases k with
  | all => exact ⟨_, .inr hk, .str "all", rfl, q _ (Same.refl _)⟩
  | most k =>
    refine ⟨_, .inr hk, .str "most", rfl, ?_⟩
    refine ⟨_, .inr hk, .int k, rfl, ?_⟩
    exact ⟨p, x, k, rfl, hp, hf, q _ (Same.refl _)⟩
  | few k =>
    refine ⟨_, .inr hk, .str "few", rfl, ?_⟩
    refine ⟨_, .inr hp, ?_⟩
    refine ⟨_, .inr hk, .int k, rfl, ?_⟩
    rw [nI_len]
    show Q (.bl (decide ((x.length : Int) ≤ (k : Int)))) H
    rw [show decide ((x.length : Int) ≤ (k : Int)) = decide (x.length ≤ k) from decide_eq_decide.mpr (by omega)]
    exact q _ (Same.refl _)
  | box k l =>
    refine ⟨_, .inr hk, .str "box", rfl, ?_⟩
    refine ⟨_, .inr hk, .int k, rfl, ?_⟩
    refine ⟨p, x, k, rfl, hp, hf, ?_⟩
    cases h : x.all fun a => decide (a ≤ k) with
    | false =>
      have e : isg (.box k l) x = false := by show (decide (x.length ≤ l) && x.all fun a => decide (a ≤ k)) = _; rw [h, Bool.and_false]
      rw [e] at q
      exact q _ (Same.refl _)
    | true =>
      have e : isg (.box k l) x = decide (x.length ≤ l) := by show (decide (x.length ≤ l) && x.all fun a => decide (a ≤ k)) = _; rw [h, Bool.and_true]
      rw [e] at q
      refine ⟨_, .inr hp, ?_⟩
      refine ⟨_, .inr hk, .int l, rfl, ?_⟩
      rw [nI_len]
      show Q (.bl (decide ((x.length : Int) ≤ (l : Int)))) H
      rw [show decide ((x.length : Int) ≤ (l : Int)) = decide (x.length ≤ l) from decide_eq_decide.mpr (by omega)]
      exact q _ (Same.refl _)
  | off d =>
    refine ⟨_, .inr hk, .str "off", rfl, ?_⟩
    refine ⟨_, .inr hk, .int d, rfl, ?_⟩
    exact ⟨p, x, d, rfl, hp, hl, q _ (Same.refl _)⟩
  | times m =>
    refine ⟨_, .inr hk, .str "times", rfl, ?_⟩
    refine ⟨_, .inr hk, .int m, rfl, ?_⟩
    exact ⟨p, x, m, rfl, hp, hl, hf, q⟩
  | rests m rs =>
    obtain ⟨d, hk, hd⟩ := hk
    refine ⟨_, .inr hk, .str "rests", rfl, ?_⟩
    refine ⟨_, .inr hk, .int m, rfl, ?_⟩
    refine ⟨_, .inr hk, .ref d, rfl, ?_⟩
    exact ⟨p, d, x, m, rs, rfl, hp, hl, hok.1, hd, q⟩
  | own =>
    refine ⟨_, .inr hk, .str "own", rfl, ?_⟩
    refine ⟨p, M63.toI x, rfl, hp, by unfold M63.toI; rw [List.length_map]; exact hl, fun n hn => ?_, Fl.pw hf, fun r H1 y1 hr1 => ?_⟩
    · obtain ⟨a, ha, rfl⟩ := List.mem_map.mp hn
      have := hx a ha
      have := Fl.pos hf a ha
      omega
    · refine ⟨_, _, .ints hr1, .ints (ns := M63.toI x) (y1 _ _ hp), shaped_ints _, shaped_ints _, ?_⟩
      rw [eqv_tup]
      exact q _ y1
end
end K10
set_option Elab.async false
set_option linter.all false
set_option maxRecDepth 100000
set_option maxHeartbeats 4000000
namespace K10
open PySem L2 MP M11 M66 M63 M05
theorem TA.tps {H : Hp} : ∀ {as : List Addr} {xs : List (List Nat)}, TA H as xs → Tps H (as.map V.ref) (xs.map toI)
  | [], [], _ => .nil
  | [], _ :: _, h => nomatch h.1
  | _ :: _, [], h => nomatch h.1
  | a :: as, x :: xs, h => .cons (h.2 0 a x rfl rfl) (TA.tps ⟨Nat.succ.inj h.1, fun j b y e1 e2 => h.2 (j + 1) b y e1 e2⟩)
theorem TA.nil {H : Hp} : TA H [] [] := ⟨rfl, fun j a x e1 _ => nomatch e1⟩
theorem TA.cons {H : Hp} {a : Addr} {x : List Nat} {as : List Addr} {xs : List (List Nat)} (h : H a = some (.tup ((toI x).map V.int))) (g : TA H as xs) : TA H (a :: as) (x :: xs) := ⟨by rw [List.length_cons, List.length_cons, g.1], fun j b y e1 e2 => by
  cases j with
  | zero => cases e1; cases e2; exact h
  | succ j => exact g.2 j b y e1 e2⟩
theorem Tps.ta {H : Hp} : ∀ {us : List V} {xs : List (List Nat)}, Tps H us (xs.map toI) → ∃ as : List Addr, us = as.map V.ref ∧ TA H as xs
  | us, [], h => by cases h; exact ⟨[], rfl, TA.nil⟩
  | us, x :: xs, h => by
    generalize e : (x :: xs).map toI = l at h
    cases h with
    | nil => cases e
    | cons hb r =>
      cases e
      obtain ⟨as, rfl, ta⟩ := Tps.ta r
      exact ⟨_ :: as, rfl, TA.cons hb ta⟩
noncomputable def LK (k : Kn) (n : Nat) : List (List Nat) := (Asc n n).filter (isg k)
theorem LK_len (k : Kn) {n : Nat} (h : n ≤ 30) : (LK k n).length ≤ 6000 := Nat.le_trans (List.length_filter_le _ _) (asc_len30 h)
theorem tk_filter {p : List Nat → Bool} {l : List (List Nat)} {m : Nat} {x : List Nat} (ex : l[m]? = some x) : (l.take (m + 1)).filter p = (l.take m).filter p ++ if p x = true then [x] else [] := by
  rw [List.take_succ, ex, List.filter_append]
  show _ ++ List.filter p [x] = _
  rw [List.filter_cons, List.filter_nil]
section
variable {P : Program} {w : World} {K : PySem.W.Frag} {mg : Str → Option Value} {base : Heap} {f : Addr} {fd : FuncData}
theorem sc_li : FnScope ["kind", "n"] ["kind", "n"] (defScope (top 12)) := ⟨rfl, rfl, rfl, by decide +kernel, rfl, by decide +kernel, by decide +kernel⟩
noncomputable def sp_li : Sp := fun vs H Q _ => ∃ (c : Addr) (k : Kn) (n : Nat), vs = [.ref c, .int n] ∧ KnAt H c k ∧ k.Ok ∧ n ≤ 30 ∧ ∀ T as H', Same H H' → H' T = some (.tup (as.map V.ref)) → TA H' as (LK k n) → Q (.ref T) H'
theorem ok_li (F : Fun K "listed" "listed" (top 12) f fd) (m_tuple : mg "tuple" = none) (F_is_of : FnA P w K mg base "is_of" 3 ["kind", "parting"] sp_pi) (F_partings : FnA P w K mg base "partings" 32 ["n"] sp_ps) : FnOk P w K mg base CX0 33 f fd ["kind", "n"] sp_li := by
  refine F.okz sc_li (fun vs H Q E h => ?_) (fun cdv A outer s H vs Q E hr h => ?_)
  · obtain ⟨c, k, n, rfl, _⟩ := h; rfl
  obtain ⟨c, k, n, rfl, hk, hok, hn, q⟩ := h
  have nd := sc_li.nd
  have hu := hr.units
  refine ⟨_, (zss_one (zs_ret (zcb_tuple rfl m_tuple (za_cons (ze_comp ["parting"] [("kind", 0)] rfl ⟨rfl, by decide +kernel, by decide +kernel, rfl, rfl⟩ (zi_tup (ze_fn F_partings hr (by decide) rfl (za_cons (zn 1) za_nil))) kpg_name (fun _ _ _ _ => zg_name (i := 0) (show List.Nodup (["parting", "kind"] : List Str) by decide +kernel) rfl (Or.inl rfl)) (fun _ _ _ _ => (zif_one (zt_valP (ze_fn F_is_of hr (by decide) rfl (za_cons (zn 1) (za_cons (zn 0) za_nil)))))) (fun _ _ _ _ => (zn 0))) za_nil) rfl rfl))), ?_⟩
  refine ⟨n, rfl, hn, fun T us H1 y1 hT tp => ?_⟩
  rw [PB_asc n n n (Nat.le_refl _)] at tp
  obtain ⟨as, rfl, ta⟩ := Tps.ta tp
  have al := asc_len30 (m := n) hn
  refine ⟨T, rfl, ⟨_, SqT.of hT⟩, cmp_tup (xs := as.map V.ref) (fun m ys Hc => m ≤ as.length ∧ Same H1 Hc ∧ ∃ bs : List Addr, ys = bs.map V.ref ∧ TA Hc bs (((Asc n n).take m).filter (isg k))) ⟨Nat.zero_le _, Same.refl _, [], rfl, TA.nil⟩ ?_ ?_ ?_⟩
  · rintro m ys Hc _ ⟨_, y, _⟩
    exact SqT.of (y _ _ hT)
  · rintro m v ys Hc hv ⟨_, y, bs, rfl, tb'⟩
    obtain ⟨b, x, ea, ex, rfl, ha⟩ := ta.at hv
    have hm := (List.getElem?_eq_some_iff.mp ea).1
    have hx := List.mem_of_getElem? ex
    have lb := tb'.1
    have lf := List.length_filter_le (isg k) ((Asc n n).take m)
    have lt := List.length_take_le m (Asc n n)
    have lm := ta.1
    refine ⟨by rw [List.length_map]; exact small6k (by omega), ?_⟩
    have xl := ls_len (asc_mem.mp hx)
    have xm := (ls_mem _ _ _ (asc_mem.mp hx)).1
    refine ⟨c, b, k, x, rfl, hk.same (y1.trans y), hok, y _ _ ha, by omega, fun a ha => by have := (xm a ha).2; omega, ls_fl _ _ _ hx, fun Hd yd => ?_⟩
    have tk := tk_filter (p := isg k) ex
    cases hb : isg k x with
    | true =>
      rw [hb, if_pos rfl] at tk
      refine ⟨hm, y.trans yd, bs ++ [b], by rw [List.map_append]; rfl, ?_⟩
      rw [tk]
      exact (tb'.same yd).app (TA.cons (yd _ _ (y _ _ ha)) TA.nil)
    | false =>
      rw [hb, if_neg (by decide), List.append_nil] at tk
      refine ⟨hm, y.trans yd, bs, rfl, ?_⟩
      rw [tk]
      exact tb'.same yd
  · rintro ys Hc ⟨_, y, bs, rfl, tb'⟩ D hD
    rw [List.length_map, ta.1, List.take_of_length_le (Nat.le_refl _)] at tb'
    have yD := Same.new hD (.lst (bs.map V.ref))
    refine ⟨_, .inl (SqL.of upd_same), fun r H2 y2 hr2 => ?_⟩
    exact q r bs H2 (y1.trans (y.trans (yD.trans y2))) hr2 ((tb'.same yD).same y2)
end
end K10
set_option Elab.async false
set_option linter.all false
set_option maxRecDepth 100000
set_option maxHeartbeats 4000000
namespace M09
open MRow M80 M17 M12 M24 M11 M66 M63
theorem asc_cn (n : Nat) (p : List Nat → Bool) : (((Asc n n).filter p).length : Int) = cn n n p := by
  rw [← List.countP_eq_length_filter]
  unfold cn Asc
  rw [List.countP_reverse]
end M09
set_option Elab.async false
set_option linter.all false
set_option maxRecDepth 100000
set_option maxHeartbeats 4000000
namespace M10
open M66 M63
theorem in_lst : ∀ (m n : Nat) (x : List Nat), Fl x → (∀ a ∈ x, a ≤ m) → x.sum = n → x ∈ M11.Lst m n
  | 0, n, x, f, h, s => by
    cases x with
    | nil => rw [← s]; exact List.mem_singleton.mpr rfl
    | cons a r => have := h a List.mem_cons_self; have := Fl.pos f a List.mem_cons_self; omega
  | m + 1, n, [], f, h, s => by
    rw [M11.ls_eq]
    exact List.mem_append_right _ (in_lst m n [] f (fun a ha => nomatch ha) s)
  | m + 1, n, a :: r, f, h, s => by
    rw [M11.ls_eq]
    have ha := h a List.mem_cons_self
    rw [List.sum_cons] at s
    by_cases e : a = m + 1
    · subst e
      refine List.mem_append_left _ ?_
      rw [if_pos (by omega)]
      exact List.mem_map.mpr ⟨r, in_lst (m + 1) (n - (m + 1)) r f.tail (fun b hb => h b (List.mem_cons_of_mem _ hb)) (by omega), rfl⟩
    · refine List.mem_append_right _ (in_lst m n (a :: r) f (fun b hb => ?_) (by rw [List.sum_cons]; exact s))
      have := Fl.head f b hb
      omega
  termination_by m n x => (m, x.length)
theorem le_sum : ∀ {x : List Nat} {a : Nat}, a ∈ x → a ≤ x.sum
  | [], _, h => nomatch h
  | b :: r, a, h => by
    rw [List.sum_cons]
    rcases List.mem_cons.mp h with e | e
    · omega
    · have := le_sum e; omega
theorem asc_iff {n : Nat} {x : List Nat} : x ∈ Asc n n ↔ Fl x ∧ x.sum = n := by
  refine ⟨fun h => ⟨ls_fl _ _ _ h, (M11.ls_mem _ _ _ (asc_mem.mp h)).2⟩, fun ⟨f, s⟩ => asc_mem.mpr (in_lst n n x f (fun a ha => ?_) s)⟩
  have := le_sum ha
  omega
theorem Fl.of : ∀ {x : List Nat}, (∀ a ∈ x, 1 ≤ a) → x.Pairwise (· ≥ ·) → Fl x
  | [], _, _ => trivial
  | [a], h, _ => h a List.mem_cons_self
  | a :: b :: r, h, p => ⟨(List.pairwise_cons.mp p).1 b List.mem_cons_self, Fl.of (fun c hc => h c (List.mem_cons_of_mem _ hc)) (List.pairwise_cons.mp p).2⟩
theorem Fl.pwI : ∀ {x : List Nat}, Fl x → (toI x).Pairwise (· ≥ ·)
  | [], _ => .nil
  | a :: r, f => .cons (fun b hb => by
      obtain ⟨c, hc, rfl⟩ := List.mem_map.mp hb
      have := Fl.head f c (List.mem_cons_of_mem _ hc)
      show (c : Int) ≤ (a : Int)
      omega) (Fl.pwI f.tail)
theorem Fl.oneI {x : List Nat} (f : Fl x) : ∀ n ∈ toI x, (1 : Int) ≤ n := fun n hn => by
  obtain ⟨a, ha, rfl⟩ := List.mem_map.mp hn
  have := Fl.pos f a ha
  omega
noncomputable def cj (x : List Nat) : List Nat := (M03.tn (toI x)).map Int.toNat
theorem toI_cj (x : List Nat) : toI (cj x) = M03.tn (toI x) := by
  unfold cj toI
  rw [List.map_map]
  conv => rhs; rw [← List.map_id (M03.tn (x.map fun (k : Nat) => (k : Int)))]
  refine List.map_congr_left fun z hz => ?_
  have := (M03.tn_ge1 z hz).1
  show ((z.toNat : Nat) : Int) = z
  omega
theorem toI_inj {x y : List Nat} (h : toI x = toI y) : x = y := by
  have := congrArg (List.map Int.toNat) h
  unfold toI at this
  rw [List.map_map, List.map_map] at this
  have id' : ∀ z : List Nat, z.map (Int.toNat ∘ fun (k : Nat) => (k : Int)) = z := fun z => by
    conv => rhs; rw [← List.map_id z]
    exact List.map_congr_left fun a _ => Int.toNat_natCast a
  rwa [id', id'] at this
theorem cj_fl (x : List Nat) : Fl (cj x) := by
  refine Fl.of (fun a ha => ?_) ?_
  · obtain ⟨z, hz, rfl⟩ := List.mem_map.mp ha
    have := (M03.tn_ge1 z hz).1
    omega
  · unfold cj
    rw [List.pairwise_map]
    exact (M03.tn_pw (toI x)).imp fun {a b} h => by show b.toNat ≤ a.toNat; omega
theorem cj_cj {x : List Nat} (f : Fl x) : cj (cj x) = x := by
  refine toI_inj ?_
  rw [toI_cj, toI_cj]
  exact M03.tn_tn (Fl.pwI f) (Fl.oneI f)
noncomputable def mn (ns : List Int) (g : Int) : Int := (ns.map fun n => if n < g then n else g).sum
theorem mn_succ (ns : List Int) (g : Nat) : mn ns (g + 1) = mn ns g + (M03.cn ns g : Int) := by
  induction ns with
  | nil => rfl
  | cons a r ih =>
    unfold mn M03.cn at ih ⊢
    rw [List.map_cons, List.map_cons, List.sum_cons, List.sum_cons, List.countP_cons, ih]
    simp only [decide_eq_true_eq]
    by_cases h : (g : Int) < a
    · simp only [if_pos h]
      split <;> split <;> omega
    · simp only [if_neg h]
      split <;> split <;> omega
theorem tab_sum {ns : List Int} (h : ∀ n ∈ ns, (1 : Int) ≤ n) : ∀ g : Nat, (M03.tab ns g).sum = mn ns g
  | 0 => by
    unfold mn M03.tab
    have : ∀ l : List Int, (∀ n ∈ l, (1 : Int) ≤ n) → (l.map fun n => if n < ((0 : Nat) : Int) then n else ((0 : Nat) : Int)).sum = 0 := by
      intro l
      induction l with
      | nil => intro _; rfl
      | cons a r ih =>
        intro hl
        rw [List.map_cons, List.sum_cons, ih fun n hn => hl n (List.mem_cons_of_mem _ hn), if_neg (by have := hl a List.mem_cons_self; omega)]
        rfl
    rw [this ns h]
    rfl
  | g + 1 => by
    rw [M03.tab_succ, List.sum_append, tab_sum h g]
    show mn ns g + ((M03.cn ns g : Int) + 0) = mn ns ((g : Int) + 1)
    rw [mn_succ, Int.add_zero]
theorem mn_all {ns : List Int} {g : Int} (h : ∀ n ∈ ns, n ≤ g) : mn ns g = ns.sum := by
  unfold mn
  congr 1
  conv => rhs; rw [← List.map_id ns]
  refine List.map_congr_left fun n hn => ?_
  have := h n hn
  show (if n < g then n else g) = n
  split <;> omega
theorem tn_sum {ns : List Int} (hp : ns.Pairwise (· ≥ ·)) (h : ∀ n ∈ ns, (1 : Int) ≤ n) : (M03.tn ns).sum = ns.sum := by
  unfold M03.tn
  rw [tab_sum h, mn_all]
  intro n hn
  have := M03.hd_max hp n hn
  omega
theorem sum_toI (x : List Nat) : (toI x).sum = (x.sum : Int) := by
  unfold toI
  induction x with
  | nil => rfl
  | cons a r ih => rw [List.map_cons, List.sum_cons, List.sum_cons, ih]; omega
theorem cj_sum {x : List Nat} (f : Fl x) : (cj x).sum = x.sum := by
  have h := tn_sum (Fl.pwI f) (Fl.oneI f)
  rw [← toI_cj, sum_toI, sum_toI] at h
  omega
theorem cj_len {x : List Nat} : (cj x).length = (M03.hd (toI x)).toNat := by
  unfold cj M03.tn
  rw [List.length_map, M03.tab_len]
theorem cj_few {x : List Nat} (f : Fl x) (k : Nat) : decide ((cj x).length ≤ k) = x.all fun a => decide (a ≤ k) := by
  rw [cj_len, Bool.eq_iff_iff, decide_eq_true_iff, List.all_eq_true]
  refine ⟨fun h a ha => decide_eq_true ?_, fun h => ?_⟩
  · have := M03.hd_max (Fl.pwI f) (a : Int) (List.mem_map.mpr ⟨a, ha, rfl⟩)
    omega
  · cases x with
    | nil => show (0 : Int).toNat ≤ k; exact Nat.zero_le _
    | cons a r =>
      have := of_decide_eq_true (h a List.mem_cons_self)
      show ((a : Int)).toNat ≤ k
      omega
theorem cj_most {x : List Nat} (f : Fl x) (k : Nat) : ((cj x).all fun a => decide (a ≤ k)) = decide (x.length ≤ k) := by
  have := cj_few (cj_fl x) k
  rw [cj_cj f] at this
  exact this.symm
theorem turned_perm {n : Nat} {p q : List Nat → Bool} (h : ∀ x, Fl x → p x = q (cj x)) : (((Asc n n).filter p).map cj).Perm ((Asc n n).filter q) := by
  have nd : (Asc n n).Nodup := (asc_up n n).imp fun {a b} h e => by
    subst e
    have irr : ∀ l : List Int, SRV.lexb l l = false := by
      intro l
      induction l with
      | nil => rfl
      | cons a r ih => rw [SRV.lexb, if_pos rfl]; exact ih
    rw [irr] at h
    cases h
  have nd1 : (((Asc n n).filter p).map cj).Nodup := by
    unfold List.Nodup
    rw [List.pairwise_map]
    refine List.Pairwise.imp_of_mem (fun {a b} ha hb hab e => hab ?_) (nd.filter p)
    have fa := (asc_iff.mp (List.mem_filter.mp ha).1).1
    have fb := (asc_iff.mp (List.mem_filter.mp hb).1).1
    rw [← cj_cj fa, ← cj_cj fb, e]
  refine (List.perm_ext_iff_of_nodup nd1 (nd.filter q)).mpr fun y => ?_
  rw [List.mem_map, List.mem_filter]
  refine ⟨fun ⟨x, hx, e⟩ => ?_, fun ⟨hy, hq⟩ => ?_⟩
  · obtain ⟨h1, h2⟩ := List.mem_filter.mp hx
    obtain ⟨f, s⟩ := asc_iff.mp h1
    subst e
    refine ⟨asc_iff.mpr ⟨cj_fl x, (cj_sum f).trans s⟩, ?_⟩
    rw [← h x f]; exact h2
  · obtain ⟨f, s⟩ := asc_iff.mp hy
    refine ⟨cj y, List.mem_filter.mpr ⟨asc_iff.mpr ⟨cj_fl y, (cj_sum f).trans s⟩, ?_⟩, cj_cj f⟩
    rw [h _ (cj_fl y), cj_cj f]; exact hq
end M10
set_option Elab.async false
set_option linter.all false
set_option maxRecDepth 100000
set_option maxHeartbeats 4000000
namespace PySem
open PySem.Calls PyProof.Rows PySem.Spec
section
variable {prog : Program} {w : World} {A : Around} {E : Value → Shared → Prop} {K : Type} [DecidableEq K] {knd : HeapKind prog w K}
noncomputable def RobH (knd : HeapKind prog w K) (h0 : Heap) (it d : Addr) (k : K) (key : Addr) : Prop := ∀ h', (∀ b o, b ≠ d → b ≠ it → h0.get? b = some o → h'.get? b = some o) → knd.is h' k key
noncomputable def mergedH (kvs more : List (K × Addr × Value)) : List (K × Addr × Value) := more.foldl (fun acc x => storedH acc x.1 x.2.1 x.2.2) kvs
theorem storedH_le (kvs : List (K × Addr × Value)) (k : K) (a : Addr) (v : Value) : (storedH kvs k a v).length ≤ kvs.length + 1 := by
  unfold storedH
  split
  · rw [List.length_map]; omega
  · rw [List.length_append]; exact Nat.le_refl _
theorem storedH_mem {kvs : List (K × Addr × Value)} {k : K} {a : Addr} {v : Value} {x : K × Addr × Value} (h : x ∈ storedH kvs k a v) : (∃ y ∈ kvs, y.1 = x.1 ∧ y.2.1 = x.2.1) ∨ (x.1 = k ∧ x.2.1 = a) := by
  unfold storedH at h
  split at h
  · obtain ⟨y, hy, rfl⟩ := List.mem_map.mp h
    refine .inl ⟨y, hy, ?_⟩
    unfold putAt
    split <;> exact ⟨rfl, rfl⟩
  · rcases List.mem_append.mp h with h | h
    · exact .inl ⟨x, h, rfl, rfl⟩
    · rw [List.mem_singleton.mp h]; exact .inr ⟨rfl, rfl⟩
theorem DictOfH.move {h h' : Heap} {d : Addr} {kvs : List (K × Addr × Value)} (hd : h.DictOfH knd d kvs) (e : ∀ o, h.get? d = some o → h'.get? d = some o) (r : ∀ x ∈ kvs, knd.is h' x.1 x.2.1) : h'.DictOfH knd d kvs := by
  obtain ⟨o, es, ep, h1, h2, h3, h4, _, h6⟩ := hd
  exact ⟨o, es, ep, e o h1, h2, h3, h4, r, h6⟩
theorem updH_loop {R : Result → Shared → Prop} {h0 : Heap} {it l d : Addr} {items : Array Value} {ps : List (K × Addr × Value)} (hr : knd.room A.in1) (hh : A.handled = none) (hsize : items.size = ps.length) (hdi : d ≠ it) (hli : l ≠ it) (hld : l ≠ d)
    (hp : ∀ j, j < ps.length → ∃ p o n k key v, items[j]? = some (.ref p) ∧ h0.get? p = some o ∧ o.cls = .type "tuple" ∧ o.data = .seq #[.ref key, v] n ∧ ps[j]? = some (k, key, v) ∧ RobH knd h0 it d k key ∧ p ≠ it ∧ p ≠ d) :
    ∀ (m i : Nat) (s : Shared) (kvs : List (K × Addr × Value)), ps.length - i = m → i ≤ ps.length → s.heap.IsListIter it l i → s.heap.IsList l items → s.heap.DictOfH knd d kvs → kvs.length + m ≤ sizeLine →
    (∀ b o, b ≠ d → b ≠ it → h0.get? b = some o → s.heap.get? b = some o) → (∀ x ∈ kvs, RobH knd h0 it d x.1 x.2.1) →
    (∀ h' tk, (∀ b o, b ≠ d → b ≠ it → h0.get? b = some o → h'.get? b = some o) → h'.DictOfH knd d (mergedH kvs (ps.drop i)) → R (.ok (.ret .none)) { s with heap := h', toks := tk }) →
    codeAny (model prog w) A (.builtin "dict.update.loop" ⟨[.ref d, .ref it, rawInt i, .none], []⟩) R s := by
  intro m
  induction m with
  | zero =>
    intro i s kvs hm hi st hl hd hz kp0 rob hR
    have hin : i = ps.length := by omega
    subst hin
    refine codeAny_builtin entry_upd ?_
    rw [Around.under_plainId plain_upd _]
    unfold Builtin.«dict.update.loop»
    show wpAny _ A.in1 (pyNext (.ref it) >>= _) _ _ s
    refine wpAny_bind (wpAny_pyNext_list_end hh st hl (by rw [Array.getElem?_eq_none]; omega) fun h' he => ?_)
    show wpAny _ A.in1 (Builtin.Dict.addKeywords d [] >>= _) _ _ _
    refine wpAny_bind (wpAny_pure (wpAny_pure ?_))
    have kp : ∀ b o, b ≠ d → b ≠ it → h0.get? b = some o → h'.get? b = some o := fun b o hb1 hb2 e => he b o hb2 (kp0 b o hb1 hb2 e)
    refine hR h' s.toks kp ?_
    rw [List.drop_length]
    exact DictOfH.move hd (fun o e => he d o hdi e) fun x hx => rob x hx h' kp
  | succ m ih =>
    intro i s kvs hm hi st hl hd hz kp0 rob hR
    have hlt : i < ps.length := by omega
    obtain ⟨p, o, n, k, key, v, e1, e2, e3, e4, e5, e6, hpi, hpd⟩ := hp i hlt
    refine codeAny_builtin entry_upd ?_
    rw [Around.under_plainId plain_upd _]
    unfold Builtin.«dict.update.loop»
    show wpAny _ A.in1 (pyNext (.ref it) >>= _) _ _ s
    refine wpAny_bind (wpAny_pyNext_list_item st hl e1 fun h1 st1 sb1 => ?_)
    have kp1 : ∀ b o, b ≠ d → b ≠ it → h0.get? b = some o → h1.get? b = some o := fun b o hb1 hb2 e => (sb1.2 b hb2).trans (kp0 b o hb1 hb2 e)
    have g2 : h1.get? p = some o := kp1 p o hpd hpi e2
    refine wpAny_bind (wpAny_holding ?_)
    refine wpAny_bind (wpAny_tryCatch ?_)
    show wpAny _ A.in1 (Builtin.Dict.pairItems (.ref p)) _ _ _
    unfold Builtin.Dict.pairItems
    refine wpAny_bind (wpAny_typeOf (T := "tuple") ⟨o, g2, e3⟩ ?_)
    refine wpAny_ite_split (fun _ => ?_) (fun hab => absurd (by decide) hab)
    show wpAny _ A.in1 (seqItems? (.ref p) >>= fun z => pure (z.getD #[]).toList) _ _ _
    unfold seqItems?
    refine wpAny_bind (wpAny_bind (wpAny_load g2 ?_))
    rw [e4]
    refine wpAny_pure (wpAny_pure ?_)
    show wpAny _ A.in1 (holding [.ref key, v] (dictSet d (.ref key) v)) _ _ _
    refine wpAny_holding (wpAny_dictSet_heap (hsz := by omega) hr (e6 h1 kp1) (DictOfH.move hd (h' := h1) (fun o e => (sb1.2 d hdi).trans e) fun x hx => rob x hx h1 kp1) fun h2 hd2 sb2 => ?_)
    have keep : ∀ b o, b ≠ d → b ≠ it → h0.get? b = some o → h2.get? b = some o := fun b o hb1 hb2 e => (sb2.2 b hb1).trans (kp1 b o hb1 hb2 e)
    have hit2 : h2.IsListIter it l (i + 1) := st1.at fun o e => (sb2.2 it (Ne.symm hdi)).trans e
    have hl2 : h2.IsList l items := hl.at fun o e => (sb2.2 l hld).trans ((sb1.2 l hli).trans e)
    refine wpAny_pure ⟨plainId_quiet plain_upd _, ?_⟩
    refine ih (i + 1) { s with heap := h2, toks := s.toks + knd.draws k } (storedH kvs k key v) (by omega) hlt hit2 hl2 hd2 (by have := storedH_le kvs k key v; omega) keep (fun x hx => ?_) fun h' tk kp hd' => ?_
    · rcases storedH_mem hx with ⟨y, hy, q1, q2⟩ | ⟨q1, q2⟩
      · rw [← q1, ← q2]; exact rob y hy
      · rw [q1, q2]; exact e6
    · refine hR h' tk kp ?_
      have ed : ps.drop i = (k, key, v) :: ps.drop (i + 1) := by
        rw [List.drop_eq_getElem_cons hlt]
        congr 1
        rw [List.getElem?_eq_getElem hlt] at e5
        exact Option.some.inj e5
      rw [ed]
      exact hd'
theorem call_dict_pairsH {s : Shared} {l : Addr} {items : Array Value} {n : Nat} {sl : Array (Option Value)} {ps : List (K × Addr × Value)} {Q : Value → Shared → Prop} (hr : ∀ B : Around, B.units ≤ A.units + 8 → knd.room B) (hh : A.handled = none) (hl : s.heap.get? l = some { cls := .type "list", dict := none, data := .seq items n, slots := sl }) (hsize : items.size = ps.length) (hz : ps.length ≤ sizeLine)
    (hp : ∀ j, j < ps.length → ∃ p o n k key v, items[j]? = some (.ref p) ∧ s.heap.get? p = some o ∧ o.cls = .type "tuple" ∧ o.data = .seq #[.ref key, v] n ∧ ps[j]? = some (k, key, v) ∧ ∀ h', (∀ b o, s.heap.get? b = some o → h'.get? b = some o) → knd.is h' k key)
    (h : ∀ h' tk, (∀ b o, s.heap.get? b = some o → h'.get? b = some o) → h'.DictOfH knd s.heap.objs.size (mergedH [] ps) → Q (.ref s.heap.objs.size) { s with heap := h', toks := tk }) :
    wpAny (model prog w) A (call (.type "dict") [.ref l]) Q E s := by
  refine callType_codes (Q₁ := fun obj s₁ => obj = .ref s.heap.objs.size ∧ s₁ = { s with heap := s.heap.push { cls := .type "dict", data := .dict #[] } }) F.kt_called_dict (F.kt_typeCall_dict_1 _) F.entry_dict_init (kt_code_dict_new _ ⟨rfl, rfl⟩) ?_
  rintro obj s₁ ⟨rfl, rfl⟩
  have hnew : (s.heap.push { cls := .type "dict", data := .dict #[] }).DictOfH knd s.heap.objs.size [] := Heap.DictOfH.new s.heap
  have keep0 : ∀ b o, s.heap.get? b = some o → (s.heap.push { cls := .type "dict", data := .dict #[] }).get? b = some o := fun b o e => Heap.get?_push_of_some _ e
  have lt : ∀ b o, s.heap.get? b = some o → b ≠ s.heap.objs.size := fun b o e => Nat.ne_of_lt (Heap.lt_size e)
  have ty0 : ({ s with heap := s.heap.push { cls := .type "dict", data := .dict #[] } } : Shared).TypeIs (.ref s.heap.objs.size) "dict" := Heap.DictOfH.typeIs (knd := knd) (xs := []) hnew
  refine ⟨ty0, F.args_dict_init_2 _ _, ?_⟩
  unfold Builtin.«dict.__init__»
  refine wpAny_bind ?_
  unfold Builtin.Dict.selfAndRest
  refine wpAny_bind (wpAny_notOrdered_dict ty0 ?_)
  show wpAny _ _ (pure (s.heap.objs.size, [Value.ref l])) _ _ _
  refine wpAny_pure ?_
  show wpAny _ _ (Builtin.Dict.updateFrom "dict.__init__" s.heap.objs.size (.ref l) [] .none) _ _ _
  unfold Builtin.Dict.updateFrom
  refine wpAny_bind (wpAny_typeOf (T := "list") ⟨_, keep0 _ _ hl, rfl⟩ ?_)
  refine wpAny_ite_split (fun _ => ?_) (fun hab => absurd (by decide) hab)
  refine wpAny_bind (keys_none (keep0 _ _ hl) hh fun h1 tk1 keep1 => ?_)
  refine wpAny_ite_split (fun _ => ?_) (fun hab => absurd (by rfl) hab)
  refine wpAny_bind (wpAny_rule ?_)
  have hl1 : h1.IsList l items := ⟨_, keep1 _ _ (keep0 _ _ hl), rfl, n, rfl⟩
  refine wpAny_bind (wpAny_pyIter_list hl1 ?_)
  have sz1 : s.heap.objs.size < h1.objs.size := Heap.lt_size (keep1 _ _ (show (s.heap.push { cls := .type "dict", data := .dict #[] }).get? s.heap.objs.size = some _ from Heap.get?_push_size _ rfl))
  have keep2 : ∀ b o, h1.get? b = some o → (h1.push { cls := .type "list_iterator", data := .fields #[.ref l, .int 0 0] }).get? b = some o := fun b o e => Heap.get?_push_of_some _ e
  have hd2 : (h1.push { cls := .type "list_iterator", data := .fields #[.ref l, .int 0 0] }).DictOfH knd s.heap.objs.size [] := DictOfH.move hnew (fun o e => keep2 _ _ (keep1 _ _ e)) fun x hx => nomatch hx
  have hlt1 : ∀ b o, h1.get? b = some o → b ≠ h1.objs.size := fun b o e => Nat.ne_of_lt (Heap.lt_size e)
  refine wpAny_pure ⟨plainId_quiet plain_upd _, ?_⟩
  refine updH_loop (A := A.in1) (h0 := s.heap) (it := h1.objs.size) (l := l) (d := s.heap.objs.size) (ps := ps) (hr _ ?hu) hh hsize (Nat.ne_of_lt sz1) (hlt1 _ _ (keep1 _ _ (keep0 _ _ hl))) (lt _ _ hl) (fun j hj => ?_) ps.length 0 { s with heap := h1.push { cls := .type "list_iterator", data := .fields #[.ref l, .int 0 0] }, toks := tk1 } [] rfl (Nat.zero_le _)
    ⟨_, Heap.get?_push_size _ rfl, rfl, rfl⟩ (hl1.push _) hd2 (by show 0 + ps.length ≤ _; omega) (fun b o _ _ e => keep2 _ _ (keep1 _ _ (keep0 _ _ e))) (fun x hx => nomatch hx) fun h' tk kp hd' => ?_
  case hu => show _ + 1 + 1 ≤ _ ; omega
  · obtain ⟨p, o, n', k, key, v, a1, a2, a3, a4, a5, a6⟩ := hp j hj
    have b2 := keep1 _ _ (keep0 _ _ a2)
    refine ⟨p, o, n', k, key, v, a1, a2, a3, a4, a5, fun h' kp => a6 h' fun b o e => ?_, hlt1 _ _ b2, lt _ _ a2⟩
    exact kp b o (lt _ _ e) (hlt1 _ _ (keep1 _ _ (keep0 _ _ e))) e
  · refine ⟨rfl, h h' tk (fun b o e => ?_) hd'⟩
    exact kp b o (lt _ _ e) (hlt1 _ _ (keep1 _ _ (keep0 _ _ e))) e
end
end PySem
namespace L2
open PySem PySem.Spec PyProof.Rows
section
variable {X : Cx}
noncomputable def mergeT (kvs more : List (List Key × V)) : List (List Key × V) := more.foldl (fun acc kv => putK acc kv.1 kv.2) kvs
noncomputable def rDictH : List V → Hp → VK → Prop := fun xs H Q => match xs with
  | [.ref l] => ∃ (ps : List (List Key × V)) (ks cs : List Addr), H l = some (.lst (cs.map V.ref)) ∧ cs.length = ps.length ∧ ks.length = ps.length ∧ ps.length ≤ sizeLine ∧ (∀ (j : Nat) c kv b, cs[j]? = some c → ps[j]? = some kv → ks[j]? = some b → H c = some (.tup [.ref b, kv.2]) ∧ H b = some (.tup (kv.1.map kV))) ∧ ∀ p, H p = none → Q (.ref p) (upd H p (.dT (mergeT [] ps)))
  | _ => False
theorem KT.merge {H : Hp} : ∀ (ps : List (List Key × V)) (ks : List Addr) (vs : List Value) (kvs : List (List Key × V)) (xs : List (List Key × Addr × Value)), ks.length = ps.length → vs.length = ps.length → KT H kvs xs → (∀ (j : Nat) kv b v, ps[j]? = some kv → ks[j]? = some b → vs[j]? = some v → H b = some (.tup (kv.1.map kV)) ∧ RelV kv.2 v) →
    KT H (mergeT kvs ps) (mergedH xs (List.zipWith (fun kv (bv : Addr × Value) => (kv.1, bv.1, bv.2)) ps (ks.zip vs)))
  | [], ks, vs, kvs, xs, _, _, r, _ => by
    show KT H kvs (mergedH xs (List.zipWith _ [] _))
    rw [List.zipWith_nil_left]
    exact r
  | kv :: ps, [], vs, kvs, xs, h, _, _, _ => nomatch h
  | kv :: ps, b :: ks, [], kvs, xs, _, h, _, _ => nomatch h
  | kv :: ps, b :: ks, v :: vs, kvs, xs, h1, h2, r, g => by
    obtain ⟨g1, g2⟩ := g 0 kv b v rfl rfl rfl
    exact KT.merge ps ks vs (putK kvs kv.1 kv.2) (storedH xs kv.1 b v) (Nat.succ.inj h1) (Nat.succ.inj h2) (r.put kv.1 g1 g2) fun j kv' b' v' e1 e2 e3 => g (j + 1) kv' b' v' e1 e2 e3
theorem length_mergeT (ps : List (List Key × V)) : ∀ kvs : List (List Key × V), (mergeT kvs ps).length ≤ kvs.length + ps.length := by
  induction ps with
  | nil => intro kvs; exact Nat.le_refl _
  | cons kv ps ih =>
    intro kvs
    have h1 := ih (putK kvs kv.1 kv.2)
    have h2 := length_putK kvs kv.1 kv.2
    show (mergeT (putK kvs kv.1 kv.2) ps).length ≤ _
    rw [List.length_cons]
    omega
theorem pairsT_raw {P : Program} {w : World} {H : Hp} {h : Heap} (ok : HOk P w H h) : ∀ (ps : List (List Key × V)) (ks cs : List Addr), cs.length = ps.length → ks.length = ps.length → (∀ (j : Nat) c kv b, cs[j]? = some c → ps[j]? = some kv → ks[j]? = some b → H c = some (.tup [.ref b, kv.2]) ∧ H b = some (.tup (kv.1.map kV))) →
    ∃ vs : List Value, vs.length = ps.length ∧ ∀ (j : Nat) c kv b, cs[j]? = some c → ps[j]? = some kv → ks[j]? = some b → ∃ o n v, h.get? c = some o ∧ o.cls = .type "tuple" ∧ o.data = .seq #[.ref b, v] n ∧ vs[j]? = some v ∧ RelV kv.2 v
  | [], _, _, _, _, _ => ⟨[], rfl, fun j c kv b _ e _ => by cases e⟩
  | _ :: _, [], _, _, hk, _ => by cases hk
  | _ :: _, _ :: _, [], hl, _, _ => by cases hl
  | kv :: ps, b :: ks, c :: cs, hl, hk, g => by
    obtain ⟨vs, h1, h2⟩ := pairsT_raw ok ps ks cs (Nat.succ.inj hl) (Nat.succ.inj hk) fun j c' kv' b' e1 e2 e3 => g (j + 1) c' kv' b' e1 e2 e3
    obtain ⟨_, its, r, pT⟩ := ok c _ (g 0 c kv b rfl rfl rfl).1
    obtain ⟨o, g1, g2, n, g3⟩ := pT.tup
    cases r with
    | cons r1 r2 =>
      cases r2 with
      | cons r3 r4 =>
        cases r4
        rename_i key v
        have r1 : key = .ref b := r1
        subst r1
        refine ⟨v :: vs, by rw [List.length_cons, List.length_cons, h1], fun j c' kv' b' e1 e2 e3 => ?_⟩
        cases j with
        | zero => cases e1; cases e2; cases e3; exact ⟨o, n, v, g1, g2, g3, rfl, r3⟩
        | succ j => exact h2 j c' kv' b' e1 e2 e3
theorem call_dictH (hc : X.calm = true) (hu : X.A.units + 64 < cLine) : CallR X (.type "dict") rDictH := by
  intro pins s σ H xs us Q I r h
  unfold rDictH at h
  split at h
  · rename_i l
    obtain ⟨ps, ks, cs, e, hl, hk, hz, hp, q⟩ := h
    obtain ⟨u, rfl, rx⟩ := vals1 r
    cases rx
    obtain ⟨_, its, n, rv, hO⟩ := I.hok l _ e
    obtain ⟨vs, lv, hv⟩ := pairsT_raw I.hok ps ks cs hl hk hp
    have refs : its = cs.map Value.ref := refs_of cs its rv
    have ln : its.length = cs.length := by rw [refs, List.length_map]
    have lz : (List.zipWith (fun kv (bv : Addr × Value) => (kv.1, bv.1, bv.2)) ps (ks.zip vs)).length = ps.length := by
      rw [List.length_zipWith, List.length_zip, hk, lv]; simp
    refine call_dict_pairsH (knd := tupleKind (mixKind X.prog X.w)) (ps := List.zipWith (fun kv (bv : Addr × Value) => (kv.1, bv.1, bv.2)) ps (ks.zip vs)) (fun B hB => ?_) (I.ok.hd hc) hO (by rw [List.size_toArray, ln, hl, lz]) (by rw [lz]; exact hz) (fun j hj => ?_) fun h' tk keep hd => ?_
    · show B.units < cLine
      omega
    · rw [lz] at hj
      obtain ⟨cj, jc⟩ : ∃ cj, cs[j]? = some cj := ⟨_, List.getElem?_eq_getElem (by omega)⟩
      obtain ⟨pj, jp⟩ : ∃ pj, ps[j]? = some pj := ⟨_, List.getElem?_eq_getElem hj⟩
      obtain ⟨kj, jk⟩ : ∃ kj, ks[j]? = some kj := ⟨_, List.getElem?_eq_getElem (by omega)⟩
      obtain ⟨o, n', v, a1, a2, a3, a4, a5⟩ := hv j _ _ _ jc jp jk
      refine ⟨cj, o, n', pj.1, kj, v, ?_, a1, a2, a3, ?_, fun h' kp => ?_⟩
      · rw [refs, List.getElem?_toArray, List.getElem?_map, jc]; rfl
      · rw [List.getElem?_zipWith, jp, List.getElem?_zip_eq_some (z := (kj, v)) |>.mpr ⟨jk, a4⟩]
      · obtain ⟨o2, i2, n2, b1, b2⟩ := key_of I.hok (hp j _ _ _ jc jp jk).2
        exact ⟨o2, i2, n2, kp _ _ b1, b2⟩
    · have big : (s.heap.objs.size == sysModules) = false := beq_eq_false_iff_ne.mpr (Ne.symm (Nat.ne_of_lt I.big))
      obtain ⟨q0, es, ep, hq, h2, h3, h4, _, h5⟩ := hd
      have kt : KT H (mergeT [] ps) (mergedH [] (List.zipWith (fun kv (bv : Addr × Value) => (kv.1, bv.1, bv.2)) ps (ks.zip vs))) := KT.merge ps ks vs [] [] hk lv .nil fun j kv b v e1 e2 e3 => by
        have hj := (List.getElem?_eq_some_iff.mp e1).1
        have jc : cs[j]? = some (cs[j]'(by omega)) := List.getElem?_eq_getElem _
        obtain ⟨o, n', v', a1, a2, a3, a4, a5⟩ := hv j _ _ _ jc e1 e2
        rw [e3] at a4
        cases a4
        exact ⟨(hp j _ _ _ jc e1 e2).2, a5⟩
      have fr : H s.heap.objs.size = none := I.hok.fresh (Nat.le_refl _)
      refine ⟨.ref s.heap.objs.size, _, I.laid (t' := tk) (a := s.heap.objs.size) (o := .dT (mergeT [] ps)) keep (Nat.le_refl _) ⟨?_, big, _, kt.keeps fun b ys eb => ?_, q0, es, ep, hq, h2, h3, h4, h5⟩, rfl, q _ fr⟩
      · have := length_mergeT ps []
        have : ([] : List (List Key × V)).length = 0 := rfl
        omega
      · rw [upd_ne (ne_of_none eb fr)]; exact eb
  · exact h.elim
variable {e : Expr} {es : List Expr} {t : TA} {p pos : Pos}
theorem zcb_dictH (hu : X.A.units + 64 < cLine) (hc : X.calm = true) (hg : Gl X "dict") (hm : X.mg "dict" = none) (ha : ZA X (e :: es) t) (he : starEach (e :: es) X.env = (false, eval e X.env) :: starEach es X.env) (hpl : (backTo pos (starEach es X.env)).any (·.1) = false) :
    ZE X (.Call (.Name "dict" p) (e :: es) [] pos) (tCB rDictH t) := by with_unfolding_all exact pe_callTy (call_dictH hc hu) hg hm boot_dict' ha (by decide) (by decide) he hpl
end
end L2
set_option Elab.async false
set_option linter.all false
set_option maxRecDepth 100000
set_option maxHeartbeats 4000000
namespace K10
open PySem L2 M11 M66 M63 M05 M10
theorem ls_eqv_self {lss : List (List Int)} : PyData.eqv (.list (lss.map tD)) (.list (lss.map tD)) = true := by
  have h := eqv_self (shaped_tt lss)
  unfold ttD at h
  simp only [PyData.eqv] at h ⊢
  exact h
theorem shaped_lt (lss : List (List Int)) : SeqAt.shaped (.list (lss.map tD)) = true := by
  obtain ⟨h1, h2⟩ := can_tt lss
  unfold SeqAt.shaped
  rw [Bool.and_eq_true]
  exact ⟨by simp only [PyData.canLay0]; exact h1, decide_eq_true (by simp only [PyData.depth]; omega)⟩
noncomputable def kL (x : List Nat) : List Key := (toI x).map Sum.inl
theorem kL_V (x : List Nat) : (kL x).map kV = (toI x).map V.int := by unfold kL; rw [List.map_map]; rfl
theorem put_keeps (kvs : List (List Key × V)) (k k' : List Key) (v : V) (h : (valV kvs k').isSome = true) : (valV (putK kvs k v) k').isSome = true := by
  rw [valV_put]
  split
  · rfl
  · exact h
theorem put_has (kvs : List (List Key × V)) (k : List Key) (v : V) : (valV (putK kvs k v) k).isSome = true := by
  rw [valV_put, if_pos rfl]
  rfl
theorem tps_of {H : Hp} : ∀ {ps : List (Addr × List Int)}, (∀ q ∈ ps, H q.1 = some (.tup (q.2.map V.int))) → Tps H (ps.map fun q => V.ref q.1) (ps.map Prod.snd)
  | [], _ => .nil
  | p :: ps, h => .cons (h p List.mem_cons_self) (tps_of fun q hq => h q (List.mem_cons_of_mem _ hq))
theorem merge_has : ∀ (ps kvs : List (List Key × V)) (k : List Key), ((valV kvs k).isSome = true ∨ ∃ v, (k, v) ∈ ps) → (valV (mergeT kvs ps) k).isSome = true
  | [], kvs, k, h => by
    rcases h with h | ⟨v, h⟩
    · exact h
    · cases h
  | kv :: ps, kvs, k, h => by
    refine merge_has ps (putK kvs kv.1 kv.2) k ?_
    rcases h with h | ⟨v, h⟩
    · exact .inl (put_keeps _ _ _ _ h)
    · rcases List.mem_cons.mp h with h | h
      · rw [← h]; exact .inl (put_has _ _ _)
      · exact .inr ⟨v, h⟩
section
variable {P : Program} {w : World} {K : PySem.W.Frag} {mg : Str → Option Value} {base : Heap} {f : Addr} {fd : FuncData}
theorem sc_al : FnScope ["_law_one", "_law_other", "_law_n"] ["_law_one", "_law_other", "_law_n"] (defScope (top 17)) := ⟨rfl, rfl, rfl, by decide +kernel, rfl, by decide +kernel, by decide +kernel⟩
noncomputable def sp_al : Sp := fun vs H Q _ => ∃ (c d : Addr) (k l : Kn) (n : Nat), vs = [.ref c, .ref d, .int n] ∧ KnAt H c k ∧ k.Ok ∧ KnAt H d l ∧ l.Ok ∧ n ≤ 30 ∧ (LK k n).length = (LK l n).length ∧ ∀ H', Same H H' → Q (.bl true) H'
theorem ok_al (F : Fun K "_law_as_long" "_law_as_long" (top 17) f fd) (m_len : mg "len" = none) (F_listed : FnA P w K mg base "listed" 33 ["kind", "n"] sp_li) : FnOk P w K mg base CX0 34 f fd ["_law_one", "_law_other", "_law_n"] sp_al := by
  refine F.okz sc_al (fun vs H Q E h => ?_) (fun cdv A outer s H vs Q E hr h => ?_)
  · obtain ⟨c, d, k, l, n, rfl, _⟩ := h; rfl
  obtain ⟨c, d, k, l, n, rfl, hk, ok, hl, ol, hn, e, q⟩ := h
  have nd := sc_al.nd
  have hu := hr.units
  refine ⟨_, (zss_one (zs_ret (ze_cmpR (op_eqD hu) (zcb_len rfl m_len (za_cons (ze_fn F_listed hr (by decide) rfl (za_cons (zn 0) (za_cons (zn 2) za_nil))) za_nil) rfl rfl) (zcb_len rfl m_len (za_cons (ze_fn F_listed hr (by decide) rfl (za_cons (zn 1) (za_cons (zn 2) za_nil))) za_nil) rfl rfl) (nomark _)))), ?_⟩
  refine ⟨c, k, n, rfl, hk, ok, hn, fun T1 as1 H1 y1 hT1 ta1 => ?_⟩
  refine ⟨_, .inr hT1, ?_⟩
  refine ⟨d, l, n, rfl, hl.same y1, ol, hn, fun T2 as2 H2 y2 hT2 ta2 => ?_⟩
  refine ⟨_, .inr hT2, ?_⟩
  rw [List.length_map, List.length_map, ta1.1, ta2.1, e]
  show Q (.bl (decide (V.int _ = V.int _))) H2
  rw [decide_eq_true rfl]
  exact q _ (y1.trans y2)
theorem sc_ta : FnScope ["_law_one", "_law_other", "_law_n"] ["_law_one", "_law_other", "_law_n"] (defScope (top 16)) := ⟨rfl, rfl, rfl, by decide +kernel, rfl, by decide +kernel, by decide +kernel⟩
noncomputable def sp_ta : Sp := fun vs H Q _ => ∃ (c d : Addr) (k l : Kn) (n : Nat), vs = [.ref c, .ref d, .int n] ∧ KnAt H c k ∧ k.Ok ∧ KnAt H d l ∧ l.Ok ∧ n ≤ 30 ∧ (∀ x, Fl x → isg k x = isg l (cj x)) ∧ ∀ H', Same H H' → Q (.bl true) H'
theorem ok_ta (F : Fun K "_law_turned_are" "_law_turned_are" (top 16) f fd) (m_list : mg "list" = none) (m_sorted : mg "sorted" = none) (F_listed : FnA P w K mg base "listed" 33 ["kind", "n"] sp_li) (F_turned : FnA P w K mg base "turned" 1 ["parting"] sp_turned) : FnOk P w K mg base CX0 34 f fd ["_law_one", "_law_other", "_law_n"] sp_ta := by
  refine F.okz sc_ta (fun vs H Q E h => ?_) (fun cdv A outer s H vs Q E hr h => ?_)
  · obtain ⟨c, d, k, l, n, rfl, _⟩ := h; rfl
  obtain ⟨c, d, k, l, n, rfl, hk, ok, hl, ol, hn, e, q⟩ := h
  have nd := sc_ta.nd
  have hu := hr.units
  have perm := turned_perm (n := n) e
  refine ⟨_, (zss_one (zs_ret (ze_cmpR (op_eqD hu) (zcb_sortT rfl m_sorted (za_cons (ze_comp ["_law_parting"] [] rfl ⟨rfl, by decide +kernel, by decide +kernel, rfl, rfl⟩ (zi_tup (ze_fn F_listed hr (by decide) rfl (za_cons (zn 0) (za_cons (zn 2) za_nil)))) kpg_name (fun _ _ _ _ => zg_name (i := 0) (show List.Nodup (["_law_parting"] : List Str) by decide +kernel) rfl (Or.inl rfl)) (fun _ _ _ _ => zif_nil) (fun _ _ _ _ => (ze_fn F_turned hr (by decide) rfl (za_cons (zn 0) za_nil)))) za_nil) rfl rfl) (zcb_list rfl m_list (za_cons (ze_fn F_listed hr (by decide) rfl (za_cons (zn 1) (za_cons (zn 2) za_nil))) za_nil) rfl rfl) (nomark _)))), ?_⟩
  refine ⟨c, k, n, rfl, hk, ok, hn, fun T1 as1 H1 y1 hT1 ta1 => ?_⟩
  have l1 := LK_len k hn
  refine ⟨T1, rfl, ⟨_, SqT.of hT1⟩, cmp_tup (xs := as1.map V.ref) (fun m ys Hc => m ≤ as1.length ∧ Same H1 Hc ∧ ∃ bs : List Addr, ys = bs.map V.ref ∧ TA Hc bs (((LK k n).take m).map cj)) ⟨Nat.zero_le _, Same.refl _, [], rfl, TA.nil⟩ ?_ ?_ ?_⟩
  · rintro m ys Hc _ ⟨_, y, _⟩
    exact SqT.of (y _ _ hT1)
  · rintro m v ys Hc hv ⟨_, y, bs, rfl, tb'⟩
    obtain ⟨b, x, ea, ex, rfl, ha⟩ := ta1.at hv
    have hm := (List.getElem?_eq_some_iff.mp ea).1
    have hx := (List.mem_filter.mp (List.mem_of_getElem? ex)).1
    have lb := tb'.1
    rw [List.length_map] at lb
    have lt : ((LK k n).take m).length ≤ (LK k n).length := by rw [List.length_take]; omega
    refine ⟨by rw [List.length_map]; exact small6k (by omega), ?_⟩
    have xl := ls_len (asc_mem.mp hx)
    have xm := (ls_mem _ _ _ (asc_mem.mp hx)).1
    have fx := ls_fl _ _ _ hx
    refine ⟨b, toI x, rfl, y _ _ ha, by unfold toI; rw [List.length_map]; omega, fun z hz => ?_, Fl.pwI fx, fun r Hd yd hr' => ?_⟩
    · obtain ⟨a, ha', rfl⟩ := List.mem_map.mp hz
      have := xm a ha'
      omega
    · rw [← toI_cj] at hr'
      refine ⟨hm, y.trans yd, bs ++ [r], by rw [List.map_append]; rfl, ?_⟩
      rw [List.take_succ, ex, List.map_append]
      exact (tb'.same yd).app (TA.cons hr' TA.nil)
  · rintro ys Hc ⟨_, y, bs, rfl, tb'⟩ D hD
    rw [List.length_map, ta1.1, List.take_of_length_le (Nat.le_refl _)] at tb'
    have yD := Same.new hD (.lst (bs.map V.ref))
    have gD : upd Hc D (.lst (bs.map V.ref)) D = some (.lst (bs.map V.ref)) := upd_same
    have tb' := tb'.same yD
    have z2 := (y1.trans y).trans yD
    generalize upd Hc D (.lst (bs.map V.ref)) = H2 at gD tb' z2
    have lz : bs.length = (((LK k n).map cj).map toI).length := by rw [List.length_map]; exact tb'.1
    have ez := zip_fst lz
    have sn : (bs.zip (((LK k n).map cj).map toI)).map Prod.snd = ((LK k n).map cj).map toI := List.map_snd_zip (by omega)
    have dat : ∀ p ∈ bs.zip (((LK k n).map cj).map toI), H2 p.1 = some (.tup (p.2.map V.int)) := fun p hp => by
      obtain ⟨j, hj⟩ := List.mem_iff_getElem?.mp hp
      obtain ⟨e1, e2⟩ := List.getElem?_zip_eq_some.mp hj
      rw [List.getElem?_map] at e2
      cases ex : ((LK k n).map cj)[j]? with
      | none => rw [ex] at e2; cases e2
      | some x =>
        rw [ex] at e2
        have e2 : toI x = p.2 := Option.some.inj e2
        rw [← e2]
        exact tb'.2 j _ x e1 ex
    refine ⟨bs.zip (((LK k n).map cj).map toI), by rw [ez]; exact SqL.of gD, dat, fun h2 p hp => ?_, fun l' ps' hl' pm ord => ?_⟩
    · have : p.2 ∈ ((LK k n).map cj).map toI := by rw [← sn]; exact List.mem_map.mpr ⟨p, hp, rfl⟩
      obtain ⟨x, hx, e0⟩ := List.mem_map.mp this
      rw [← e0]
      intro e1
      have x0 : x = [] := List.map_eq_nil_iff.mp e1
      subst x0
      obtain ⟨f1, s1⟩ := asc_iff.mp (List.mem_filter.mp (perm.mem_iff.mp hx)).1
      have n0 : n = 0 := s1.symm
      subst n0
      have : (LK k 0).length ≤ 1 := Nat.le_trans (List.length_filter_le _ _) (by rw [asc_zero, if_pos rfl]; exact Nat.le_refl _)
      rw [List.length_zip, List.length_map, List.length_map] at h2
      omega
    · have sorted : ps'.map Prod.snd = (LK l n).map toI := by
        refine sorted_self (d := fun x : List Int => x) (ps := (LK l n).map toI) ?_ ?_ ?_
        · rw [List.pairwise_map]
          exact (asc_up n n).filter (isg l)
        · refine (pm.map Prod.snd).trans ?_
          rw [sn]
          exact perm.map toI
        · rw [List.pairwise_map]
          exact ord
      have yl := Same.new hl' (.lst (ps'.map fun q => V.ref q.1))
      have tps : Tps (upd H2 l' (.lst (ps'.map fun q => V.ref q.1))) (ps'.map fun q => V.ref q.1) ((LK l n).map toI) := by
        rw [← sorted]
        exact tps_of fun q hq => yl _ _ (dat q (pm.mem_iff.mp hq))
      have gl : upd H2 l' (.lst (ps'.map fun q => V.ref q.1)) l' = some (.lst (ps'.map fun q => V.ref q.1)) := upd_same
      have z3 := z2.trans yl
      generalize upd H2 l' (.lst (ps'.map fun q => V.ref q.1)) = H3 at tps gl z3
      refine ⟨d, l, n, rfl, hl.same z3, ol, hn, fun T2 as2 H4 y4 hT2 ta2 => ?_⟩
      refine ⟨_, .inr hT2, fun l2 hl2 => ?_⟩
      have y5 := Same.new hl2 (.lst (as2.map V.ref))
      refine ⟨.list (((LK l n).map toI).map tD), .list (((LK l n).map toI).map tD), .lst (y5 _ _ (y4 _ _ gl)) (Tps.all ((tps.same y4).same y5)), .lst upd_same (Tps.all (ta2.tps.same y5)), shaped_lt _, shaped_lt _, ?_⟩
      rw [ls_eqv_self]
      exact q _ (z3.trans (y4.trans y5))
theorem sc_wi : FnScope ["_law_lesser", "_law_greater", "_law_n", "_law_some"] ["_law_lesser", "_law_greater", "_law_n"] (defScope (top 18)) := ⟨rfl, rfl, rfl, by decide +kernel, rfl, by decide +kernel, by decide +kernel⟩
noncomputable def sp_wi : Sp := fun vs H Q _ => ∃ (c d : Addr) (k l : Kn) (n : Nat), vs = [.ref c, .ref d, .int n] ∧ KnAt H c k ∧ k.Ok ∧ KnAt H d l ∧ l.Ok ∧ n ≤ 30 ∧ (∀ x, Fl x → isg k x = true → isg l x = true) ∧ ∀ H', Same H H' → Q (.bl true) H'
theorem ok_wi (F : Fun K "_law_within" "_law_within" (top 18) f fd) (m_all : mg "all" = none) (m_dict : mg "dict" = none) (F_is_of : FnA P w K mg base "is_of" 3 ["kind", "parting"] sp_pi) (F_listed : FnA P w K mg base "listed" 33 ["kind", "n"] sp_li) : FnOk P w K mg base CX0 34 f fd ["_law_lesser", "_law_greater", "_law_n"] sp_wi := by
  refine F.okz sc_wi (fun vs H Q E h => ?_) (fun cdv A outer s H vs Q E hr h => ?_)
  · obtain ⟨c, d, k, l, n, rfl, _⟩ := h; rfl
  obtain ⟨c, d, k, l, n, rfl, hk, ok, hl, ol, hn, e, q⟩ := h
  have nd := sc_wi.nd
  have hu := hr.units
  have hu1 : (A.deeper (PyProof.Rows.envOfC "_law_within" (defScope (top 18)) s.heap.objs.size f cdv)).units + 1 < cLine := by omega
  refine ⟨_, (zss_cons (zs_set (i := 3) nd rfl (Or.inr rfl) (zcb_dictH hu rfl rfl m_dict (za_cons (ze_comp ["_law_parting"] [] rfl ⟨rfl, by decide +kernel, by decide +kernel, rfl, rfl⟩ (zi_tup (ze_fn F_listed hr (by decide) rfl (za_cons (zn 1) (za_cons (zn 2) za_nil)))) kpg_name (fun _ _ _ _ => zg_name (i := 0) (show List.Nodup (["_law_parting"] : List Str) by decide +kernel) rfl (Or.inl rfl)) (fun _ _ _ _ => zif_nil) (fun _ _ _ _ => (ze_tup (za_cons (zn 0) (za_cons ze_bl za_nil))))) za_nil) rfl rfl))
      (zss_one (zs_ret (zcb_all rfl rfl m_all (za_cons (ze_comp ["_law_parting"] [("_law_some", 3), ("_law_greater", 1)] rfl ⟨rfl, by decide +kernel, by decide +kernel, rfl, rfl⟩ (zi_tup (ze_fn F_listed hr (by decide) rfl (za_cons (zn 0) (za_cons (zn 2) za_nil)))) kpg_name (fun _ _ _ _ => zg_name (i := 0) (show List.Nodup (["_law_parting", "_law_some", "_law_greater"] : List Str) by decide +kernel) rfl (Or.inl rfl)) (fun _ _ _ _ => zif_nil) (fun _ _ _ _ => (ze_andP (ze_cmp (zc_din hu1 (zn 0) (zn 1)) (by with_unfolding_all rfl)) (ze_one (ze_cmpR op_isP (ze_fn F_is_of hr (by decide) rfl (za_cons (zn 2) (za_cons (zn 0) za_nil))) ze_bl (nomark _)))))) za_nil) rfl rfl)))), ?_⟩
  refine ⟨d, l, n, rfl, hl, ol, hn, fun T1 as1 H1 y1 hT1 ta1 => ?_⟩
  have l1 := LK_len l hn
  have la := ta1.1
  refine ⟨T1, rfl, ⟨_, SqT.of hT1⟩, cmp_tup (xs := as1.map V.ref) (fun m ys Hc => m ≤ as1.length ∧ Same H1 Hc ∧ ∃ bs : List Addr, ys = bs.map V.ref ∧ bs.length = m ∧ ∀ (j : Nat) b a, bs[j]? = some b → as1[j]? = some a → Hc b = some (.tup [.ref a, .bl true])) ⟨Nat.zero_le _, Same.refl _, [], rfl, rfl, fun j b a e1 _ => nomatch e1⟩ ?_ ?_ ?_⟩
  · rintro m ys Hc _ ⟨_, y, _⟩
    exact SqT.of (y _ _ hT1)
  · rintro m v ys Hc hv ⟨_, y, bs, rfl, lb, hb⟩
    obtain ⟨a, x, ea, ex, rfl, ha⟩ := ta1.at hv
    have hm := (List.getElem?_eq_some_iff.mp ea).1
    refine ⟨by rw [List.length_map]; exact small6k (by omega), ?_⟩
    refine ⟨by show 2 ≤ sizeLine; decide, fun t ht => ?_⟩
    have yt := Same.new ht (.tup [V.ref a, .bl true])
    refine ⟨hm, y.trans yt, bs ++ [t], by rw [List.map_append]; rfl, by rw [List.length_append, lb]; rfl, fun j b a' e1 e2 => ?_⟩
    by_cases hj : j < bs.length
    · rw [List.getElem?_append_left hj] at e1
      exact yt _ _ (hb j b a' e1 e2)
    · rw [List.getElem?_append_right (by omega)] at e1
      have j0 : j = m := by
        have := (List.getElem?_eq_some_iff.mp e1).1
        rw [List.length_singleton] at this
        omega
      subst j0
      rw [show j - bs.length = 0 by omega] at e1
      cases e1
      rw [ea] at e2
      cases e2
      exact upd_same
  · rintro ys Hc ⟨_, y, bs, rfl, lb, hb⟩ D hD
    rw [List.length_map] at lb
    have yD := Same.new hD (.lst (bs.map V.ref))
    have gD : upd Hc D (.lst (bs.map V.ref)) D = some (.lst (bs.map V.ref)) := upd_same
    have hb' : ∀ (j : Nat) b a, bs[j]? = some b → as1[j]? = some a → upd Hc D (.lst (bs.map V.ref)) b = some (.tup [.ref a, .bl true]) := fun j b a e1 e2 => yD _ _ (hb j b a e1 e2)
    have ta2 := (ta1.same y).same yD
    have z2 := (y1.trans y).trans yD
    generalize upd Hc D (.lst (bs.map V.ref)) = H2 at gD hb' ta2 z2
    refine ⟨(LK l n).map fun x => (kL x, V.bl true), as1, bs, gD, by rw [List.length_map]; omega, by rw [List.length_map]; omega, by rw [List.length_map]; exact line6k l1, fun j cj' kv b e1 e2 e3 => ?_, fun p hp => ?_⟩
    · rw [List.getElem?_map] at e2
      cases ex : (LK l n)[j]? with
      | none => rw [ex] at e2; cases e2
      | some x =>
        rw [ex] at e2
        cases e2
        exact ⟨hb' j _ _ e1 e3, by rw [kL_V]; exact ta2.2 j _ _ e3 ex⟩
    · have yp := Same.new hp (.dT (mergeT [] ((LK l n).map fun x => (kL x, V.bl true))))
      have gp : upd H2 p (.dT (mergeT [] ((LK l n).map fun x => (kL x, V.bl true)))) p = some (.dT (mergeT [] ((LK l n).map fun x => (kL x, V.bl true)))) := upd_same
      have z3 := z2.trans yp
      generalize upd H2 p (.dT (mergeT [] ((LK l n).map fun x => (kL x, V.bl true)))) = H3 at gp z3
      refine ⟨c, k, n, rfl, hk.same z3, ok, hn, fun T4 as4 H4 y4 hT4 ta4 => ?_⟩
      have l4 := LK_len k hn
      refine ⟨T4, rfl, ⟨_, SqT.of hT4⟩, cmp_tup (xs := as4.map V.ref) (fun m ys Hc => m ≤ as4.length ∧ Same H4 Hc ∧ ys = (List.replicate m true).map V.bl) ⟨Nat.zero_le _, Same.refl _, rfl⟩ ?_ ?_ ?_⟩
      · rintro m ys Hc _ ⟨_, y, _⟩
        exact SqT.of (y _ _ hT4)
      · rintro m v ys Hc hv ⟨_, y, rfl⟩
        obtain ⟨a, x, ea, ex, rfl, ha⟩ := ta4.at hv
        have hm := (List.getElem?_eq_some_iff.mp ea).1
        have lm := ta4.1
        obtain ⟨hx, px⟩ := List.mem_filter.mp (List.mem_of_getElem? ex)
        have fx := ls_fl _ _ _ hx
        have xl := ls_len (asc_mem.mp hx)
        have xm := (ls_mem _ _ _ (asc_mem.mp hx)).1
        have lx := e x fx px
        refine ⟨by rw [List.length_map, List.length_replicate]; exact small6k (by omega), ?_⟩
        refine ⟨p, _, rfl, DGet.t (k := kL x) (y _ _ (y4 _ _ gp)) (by rw [kL_V]; exact y _ _ ha), ?_⟩
        have has : (valV (mergeT [] ((LK l n).map fun x => (kL x, V.bl true))) (kL x)).isSome = true := merge_has _ _ _ (.inr ⟨V.bl true, List.mem_map.mpr ⟨x, List.mem_filter.mpr ⟨hx, lx⟩, rfl⟩⟩)
        rw [has]
        refine ⟨d, a, l, x, rfl, hl.same ((z3.trans y4).trans y), ol, y _ _ ha, by omega, fun b hb => by have := (xm b hb).2; omega, fx, fun Hd yd => ?_⟩
        rw [lx]
        refine ⟨hm, y.trans yd, ?_⟩
        rw [List.replicate_succ', List.map_append]
        rfl
      · rintro ys Hc ⟨_, y, rfl⟩ D2 hD2
        refine ⟨_, SqL.of upd_same, ?_⟩
        rw [show (List.replicate (as4.map V.ref).length true).all id = true from List.all_eq_true.mpr fun b hb => List.eq_of_mem_replicate hb]
        exact q _ ((z3.trans y4).trans (y.trans (Same.new hD2 _)))
end
end K10
set_option Elab.async false
set_option linter.all false
set_option maxRecDepth 100000
set_option maxHeartbeats 4000000
namespace M10
open MRow M80 M17 M12
theorem a24 : ((List.range 25).all fun n => decide (fow 1 n = PL dl (rsz 2 [1] n) n)) = true := by decide +kernel
theorem c24 : ((List.range 25).all fun n => decide (fow 2 n = PL dl (rsz 5 [1, 4] n) n)) = true := by decide +kernel
end M10
set_option Elab.async false
set_option linter.all false
set_option maxRecDepth 100000
set_option maxHeartbeats 4000000
namespace K10
open PySem L2 MRow M27 M80 M17 M12 M24 M11 M66 M63 M05 M10
theorem isf_cf {k : Kn} (hok : k.Ok) (hno : noown k) {n : Nat} (hn : n ≤ 600) : M11.cn n n (isf k) = cf k n n := by
  cases k with
  | all =>
    show M11.cn n n (fun _ => true) = PL dl (ups n) n
    rw [← fl_all n, ← cn_all (fun _ => true) n n]
    exact cn_congr fun x _ => (List.all_eq_true.mpr fun _ _ => rfl).symm
  | most k =>
    show M11.cn n n (fun x => x.all fun a => decide (a ≤ k)) = PL dl (ups (min k n)) n
    rw [cn_all, fl_most]
  | few k =>
    show M11.cn n n (fun x => decide (x.length ≤ k)) = PL dl (ups (min k n)) n
    rw [cn_few, R_min (Nat.le_refl n)]
  | times m => exact cn_times hok.1 n n
  | rests m rs => exact cn_all (fun a => decide ((a : Int) % (m : Int) ∈ rs)) n n
  | box k l => show M11.cn n n (inb k l) = bx l (min k n) n; rw [cn_box, Nat.min_comm]
  | off d => exact cn_off hok.1 hn
  | own => exact hno.elim
theorem LK_cf {k : Kn} (hok : k.Ok) (hno : noown k) {n : Nat} (hn : n ≤ 600) : ((LK k n).length : Int) = cf k n n := by
  unfold LK
  rw [M09.asc_cn, ← isf_cf hok hno hn]
  cases k with
  | own => exact hno.elim
  | all => rfl
  | most k => rfl
  | few k => rfl
  | times m => rfl
  | rests m rs => rfl
  | box k l => rfl
  | off d => rfl
theorem like {k l : Kn} {n : Nat} (ok : k.Ok) (nk : noown k) (ol : l.Ok) (nl : noown l) (hn : n ≤ 600) (h : cf k n n = cf l n n) : (LK k n).length = (LK l n).length := by
  have h1 := LK_cf ok nk hn
  have h2 := LK_cf ol nl hn
  omega
theorem f_mf (k : Nat) : ∀ x, Fl x → isg (.most k) x = isg (.few k) (cj x) := fun x f => (cj_few f k).symm
theorem f_own : ∀ x, Fl x → isg .own x = isg .own (cj x) := fun x f => by
  show decide (M03.tn (toI x) = toI x) = decide (M03.tn (toI (cj x)) = toI (cj x))
  rw [toI_cj, M03.tn_tn (Fl.pwI f) (Fl.oneI f)]
  exact decide_eq_decide.mpr ⟨fun h => h.symm, fun h => h.symm⟩
theorem f_box (k l : Nat) : ∀ x, Fl x → isg (.box k l) x = isg (.box l k) (cj x) := fun x f => by
  show (decide (x.length ≤ l) && x.all fun a => decide (a ≤ k)) = (decide ((cj x).length ≤ k) && (cj x).all fun a => decide (a ≤ l))
  rw [cj_few f, cj_most f, Bool.and_comm]
theorem w_box (k l : Nat) : ∀ x, Fl x → isg (.box k l) x = true → isg (.most k) x = true := fun x _ h => by
  have h : (decide (x.length ≤ l) && x.all fun a => decide (a ≤ k)) = true := h
  exact ((Bool.and_eq_true _ _).mp h).2
theorem vd_less (d : Nat) : ∀ x, vd (d + 1) x = true → vd d x = true
  | [], _ => rfl
  | [_], _ => rfl
  | a :: b :: r, h => by
    have h : (decide (b + (d + 1) ≤ a) && vd (d + 1) (b :: r)) = true := h
    obtain ⟨h1, h2⟩ := (Bool.and_eq_true _ _).mp h
    show (decide (b + d ≤ a) && vd d (b :: r)) = true
    rw [vd_less d _ h2, decide_eq_true (by have := of_decide_eq_true h1; omega)]
    rfl
theorem w_off (d : Nat) : ∀ x, Fl x → isg (.off (d + 1)) x = true → isg (.off d) x = true := fun x _ h => vd_less d x h
theorem w_times (m : Nat) : ∀ x, Fl x → isg (.times m) x = true → isg (.times (m + 1)) x = true := fun x _ h => by
  have h : cts m x = true := h
  show cts (m + 1) x = true
  unfold cts at h ⊢
  rw [List.all_eq_true] at h ⊢
  exact fun a ha => decide_eq_true (by have := of_decide_eq_true (h a ha); omega)
theorem LK_all (n : Nat) : LK .all n = Asc n n := List.filter_eq_self.mpr fun x _ => rfl
theorem l_one {n : Nat} (h : n ≤ 24) : (LK (.off 1) n).length = (LK (.rests 2 [1]) n).length :=
  like ⟨by decide, by decide⟩ trivial ⟨by decide, by decide⟩ trivial (by omega) (of_decide_eq_true (List.all_eq_true.mp a24 n (List.mem_range.mpr (by omega))))
theorem l_two {n : Nat} (h : n ≤ 24) : (LK (.off 2) n).length = (LK (.rests 5 [1, 4]) n).length :=
  like ⟨by decide, by decide⟩ trivial ⟨by decide, by decide⟩ trivial (by omega) (of_decide_eq_true (List.all_eq_true.mp c24 n (List.mem_range.mpr (by omega))))
theorem l_times {n m : Nat} (h : n ≤ 24) (h1 : 2 ≤ m) (h2 : m ≤ 60) {rs : List Int} (hrs : rs = (List.range (m - 1)).map fun (j : Nat) => (1 : Int) + (j : Int) * 1) : (LK (.times m) n).length = (LK (.rests m rs) n).length :=
  like ⟨by omega, by omega⟩ trivial ⟨by omega, by omega⟩ trivial (by omega) (times_is (by omega) (fun x => by
    rw [hrs, List.mem_map]
    have lt := Nat.mod_lt x (show 0 < m by omega)
    have e : (x : Int) % (m : Int) = ((x % m : Nat) : Int) := (Int.natCast_emod x m).symm
    rw [e]
    refine ⟨fun ⟨j, hj, ej⟩ => by omega, fun h0 => ⟨x % m - 1, List.mem_range.mpr (by omega), by omega⟩⟩) (Nat.le_refl n))
theorem pick6 {k : Int} (h0 : 0 ≤ k) (h1 : k < 6) : ∃ m : Int, atI [V.int 17, .int 17, .int 17, .int 17, .int 17, .int 25] k = some (.int m) ∧ 1 ≤ m ∧ m ≤ 25 := by
  have : k = 0 ∨ k = 1 ∨ k = 2 ∨ k = 3 ∨ k = 4 ∨ k = 5 := by omega
  rcases this with rfl | rfl | rfl | rfl | rfl | rfl
  · exact ⟨17, rfl, by decide⟩
  · exact ⟨17, rfl, by decide⟩
  · exact ⟨17, rfl, by decide⟩
  · exact ⟨17, rfl, by decide⟩
  · exact ⟨17, rfl, by decide⟩
  · exact ⟨25, rfl, by decide⟩
theorem Hand.ne {H : Hp} {a b : Addr} (h : Hand H a) (hb : H b = none) : b ≠ a := fun z => by
  obtain ⟨g, s, c, e, _⟩ := h
  rw [z, e] at hb
  cases hb
section
variable {P : Program} {w : World} {K : PySem.W.Frag} {mg : Str → Option Value} {base : Heap} {f : Addr} {fd : FuncData}
theorem sc_law : FnScope ["_law_script", "_law_k", "_law_hand_here", "_law_n", "_law_one", "_law_other", "_law_m", "_law_some"] ["_law_script"] (defScope (top 19)) := ⟨rfl, rfl, rfl, by decide +kernel, rfl, by decide +kernel, by decide +kernel⟩
noncomputable def sp_law (K : PySem.W.Frag) : Sp := fun vs H Q _ => ∃ (a : Addr) (ns : List Int), vs = [.ref a] ∧ SqL K H a (ns.map V.int) ∧ ns.length ≤ 63 ∧ ∀ H', Q (.bl true) H'
theorem ok_law (F : Fun K "law" "law" (top 19) f fd) (m_len : mg "len" = none) (m_min : mg "min" = none) (m_range : mg "range" = none) (m_tuple : mg "tuple" = none) (F_law_as_long : FnA P w K mg base "_law_as_long" 34 ["_law_one", "_law_other", "_law_n"] sp_al) (F_law_hand : FnA P w K mg base "_law_hand" 1 ["_law_script", "_law_k"] (sp_hand K)) (F_law_take : FnA P w K mg base "_law_take" 1 ["_law_hand_here", "_law_many"] sp_take) (F_law_turned_are : FnA P w K mg base "_law_turned_are" 34 ["_law_one", "_law_other", "_law_n"] sp_ta) (F_law_within : FnA P w K mg base "_law_within" 34 ["_law_lesser", "_law_greater", "_law_n"] sp_wi) (F_listed : FnA P w K mg base "listed" 33 ["kind", "n"] sp_li) (F_partings : FnA P w K mg base "partings" 32 ["n"] sp_ps) (F_turned : FnA P w K mg base "turned" 1 ["parting"] sp_turned) : FnOk P w K mg base CX0 35 f fd ["_law_script"] (sp_law K) := by
  refine F.okz sc_law (fun vs H Q E h => ?_) (fun cdv A outer s H vs Q E hr h => ?_)
  · obtain ⟨a, ns, rfl, _⟩ := h; rfl
  obtain ⟨a, ns, rfl, hS, hl, q⟩ := h
  have nd := sc_law.nd
  have hu := hr.units
  refine ⟨_, (zss_cons (zs_for PassesOwn.never rfl (zi_range1 rfl m_range (za_cons (ze_op op_addP ze_int (zcb_min rfl rfl m_min (za_cons ze_int (za_cons (zcb_len rfl m_len (za_cons (zn 0) za_nil) rfl rfl) za_nil)) rfl rfl)) za_nil)) (zg_name (i := 1) nd rfl (Or.inl rfl)) (zss_cons (zs_set (i := 2) nd rfl (Or.inl rfl) (ze_fn F_law_hand hr (by decide) rfl (za_cons (zn 0) (za_cons (zn 1) za_nil))))
      (zss_cons (zs_set (i := 3) nd rfl (Or.inl rfl) (ze_fn F_law_take hr (by decide) rfl (za_cons (zn 2) (za_cons (ze_ix ix_P (ze_lst (za_cons ze_int (za_cons ze_int (za_cons ze_int (za_cons ze_int (za_cons ze_int (za_cons ze_int za_nil))))))) (ze_fn F_law_take hr (by decide) rfl (za_cons (zn 2) (za_cons ze_int za_nil))) (fun _ _ => rfl)) za_nil))))
      (zss_cons (zs_par3 (i := 4) (j := 5) (k := 6) rfl nd rfl rfl rfl (by decide) (by decide) (by decide) rfl rfl rfl (za_cons (ze_op op_addP ze_int (ze_fn F_law_take hr (by decide) rfl (za_cons (zn 2) (za_cons (ze_op op_addP (zn 3) ze_int) za_nil)))) (za_cons (ze_op op_addP ze_int (ze_fn F_law_take hr (by decide) rfl (za_cons (zn 2) (za_cons (ze_op op_addP (zn 3) ze_int) za_nil)))) (za_cons (ze_op op_addP ze_int (ze_fn F_law_take hr (by decide) rfl (za_cons (zn 2) (za_cons ze_int za_nil)))) za_nil))) rfl)
      (zss_cons (zs_if (ZW.zt (zw_or (zt_not (zt_valP (ze_fn F_law_turned_are hr (by decide) rfl (za_cons (ze_tup (za_cons ze_str (za_cons (zn 4) za_nil))) (za_cons (ze_tup (za_cons ze_str (za_cons (zn 4) za_nil))) (za_cons (zn 3) za_nil)))))) (zw_or1 (zt_not (zt_valP (ze_fn F_law_turned_are hr (by decide) rfl (za_cons (ze_tup (za_cons ze_str za_nil)) (za_cons (ze_tup (za_cons ze_str za_nil)) (za_cons (zn 3) za_nil))))))))) (zss_one (zs_ret ze_bl)) zss_nil)
      (zss_cons (zs_if (zt_not (zt_valP (ze_fn F_law_turned_are hr (by decide) rfl (za_cons (ze_tup (za_cons ze_str (za_cons (zn 4) (za_cons (zn 5) za_nil)))) (za_cons (ze_tup (za_cons ze_str (za_cons (zn 5) (za_cons (zn 4) za_nil)))) (za_cons (zn 3) za_nil)))))) (zss_one (zs_ret ze_bl)) zss_nil)
      (zss_cons (zs_if (zt_cmpP (op_neD hu) (ze_fn F_listed hr (by decide) rfl (za_cons (ze_tup (za_cons ze_str za_nil)) (za_cons (zn 3) za_nil))) (zcb_tuple rfl m_tuple (za_cons (ze_comp ["_law_parting"] [] rfl ⟨rfl, by decide +kernel, by decide +kernel, rfl, rfl⟩ (zi_tup (ze_fn F_partings hr (by decide) rfl (za_cons (zn 3) za_nil))) kpg_name (fun _ _ _ _ => zg_name (i := 0) (show List.Nodup (["_law_parting"] : List Str) by decide +kernel) rfl (Or.inl rfl)) (fun _ _ _ _ => (zif_one (zt_cmpP (op_eqD hu) (ze_fn F_turned hr (by decide) rfl (za_cons (zn 0) za_nil)) (zn 0) (nomark _)))) (fun _ _ _ _ => (zn 0))) za_nil) rfl rfl) (nomark _)) (zss_one (zs_ret ze_bl)) zss_nil)
      (zss_cons (zs_if (ZW.zt (zw_or (zt_not (zt_valP (ze_fn F_law_within hr (by decide) rfl (za_cons (ze_tup (za_cons ze_str (za_cons (zn 4) (za_cons (zn 5) za_nil)))) (za_cons (ze_tup (za_cons ze_str (za_cons (zn 4) za_nil))) (za_cons (zn 3) za_nil)))))) (zw_or1 (zt_not (zt_valP (ze_fn F_law_within hr (by decide) rfl (za_cons (ze_tup (za_cons ze_str (za_cons (ze_op op_addP (zn 4) ze_int) za_nil))) (za_cons (ze_tup (za_cons ze_str (za_cons (zn 4) za_nil))) (za_cons (zn 3) za_nil))))))))) (zss_one (zs_ret ze_bl)) zss_nil)
      (zss_cons (zs_if (ZW.zt (zw_or (zt_not (zt_valP (ze_fn F_law_within hr (by decide) rfl (za_cons (ze_tup (za_cons ze_str (za_cons (zn 6) za_nil))) (za_cons (ze_tup (za_cons ze_str (za_cons (ze_op op_addP (zn 6) ze_int) za_nil))) (za_cons (zn 3) za_nil)))))) (zw_or1 (zt_cmpP (op_neD hu) (ze_fn F_listed hr (by decide) rfl (za_cons (ze_tup (za_cons ze_str za_nil)) (za_cons (zn 3) za_nil))) (ze_fn F_partings hr (by decide) rfl (za_cons (zn 3) za_nil)) (nomark _))))) (zss_one (zs_ret ze_bl)) zss_nil)
      (zss_cons (zs_set (i := 7) nd rfl (Or.inl rfl) (zcb_trange rfl rfl m_tuple (za_cons (zcb_range rfl m_range (za_cons ze_int (za_cons (zn 6) za_nil)) rfl rfl) za_nil) rfl rfl))
      (zss_cons (zs_if (ZW.zt (zw_or (zt_not (zt_valP (ze_fn F_law_as_long hr (by decide) rfl (za_cons (ze_tup (za_cons ze_str (za_cons ze_int za_nil))) (za_cons (ze_tup (za_cons ze_str (za_cons ze_int (za_cons (ze_tup (za_cons ze_int za_nil)) za_nil)))) (za_cons (zn 3) za_nil)))))) (zw_or1 (zt_not (zt_valP (ze_fn F_law_as_long hr (by decide) rfl (za_cons (ze_tup (za_cons ze_str (za_cons (zn 6) za_nil))) (za_cons (ze_tup (za_cons ze_str (za_cons (zn 6) (za_cons (zn 7) za_nil)))) (za_cons (zn 3) za_nil))))))))) (zss_one (zs_ret ze_bl)) zss_nil)
      (zss_one (zs_if (zt_not (zt_valP (ze_fn F_law_as_long hr (by decide) rfl (za_cons (ze_tup (za_cons ze_str (za_cons ze_int za_nil))) (za_cons (ze_tup (za_cons ze_str (za_cons ze_int (za_cons (ze_tup (za_cons ze_int (za_cons ze_int za_nil))) za_nil)))) (za_cons (zn 3) za_nil)))))) (zss_one (zs_ret ze_bl)) zss_nil)))))))))))))
      (zss_one (zs_ret ze_bl))), ?_⟩
  refine ⟨_, .inl hS, ?_⟩
  rw [List.length_map]
  have hm : 0 ≤ (if (ns.length : Int) < 2 then (ns.length : Int) else 2) ∧ (if (ns.length : Int) < 2 then (ns.length : Int) else 2) ≤ 2 := by split <;> omega
  refine ⟨1 + (if (ns.length : Int) < 2 then (ns.length : Int) else 2), rfl, by omega, by omega, ?_⟩
  generalize (if (ns.length : Int) < 2 then (ns.length : Int) else 2) = mn at hm
  refine for_range (fun i σ H' => i ≤ 3 ∧ Same H H' ∧ ∃ x1 x2 x3 x4 x5 x6 x7, σ = [some (.ref a), x1, x2, x3, x4, x5, x6, x7]) ⟨by decide, Same.refl _, _, _, _, _, _, _, _, rfl⟩ ?_ ?_
  · rintro i σ H0 hi ⟨_, y0, x1, x2, x3, x4, x5, x6, x7, rfl⟩
    have hi3 : i + 1 ≤ 3 := by omega
    refine ⟨a, 0 + (i : Int), ns, rfl, SqL.same y0 hS, by omega, by omega, fun p H1 hp y1 hh1 => ?_⟩
    have hpH : H p = none := fresh_back y0 hp
    have z1 := y0.trans y1
    refine ⟨by show 6 ≤ sizeLine; decide, fun d hd => ?_⟩
    have yd := Same.new hd (.lst [V.int 17, .int 17, .int 17, .int 17, .int 17, .int 25])
    have dp : d ≠ p := hh1.ne hd
    have hd3 : upd H1 d (.lst [V.int 17, .int 17, .int 17, .int 17, .int 17, .int 25]) d = some (.lst [V.int 17, .int 17, .int 17, .int 17, .int 17, .int 25]) := upd_same
    have st3 := Step.of_same hh1 yd
    generalize upd H1 d (.lst [V.int 17, .int 17, .int 17, .int 17, .int 17, .int 25]) = H3 at yd hd3 st3
    refine ⟨p, 6, rfl, st3.2, by decide, by decide, fun w4 H4 w40 w41 st4 => ?_⟩
    obtain ⟨mm, em, m1, m2⟩ := pick6 w40 w41
    refine ⟨_, .inl (SqL.of (st4.1 _ _ dp hd3)), .int mm, em, ?_⟩
    refine ⟨p, mm, rfl, st4.2, by omega, by omega, fun n' H5 n0 n1 st5 => ?_⟩
    obtain ⟨n, rfl⟩ : ∃ n : Nat, n' = (n : Int) := ⟨n'.toNat, by omega⟩
    have hn : n ≤ 24 := by omega
    have hn30 : n ≤ 30 := by omega
    refine ⟨p, (n : Int) + 1, rfl, st5.2, by omega, by omega, fun u' H6 u0 u1 st6 => ?_⟩
    obtain ⟨u, eu⟩ : ∃ u : Nat, 1 + u' = (u : Int) := ⟨(1 + u').toNat, by omega⟩
    have gu : ∀ {Kf : PySem.W.Frag} {Hx : Hp} {Qx : VK}, Qx (.int (u : Int)) Hx → rAddP Kf (.int 1) (.int u') Hx Qx := fun {Kf Hx Qx} h => by
      show Qx (.int (1 + u')) Hx
      rw [eu]; exact h
    refine gu ?_
    refine ⟨p, (n : Int) + 1, rfl, st6.2, by omega, by omega, fun v' H7 v0 v1 st7 => ?_⟩
    obtain ⟨v, ev⟩ : ∃ v : Nat, 1 + v' = (v : Int) := ⟨(1 + v').toNat, by omega⟩
    have gv : ∀ {Kf : PySem.W.Frag} {Hx : Hp} {Qx : VK}, Qx (.int (v : Int)) Hx → rAddP Kf (.int 1) (.int v') Hx Qx := fun {Kf Hx Qx} h => by
      show Qx (.int (1 + v')) Hx
      rw [ev]; exact h
    refine gv ?_
    refine ⟨p, 6, rfl, st7.2, by decide, by decide, fun m' H8 m0 m1' st8 => ?_⟩
    obtain ⟨m, em'⟩ : ∃ m : Nat, 2 + m' = (m : Int) := ⟨(2 + m').toNat, by omega⟩
    have gm : ∀ {Kf : PySem.W.Frag} {Hx : Hp} {Qx : VK}, Qx (.int (m : Int)) Hx → rAddP Kf (.int 2) (.int m') Hx Qx := fun {Kf Hx Qx} h => by
      show Qx (.int (2 + m')) Hx
      rw [em']; exact h
    refine gm ?_
    clear gu gv gm
    have hu1 : 1 ≤ u ∧ u ≤ 25 := by omega
    have hv1 : 1 ≤ v ∧ v ≤ 25 := by omega
    have hm1 : 2 ≤ m ∧ m ≤ 7 := by omega
    have z8 : Same H H8 := fun b o e => by
      have nb : b ≠ p := fun z => by rw [z, hpH] at e; cases e
      exact st8.1 b o nb (st7.1 b o nb (st6.1 b o nb (st5.1 b o nb (st4.1 b o nb (st3.1 b o nb (z1 _ _ e))))))
    clear st3 st4 st5 st6 st7 st8 hh1
    refine ⟨by show 2 ≤ sizeLine; decide, fun c1 hc1 => ?_⟩
    have yc1 := Same.new hc1 (.tup [V.str "most", .int u])
    have gc1 : upd H8 c1 (.tup [V.str "most", .int u]) c1 = some (.tup [V.str "most", .int u]) := upd_same
    have z8 := z8.trans yc1
    generalize upd H8 c1 (.tup [V.str "most", .int u]) = G9 at yc1 gc1 z8
    refine ⟨by show 2 ≤ sizeLine; decide, fun c2 hc2 => ?_⟩
    have yc2 := Same.new hc2 (.tup [V.str "few", .int u])
    have gc2 : upd G9 c2 (.tup [V.str "few", .int u]) c2 = some (.tup [V.str "few", .int u]) := upd_same
    have z8 := z8.trans yc2
    generalize upd G9 c2 (.tup [V.str "few", .int u]) = G10 at yc2 gc2 z8
    have gc1 := yc2 _ _ gc1
    refine ⟨c1, c2, .most u, .few u, n, rfl, gc1, (show u ≤ 600 by omega), gc2, (show u ≤ 600 by omega), hn30, f_mf u, fun G11 y => ?_⟩
    have z8 := z8.trans y
    clear y
    refine ⟨by show 1 ≤ sizeLine; decide, fun c3 hc3 => ?_⟩
    have yc3 := Same.new hc3 (.tup [V.str "own"])
    have gc3 : upd G11 c3 (.tup [V.str "own"]) c3 = some (.tup [V.str "own"]) := upd_same
    have z8 := z8.trans yc3
    generalize upd G11 c3 (.tup [V.str "own"]) = G12 at yc3 gc3 z8
    refine ⟨by show 1 ≤ sizeLine; decide, fun c4 hc4 => ?_⟩
    have yc4 := Same.new hc4 (.tup [V.str "own"])
    have gc4 : upd G12 c4 (.tup [V.str "own"]) c4 = some (.tup [V.str "own"]) := upd_same
    have z8 := z8.trans yc4
    generalize upd G12 c4 (.tup [V.str "own"]) = G13 at yc4 gc4 z8
    have gc3 := yc4 _ _ gc3
    refine ⟨c3, c4, .own, .own, n, rfl, gc3, trivial, gc4, trivial, hn30, f_own, fun G14 y => ?_⟩
    have z8 := z8.trans y
    clear y
    refine ⟨by show 3 ≤ sizeLine; decide, fun c5 hc5 => ?_⟩
    have yc5 := Same.new hc5 (.tup [V.str "box", .int u, .int v])
    have gc5 : upd G14 c5 (.tup [V.str "box", .int u, .int v]) c5 = some (.tup [V.str "box", .int u, .int v]) := upd_same
    have z8 := z8.trans yc5
    generalize upd G14 c5 (.tup [V.str "box", .int u, .int v]) = G15 at yc5 gc5 z8
    refine ⟨by show 3 ≤ sizeLine; decide, fun c6 hc6 => ?_⟩
    have yc6 := Same.new hc6 (.tup [V.str "box", .int v, .int u])
    have gc6 : upd G15 c6 (.tup [V.str "box", .int v, .int u]) c6 = some (.tup [V.str "box", .int v, .int u]) := upd_same
    have z8 := z8.trans yc6
    generalize upd G15 c6 (.tup [V.str "box", .int v, .int u]) = G16 at yc6 gc6 z8
    have gc5 := yc6 _ _ gc5
    refine ⟨c5, c6, .box u v, .box v u, n, rfl, gc5, ⟨by omega, by omega⟩, gc6, ⟨by omega, by omega⟩, hn30, f_box u v, fun G17 y => ?_⟩
    have z8 := z8.trans y
    clear y
    refine ⟨by show 1 ≤ sizeLine; decide, fun c7 hc7 => ?_⟩
    have yc7 := Same.new hc7 (.tup [V.str "own"])
    have gc7 : upd G17 c7 (.tup [V.str "own"]) c7 = some (.tup [V.str "own"]) := upd_same
    have z8 := z8.trans yc7
    generalize upd G17 c7 (.tup [V.str "own"]) = G18 at yc7 gc7 z8
    refine ⟨c7, .own, n, rfl, gc7, trivial, hn30, fun T1 as1 G19 y hT1 ta1 => ?_⟩
    have z8 := z8.trans y
    clear y
    refine ⟨n, rfl, hn30, fun T2 us2 G20 y2 hT2 tp2 => ?_⟩
    rw [PB_asc n n n (Nat.le_refl _)] at tp2
    obtain ⟨as2, rfl, ta2⟩ := Tps.ta tp2
    have al := asc_len30 (m := n) hn30
    have z8 := z8.trans y2
    have hT1 := y2 _ _ hT1
    have ta1 := ta1.same y2
    refine ⟨T2, rfl, ⟨_, SqT.of hT2⟩, cmp_tup (xs := as2.map V.ref) (fun m ys Hc => m ≤ as2.length ∧ Same G20 Hc ∧ ∃ bs : List Addr, ys = bs.map V.ref ∧ TA Hc bs (((Asc n n).take m).filter (isg .own))) ⟨Nat.zero_le _, Same.refl _, [], rfl, TA.nil⟩ ?_ ?_ ?_⟩
    · rintro m ys Hc _ ⟨_, y, _⟩
      exact SqT.of (y _ _ hT2)
    · rintro m vv ys Hc hv ⟨_, y, bs, rfl, tb'⟩
      obtain ⟨b, x, ea, ex, rfl, ha⟩ := ta2.at hv
      have hm := (List.getElem?_eq_some_iff.mp ea).1
      have hx := List.mem_of_getElem? ex
      have lb := tb'.1
      have lf := List.length_filter_le (isg .own) ((Asc n n).take m)
      have lt := List.length_take_le m (Asc n n)
      have lm := ta2.1
      refine ⟨by rw [List.length_map]; exact small6k (by omega), ?_⟩
      have xl := ls_len (asc_mem.mp hx)
      have xm := (ls_mem _ _ _ (asc_mem.mp hx)).1
      have fx := ls_fl _ _ _ hx
      refine ⟨b, toI x, rfl, y _ _ ha, by unfold toI; rw [List.length_map]; omega, fun z hz => ?_, Fl.pwI fx, fun r Hd yd hr' => ?_⟩
      · obtain ⟨a, ha', rfl⟩ := List.mem_map.mp hz
        have := xm a ha'
        omega
      refine ⟨_, _, .ints hr', .ints (ns := toI x) (yd _ _ (y _ _ ha)), shaped_ints _, shaped_ints _, ?_⟩
      rw [eqv_tup]
      have tk := tk_filter (p := isg .own) ex
      refine iteD (fun c => ?_) (fun c => ?_)
      · rw [if_pos (show isg .own x = true from decide_eq_true c)] at tk
        refine ⟨hm, y.trans yd, bs ++ [b], by rw [List.map_append]; rfl, ?_⟩
        rw [tk]
        exact (tb'.same yd).app (TA.cons (yd _ _ (y _ _ ha)) TA.nil)
      · rw [if_neg (fun z : isg .own x = true => c (of_decide_eq_true z)), List.append_nil] at tk
        refine ⟨hm, y.trans yd, bs, rfl, ?_⟩
        rw [tk]
        exact tb'.same yd
    rintro ys Hc ⟨_, y, bs, rfl, tb'⟩ D hD
    rw [List.length_map, ta2.1, List.take_of_length_le (Nat.le_refl _)] at tb'
    have yD := Same.new hD (.lst (bs.map V.ref))
    refine ⟨_, .inl (SqL.of upd_same), fun T3 G21 y3 hT3 => ?_⟩
    have y4 := y.trans (yD.trans y3)
    have z8 := z8.trans y4
    refine ⟨ttD ((LK .own n).map toI), ttD ((LK .own n).map toI), (Tps.dtt hT1 ta1.tps).same y4, Tps.dtt hT3 ((tb'.same yD).same y3).tps, shaped_tt _, shaped_tt _, ?_⟩
    rw [if_pos rfl, eqv_self (shaped_tt _)]
    clear hT1 ta1 y y2 y3 y4 yD tb' hT3 ta2 tp2 hT2
    refine ⟨by show 3 ≤ sizeLine; decide, fun c8 hc8 => ?_⟩
    have yc8 := Same.new hc8 (.tup [V.str "box", .int u, .int v])
    have gc8 : upd G21 c8 (.tup [V.str "box", .int u, .int v]) c8 = some (.tup [V.str "box", .int u, .int v]) := upd_same
    have z8 := z8.trans yc8
    generalize upd G21 c8 (.tup [V.str "box", .int u, .int v]) = G22 at yc8 gc8 z8
    refine ⟨by show 2 ≤ sizeLine; decide, fun c9 hc9 => ?_⟩
    have yc9 := Same.new hc9 (.tup [V.str "most", .int u])
    have gc9 : upd G22 c9 (.tup [V.str "most", .int u]) c9 = some (.tup [V.str "most", .int u]) := upd_same
    have z8 := z8.trans yc9
    generalize upd G22 c9 (.tup [V.str "most", .int u]) = G23 at yc9 gc9 z8
    have gc8 := yc9 _ _ gc8
    refine ⟨c8, c9, .box u v, .most u, n, rfl, gc8, ⟨by omega, by omega⟩, gc9, (show u ≤ 600 by omega), hn30, w_box u v, fun G24 y => ?_⟩
    have z8 := z8.trans y
    clear y
    refine ⟨by show 2 ≤ sizeLine; decide, fun d1 hd1 => ?_⟩
    have yd1 := Same.new hd1 (.tup [V.str "off", .int ((u : Int) + 1)])
    have gd1 : upd G24 d1 (.tup [V.str "off", .int ((u : Int) + 1)]) d1 = some (.tup [V.str "off", .int ((u : Int) + 1)]) := upd_same
    have z8 := z8.trans yd1
    generalize upd G24 d1 (.tup [V.str "off", .int ((u : Int) + 1)]) = G25 at yd1 gd1 z8
    refine ⟨by show 2 ≤ sizeLine; decide, fun d2 hd2 => ?_⟩
    have yd2 := Same.new hd2 (.tup [V.str "off", .int u])
    have gd2 : upd G25 d2 (.tup [V.str "off", .int u]) d2 = some (.tup [V.str "off", .int u]) := upd_same
    have z8 := z8.trans yd2
    generalize upd G25 d2 (.tup [V.str "off", .int u]) = G26 at yd2 gd2 z8
    have gd1 := yd2 _ _ gd1
    refine ⟨d1, d2, .off (u + 1), .off u, n, rfl, gd1, ⟨by omega, by omega⟩, gd2, ⟨by omega, by omega⟩, hn30, w_off u, fun G27 y => ?_⟩
    have z8 := z8.trans y
    clear y
    refine ⟨by show 2 ≤ sizeLine; decide, fun d3 hd3 => ?_⟩
    have yd3 := Same.new hd3 (.tup [V.str "times", .int m])
    have gd3 : upd G27 d3 (.tup [V.str "times", .int m]) d3 = some (.tup [V.str "times", .int m]) := upd_same
    have z8 := z8.trans yd3
    generalize upd G27 d3 (.tup [V.str "times", .int m]) = G28 at yd3 gd3 z8
    refine ⟨by show 2 ≤ sizeLine; decide, fun d4 hd4 => ?_⟩
    have yd4 := Same.new hd4 (.tup [V.str "times", .int ((m : Int) + 1)])
    have gd4 : upd G28 d4 (.tup [V.str "times", .int ((m : Int) + 1)]) d4 = some (.tup [V.str "times", .int ((m : Int) + 1)]) := upd_same
    have z8 := z8.trans yd4
    generalize upd G28 d4 (.tup [V.str "times", .int ((m : Int) + 1)]) = G29 at yd4 gd4 z8
    have gd3 := yd4 _ _ gd3
    refine ⟨d3, d4, .times m, .times (m + 1), n, rfl, gd3, ⟨by omega, by omega⟩, gd4, ⟨by omega, by omega⟩, hn30, w_times m, fun G30 y => ?_⟩
    have z8 := z8.trans y
    clear y
    refine ⟨by show 1 ≤ sizeLine; decide, fun d5 hd5 => ?_⟩
    have yd5 := Same.new hd5 (.tup [V.str "all"])
    have gd5 : upd G30 d5 (.tup [V.str "all"]) d5 = some (.tup [V.str "all"]) := upd_same
    have z8 := z8.trans yd5
    generalize upd G30 d5 (.tup [V.str "all"]) = G31 at yd5 gd5 z8
    refine ⟨d5, .all, n, rfl, gd5, trivial, hn30, fun T5 as5 G32 y hT5 ta5 => ?_⟩
    have z8 := z8.trans y
    clear y
    rw [LK_all] at ta5
    refine ⟨n, rfl, hn30, fun T6 us6 G33 y hT6 tp6 => ?_⟩
    rw [PB_asc n n n (Nat.le_refl _)] at tp6
    have z8 := z8.trans y
    refine ⟨ttD ((Asc n n).map toI), ttD ((Asc n n).map toI), (Tps.dtt hT5 ta5.tps).same y, Tps.dtt hT6 tp6, shaped_tt _, shaped_tt _, ?_⟩
    rw [if_pos rfl, eqv_self (shaped_tt _)]
    clear hT5 ta5 y hT6 tp6
    refine fun rp hrp => ?_
    have w1 := Same.new hrp (rngO rp 1 (m : Int) 1)
    have es : (Builtin.Range.rangeSize 1 (m : Int) 1).toNat = m - 1 := by
      rw [size_up (by decide), if_pos (by omega), Int.ediv_one]; omega
    refine ⟨1, (m : Int), 1, upd_same, small_up (by decide) (by decide) (by decide) (by decide) (by omega) (by omega), by decide, by rw [es]; omega, fun rl hrl => ?_⟩
    rw [es]
    have w2 := w1.trans (Same.new hrl (.tup (((List.range (m - 1)).map fun (k : Nat) => (1 : Int) + (k : Int) * 1).map V.int)))
    have grl : upd (upd G33 rp (rngO rp 1 (m : Int) 1)) rl (.tup (((List.range (m - 1)).map fun (k : Nat) => (1 : Int) + (k : Int) * 1).map V.int)) rl = some (.tup (((List.range (m - 1)).map fun (k : Nat) => (1 : Int) + (k : Int) * 1).map V.int)) := upd_same
    have z8 := z8.trans w2
    generalize upd (upd G33 rp (rngO rp 1 (m : Int) 1)) rl (.tup (((List.range (m - 1)).map fun (k : Nat) => (1 : Int) + (k : Int) * 1).map V.int)) = R3 at w2 grl z8
    refine ⟨by show 2 ≤ sizeLine; decide, fun e1 he1 => ?_⟩
    have ye1 := Same.new he1 (.tup [V.str "off", .int 1])
    have ge1 : upd R3 e1 (.tup [V.str "off", .int 1]) e1 = some (.tup [V.str "off", .int 1]) := upd_same
    have z8 := z8.trans ye1
    generalize upd R3 e1 (.tup [V.str "off", .int 1]) = G61 at ye1 ge1 z8
    have grl := ye1 _ _ grl
    refine ⟨by show 1 ≤ sizeLine; decide, fun e2 he2 => ?_⟩
    have ye2 := Same.new he2 (.tup [V.int 1])
    have ge2 : upd G61 e2 (.tup [V.int 1]) e2 = some (.tup [V.int 1]) := upd_same
    have z8 := z8.trans ye2
    generalize upd G61 e2 (.tup [V.int 1]) = G62 at ye2 ge2 z8
    have grl := ye2 _ _ grl
    have ge1 := ye2 _ _ ge1
    refine ⟨by show 3 ≤ sizeLine; decide, fun e3 he3 => ?_⟩
    have ye3 := Same.new he3 (.tup [V.str "rests", .int 2, .ref e2])
    have ge3 : upd G62 e3 (.tup [V.str "rests", .int 2, .ref e2]) e3 = some (.tup [V.str "rests", .int 2, .ref e2]) := upd_same
    have z8 := z8.trans ye3
    generalize upd G62 e3 (.tup [V.str "rests", .int 2, .ref e2]) = G63 at ye3 ge3 z8
    have grl := ye3 _ _ grl
    have ge1 := ye3 _ _ ge1
    have ge2 := ye3 _ _ ge2
    refine ⟨e1, e3, .off 1, .rests 2 [1], n, rfl, ge1, ⟨by decide, by decide⟩, ⟨e2, ge3, ge2⟩, ⟨by decide, by decide⟩, hn30, l_one hn, fun G64 y => ?_⟩
    have z8 := z8.trans y
    have grl := y _ _ grl
    clear y
    refine ⟨by show 2 ≤ sizeLine; decide, fun e4 he4 => ?_⟩
    have ye4 := Same.new he4 (.tup [V.str "times", .int m])
    have ge4 : upd G64 e4 (.tup [V.str "times", .int m]) e4 = some (.tup [V.str "times", .int m]) := upd_same
    have z8 := z8.trans ye4
    generalize upd G64 e4 (.tup [V.str "times", .int m]) = G65 at ye4 ge4 z8
    have grl := ye4 _ _ grl
    refine ⟨by show 3 ≤ sizeLine; decide, fun e5 he5 => ?_⟩
    have ye5 := Same.new he5 (.tup [V.str "rests", .int m, .ref rl])
    have ge5 : upd G65 e5 (.tup [V.str "rests", .int m, .ref rl]) e5 = some (.tup [V.str "rests", .int m, .ref rl]) := upd_same
    have z8 := z8.trans ye5
    generalize upd G65 e5 (.tup [V.str "rests", .int m, .ref rl]) = G66 at ye5 ge5 z8
    have grl := ye5 _ _ grl
    have ge4 := ye5 _ _ ge4
    refine ⟨e4, e5, .times m, .rests m _, n, rfl, ge4, ⟨by omega, by omega⟩, ⟨rl, ge5, grl⟩, ⟨by omega, by omega⟩, hn30, l_times hn (by omega) (by omega) rfl, fun G67 y => ?_⟩
    have z8 := z8.trans y
    clear y
    refine ⟨by show 2 ≤ sizeLine; decide, fun e6 he6 => ?_⟩
    have ye6 := Same.new he6 (.tup [V.str "off", .int 2])
    have ge6 : upd G67 e6 (.tup [V.str "off", .int 2]) e6 = some (.tup [V.str "off", .int 2]) := upd_same
    have z8 := z8.trans ye6
    generalize upd G67 e6 (.tup [V.str "off", .int 2]) = G68 at ye6 ge6 z8
    refine ⟨by show 2 ≤ sizeLine; decide, fun e7 he7 => ?_⟩
    have ye7 := Same.new he7 (.tup [V.int 1, .int 4])
    have ge7 : upd G68 e7 (.tup [V.int 1, .int 4]) e7 = some (.tup [V.int 1, .int 4]) := upd_same
    have z8 := z8.trans ye7
    generalize upd G68 e7 (.tup [V.int 1, .int 4]) = G69 at ye7 ge7 z8
    have ge6 := ye7 _ _ ge6
    refine ⟨by show 3 ≤ sizeLine; decide, fun e8 he8 => ?_⟩
    have ye8 := Same.new he8 (.tup [V.str "rests", .int 5, .ref e7])
    have ge8 : upd G69 e8 (.tup [V.str "rests", .int 5, .ref e7]) e8 = some (.tup [V.str "rests", .int 5, .ref e7]) := upd_same
    have z8 := z8.trans ye8
    generalize upd G69 e8 (.tup [V.str "rests", .int 5, .ref e7]) = G70 at ye8 ge8 z8
    have ge6 := ye8 _ _ ge6
    have ge7 := ye8 _ _ ge7
    refine ⟨e6, e8, .off 2, .rests 5 [1, 4], n, rfl, ge6, ⟨by decide, by decide⟩, ⟨e7, ge8, ge7⟩, ⟨by decide, by decide⟩, hn30, l_two hn, fun G71 y => ?_⟩
    have z8 := z8.trans y
    clear y
    exact ⟨hi3, z8, _, _, _, _, _, _, _, rfl⟩
  · rintro σ H' ⟨_, y, x1, x2, x3, x4, x5, x6, x7, rfl⟩
    exact q _
end
end K10
set_option Elab.async false
set_option linter.all false
set_option maxRecDepth 100000
set_option maxHeartbeats 4000000
namespace K10
open PySem L2
theorem fnA {P : Program} {w : World} {K : PySem.W.Frag} {mg : Str → Option Value} {base : Heap} {x : Str} {k : Nat} {ps : List Str} {sp : Sp} {f : Addr} {fd : FuncData} (F : FnOk P w K mg base CX0 k f fd ps sp) (b : Binds K fd ps []) (kp : PySem.W.keepIn K (.ref f) = true) (m : mg x = some (.ref f)) : FnA P w K mg base x k ps sp := ⟨⟨f, fd, F, b, kp, m⟩⟩
theorem us1 {α : Type} {p : List α → Prop} (h : ∀ a, p [a]) : ∀ us : List α, us.length = 1 → p us
  | [a], _ => h a
theorem us2 {α : Type} {p : List α → Prop} (h : ∀ a b, p [a, b]) : ∀ us : List α, us.length = 2 → p us
  | [a, b], _ => h a b
theorem us3 {α : Type} {p : List α → Prop} (h : ∀ a b c, p [a, b, c]) : ∀ us : List α, us.length = 3 → p us
  | [a, b, c], _ => h a b c
theorem all_mk {l : PySem.W.OpenLaw} {w : World} {K : PySem.W.Frag} {h : Heap} {mg : Str → Option Value} {fa f1 f2 f3 f4 f5 f6 f7 f8 f9 f10 f11 f12 f13 f14 f15 f16 : Addr} (X : K.In h) (G : h.Ns mainGlobals mg) (hfa : mg "law" = some (.ref fa))
    {od1 an1 od2 an2 od3 an3 od4 an4 od5 an5 od6 an6 od7 an7 od8 an8 od9 an9 od10 an10 od11 an11 od12 an12 od13 an13 od14 an14 od15 an15 od16 an16 : Option Addr} {sl1 sl2 sl3 sl4 sl5 sl6 sl7 sl8 sl9 sl10 sl11 sl12 sl13 sl14 sl15 sl16 : Array (Option Value)} {oc1 kV1 dc1 pm1 cd1 ct1 oc2 kV2 dc2 pm2 cd2 ct2 oc3 kV3 dc3 pm3 cd3 ct3 oc4 kV4 dc4 pm4 cd4 ct4 oc5 kV5 dc5 pm5 cd5 ct5 oc6 kV6 dc6 pm6 cd6 ct6 oc7 kV7 dc7 pm7 cd7 ct7 oc8 kV8 dc8 pm8 cd8 ct8 oc9 kV9 dc9 pm9 cd9 ct9 oc10 kV10 dc10 pm10 cd10 ct10 oc11 kV11 dc11 pm11 cd11 ct11 oc12 kV12 dc12 pm12 cd12 ct12 oc13 kV13 dc13 pm13 cd13 ct13 oc14 kV14 dc14 pm14 cd14 ct14 oc15 kV15 dc15 pm15 cd15 ct15 oc16 kV16 dc16 pm16 cd16 ct16 : Value}
    (a1 : PySem.W.nsIn K mainGlobals "partings_below" = some (some (.ref f1))) (l1 : K.lookup f1 = some ⟨oc1, od1, .func (PySem.W.fnOf "partings_below" "partings_below" (defArgs (top 1)) (defBody (top 1)) (defScope (top 1)) .none kV1 dc1 pm1 an1 cd1 ct1), sl1⟩) (c1 : PySem.W.codeIn K cd1 "partings_below" = true) (k1 : PySem.W.keepIn K (.ref f1) = true)
    (a2 : PySem.W.nsIn K mainGlobals "partings" = some (some (.ref f2))) (l2 : K.lookup f2 = some ⟨oc2, od2, .func (PySem.W.fnOf "partings" "partings" (defArgs (top 2)) (defBody (top 2)) (defScope (top 2)) .none kV2 dc2 pm2 an2 cd2 ct2), sl2⟩) (c2 : PySem.W.codeIn K cd2 "partings" = true) (k2 : PySem.W.keepIn K (.ref f2) = true)
    (a3 : PySem.W.nsIn K mainGlobals "turned" = some (some (.ref f3))) (l3 : K.lookup f3 = some ⟨oc3, od3, .func (PySem.W.fnOf "turned" "turned" (defArgs (top 4)) (defBody (top 4)) (defScope (top 4)) .none kV3 dc3 pm3 an3 cd3 ct3), sl3⟩) (c3 : PySem.W.codeIn K cd3 "turned" = true) (k3 : PySem.W.keepIn K (.ref f3) = true)
    (a4 : PySem.W.nsIn K mainGlobals "sizes" = some (some (.ref f4))) (l4 : K.lookup f4 = some ⟨oc4, od4, .func (PySem.W.fnOf "sizes" "sizes" (defArgs (top 5)) (defBody (top 5)) (defScope (top 5)) .none kV4 dc4 pm4 an4 cd4 ct4), sl4⟩) (c4 : PySem.W.codeIn K cd4 "sizes" = true) (k4 : PySem.W.keepIn K (.ref f4) = true)
    (a5 : PySem.W.nsIn K mainGlobals "has_none_above" = some (some (.ref f5))) (l5 : K.lookup f5 = some ⟨oc5, od5, .func (PySem.W.fnOf "has_none_above" "has_none_above" (defArgs (top 7)) (defBody (top 7)) (defScope (top 7)) .none kV5 dc5 pm5 an5 cd5 ct5), sl5⟩) (c5 : PySem.W.codeIn K cd5 "has_none_above" = true) (k5 : PySem.W.keepIn K (.ref f5) = true)
    (a6 : PySem.W.nsIn K mainGlobals "falls_by" = some (some (.ref f6))) (l6 : K.lookup f6 = some ⟨oc6, od6, .func (PySem.W.fnOf "falls_by" "falls_by" (defArgs (top 8)) (defBody (top 8)) (defScope (top 8)) .none kV6 dc6 pm6 an6 cd6 ct6), sl6⟩) (c6 : PySem.W.codeIn K cd6 "falls_by" = true) (k6 : PySem.W.keepIn K (.ref f6) = true)
    (a7 : PySem.W.nsIn K mainGlobals "has_none_often" = some (some (.ref f7))) (l7 : K.lookup f7 = some ⟨oc7, od7, .func (PySem.W.fnOf "has_none_often" "has_none_often" (defArgs (top 9)) (defBody (top 9)) (defScope (top 9)) .none kV7 dc7 pm7 an7 cd7 ct7), sl7⟩) (c7 : PySem.W.codeIn K cd7 "has_none_often" = true) (k7 : PySem.W.keepIn K (.ref f7) = true)
    (a8 : PySem.W.nsIn K mainGlobals "leaves_only" = some (some (.ref f8))) (l8 : K.lookup f8 = some ⟨oc8, od8, .func (PySem.W.fnOf "leaves_only" "leaves_only" (defArgs (top 10)) (defBody (top 10)) (defScope (top 10)) .none kV8 dc8 pm8 an8 cd8 ct8), sl8⟩) (c8 : PySem.W.codeIn K cd8 "leaves_only" = true) (k8 : PySem.W.keepIn K (.ref f8) = true)
    (a9 : PySem.W.nsIn K mainGlobals "is_of" = some (some (.ref f9))) (l9 : K.lookup f9 = some ⟨oc9, od9, .func (PySem.W.fnOf "is_of" "is_of" (defArgs (top 11)) (defBody (top 11)) (defScope (top 11)) .none kV9 dc9 pm9 an9 cd9 ct9), sl9⟩) (c9 : PySem.W.codeIn K cd9 "is_of" = true) (k9 : PySem.W.keepIn K (.ref f9) = true)
    (a10 : PySem.W.nsIn K mainGlobals "listed" = some (some (.ref f10))) (l10 : K.lookup f10 = some ⟨oc10, od10, .func (PySem.W.fnOf "listed" "listed" (defArgs (top 12)) (defBody (top 12)) (defScope (top 12)) .none kV10 dc10 pm10 an10 cd10 ct10), sl10⟩) (c10 : PySem.W.codeIn K cd10 "listed" = true) (k10 : PySem.W.keepIn K (.ref f10) = true)
    (a11 : PySem.W.nsIn K mainGlobals "_law_hand" = some (some (.ref f11))) (l11 : K.lookup f11 = some ⟨oc11, od11, .func (PySem.W.fnOf "_law_hand" "_law_hand" (defArgs (top 14)) (defBody (top 14)) (defScope (top 14)) .none kV11 dc11 pm11 an11 cd11 ct11), sl11⟩) (c11 : PySem.W.codeIn K cd11 "_law_hand" = true) (k11 : PySem.W.keepIn K (.ref f11) = true)
    (a12 : PySem.W.nsIn K mainGlobals "_law_take" = some (some (.ref f12))) (l12 : K.lookup f12 = some ⟨oc12, od12, .func (PySem.W.fnOf "_law_take" "_law_take" (defArgs (top 15)) (defBody (top 15)) (defScope (top 15)) .none kV12 dc12 pm12 an12 cd12 ct12), sl12⟩) (c12 : PySem.W.codeIn K cd12 "_law_take" = true) (k12 : PySem.W.keepIn K (.ref f12) = true)
    (a13 : PySem.W.nsIn K mainGlobals "_law_turned_are" = some (some (.ref f13))) (l13 : K.lookup f13 = some ⟨oc13, od13, .func (PySem.W.fnOf "_law_turned_are" "_law_turned_are" (defArgs (top 16)) (defBody (top 16)) (defScope (top 16)) .none kV13 dc13 pm13 an13 cd13 ct13), sl13⟩) (c13 : PySem.W.codeIn K cd13 "_law_turned_are" = true) (k13 : PySem.W.keepIn K (.ref f13) = true)
    (a14 : PySem.W.nsIn K mainGlobals "_law_as_long" = some (some (.ref f14))) (l14 : K.lookup f14 = some ⟨oc14, od14, .func (PySem.W.fnOf "_law_as_long" "_law_as_long" (defArgs (top 17)) (defBody (top 17)) (defScope (top 17)) .none kV14 dc14 pm14 an14 cd14 ct14), sl14⟩) (c14 : PySem.W.codeIn K cd14 "_law_as_long" = true) (k14 : PySem.W.keepIn K (.ref f14) = true)
    (a15 : PySem.W.nsIn K mainGlobals "_law_within" = some (some (.ref f15))) (l15 : K.lookup f15 = some ⟨oc15, od15, .func (PySem.W.fnOf "_law_within" "_law_within" (defArgs (top 18)) (defBody (top 18)) (defScope (top 18)) .none kV15 dc15 pm15 an15 cd15 ct15), sl15⟩) (c15 : PySem.W.codeIn K cd15 "_law_within" = true) (k15 : PySem.W.keepIn K (.ref f15) = true)
    (a16 : PySem.W.nsIn K mainGlobals "law" = some (some (.ref f16))) (l16 : K.lookup f16 = some ⟨oc16, od16, .func (PySem.W.fnOf "law" "law" (defArgs (top 19)) (defBody (top 19)) (defScope (top 19)) .none kV16 dc16 pm16 an16 cd16 ct16), sl16⟩) (c16 : PySem.W.codeIn K cd16 "law" = true) (k16 : PySem.W.keepIn K (.ref f16) = true)
    (z1 : PySem.W.nsIn K mainGlobals "min" = some none) (z2 : PySem.W.nsIn K mainGlobals "range" = some none) (z3 : PySem.W.nsIn K mainGlobals "tuple" = some none) (z4 : PySem.W.nsIn K mainGlobals "len" = some none) (z5 : PySem.W.nsIn K mainGlobals "all" = some none) (z6 : PySem.W.nsIn K mainGlobals "int" = some none) (z7 : PySem.W.nsIn K mainGlobals "list" = some none) (z8 : PySem.W.nsIn K mainGlobals "sorted" = some none) (z9 : PySem.W.nsIn K mainGlobals "dict" = some none) :
    ∃ fd : FuncData, (∀ (s : Shared) (v : Value), BindsTo s fd ⟨[v], []⟩ [("_law_script", v)]) ∧ ∀ base : Heap, K.In base → base.Ns mainGlobals mg → FnOk l.prog w K mg base CX0 35 fa fd ["_law_script"] (sp_law K) := by
  have e := hfa.symm.trans (PySem.W.mg_of X G a16)
  cases e
  have F1 := fun_mk (st := top 1) l1 c1 k1
  have b1 := F1.binds (ps := ["n", "most"]) fun _ _ _ _ _ _ => us2 fun _ _ => rfl
  have F2 := fun_mk (st := top 2) l2 c2 k2
  have b2 := F2.binds (ps := ["n"]) fun _ _ _ _ _ _ => us1 fun _ => rfl
  have F3 := fun_mk (st := top 4) l3 c3 k3
  have b3 := F3.binds (ps := ["parting"]) fun _ _ _ _ _ _ => us1 fun _ => rfl
  have F4 := fun_mk (st := top 5) l4 c4 k4
  have b4 := F4.binds (ps := ["parting"]) fun _ _ _ _ _ _ => us1 fun _ => rfl
  have F5 := fun_mk (st := top 7) l5 c5 k5
  have b5 := F5.binds (ps := ["parting", "k"]) fun _ _ _ _ _ _ => us2 fun _ _ => rfl
  have F6 := fun_mk (st := top 8) l6 c6 k6
  have b6 := F6.binds (ps := ["parting", "d"]) fun _ _ _ _ _ _ => us2 fun _ _ => rfl
  have F7 := fun_mk (st := top 9) l7 c7 k7
  have b7 := F7.binds (ps := ["parting", "m"]) fun _ _ _ _ _ _ => us2 fun _ _ => rfl
  have F8 := fun_mk (st := top 10) l8 c8 k8
  have b8 := F8.binds (ps := ["parting", "m", "rests"]) fun _ _ _ _ _ _ => us3 fun _ _ _ => rfl
  have F9 := fun_mk (st := top 11) l9 c9 k9
  have b9 := F9.binds (ps := ["kind", "parting"]) fun _ _ _ _ _ _ => us2 fun _ _ => rfl
  have F10 := fun_mk (st := top 12) l10 c10 k10
  have b10 := F10.binds (ps := ["kind", "n"]) fun _ _ _ _ _ _ => us2 fun _ _ => rfl
  have F11 := fun_mk (st := top 14) l11 c11 k11
  have b11 := F11.binds (ps := ["_law_script", "_law_k"]) fun _ _ _ _ _ _ => us2 fun _ _ => rfl
  have F12 := fun_mk (st := top 15) l12 c12 k12
  have b12 := F12.binds (ps := ["_law_hand_here", "_law_many"]) fun _ _ _ _ _ _ => us2 fun _ _ => rfl
  have F13 := fun_mk (st := top 16) l13 c13 k13
  have b13 := F13.binds (ps := ["_law_one", "_law_other", "_law_n"]) fun _ _ _ _ _ _ => us3 fun _ _ _ => rfl
  have F14 := fun_mk (st := top 17) l14 c14 k14
  have b14 := F14.binds (ps := ["_law_one", "_law_other", "_law_n"]) fun _ _ _ _ _ _ => us3 fun _ _ _ => rfl
  have F15 := fun_mk (st := top 18) l15 c15 k15
  have b15 := F15.binds (ps := ["_law_lesser", "_law_greater", "_law_n"]) fun _ _ _ _ _ _ => us3 fun _ _ _ => rfl
  have F16 := fun_mk (st := top 19) l16 c16 k16
  have m_min := PySem.W.mg_none_of X G z1
  have m_range := PySem.W.mg_none_of X G z2
  have m_tuple := PySem.W.mg_none_of X G z3
  have m_len := PySem.W.mg_none_of X G z4
  have m_all := PySem.W.mg_none_of X G z5
  have m_int := PySem.W.mg_none_of X G z6
  have m_list := PySem.W.mg_none_of X G z7
  have m_sorted := PySem.W.mg_none_of X G z8
  have m_dict := PySem.W.mg_none_of X G z9
  refine ⟨PySem.W.fnOf "law" "law" (defArgs (top 19)) (defBody (top 19)) (defScope (top 19)) .none kV16 dc16 pm16 an16 cd16 ct16, fun s v => .of_eq rfl, fun base _ _ => ?_⟩
  have A1 : FnA l.prog w K mg base "partings_below" 31 ["n", "most"] (sp_pb 31) := fnA (ok_pb 31 F1 m_min m_range b1 k1 (PySem.W.mg_of X G a1)) b1 k1 (PySem.W.mg_of X G a1)
  have A2 : FnA l.prog w K mg base "partings" 32 ["n"] sp_ps := fnA (ok_ps F2 m_tuple A1) b2 k2 (PySem.W.mg_of X G a2)
  have A3 : FnA l.prog w K mg base "turned" 1 ["parting"] sp_turned := fnA (ok_turned F3 m_len m_range m_tuple) b3 k3 (PySem.W.mg_of X G a3)
  have A4 : FnA l.prog w K mg base "sizes" 1 ["parting"] sp_sizes := fnA (ok_sizes F4 m_tuple) b4 k4 (PySem.W.mg_of X G a4)
  have A5 : FnA l.prog w K mg base "has_none_above" 1 ["parting", "k"] sp_na := fnA (ok_na F5 m_len) b5 k5 (PySem.W.mg_of X G a5)
  have A6 : FnA l.prog w K mg base "falls_by" 1 ["parting", "d"] sp_fa := fnA (ok_fa F6 m_len m_range) b6 k6 (PySem.W.mg_of X G a6)
  have A7 : FnA l.prog w K mg base "has_none_often" 2 ["parting", "m"] sp_no := fnA (ok_no F7 m_all A4) b7 k7 (PySem.W.mg_of X G a7)
  have A8 : FnA l.prog w K mg base "leaves_only" 1 ["parting", "m", "rests"] sp_lo := fnA (ok_lo F8 m_all) b8 k8 (PySem.W.mg_of X G a8)
  have A9 : FnA l.prog w K mg base "is_of" 3 ["kind", "parting"] sp_pi := fnA (ok_pi F9 m_len A6 A5 A7 A8 A3) b9 k9 (PySem.W.mg_of X G a9)
  have A10 : FnA l.prog w K mg base "listed" 33 ["kind", "n"] sp_li := fnA (ok_li F10 m_tuple A9 A2) b10 k10 (PySem.W.mg_of X G a10)
  have A11 : FnA l.prog w K mg base "_law_hand" 1 ["_law_script", "_law_k"] (sp_hand K) := fnA (ok_hand F11 m_int m_len) b11 k11 (PySem.W.mg_of X G a11)
  have A12 : FnA l.prog w K mg base "_law_take" 1 ["_law_hand_here", "_law_many"] sp_take := fnA (ok_take F12) b12 k12 (PySem.W.mg_of X G a12)
  have A13 : FnA l.prog w K mg base "_law_turned_are" 34 ["_law_one", "_law_other", "_law_n"] sp_ta := fnA (ok_ta F13 m_list m_sorted A10 A3) b13 k13 (PySem.W.mg_of X G a13)
  have A14 : FnA l.prog w K mg base "_law_as_long" 34 ["_law_one", "_law_other", "_law_n"] sp_al := fnA (ok_al F14 m_len A10) b14 k14 (PySem.W.mg_of X G a14)
  have A15 : FnA l.prog w K mg base "_law_within" 34 ["_law_lesser", "_law_greater", "_law_n"] sp_wi := fnA (ok_wi F15 m_all m_dict A9 A10) b15 k15 (PySem.W.mg_of X G a15)
  exact ok_law F16 m_len m_min m_range m_tuple A14 A11 A12 A13 A15 A10 A2 A3
theorem walk {l : PySem.W.OpenLaw} {q : Program} {loose : List Str} {XP : (Str → Option Value) → Heap → Prop} {YP : World → Heap → Prop} {d : DefRec} {K : Params → PySem.W.Frag} (hn : l.most = some 63) (hdf : d.params.defaults = [])
    (hY : ∀ (w : World) (h : Heap), YP w h → (K w.params).In h)
    (F : ∀ (w : World) (mg : Str → Option Value) (fa : Addr) (h : Heap), (K w.params).In h → h.Ns mainGlobals mg → mg d.name = some (.ref fa) →
      ∃ fd : FuncData, (∀ (s : Shared) (u : Value), BindsTo s fd ⟨[u], []⟩ [("_law_script", u)]) ∧ ∀ base : Heap, (K w.params).In base → base.Ns mainGlobals mg → FnOk l.prog w (K w.params) mg base CX0 35 fa fd ["_law_script"] (sp_law (K w.params))) :
    PySem.W.WalkO q loose XP YP l.row.toRowW d [] (fun f vs => PySem.call f vs) :=
  L2.walk_of (n := 63) (k := 35) (x := "_law_script") (CX := fun _ => CX0) (sp := fun w => sp_law (K w.params)) hn (by decide) hdf ⟨rfl, by decide, by decide, rfl⟩ hY F (fun _ _ a ns hl _ hS => ⟨a, ns, rfl, hS, hl, fun _ => rfl⟩) fun _ _ _ _ _ z => z
end K10
namespace PySem.W.Fast
theorem tw2600956499432475467 : True := ⟨⟩
theorem tw14787923298088592541 : True := ⟨⟩
theorem tw11464215687922423839 : True := ⟨⟩
theorem tw10033623925301546590 : True := ⟨⟩
theorem tw2869661349154567944 : True := ⟨⟩
theorem tw16224297691221383734 : True := ⟨⟩
theorem tw12413214912394986715 : True := ⟨⟩
theorem tw12701261202555778776 : True := ⟨⟩
theorem tw5166822643359382097 : True := ⟨⟩
theorem tw6202205830553683104 : True := ⟨⟩
theorem tw17787441577090504583 : True := ⟨⟩
theorem tw15953563820162647184 : True := ⟨⟩
theorem tw7299027042594162124 : True := ⟨⟩
theorem tw17773026705885361769 : True := ⟨⟩
theorem tw4254891713929791428 : True := ⟨⟩
theorem tw11172068122141912194 : True := ⟨⟩
theorem tw16143309976432806572 : True := ⟨⟩
theorem tw11624551226103461442 : True := ⟨⟩
theorem tw16296933540737772747 : True := ⟨⟩
theorem tw1556247636149639924 : True := ⟨⟩
theorem tw14866249762155348496 : True := ⟨⟩
theorem tw5259796672799054390 : True := ⟨⟩
theorem tw11327270988972698306 : True := ⟨⟩
theorem tw14890551469737265049 : True := ⟨⟩
theorem tw14310376432384713281 : True := ⟨⟩
theorem tw5015902767731725676 : True := ⟨⟩
theorem tw4627797903859421855 : True := ⟨⟩
theorem tw1324713429932257265 : True := ⟨⟩
theorem tw16304461068854293097 : True := ⟨⟩
theorem tw15454100872644758813 : True := ⟨⟩
theorem tw16467256006085825752 : True := ⟨⟩
theorem tw8353317338287058783 : True := ⟨⟩
theorem tw16318991299050028372 : True := ⟨⟩
theorem tw4179091846272401166 : True := ⟨⟩
theorem tw3071980991119772597 : True := ⟨⟩
theorem tw12680736933966707568 : True := ⟨⟩
theorem tw8942956652379012759 : True := ⟨⟩
theorem tw16178557563501944351 : True := ⟨⟩
theorem tw13174364873343912298 : True := ⟨⟩
theorem tw442442665541416660 : True := ⟨⟩
theorem tw9814174292186214648 : True := ⟨⟩
theorem tw8326975551784308773 : True := ⟨⟩
theorem tw9022096541318563697 : True := ⟨⟩
theorem tw4828077228903508672 : True := ⟨⟩
theorem tw3967340086069777736 : True := ⟨⟩
theorem tw18441425455563283880 : True := ⟨⟩
theorem tw5913733638184618471 : True := ⟨⟩
theorem tw8162403200644570730 : True := ⟨⟩
theorem tw4584741197155920441 : True := ⟨⟩
theorem tw11123047971085926852 : True := ⟨⟩
theorem tw6259237311161332786 : True := ⟨⟩
theorem tw16296088160556045455 : True := ⟨⟩
theorem tw2848122695897241434 : True := ⟨⟩
theorem tw16698065552513245056 : True := ⟨⟩
theorem tw16744351469731279149 : True := ⟨⟩
theorem tw12567775939336830394 : True := ⟨⟩
theorem tw3904357779364287521 : True := ⟨⟩
theorem tw8474126197111831226 : True := ⟨⟩
theorem tw3129241874047119266 : True := ⟨⟩
theorem tw4942932626349423196 : True := ⟨⟩
theorem tw7713221037846648415 : True := ⟨⟩
theorem tw11870275092389637369 : True := ⟨⟩
theorem tw4901724051945426561 : True := ⟨⟩
theorem tw9805938255424158395 : True := ⟨⟩
theorem tw1588170030879922785 : True := ⟨⟩
theorem tw11622982829164611635 : True := ⟨⟩
theorem tw6869471172388643836 : True := ⟨⟩
theorem tw1413006994919949124 : True := ⟨⟩
theorem tw14754938580360255024 : True := ⟨⟩
theorem tw11732642991300562079 : True := ⟨⟩
theorem tw1164330756585862649 : True := ⟨⟩
theorem tw14686044053713701715 : True := ⟨⟩
theorem tw12751943080960640408 : True := ⟨⟩
theorem tw3424377859226473657 : True := ⟨⟩
theorem tw5031425624804395233 : True := ⟨⟩
theorem tw776895669013666225 : True := ⟨⟩
theorem tw10911361983473284202 : True := ⟨⟩
theorem tw17319811364918964496 : True := ⟨⟩
theorem tw8580855728674573000 : True := ⟨⟩
theorem tw16934797995597260414 : True := ⟨⟩
theorem tw8803966091902250324 : True := ⟨⟩
theorem tw15347953725470452720 : True := ⟨⟩
theorem tw17044545211958880644 : True := ⟨⟩
theorem tw14225244267958623404 : True := ⟨⟩
theorem tw6298231046738897148 : True := ⟨⟩
theorem tw7229848582304461087 : True := ⟨⟩
theorem tw9107399941536822495 : True := ⟨⟩
theorem tw17978172380790917209 : True := ⟨⟩
theorem tw6879300684851064501 : True := ⟨⟩
theorem tw723392680785021905 : True := ⟨⟩
theorem tw1298561597863502916 : True := ⟨⟩
theorem tw4894015699751123494 : True := ⟨⟩
theorem tw10907746760187799500 : True := ⟨⟩
theorem tw16386013582627900587 : True := ⟨⟩
theorem tw16282875049033089756 : True := ⟨⟩
theorem tw14312558440789741878 : True := ⟨⟩
theorem tw11885004910007746235 : True := ⟨⟩
theorem tw15382979372080082018 : True := ⟨⟩
theorem tw17843578446137381420 : True := ⟨⟩
theorem tw94792565318594671 : True := ⟨⟩
theorem tw13412780867684841989 : True := ⟨⟩
end PySem.W.Fast
open PySem PySem.W PyProof.Rows
set_option maxRecDepth 100000 in
set_option maxHeartbeats 0 in
theorem PySem.Challenge.cw_partrests_k10_whole_lists_of_two_kinds_holds : PySem.Challenge.rw_partrests_k10_whole_lists_of_two_kinds.Holds := by
  w_on; o_law; k_head; (case hw => w_witness2)
  k_fill
  refine K10.walk (l := PySem.Challenge.rw_partrests_k10_whole_lists_of_two_kinds) rfl rfl (fun w h Y => PySem.W.kIn_of Y) ?F
  case F =>
    intro w mg fa h KX G hmg
    refine' K10.all_mk KX G hmg ?a1 ?l1 ?c1 ?k1 ?a2 ?l2 ?c2 ?k2 ?a3 ?l3 ?c3 ?k3 ?a4 ?l4 ?c4 ?k4 ?a5 ?l5 ?c5 ?k5 ?a6 ?l6 ?c6 ?k6 ?a7 ?l7 ?c7 ?k7 ?a8 ?l8 ?c8 ?k8 ?a9 ?l9 ?c9 ?k9 ?a10 ?l10 ?c10 ?k10 ?a11 ?l11 ?c11 ?k11 ?a12 ?l12 ?c12 ?k12 ?a13 ?l13 ?c13 ?k13 ?a14 ?l14 ?c14 ?k14 ?a15 ?l15 ?c15 ?k15 ?a16 ?l16 ?c16 ?k16  ?z1 ?z2 ?z3 ?z4 ?z5 ?z6 ?z7 ?z8 ?z9
    (case a1 => k_is); (case l1 => k_is); (case c1 => k_is); (case k1 => k_is)
    (case a2 => k_is); (case l2 => k_is); (case c2 => k_is); (case k2 => k_is)
    (case a3 => k_is); (case l3 => k_is); (case c3 => k_is); (case k3 => k_is)
    (case a4 => k_is); (case l4 => k_is); (case c4 => k_is); (case k4 => k_is)
    (case a5 => k_is); (case l5 => k_is); (case c5 => k_is); (case k5 => k_is)
    (case a6 => k_is); (case l6 => k_is); (case c6 => k_is); (case k6 => k_is)
    (case a7 => k_is); (case l7 => k_is); (case c7 => k_is); (case k7 => k_is)
    (case a8 => k_is); (case l8 => k_is); (case c8 => k_is); (case k8 => k_is)
    (case a9 => k_is); (case l9 => k_is); (case c9 => k_is); (case k9 => k_is)
    (case a10 => k_is); (case l10 => k_is); (case c10 => k_is); (case k10 => k_is)
    (case a11 => k_is); (case l11 => k_is); (case c11 => k_is); (case k11 => k_is)
    (case a12 => k_is); (case l12 => k_is); (case c12 => k_is); (case k12 => k_is)
    (case a13 => k_is); (case l13 => k_is); (case c13 => k_is); (case k13 => k_is)
    (case a14 => k_is); (case l14 => k_is); (case c14 => k_is); (case k14 => k_is)
    (case a15 => k_is); (case l15 => k_is); (case c15 => k_is); (case k15 => k_is)
    (case a16 => k_is); (case l16 => k_is); (case c16 => k_is); (case k16 => k_is)
    (case z1 => k_is)
    (case z2 => k_is)
    (case z3 => k_is)
    (case z4 => k_is)
    (case z5 => k_is)
    (case z6 => k_is)
    (case z7 => k_is)
    (case z8 => k_is)
    (case z9 => k_is)

