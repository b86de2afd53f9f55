import PyProof.Rows.All
import Wide.All
import OpenK.AllK
import Wide.FinOn
import Lean
import PyProof.EqAt
import PyProof.EqKinds
import PyProof.TupleCall
import PySem.Challenge.RW_partrests_k53_what_are_events
set_option Elab.async false
set_option linter.all false
set_option maxRecDepth 100000
namespace L2
open PySem PySem.Spec PyProof.Rows
noncomputable abbrev Key := Sum Int Str
noncomputable def keyIs : Key → Value → Bool
  | .inl k, v => Value.isInt k v
  | .inr x, v => Value.isStrOf x v
noncomputable def keyH (w : World) : Key → Int
  | .inl k => hashInt k
  | .inr x => hashStr w x
theorem keyIs_shape : ∀ {k : Key} {v : Value}, keyIs k v = true → (∃ i t, k = Sum.inl i ∧ v = Value.int i t) ∨ (∃ x t, k = Sum.inr x ∧ v = Value.str x t)
  | .inl i, v, h => by
    obtain ⟨t, e⟩ := Value.isInt_shape (k := i) (v := v) h
    exact .inl ⟨i, t, rfl, e⟩
  | .inr x, v, h => by
    obtain ⟨t, e⟩ := Value.isStrOf_shape (x := x) (v := v) h
    exact .inr ⟨x, t, rfl, e⟩
theorem key_ll (a b : Int) : decide ((Sum.inl a : Key) = Sum.inl b) = (a == b) := by
  by_cases e : a = b
  · subst e; simp
  · have h : ¬ (Sum.inl a : Key) = Sum.inl b := fun q => e (Sum.inl.inj q)
    rw [decide_eq_false h]
    exact (beq_eq_false_iff_ne.mpr e).symm
theorem key_rr (a b : Str) : decide ((Sum.inr a : Key) = Sum.inr b) = decide (a = b) := by
  by_cases e : a = b
  · subst e; simp
  · have h : ¬ (Sum.inr a : Key) = Sum.inr b := fun q => e (Sum.inr.inj q)
    rw [decide_eq_false h, decide_eq_false e]
theorem key_lr (a : Int) (b : Str) : decide ((Sum.inl a : Key) = Sum.inr b) = false := decide_eq_false (fun q => nomatch q)
theorem key_rl (a : Str) (b : Int) : decide ((Sum.inr a : Key) = Sum.inl b) = false := decide_eq_false (fun q => nomatch q)

noncomputable def mixKind (prog : Program) (w : World) : PySem.KeyKind prog w Key where
  is := keyIs
  hash := keyH w
  inj := fun v a b ha hb => by
    rcases keyIs_shape ha with ⟨i, t, rfl, rfl⟩ | ⟨x, t, rfl, rfl⟩
    · rcases keyIs_shape hb with ⟨j, u, rfl, e⟩ | ⟨y, u, rfl, e⟩
      · injection e with e1 _; rw [e1]
      · exact nomatch e
    · rcases keyIs_shape hb with ⟨j, u, rfl, e⟩ | ⟨y, u, rfl, e⟩
      · exact nomatch e
      · injection e with e1 _; rw [e1]
  byValue := fun k v h => by
    rcases keyIs_shape h with ⟨i, t, rfl, rfl⟩ | ⟨x, t, rfl, rfl⟩ <;> rfl
  pyHash := fun hv h => by
    rcases keyIs_shape hv with ⟨i, t, rfl, rfl⟩ | ⟨x, t, rfl, rfl⟩
    · exact wpAny_pyHash_int h
    · exact wpAny_pyHash_str h
  eqBool := fun hu hv h => by
    rcases keyIs_shape hu with ⟨i, t, rfl, rfl⟩ | ⟨x, t, rfl, rfl⟩
    · rcases keyIs_shape hv with ⟨j, u, rfl, rfl⟩ | ⟨y, u, rfl, rfl⟩
      · rw [key_ll] at h; exact wpAny_eqBool_int h
      · rw [key_lr] at h; exact SeqAt.EqAt.int_str i t y u _ _ _ _ h
    · rcases keyIs_shape hv with ⟨j, u, rfl, rfl⟩ | ⟨y, u, rfl, rfl⟩
      · rw [key_rl] at h; exact SeqAt.EqAt.str_int x t j u _ _ _ _ h
      · rw [key_rr] at h; exact wpAny_eqBool_str h
  «strs» := fun k x t v h => by
    rcases keyIs_shape h with ⟨i, u, rfl, e⟩ | ⟨y, u, rfl, e⟩
    · exact nomatch e
    · injection e with e1 _
      subst e1
      cases v <;> rfl

end L2
namespace L2
open PySem PySem.Spec PyProof.Rows
inductive V where
  | non | bl (b : Bool) | int (i : Int) | str (x : Str) | byt (b : Array UInt8) | flt (b : UInt64) | ref (a : Addr) | ty (n : String)
  deriving DecidableEq

noncomputable def RelV : V → Value → Prop
  | .non, u => u = Value.none
  | .bl b, u => u = Value.bool b
  | .int i, u => ∃ t, u = Value.int i t
  | .str x, u => ∃ t, u = Value.str x t
  | .byt b, u => ∃ t, u = Value.bytes b t
  | .flt b, u => ∃ t, u = Value.float b t
  | .ref a, u => u = Value.ref a
  | .ty n, u => u = Value.type n

noncomputable abbrev Vals : List V → List Value → Prop := Paired RelV
theorem Vals.length {xs : List V} {us : List Value} (r : Vals xs us) : xs.length = us.length := Paired.length r
theorem Vals.get : ∀ {xs : List V} {us : List Value} {i : Nat} {x : V}, Vals xs us → xs[i]? = some x → ∃ u, us[i]? = some u ∧ RelV x u
  | _, _, _, _, .nil, e => by simp at e
  | _, _, 0, _, .cons r _, e => by simp at e; subst e; exact ⟨_, rfl, r⟩
  | _, _, i + 1, x, .cons _ t, e => by
    obtain ⟨u, h1, h2⟩ := Vals.get (i := i) (x := x) t (by simpa using e)
    exact ⟨u, by simpa using h1, h2⟩
theorem Vals.set {x : V} {u : Value} (r : RelV x u) : ∀ {xs : List V} {us : List Value} (i : Nat), Vals xs us → Vals (xs.set i x) (us.set i u)
  | _, _, _, .nil => .nil
  | _, _, 0, .cons _ t => .cons r t
  | _, _, i + 1, .cons q t => .cons q (Vals.set r i t)
theorem Vals.append : ∀ {xs ys : List V} {us ws : List Value}, Vals xs us → Vals ys ws → Vals (xs ++ ys) (us ++ ws)
  | _, _, _, _, .nil, s => s
  | _, _, _, _, .cons r t, s => .cons r (Vals.append t s)
theorem Vals.take : ∀ {xs : List V} {us : List Value} (n : Nat), Vals xs us → Vals (xs.take n) (us.take n)
  | _, _, 0, _ => .nil
  | _, _, _ + 1, .nil => .nil
  | _, _, n + 1, .cons r t => .cons r (Vals.take n t)
theorem Vals.drop : ∀ {xs : List V} {us : List Value} (n : Nat), Vals xs us → Vals (xs.drop n) (us.drop n)
  | _, _, 0, r => r
  | _, _, _ + 1, .nil => .nil
  | _, _, n + 1, .cons _ t => Vals.drop n t
noncomputable def TupD (h : Heap) (a : Addr) (items : Array Value) : Prop := ∃ n, h.get? a = some { cls := .type "tuple", data := .seq items n }
theorem TupD.tup {h : Heap} {a : Addr} {items : Array Value} (p : TupD h a items) : IsTup h a items := let ⟨n, e⟩ := p; ⟨_, e, rfl, n, rfl⟩
theorem TupD.new (h : Heap) (items : Array Value) : TupD (h.push { cls := .type "tuple", data := .seq items }) h.objs.size items := ⟨_, Heap.get?_push_size _ rfl⟩

noncomputable def RelO : Option V → Option Value → Prop
  | some v, some u => RelV v u
  | none, none => True
  | _, _ => False
noncomputable def KV {κ : Type} : List (κ × V) → List (κ × Value) → Prop := Paired fun (p : κ × V) (q : κ × Value) => p.1 = q.1 ∧ RelV p.2 q.2

noncomputable def kV : Key → V
  | .inl i => .int i
  | .inr x => .str x

inductive HO where
  /-- a list -/
  | lst (xs : List V)
  /-- a tuple (never changes) -/
  | tup (xs : List V)
  /-- a dict whose keys are ints and texts; one whose keys are tuples of ints and texts (the empty one is both) -/
  | dK (kvs : List (Key × V)) | dT (kvs : List (List Key × V))
  /-- a set of ints: its members, its size -/
  | set (S : Int → Bool) (n : Nat)
  /-- an instance of the class at C, its dict at dx, its attributes -/
  | ins (C dx : Addr) (fs : List (Str × V))
  /-- the dict of the instance at x -/
  | own (x : Addr)
  /-- the dict of an exception -/
  | xd (fs : List (Str × V))
  /-- a bound method, f of x -/
  | met (f x : Addr)
  /-- a range object lo, lo + 1, .. below hi -/
  | rng (lo hi : Int)
  /-- a thing that is known to the object (the script; a dict while a loop walks it): read, never written while it is so -/
  | frz (o : Obj) (u : HO)
  /-- a code object's table -/
  | tbl (ps : Array Value)
  /-- any other thing, by what is true of its one object (a def of one's own: SetO a S n := HO.ext fun h => ..) -/
  | ext (φ : Heap → Prop)

noncomputable abbrev Hp := Addr → Option HO
noncomputable def upd (H : Hp) (a : Addr) (o : HO) : Hp := fun b => if b = a then some o else H b
theorem upd_same {H : Hp} {a : Addr} {o : HO} : upd H a o a = some o := by unfold upd; rw [if_pos rfl]
theorem upd_ne {H : Hp} {a b : Addr} {o : HO} (h : b ≠ a) : upd H a o b = H b := by unfold upd; rw [if_neg h]
theorem ne_of {H : Hp} {a b : Addr} {o u : HO} (h : H a = some o) (h' : H b = some u) (d : o ≠ u) : a ≠ b := by
  intro e; subst e; rw [h] at h'; exact d (Option.some.inj h')
theorem ne_of_none {H : Hp} {a b : Addr} {o : HO} (h : H a = some o) (h' : H b = none) : a ≠ b := by
  intro e; subst e; rw [h] at h'; cases h'

section
variable (P : Program) (w : World)
noncomputable def ObjOk (H : Hp) (h : Heap) (a : Addr) : HO → Prop
  | .lst xs => xs.length ≤ sizeLine ∧ ∃ (its : List Value) (n : Nat), Vals xs its ∧ h.get? a = some { cls := .type "list", data := .seq its.toArray n }
  | .tup xs => xs.length ≤ sizeLine ∧ ∃ its : List Value, Vals xs its ∧ TupD h a its.toArray
  | .dK kvs => kvs.length ≤ sizeLine ∧ (a == sysModules) = false ∧ ∃ vs, KV kvs vs ∧ h.DictOf (mixKind P w) a vs
  | .dT kvs => kvs.length ≤ sizeLine ∧ (a == sysModules) = false ∧ ∃ xs : List (List Key × Addr × Value),
      Paired (fun (p : List Key × V) (q : List Key × Addr × Value) => p.1 = q.1 ∧ H q.2.1 = some (.tup (p.1.map kV)) ∧ RelV p.2 q.2.2) kvs xs ∧
      ∃ o es ep, h.get? a = some o ∧ o.ExactDict ∧ o.data = .dict es ep ∧ es.toList = xs.map (entryOfKey (tupleKind (mixKind P w))) ∧ (xs.map (·.1)).Nodup
  | .set S n => h.SetOf (intKind P w) a S n
  | .ins C dx fs => H dx = some (.own a) ∧ fs.length ≤ 1000 ∧ dx ≠ a ∧ h.get? a = some (PySem.W.instObj C dx) ∧
      ∃ mA, h.Ns1 dx mA ∧ (∀ f, RelO (fs.lookup f) (mA f)) ∧ PySem.Within mA (fs.map (·.1))
  | .own _ => ∃ o, h.get? a = some o
  | .xd fs => ∃ mA, h.Ns1 a mA ∧ ∀ f, RelO (fs.lookup f) (mA f)
  | .rng lo hi => ∃ t u v, h.get? a = some { cls := .type "range", data := .fields #[.int lo t, .int hi u, .int 1 v] }
  | .frz o u => h.get? a = some o ∧ ObjOk H h a u
  | .tbl ps => h.get? a = some { cls := .none, data := .fields ps }
  | .met f x => h.get? a = some (PySem.W.methodObj (.ref f) (.ref x))
  | .ext φ => φ h ∧ (∃ o, h.get? a = some o) ∧ ∀ h1 h2 : Heap, φ h1 → (∀ o, h1.get? a = some o → h2.get? a = some o) → φ h2
noncomputable def HOk (H : Hp) (h : Heap) : Prop := ∀ a o, H a = some o → ObjOk P w H h a o
end
section
variable {P : Program} {w : World} {H H' : Hp} {h h' : Heap} {a : Addr} {o : HO}
theorem ObjOk.lt (x : ObjOk P w H h a o) : a < h.objs.size := by
  cases o with
  | lst xs => obtain ⟨_, _, _, _, e⟩ := x; exact Heap.lt_size e
  | tup xs => obtain ⟨_, _, _, p⟩ := x; exact p.tup.lt
  | dK kvs => obtain ⟨_, _, _, _, o, _, _, e, _⟩ := x; exact Heap.lt_size e
  | dT kvs => obtain ⟨_, _, _, _, o, _, _, e, _⟩ := x; exact Heap.lt_size e
  | set S n => obtain ⟨o, _, _, _, e, _⟩ := x; exact Heap.lt_size e
  | ins C dx fs => obtain ⟨_, _, _, e, _⟩ := x; exact Heap.lt_size e
  | own y => obtain ⟨_, e⟩ := x; exact Heap.lt_size e
  | xd fs => obtain ⟨_, ⟨_, _, _, e, _⟩, _⟩ := x; exact Heap.lt_size e
  | rng lo hi => obtain ⟨_, _, _, e⟩ := x; exact Heap.lt_size e
  | frz ob u => obtain ⟨e, _⟩ := x; exact Heap.lt_size e
  | tbl ps => exact Heap.lt_size (show h.get? a = some _ from x)
  | met f y => exact Heap.lt_size (show h.get? a = some _ from x)
  | ext φ => obtain ⟨_, ⟨_, e⟩, _⟩ := x; exact Heap.lt_size e
theorem Paired.mapP {α β : Type} {F G : α → β → Prop} : ∀ {l₁ : List α} {l₂ : List β}, Paired F l₁ l₂ → (∀ a b, F a b → G a b) → Paired G l₁ l₂
  | _, _, .nil, _ => .nil
  | _, _, .cons r t, f => .cons (f _ _ r) (Paired.mapP t f)
theorem ObjOk.stay (x : ObjOk P w H h a o) (k : ∀ b u, (b = a ∨ H b = some (.own a)) → h.get? b = some u → h'.get? b = some u)
    (ho : ∀ b, H b = some (.own a) → H' b = some (.own a)) (ht : ∀ b xs, H b = some (.tup xs) → H' b = some (.tup xs)) : ObjOk P w H' h' a o := by
  induction o with
  | lst xs => obtain ⟨z, its, n, r, e⟩ := x; exact ⟨z, its, n, r, k _ _ (.inl rfl) e⟩
  | tup xs => obtain ⟨z, its, r, ob, e⟩ := x; exact ⟨z, its, r, ob, k _ _ (.inl rfl) e⟩
  | dK kvs => obtain ⟨z, y, vs, r, ob, es, ep, e, c⟩ := x; exact ⟨z, y, vs, r, ob, es, ep, k _ _ (.inl rfl) e, c⟩
  | dT kvs =>
    obtain ⟨z, y, xs, r, ob, es, ep, e, c⟩ := x
    exact ⟨z, y, xs, Paired.mapP r fun p q z => ⟨z.1, ht _ _ z.2.1, z.2.2⟩, ob, es, ep, k _ _ (.inl rfl) e, c⟩
  | set S n => obtain ⟨ob, es, ep, t, e, c⟩ := x; exact ⟨ob, es, ep, t, k _ _ (.inl rfl) e, c⟩
  | ins C dx fs =>
    obtain ⟨d, z, ne, e, mA, ⟨od, es, ep, e2, c⟩, r⟩ := x
    exact ⟨ho _ d, z, ne, k _ _ (.inl rfl) e, mA, ⟨od, es, ep, k _ _ (.inr d) e2, c⟩, r⟩
  | own y => obtain ⟨ob, e⟩ := x; exact ⟨ob, k _ _ (.inl rfl) e⟩
  | xd fs => obtain ⟨mA, ⟨od, es, ep, e, c⟩, r⟩ := x; exact ⟨mA, ⟨od, es, ep, k _ _ (.inl rfl) e, c⟩, r⟩
  | rng lo hi => obtain ⟨t, u, v, e⟩ := x; exact ⟨t, u, v, k _ _ (.inl rfl) e⟩
  | frz ob u ih => obtain ⟨e, q⟩ := x; exact ⟨k _ _ (.inl rfl) e, ih q⟩
  | tbl ps =>
    have e : h.get? a = some { cls := .none, data := .fields ps } := x
    show h'.get? a = some { cls := .none, data := .fields ps }
    exact k a _ (.inl rfl) e
  | met f y =>
    have e : h.get? a = some (PySem.W.methodObj (.ref f) (.ref y)) := x
    show h'.get? a = some (PySem.W.methodObj (.ref f) (.ref y))
    exact k a _ (.inl rfl) e
  | ext φ => obtain ⟨p, ⟨o, e⟩, st⟩ := x; exact ⟨st _ _ p fun o q => k _ _ (.inl rfl) q, ⟨o, k _ _ (.inl rfl) e⟩, st⟩
theorem HOk.lt (x : HOk P w H h) (e : H a = some o) : a < h.objs.size := (x a o e).lt
theorem HOk.fresh (x : HOk P w H h) (e : h.objs.size ≤ a) : H a = none := by
  cases q : H a with
  | none => rfl
  | some u => exact absurd (Nat.lt_of_lt_of_le (x.lt q) e) (Nat.lt_irrefl _)
theorem HOk.kept (x : HOk P w H h) (k : ∀ b u, h.get? b = some u → h'.get? b = some u) : HOk P w H h' := fun a o e =>
  (x a o e).stay (fun b u _ q => k b u q) (fun _ q => q) fun _ _ q => q
theorem HOk.laid (x : HOk P w H h) (k : ∀ b u, h.get? b = some u → h'.get? b = some u) (hp : h.objs.size ≤ a) (new : ObjOk P w (upd H a o) h' a o) : HOk P w (upd H a o) h' := fun b u e => by
  have hn := x.fresh hp
  by_cases hb : b = a
  · subst hb; rw [upd_same] at e; cases e; exact new
  · rw [upd_ne hb] at e
    exact (x b u e).stay (fun c v _ q => k c v q) (fun c q => by rw [upd_ne (ne_of_none q hn)]; exact q) fun c xs q => by rw [upd_ne (ne_of_none q hn)]; exact q
end
noncomputable def Rd (H : Hp) (a : Addr) (u : HO) : Prop := H a = some u ∨ ∃ o, H a = some (.frz o u)
theorem Rd.ok {P : Program} {w : World} {H : Hp} {h : Heap} {a : Addr} {u : HO} (r : Rd H a u) (x : HOk P w H h) : ObjOk P w H h a u := by
  rcases r with r | ⟨o, r⟩
  · exact x a u r
  · obtain ⟨_, q⟩ := x a _ r
    exact q
noncomputable def Mut : Option HO → Prop
  | some (.lst _) => True
  | some (.dK _) => True
  | some (.dT _) => True
  | some (.set _ _) => True
  | some (.ins _ _ _) => True
  | some (.ext _) => True
  | _ => False
section
variable {P : Program} {w : World} {H : Hp} {h h' : Heap} {x e : Addr} {o' : HO}
theorem HOk.write (ok : HOk P w H h) (mu : Mut (H x)) (he : e = x ∨ H e = some (.own x)) (k : ∀ b u, b ≠ e → h.get? b = some u → h'.get? b = some u) (heo : ∃ u, h'.get? e = some u)
    (new : ObjOk P w (upd H x o') h' x o') : HOk P w (upd H x o') h' := fun b u q => by
  have nown : ∀ c y, H c = some (.own y) → c ≠ x := fun c y r z => by subst z; rw [r] at mu; exact mu
  have ntup : ∀ c xs, H c = some (.tup xs) → c ≠ x := fun c xs r z => by subst z; rw [r] at mu; exact mu
  by_cases hb : b = x
  · subst hb; rw [upd_same] at q; cases q; exact new
  · rw [upd_ne hb] at q
    by_cases hbe : b = e
    · have q' : H b = some (.own x) := by
        rcases he with z | z
        · exact absurd (hbe.trans z) hb
        · rw [hbe]; exact z
      rw [q] at q'; cases q'
      obtain ⟨v, hv⟩ := heo
      exact ⟨v, by rw [hbe]; exact hv⟩
    · refine (ok b u q).stay (fun c v hc r => k c v ?_ r) (fun c r => by rw [upd_ne (nown c b r)]; exact r) fun c xs r => by rw [upd_ne (ntup c xs r)]; exact r
      rcases hc with rfl | hc
      · exact hbe
      · rintro rfl
        rcases he with z | z
        · exact nown c b hc z
        · rw [hc] at z; cases z; exact hb rfl
end
structure Un (fs ex : List Addr) (H H' : Hp) (h h' : Heap) : Prop where
  keep : ∀ b o, h.get? b = some o → H b = none → b ∉ fs → b ∉ ex → h'.get? b = some o
  slot : ∀ b o, h.get? b = some o → H b = none → b ∈ fs → b ∉ ex → ∃ sl, h'.get? b = some { o with slots := sl }
  free : ∀ b o, h.get? b = some o → H b = none → b ∉ ex → H' b = none
  there : ∀ b o, h.get? b = some o → b ∉ ex → ∃ o', h'.get? b = some o'
  tups : ∀ b xs, H b = some (.tup xs) → H' b = some (.tup xs)
  frzs : ∀ b o u, H b = some (.frz o u) → H' b = some (.frz o u)
  tbls : ∀ b ps, H b = some (.tbl ps) → ∃ more, H' b = some (.tbl (ps ++ more))
section
variable {fs fs' ex ex' : List Addr} {H H1 H2 : Hp} {h h1 h2 h' : Heap} {a x e : Addr} {o : HO}
theorem Un.any (u : Un fs ex H H1 h h1) {b : Addr} {ob : Obj} (q : h.get? b = some ob) (n : H b = none) (hx : b ∉ ex) : ∃ sl, h1.get? b = some { ob with slots := sl } := by
  by_cases hb : b ∈ fs
  · exact u.slot b ob q n hb hx
  · exact ⟨ob.slots, u.keep b ob q n hb hx⟩
theorem Un.kept (k : ∀ b u, h.get? b = some u → h'.get? b = some u) : Un fs ex H H h h' :=
  ⟨fun b ob q _ _ _ => k b ob q, fun b ob q _ _ _ => ⟨ob.slots, k b ob q⟩, fun _ _ _ n _ => n, fun b ob q _ => ⟨ob, k b ob q⟩, fun _ _ q => q, fun _ _ _ q => q, fun _ ps q => ⟨#[], by rw [q]; simp⟩⟩
theorem Un.refl : Un fs ex H H h h := Un.kept fun _ _ q => q
theorem Un.laid (k : ∀ b u, h.get? b = some u → h'.get? b = some u) (hp : h.objs.size ≤ a) (hn : H a = none) : Un fs ex H (upd H a o) h h' where
  keep := fun b u q _ _ _ => k b u q
  slot := fun b u q _ _ _ => ⟨u.slots, k b u q⟩
  free := fun b u q n _ => by rw [upd_ne (Nat.ne_of_lt (Nat.lt_of_lt_of_le (Heap.lt_size q) hp))]; exact n
  there := fun b u q _ => ⟨u, k b u q⟩
  tups := fun b xs q => by rw [upd_ne (ne_of_none q hn)]; exact q
  frzs := fun b u xs q => by rw [upd_ne (ne_of_none q hn)]; exact q
  tbls := fun b ps q => ⟨#[], by rw [upd_ne (ne_of_none q hn), q]; simp⟩
theorem Un.write (mu : Mut (H x)) (he : e = x ∨ H e = some (.own x)) (k : ∀ b u, b ≠ e → h.get? b = some u → h'.get? b = some u) (heo : ∃ u, h'.get? e = some u) : Un fs ex H (upd H x o) h h' := by
  have hx : ∀ b, H b = none → b ≠ x := fun b n z => by subst z; rw [n] at mu; exact mu
  have hb : ∀ b, H b = none → b ≠ e := fun b n z => by
    subst z
    rcases he with r | r
    · exact hx b n r
    · rw [n] at r; cases r
  have hm : ∀ b u, H b = some u → ¬ Mut (some u) → b ≠ x := fun b u q nm z => by subst z; rw [q] at mu; exact nm mu
  refine ⟨fun b u q n _ _ => k b u (hb b n) q, fun b u q n _ _ => ⟨u.slots, k b u (hb b n) q⟩, fun b u q n _ => by rw [upd_ne (hx b n)]; exact n, fun b u q _ => ?_,
    fun b xs q => by rw [upd_ne (hm b _ q fun z => z)]; exact q, fun b u xs q => by rw [upd_ne (hm b _ q fun z => z)]; exact q, fun b ps q => ⟨#[], by rw [upd_ne (hm b _ q fun z => z), q]; simp⟩⟩
  by_cases hbe : b = e
  · subst hbe; exact heo
  · exact ⟨u, k b u hbe q⟩
end
noncomputable def trk (h : Heap) (H : Hp) : List Addr := (List.range h.objs.size).filter fun a => (H a).isSome
noncomputable def hidT (h : Heap) (H : Hp) : Heap := PySem.W.hideAll h (trk h H)
theorem hidT_size (h : Heap) (H : Hp) : (hidT h H).objs.size = h.objs.size := PySem.W.hideAll_size _ _
theorem hidT_get {h : Heap} {H : Hp} {b : Addr} {o : Obj} (e : h.get? b = some o) (n : H b = none) : (hidT h H).get? b = some o :=
  PySem.W.hideAll_get _ e fun hm => by
    have q : (H b).isSome = true := (List.mem_filter.mp hm).2
    rw [n] at q; simp at q
theorem of_hidT {h : Heap} {H : Hp} {b : Addr} {o : Obj} (e : (hidT h H).get? b = some o) : h.get? b = some o ∧ H b = none := by
  have e' : h.get? b = some o := PySem.W.of_hideAll (trk h H) e
  refine ⟨e', ?_⟩
  cases q : H b with
  | none => rfl
  | some x =>
    have hm : b ∈ trk h H := List.mem_filter.mpr ⟨List.mem_range.mpr (Heap.lt_size e'), by simp [q]⟩
    have z : (hidT h H).get? b = none := PySem.W.hideAll_none (trk h H) hm
    rw [z] at e; cases e

end L2
namespace L2
open PySem PySem.Spec PyProof.Rows
structure Mod (K : PySem.W.Frag) (mg : Str → Option Value) (base : Heap) : Prop where
  kin : K.In base
  glob : base.Ns mainGlobals mg
  blt : ∃ mb, base.Ns builtinsNs mb ∧ ∀ x : Str, x ≠ "__name__" → mb x = bootBuiltins x
  nolimit : base.NoLimit

structure Cx where
  prog : Program
  w : World
  K : PySem.W.Frag
  mg : Str → Option Value
  base : Heap
  A : Around
  N : List Str
  s₀ : Shared
  H₀ : Hp
  env : Env
  outer : List Env
  stack : List Env
  ex : List Addr
  fn : Str → Bool
  calm : Bool
  pn : List (Addr × Obj)
  xe : Value → Shared → Prop
noncomputable def frs (l : List Env) : List Addr := l.filterMap (·.frame)
noncomputable abbrev Cx.fs (X : Cx) : List Addr := frs X.outer

noncomputable def Vis (sc : Scope) (x : Str) : Prop := sc.names.lookup x = some .local ∨ sc.names.lookup x = some .cell ∨ sc.names.lookup x = some .free
noncomputable def Loc (sc : Scope) (x : Str) : Prop := sc.names.lookup x = some .local ∨ sc.names.lookup x = some .cell
noncomputable def Look (env : Env) (h : Heap) (m : Str → Option Value) (x : Str) (u : Value) : Prop :=
  (env.kindOf x = some .local ∧ m x = some u) ∨ ((env.kindOf x = some .cell ∨ env.kindOf x = some .free) ∧ ∃ c, env.cells.lookup x = some c ∧ h.IsCell c (some u))

structure Cx.Ok (X : Cx) : Prop where
  mod : Mod X.K X.mg X.base
  kind : X.env.scope.kind = .function
  glob : X.env.globals = mainGlobals
  blt : X.env.builtins = builtinsNs
  above : X.s₀.heap.objs.size ≤ X.env.locals
  inj : ∀ x y c, X.env.cells.lookup x = some c → X.env.cells.lookup y = some c → x = y
  has : ∀ x, (X.env.kindOf x = some .cell ∨ X.env.kindOf x = some .free) → ∃ c, X.env.cells.lookup x = some c
  cab : ∀ x c, X.fn x = true → X.env.cells.lookup x = some c → X.s₀.heap.objs.size ≤ c
  hd : X.calm = true → X.A.handled = none
  frames : X.A.frames = some X.stack
  stk : X.stack = X.outer ∨ (X.stack = X.env :: X.outer ∧ X.env.frame = some X.env.locals)
  exf : ∀ b ∈ X.ex, b ≠ X.env.locals ∧ ∀ x c, X.env.cells.lookup x = some c → c ≠ b
  bs : ∀ b o, X.base.get? b = some o → X.s₀.heap.get? b = some o ∧ X.H₀ b = none
  bsz : X.base.objs.size ≤ X.s₀.heap.objs.size
  noex : ∀ b o, X.base.get? b = some o → b ∉ X.ex
  exfs : ∀ b ∈ X.ex, b ∉ X.fs
  funs : X.s₀.heap.FunFrames X.base X.outer
  frf : ∀ b ∈ X.fs, X.H₀ b = none

structure Inv (X : Cx) (pins : List (Addr × Obj)) (σ : List (Option V)) (H : Hp) (s : Shared) : Prop where
  ok : X.Ok
  os : s.os = X.s₀.os
  bare : AllBare s.gens
  base : Un X.fs X.ex X.H₀ H X.s₀.heap s.heap
  loc : ∃ m, s.heap.Ns X.env.locals m ∧ ∀ (i : Nat) (x : Str) (v : V), X.N[i]? = some x → σ[i]? = some (some v) → Vis X.env.scope x → ∃ u, RelV v u ∧ Look X.env s.heap m x u
  cell : ∀ x c, X.env.cells.lookup x = some c → ∃ v, s.heap.IsCell c v
  free : H X.env.locals = none
  freeC : ∀ x c, X.env.cells.lookup x = some c → H c = none
  pin : ∀ p ∈ X.pn ++ pins, s.heap.get? p.1 = some p.2 ∧ H p.1 = none ∧ p.1 ≠ X.env.locals ∧ p.1 ∉ X.fs ∧ ∀ v, p.2.data ≠ .cell v
  hok : HOk X.prog X.w H s.heap
  len : σ.length = X.N.length

section
variable {X : Cx} {pins : List (Addr × Obj)} {σ : List (Option V)} {H H' : Hp} {s : Shared} {h' : Heap}
theorem Cx.Ok.nofr (ok : X.Ok) {b : Addr} {o : Obj} (e : X.base.get? b = some o) : b ∉ X.fs := fun hb => by
  have := (ok.funs.mem hb).1
  rw [e] at this; cases this
theorem Inv.bs (I : Inv X pins σ H s) : ∀ b o, X.base.get? b = some o → s.heap.get? b = some o ∧ H b = none := fun b o e =>
  ⟨I.base.keep b o (I.ok.bs b o e).1 (I.ok.bs b o e).2 (I.ok.nofr e) (I.ok.noex b o e), I.base.free b o (I.ok.bs b o e).1 (I.ok.bs b o e).2 (I.ok.noex b o e)⟩
theorem Inv.bk (I : Inv X pins σ H s) : ∀ b o, X.base.get? b = some o → s.heap.get? b = some o := fun b o e => (I.bs b o e).1
theorem Inv.mod (I : Inv X pins σ H s) : Mod X.K X.mg X.base := I.ok.mod
theorem Inv.kIn (I : Inv X pins σ H s) : X.K.In s.heap := I.ok.mod.kin.keeps I.bk
theorem Inv.nolimit (I : Inv X pins σ H s) : s.heap.NoLimit := I.ok.mod.nolimit.keeps I.bk
theorem Inv.lt (I : Inv X pins σ H s) : X.env.locals < s.heap.objs.size := let ⟨_, hn, _⟩ := I.loc; hn.lt
theorem Inv.sz (I : Inv X pins σ H s) : X.s₀.heap.objs.size ≤ s.heap.objs.size := Nat.le_trans I.ok.above (Nat.le_of_lt I.lt)
theorem Inv.nofs (I : Inv X pins σ H s) {a : Addr} (h : s.heap.objs.size ≤ a) : a ∉ X.fs := fun hb => by
  obtain ⟨_, o, ho, _⟩ := I.ok.funs.mem hb
  exact absurd (Nat.lt_of_lt_of_le (Heap.lt_size ho) (Nat.le_trans I.sz h)) (Nat.lt_irrefl _)
theorem Inv.cne (I : Inv X pins σ H s) : ∀ x c, X.env.cells.lookup x = some c → c ≠ X.env.locals := fun x c e z => by
  obtain ⟨v, o, ho, hd⟩ := I.cell x c e
  obtain ⟨m, ⟨o', es, ep, ho', hd', _⟩, _⟩ := I.loc
  rw [z, ho'] at ho; cases ho; rw [hd'] at hd; cases hd
theorem Inv.funs (I : Inv X pins σ H s) : s.heap.FunFrames X.base X.outer := by
  have all : ∀ (l : List Env), (∀ b ∈ frs l, b ∈ X.fs) → X.s₀.heap.FunFrames X.base l → s.heap.FunFrames X.base l := by
    intro l
    induction l with
    | nil => intro _ _; trivial
    | cons env r ih =>
      intro hs hl
      obtain ⟨hk, ⟨L, o, hf, hn, ho, hd⟩, hr⟩ := hl
      have hL : L ∈ X.fs := hs L (by unfold frs; rw [List.filterMap_cons, hf]; exact List.mem_cons_self)
      obtain ⟨sl, e⟩ := I.base.slot L o ho (I.ok.frf L hL) hL fun z => I.ok.exfs L z hL
      exact ⟨hk, ⟨L, _, hf, hn, e, hd⟩, ih (fun b hb => hs b (by unfold frs; rw [List.filterMap_cons, hf]; exact List.mem_cons_of_mem _ hb)) hr⟩
  exact all X.outer (fun _ hb => hb) I.ok.funs

theorem Inv.stack (I : Inv X pins σ H s) : s.heap.FunFrames X.base X.stack := by
  rcases I.ok.stk with e | ⟨e, hf⟩
  · rw [e]; exact I.funs
  · rw [e]
    obtain ⟨m, hn, _⟩ := I.loc
    refine .cons (by rw [I.ok.kind]; decide) hf hn ?_ I.funs
    exact Heap.get?_none_of_le (Nat.le_trans I.ok.bsz I.ok.above)
theorem Inv.stkSub (I : Inv X pins σ H s) : ∀ b ∈ frs X.stack, b ∈ X.env.locals :: X.fs := fun b hb => by
  rcases I.ok.stk with e | ⟨e, hf⟩
  · rw [e] at hb; exact List.mem_cons_of_mem _ hb
  · rw [e] at hb
    unfold frs at hb
    rw [List.filterMap_cons, hf] at hb
    exact hb
theorem Inv.stkFree (I : Inv X pins σ H s) : ∀ b ∈ frs X.stack, H b = none := fun b hb => by
  rcases List.mem_cons.mp (I.stkSub b hb) with e | hb
  · rw [e]; exact I.free
  · obtain ⟨_, o, ho, _⟩ := I.ok.funs.mem hb
    exact I.base.free b o ho (I.ok.frf b hb) fun z => I.ok.exfs b z hb

theorem Inv.step {g' : Array GenState} {t' : Nat} {d' : Drawn} {ch : List Addr} (I : Inv X pins σ H s)
    (hch : ∀ b ∈ ch, (b ∈ X.ex ∨ X.s₀.heap.objs.size ≤ b) ∧ b ≠ X.env.locals ∧ (∀ x c, X.env.cells.lookup x = some c → c ≠ b) ∧ ∀ p ∈ X.pn ++ pins, p.1 ≠ b)
    (keep : ∀ b o, b ≠ X.env.locals → b ∉ X.fs → b ∉ ch → s.heap.get? b = some o → H b = none → h'.get? b = some o)
    (slot : ∀ b o, b ≠ X.env.locals → b ∈ X.fs → b ∉ ch → s.heap.get? b = some o → H b = none → ∃ sl, h'.get? b = some { o with slots := sl }) (free : ∀ b o, b ∉ ch → s.heap.get? b = some o → H b = none → H' b = none)
    (there : ∀ b o, b ∉ ch → s.heap.get? b = some o → ∃ o', h'.get? b = some o')
    (tups : ∀ b xs, H b = some (.tup xs) → H' b = some (.tup xs)) (frzs : ∀ b o u, H b = some (.frz o u) → H' b = some (.frz o u)) (tbls : ∀ b ps, H b = some (.tbl ps) → ∃ more, H' b = some (.tbl (ps ++ more)))
    (ns : ∀ m, s.heap.Ns X.env.locals m → h'.Ns X.env.locals m) (hok : HOk X.prog X.w H' h') (hg : AllBare g') :
    Inv X pins σ H' { s with heap := h', gens := g', drawn := d', toks := t' } := by
  have neL : ∀ b o, X.s₀.heap.get? b = some o → b ≠ X.env.locals := fun b o e => Nat.ne_of_lt (Nat.lt_of_lt_of_le (Heap.lt_size e) I.ok.above)
  have neC : ∀ b o, X.s₀.heap.get? b = some o → b ∉ X.ex → b ∉ ch := fun b o e hx hb => by
    rcases (hch b hb).1 with z | z
    · exact hx z
    · exact absurd (Nat.lt_of_lt_of_le (Heap.lt_size e) z) (Nat.lt_irrefl _)
  have cellK : ∀ x c, X.env.cells.lookup x = some c → ∀ v, s.heap.IsCell c v → h'.IsCell c v := fun x c e v ⟨o, ho, hd⟩ => by
    have nch : c ∉ ch := fun z => (hch c z).2.2.1 x c e rfl
    by_cases hc : c ∈ X.fs
    · obtain ⟨sl, q⟩ := slot c o (I.cne x c e) hc nch ho (I.freeC x c e)
      exact ⟨_, q, hd⟩
    · exact ⟨o, keep c o (I.cne x c e) hc nch ho (I.freeC x c e), hd⟩
  refine ⟨I.ok, I.os, hg, ⟨fun b o e n hb hx => ?_, fun b o e n hb hx => ?_, fun b o e n hx => ?_, fun b o e hx => ?_, fun b xs e => tups b xs (I.base.tups b xs e), fun b o xs e => frzs b o xs (I.base.frzs b o xs e), fun b ps e => ?_⟩, ?_, fun x c e => ?_, ?_, fun x c e => ?_, fun p hp => ?_, hok, I.len⟩
  · exact keep b o (neL b o e) hb (neC b o e hx) (I.base.keep b o e n hb hx) (I.base.free b o e n hx)
  · obtain ⟨sl, e1⟩ := I.base.slot b o e n hb hx
    obtain ⟨sl', e2⟩ := slot b _ (neL b o e) hb (neC b o e hx) e1 (I.base.free b o e n hx)
    exact ⟨sl', e2⟩
  · obtain ⟨o', e1⟩ := I.base.there b o e hx
    exact free b o' (neC b o e hx) e1 (I.base.free b o e n hx)
  · obtain ⟨o', e1⟩ := I.base.there b o e hx
    exact there b o' (neC b o e hx) e1
  · obtain ⟨m1, e1⟩ := I.base.tbls b ps e
    obtain ⟨m2, e2⟩ := tbls b _ e1
    exact ⟨m1 ++ m2, by rw [e2, Array.append_assoc]⟩
  · obtain ⟨m, hn, hl⟩ := I.loc
    refine ⟨m, ns m hn, fun i x v e1 e2 e3 => ?_⟩
    obtain ⟨u, r, l⟩ := hl i x v e1 e2 e3
    refine ⟨u, r, ?_⟩
    rcases l with l | ⟨k, c, e, z⟩
    · exact .inl l
    · exact .inr ⟨k, c, e, cellK x c e _ z⟩
  · obtain ⟨v, z⟩ := I.cell x c e
    exact ⟨v, cellK x c e v z⟩
  · obtain ⟨m, ⟨o, _, _, ho, _⟩, _⟩ := I.loc
    exact free _ o (fun z => (hch _ z).2.1 rfl) ho I.free
  · obtain ⟨v, o, ho, hd⟩ := I.cell x c e
    exact free c o (fun z => (hch c z).2.2.1 x c e rfl) ho (I.freeC x c e)
  · obtain ⟨e, n, ne, nf, d⟩ := I.pin p hp
    have nch : p.1 ∉ ch := fun z => (hch p.1 z).2.2.2 p hp rfl
    exact ⟨keep p.1 p.2 ne nf nch e n, free p.1 p.2 nch e n, ne, nf, d⟩
theorem Inv.un {t' : Nat} (I : Inv X pins σ H s) (u : Un X.fs [] H H' s.heap h') (hok : HOk X.prog X.w H' h') : Inv X pins σ H' { s with heap := h', toks := t' } := by
  obtain ⟨m, ⟨o, es, ep, ho, r⟩, _⟩ := id I.loc
  obtain ⟨sl, hL⟩ := u.any ho I.free (by simp)
  exact I.step (g' := s.gens) (d' := s.drawn) (ch := []) (fun _ z => nomatch z) (fun b o _ hb _ e n => u.keep b o e n hb (by simp)) (fun b o _ hb _ e n => u.slot b o e n hb (by simp)) (fun b o _ e n => u.free b o e n (by simp)) (fun b o _ e => u.there b o e (by simp)) u.tups u.frzs u.tbls (fun m' hm => by
    obtain ⟨o', es', ep', ho', r'⟩ := hm
    rw [ho] at ho'; cases ho'
    exact ⟨_, es', ep', hL, r'⟩) hok I.bare
theorem Inv.call {g' : Array GenState} {t' : Nat} {d' : Drawn} {ch : List Addr} (I : Inv X pins σ H s) (u : Un (frs X.stack) ch H H' s.heap h') (hok : HOk X.prog X.w H' h') (hg : AllBare g')
    (hch : ∀ b ∈ ch, (b ∈ X.ex ∨ X.s₀.heap.objs.size ≤ b) ∧ b ≠ X.env.locals ∧ (∀ x c, X.env.cells.lookup x = some c → c ≠ b) ∧ ∀ p ∈ X.pn ++ pins, p.1 ≠ b) :
    Inv X pins σ H' { s with heap := h', gens := g', drawn := d', toks := t' } := by
  obtain ⟨m, ⟨o, es, ep, ho, r⟩, _⟩ := id I.loc
  obtain ⟨sl, hL⟩ := u.any ho I.free fun z => (hch _ z).2.1 rfl
  exact I.step (ch := ch) hch (fun b o hL hb hc e n => u.keep b o e n (fun z => (List.mem_cons.mp (I.stkSub b z)).elim hL hb) hc) (fun b o _ _ hc e n => u.any e n hc) (fun b o hc e n => u.free b o e n hc) (fun b o hc e => u.there b o e hc) u.tups u.frzs u.tbls (fun m' hm => by
    obtain ⟨o', es', ep', ho', r'⟩ := hm
    rw [ho] at ho'; cases ho'
    exact ⟨_, es', ep', hL, r'⟩) hok hg
theorem Inv.turned {t' : Nat} {it : Addr} (I : Inv X pins σ H s) (k : ∀ b o, b ≠ it → s.heap.get? b = some o → h'.get? b = some o) (hn : H it = none) (hL : it ≠ X.env.locals)
    (h1 : it ∈ X.ex ∨ X.s₀.heap.objs.size ≤ it) (h2 : ∀ x c, X.env.cells.lookup x = some c → c ≠ it) (h3 : ∀ p ∈ X.pn ++ pins, p.1 ≠ it) : Inv X pins σ H { s with heap := h', toks := t' } := by
  have nit : ∀ b u, H b = some u → b ≠ it := fun b u e z => by rw [z, hn] at e; cases e
  refine I.step (g' := s.gens) (d' := s.drawn) (ch := [it]) (fun b hb => ?_) (fun b o _ _ hc e _ => k b o (fun z => hc (by simp [z])) e) (fun b o _ _ hc e _ => ⟨o.slots, k b o (fun z => hc (by simp [z])) e⟩) (fun _ _ _ _ n => n)
    (fun b o hc e => ⟨o, k b o (fun z => hc (by simp [z])) e⟩) (fun _ _ e => e) (fun _ _ _ e => e) (fun b ps e => ⟨#[], by rw [e]; simp⟩) (fun m hm => ?_) (fun b u e => ?_) I.bare
  · have e : b = it := by simpa using hb
    subst e
    exact ⟨h1, hL, h2, h3⟩
  · obtain ⟨o, es, ep, ho, r⟩ := hm
    exact ⟨o, es, ep, k _ o (Ne.symm hL) ho, r⟩
  · refine (I.hok b u e).stay (fun c v hc q => k c v ?_ q) (fun _ q => q) fun _ _ q => q
    rcases hc with z | z
    · rw [z]; exact nit b u e
    · exact nit c _ z
theorem Inv.tok (I : Inv X pins σ H s) (t : Nat) : Inv X pins σ H { s with toks := t } := I.un (h' := s.heap) (t' := t) Un.refl I.hok
theorem Inv.kept {t' : Nat} (I : Inv X pins σ H s) (k : ∀ b u, s.heap.get? b = some u → h'.get? b = some u) : Inv X pins σ H { s with heap := h', toks := t' } := I.un (Un.kept k) (I.hok.kept k)
theorem Inv.laid {a : Addr} {o : HO} {t' : Nat} (I : Inv X pins σ H s) (k : ∀ b u, s.heap.get? b = some u → h'.get? b = some u) (hp : s.heap.objs.size ≤ a) (new : ObjOk X.prog X.w (upd H a o) h' a o) :
    Inv X pins σ (upd H a o) { s with heap := h', toks := t' } := I.un (Un.laid k hp (I.hok.fresh hp)) (I.hok.laid k hp new)
theorem Inv.write {x e : Addr} {o : HO} {t' : Nat} (I : Inv X pins σ H s) (mu : Mut (H x)) (he : e = x ∨ H e = some (.own x)) (k : ∀ b u, b ≠ e → s.heap.get? b = some u → h'.get? b = some u) (heo : ∃ u, h'.get? e = some u)
    (new : ObjOk X.prog X.w (upd H x o) h' x o) : Inv X pins σ (upd H x o) { s with heap := h', toks := t' } := I.un (Un.write mu he k heo) (I.hok.write mu he k heo new)
theorem Inv.weak {σ' : List (Option V)} (I : Inv X pins σ H s) (hl : σ'.length = σ.length) (w : ∀ (i : Nat) v, σ'[i]? = some (some v) → σ[i]? = some (some v)) : Inv X pins σ' H s :=
  ⟨I.ok, I.os, I.bare, I.base, let ⟨m, hn, hl'⟩ := I.loc; ⟨m, hn, fun i x v e1 e2 e3 => hl' i x v e1 (w i v e2) e3⟩, I.cell, I.free, I.freeC, I.pin, I.hok, hl.trans I.len⟩
theorem Inv.pins_of {pins' : List (Addr × Obj)} (I : Inv X pins σ H s) (h : ∀ p ∈ pins', s.heap.get? p.1 = some p.2 ∧ H p.1 = none ∧ p.1 ≠ X.env.locals ∧ p.1 ∉ X.fs ∧ ∀ v, p.2.data ≠ .cell v) : Inv X pins' σ H s :=
  ⟨I.ok, I.os, I.bare, I.base, I.loc, I.cell, I.free, I.freeC, fun p hp => (List.mem_append.mp hp).elim (fun z => I.pin p (List.mem_append_left _ z)) (h p), I.hok, I.len⟩

theorem nodup_ix {N : List Str} (hN : N.Nodup) {i j : Nat} {x : Str} (a : N[i]? = some x) (b : N[j]? = some x) : i = j := by
  obtain ⟨h1, e1⟩ := List.getElem?_eq_some_iff.mp a
  obtain ⟨h2, e2⟩ := List.getElem?_eq_some_iff.mp b
  exact (List.getElem_inj hN).mp (e1.trans e2.symm)

theorem store_ok2 {M : Model} {A : Around} {E : Value → Shared → Prop} {i : Nat} {x : Str} {v : V} {u : Value} {Q : Unit → Shared → Prop} (I : Inv X pins σ H s) (hN : X.N.Nodup) (hi : X.N[i]? = some x) (hx : Loc X.env.scope x) (r : RelV v u)
    (h : ∀ s', Inv X pins (σ.set i (some v)) H s' → (∃ a, Heap.SameBut a s.heap s'.heap ∧ (a = X.env.locals ∨ X.env.cells.lookup x = some a)) → Q () s') (hf : X.fn x = true ∨ X.env.scope.names.lookup x = some .local := by first | exact .inl rfl | exact .inr rfl | assumption) : wpAny M A (storeName X.env x u) Q E s := by
  obtain ⟨m, hn, hl⟩ := id I.loc
  have hcls : (X.env.scope.kind == .class || (X.env.scope.kind == .module && X.env.locals != X.env.globals)) = false := by rw [I.ok.kind]; rfl
  have hiσ : i < σ.length := by rw [I.len]; exact (List.getElem?_eq_some_iff.mp hi).1
  have cne := I.cne
  have tracked : ∀ {a : Addr} {h' : Heap}, (∃ o, s.heap.get? a = some o ∧ H a = none) → Heap.SameBut a s.heap h' → HOk X.prog X.w H h' := fun {a h'} ha hs b ob e => by
    obtain ⟨_, _, hfree⟩ := ha
    refine (I.hok b ob e).stay (fun c w' hc q => (hs.2 c ?_).trans q) (fun _ q => q) fun _ _ q => q
    rintro rfl
    rcases hc with rfl | hc
    · rw [hfree] at e; cases e
    · rw [hfree] at hc; cases hc
  rcases hx with hk | hk
  · refine wpAny_storeName_local hk hn (fun h' hn' hs => ?_) hcls
    obtain ⟨oL, _, _, hoL, _⟩ := id hn
    refine h _ ⟨I.ok, I.os, I.bare, ⟨fun b o e n hb hx => ?_, fun b o e n hb hx => ?_, I.base.free, fun b o e hx => ?_, I.base.tups, I.base.frzs, I.base.tbls⟩, ⟨_, hn', fun j y v' e1 e2 e3 => ?_⟩, fun y c e => ?_, I.free, I.freeC, fun p hp => ?_, tracked ⟨oL, hoL, I.free⟩ hs, by simpa using I.len⟩ ⟨_, hs, .inl rfl⟩
    · exact (hs.2 b (Nat.ne_of_lt (Nat.lt_of_lt_of_le (Heap.lt_size e) I.ok.above))).trans (I.base.keep b o e n hb hx)
    · obtain ⟨sl, e1⟩ := I.base.slot b o e n hb hx
      exact ⟨sl, (hs.2 b (Nat.ne_of_lt (Nat.lt_of_lt_of_le (Heap.lt_size e) I.ok.above))).trans e1⟩
    · obtain ⟨o', e1⟩ := I.base.there b o e hx
      exact ⟨o', (hs.2 b (Nat.ne_of_lt (Nat.lt_of_lt_of_le (Heap.lt_size e) I.ok.above))).trans e1⟩
    · by_cases hj : j = i
      · subst hj
        rw [hi] at e1; cases e1
        rw [List.getElem?_set_self hiσ] at e2
        cases e2
        exact ⟨u, r, .inl ⟨hk, by simp⟩⟩
      · rw [List.getElem?_set_ne (Ne.symm hj)] at e2
        obtain ⟨u', r', q⟩ := hl j y v' e1 e2 e3
        refine ⟨u', r', ?_⟩
        rcases q with ⟨k, e⟩ | ⟨k, c, e, z⟩
        · refine .inl ⟨k, ?_⟩
          have : y ≠ x := fun e => hj (nodup_ix hN e1 (e ▸ hi))
          simp [this, e]
        · exact .inr ⟨k, c, e, z.sameBut hs (cne y c e)⟩
    · obtain ⟨w', z⟩ := I.cell y c e
      exact ⟨w', z.sameBut hs (cne y c e)⟩
    · obtain ⟨e, n, ne, nf, d⟩ := I.pin p hp
      exact ⟨(hs.2 p.1 ne).trans e, n, ne, nf, d⟩
  · have hfn : X.fn x = true := by
      rcases hf with z | z
      · exact z
      · rw [z] at hk; cases hk
    obtain ⟨c, hc⟩ := I.ok.has x (.inl hk)
    obtain ⟨w', z⟩ := I.cell x c hc
    refine wpAny_storeName_cell I.ok.kind hk hc z (fun h' hc' hs => ?_)
    obtain ⟨oc, hoc, hocd⟩ := id z
    refine h { s with heap := h' } ⟨I.ok, I.os, I.bare, ⟨fun b o e n hb hx => ?_, fun b o e n hb hx => ?_, I.base.free, fun b o e hx => ?_, I.base.tups, I.base.frzs, I.base.tbls⟩, ⟨m, hn.sameBut hs (Ne.symm (cne x c hc)), fun j y v' e1 e2 e3 => ?_⟩, fun y c' e => ?_, I.free, I.freeC, fun p hp => ?_, tracked ⟨oc, hoc, I.freeC x c hc⟩ hs, by simpa using I.len⟩ ⟨c, hs, .inr hc⟩
    · exact (hs.2 b (Nat.ne_of_lt (Nat.lt_of_lt_of_le (Heap.lt_size e) (I.ok.cab x c hfn hc)))).trans (I.base.keep b o e n hb hx)
    · obtain ⟨sl, e1⟩ := I.base.slot b o e n hb hx
      exact ⟨sl, (hs.2 b (Nat.ne_of_lt (Nat.lt_of_lt_of_le (Heap.lt_size e) (I.ok.cab x c hfn hc)))).trans e1⟩
    · obtain ⟨o', e1⟩ := I.base.there b o e hx
      exact ⟨o', (hs.2 b (Nat.ne_of_lt (Nat.lt_of_lt_of_le (Heap.lt_size e) (I.ok.cab x c hfn hc)))).trans e1⟩
    · by_cases hj : j = i
      · subst hj
        rw [hi] at e1; cases e1
        rw [List.getElem?_set_self hiσ] at e2
        cases e2
        exact ⟨u, r, .inr ⟨.inl hk, c, hc, hc'⟩⟩
      · rw [List.getElem?_set_ne (Ne.symm hj)] at e2
        obtain ⟨u', r', q⟩ := hl j y v' e1 e2 e3
        refine ⟨u', r', ?_⟩
        rcases q with q | ⟨k, c', e, z'⟩
        · exact .inl q
        · refine .inr ⟨k, c', e, z'.sameBut hs ?_⟩
          rintro rfl
          exact hj (nodup_ix hN e1 (I.ok.inj _ _ _ e hc ▸ hi))
    · by_cases hcc : c' = c
      · subst hcc; exact ⟨_, hc'⟩
      · obtain ⟨w2, z2⟩ := I.cell y c' e
        exact ⟨w2, z2.sameBut hs hcc⟩
    · obtain ⟨e, n, ne, nf, d⟩ := I.pin p hp
      refine ⟨(hs.2 p.1 ?_).trans e, n, ne, nf, d⟩
      intro q
      rw [q, hoc] at e
      have q' : oc = p.2 := Option.some.inj e
      exact d w' (by rw [← q']; exact hocd)
theorem store_ok {M : Model} {A : Around} {E : Value → Shared → Prop} {i : Nat} {x : Str} {v : V} {u : Value} {Q : Unit → Shared → Prop} (I : Inv X pins σ H s) (hN : X.N.Nodup) (hi : X.N[i]? = some x) (hx : Loc X.env.scope x) (r : RelV v u)
    (h : ∀ s', Inv X pins (σ.set i (some v)) H s' → Q () s') (hf : X.fn x = true ∨ X.env.scope.names.lookup x = some .local := by first | exact .inl rfl | exact .inr rfl | assumption) : wpAny M A (storeName X.env x u) Q E s :=
  store_ok2 I hN hi hx r (fun s' I' _ => h s' I') hf
theorem Inv.call' {s' : Shared} {ch : List Addr} (I : Inv X pins σ H s) (ho : s'.os = s.os) (u : Un (frs X.stack) ch H H' s.heap s'.heap) (hok : HOk X.prog X.w H' s'.heap) (hg : AllBare s'.gens)
    (hch : ∀ b ∈ ch, (b ∈ X.ex ∨ X.s₀.heap.objs.size ≤ b) ∧ b ≠ X.env.locals ∧ (∀ x c, X.env.cells.lookup x = some c → c ≠ b) ∧ ∀ p ∈ X.pn ++ pins, p.1 ≠ b) : Inv X pins σ H' s' := by
  obtain ⟨h', g', d', t', o'⟩ := s'
  have e : o' = s.os := ho
  subst e
  exact I.call (g' := g') (t' := t') (d' := d') u hok hg hch
end
noncomputable abbrev XK := Value → Option Addr → Hp → Prop
noncomputable abbrev St := List (Option V)
noncomputable abbrev VK := V → Hp → Prop
noncomputable abbrev TE := St → Hp → VK → Prop
noncomputable abbrev TT := St → Hp → (Bool → Hp → Prop) → Prop
noncomputable abbrev TA := St → Hp → (List V → Hp → Prop) → Prop
structure Ends where
  nx : St → Hp → Prop
  rt : VK
  bk : St → Hp → Prop := fun _ _ => False
  ct : St → Hp → Prop := fun _ _ => False
noncomputable abbrev TS := Ends → St → Hp → Prop

noncomputable def EP (X : Cx) (pins : List (Addr × Obj)) (σ : St) (Q : VK) (u : Value) (s' : Shared) : Prop := ∃ v H', Inv X pins σ H' s' ∧ RelV v u ∧ Q v H'
noncomputable def TP (X : Cx) (pins : List (Addr × Obj)) (σ : St) (Q : Bool → Hp → Prop) (b : Bool) (s' : Shared) : Prop := ∃ H', Inv X pins σ H' s' ∧ Q b H'
noncomputable def AP (X : Cx) (pins : List (Addr × Obj)) (σ : St) (Q : List V → Hp → Prop) (us : List Value) (s' : Shared) : Prop := ∃ vs H', Inv X pins σ H' s' ∧ Vals vs us ∧ Q vs H'
noncomputable def SP (X : Cx) (pins : List (Addr × Obj)) (D : Ends) (f : Flow) (s' : Shared) : Prop :=
  match f with
  | .next => ∃ σ' H', Inv X pins σ' H' s' ∧ D.nx σ' H'
  | .brk => ∃ σ' H', Inv X pins σ' H' s' ∧ D.bk σ' H'
  | .cont => ∃ σ' H', Inv X pins σ' H' s' ∧ D.ct σ' H'
  | .ret u => ∃ v σ' H', Inv X pins σ' H' s' ∧ RelV v u ∧ D.rt v H'

noncomputable def PE (X : Cx) (e : Expr) (t : TE) : Prop :=
  ∀ (pins : List (Addr × Obj)) (s : Shared) (σ : St) (H : Hp) (Q : VK), Inv X pins σ H s → t σ H Q → wpAny (model X.prog X.w) X.A (eval e X.env) (EP X pins σ Q) X.xe s
@[irreducible] noncomputable def ZE (X : Cx) (e : Expr) (t : TE) : Prop := PE X e t
noncomputable def PT (X : Cx) (e : Expr) (t : TT) : Prop :=
  ∀ (pins : List (Addr × Obj)) (s : Shared) (σ : St) (H : Hp) (Q : Bool → Hp → Prop), Inv X pins σ H s → t σ H Q → wpAny (model X.prog X.w) X.A (isTrue e X.env (eval e X.env)) (TP X pins σ Q) X.xe s
@[irreducible] noncomputable def ZT (X : Cx) (e : Expr) (t : TT) : Prop := PT X e t
noncomputable def PW (X : Cx) (e : Expr) (t : TT) : Prop :=
  ∀ (whole : Sem Value) (pins : List (Addr × Obj)) (s : Shared) (σ : St) (H : Hp) (Q : Bool → Hp → Prop), Inv X pins σ H s → t σ H Q → wpAny (model X.prog X.w) X.A (isTrue e X.env whole) (TP X pins σ Q) X.xe s
@[irreducible] noncomputable def ZW (X : Cx) (e : Expr) (t : TT) : Prop := PW X e t
theorem PW.pt {X : Cx} {e : Expr} {t : TT} (h : PW X e t) : PT X e t := h _
theorem ZW.zt {X : Cx} {e : Expr} {t : TT} (h : ZW X e t) : ZT X e t := by with_unfolding_all exact PW.pt h
noncomputable def PA (X : Cx) (es : List Expr) (t : TA) : Prop :=
  ∀ (pos : Pos) (pins : List (Addr × Obj)) (s : Shared) (σ : St) (H : Hp) (Q : List V → Hp → Prop), Inv X pins σ H s → t σ H Q → wpAny (model X.prog X.w) X.A (spliced (backTo pos (starEach es X.env))) (AP X pins σ Q) X.xe s
@[irreducible] noncomputable def ZA (X : Cx) (es : List Expr) (t : TA) : Prop := PA X es t
noncomputable def PS (X : Cx) (st : Stmt) (t : TS) : Prop :=
  ∀ (pins : List (Addr × Obj)) (s : Shared) (σ : St) (H : Hp) (D : Ends), Inv X pins σ H s → t D σ H → wpAny (model X.prog X.w) X.A (exec st X.env) (SP X pins D) X.xe s
@[irreducible] noncomputable def ZS (X : Cx) (st : Stmt) (t : TS) : Prop := PS X st t
noncomputable def PSs (X : Cx) (st : List Stmt) (t : TS) : Prop :=
  ∀ (pins : List (Addr × Obj)) (s : Shared) (σ : St) (H : Hp) (D : Ends), Inv X pins σ H s → t D σ H → wpAny (model X.prog X.w) X.A (execs st X.env) (SP X pins D) X.xe s
@[irreducible] noncomputable def ZSs (X : Cx) (st : List Stmt) (t : TS) : Prop := PSs X st t
theorem ZSs.p {X : Cx} {st : List Stmt} {t : TS}  (h : ZSs X st t) : PSs X st t := by unfold ZSs at h; exact h
theorem thn {α : Type} {t : Sem α} {Q Q' : α → Shared → Prop} {M : Model} {A : Around} {E : Value → Shared → Prop} {s : Shared} (h : wpAny M A t Q E s) (hQ : ∀ a s, Q a s → Q' a s) : wpAny M A t Q' E s := wpAny_mono h hQ fun _ _ x => x
end L2
namespace L2
open PySem PySem.Spec PyProof.Rows
section
variable {X : Cx}
noncomputable def tVar (i : Nat) : TE := fun σ H Q => ∃ v, σ[i]? = some (some v) ∧ Q v H
noncomputable def tC (v : V) : TE := fun _ H Q => Q v H
theorem pe_var {i : Nat} {x : Str} {pos : Pos} (hN : X.N[i]? = some x) (hv : Vis X.env.scope x) (hd : (x == ("__debug__" : Str)) = false := by decide) (hcd : (x == ("__classdict__" : Str)) = false := by decide) : PE X (.Name x pos) (tVar i) := by
  intro pins s σ H Q I h
  obtain ⟨v, e, h⟩ := h
  obtain ⟨m, hn, hl⟩ := I.loc
  obtain ⟨u, r, l⟩ := hl i x v hN e hv
  have fin : EP X pins σ Q u s := ⟨v, H, I, r, h⟩
  rcases l with ⟨hk, hm⟩ | ⟨hk, c, hc, hcell⟩
  · exact wpAny_Name (wpAny_loadName_local I.ok.kind hk hn hm fin) hd
  · rcases hk with hk | hk
    · exact wpAny_Name (wpAny_loadName_cell I.ok.kind hk hc hcell fin) hd
    · exact wpAny_Name (wpAny_loadName_free I.ok.kind hk hc hcell fin hcd) hd
theorem pe_int {i j pos} : PE X (.Constant (.int i) j pos) (tC (.int i)) := fun _ _ _ H _ I h => wpAny_Constant_int ⟨.int i, H, I.tok _, ⟨_, rfl⟩, h⟩
theorem ze_int {i j pos} : ZE X (.Constant (.int i) j pos) (tC (.int i)) := by with_unfolding_all exact pe_int 
theorem pe_bl {b j pos} : PE X (.Constant (.bool b) j pos) (tC (.bl b)) := fun _ _ _ H _ I h => Constant_bool ⟨.bl b, H, I, rfl, h⟩
theorem ze_bl {b j pos} : ZE X (.Constant (.bool b) j pos) (tC (.bl b)) := by with_unfolding_all exact pe_bl 
theorem pe_non {j pos} : PE X (.Constant .none j pos) (tC .non) := fun _ _ _ H _ I h => Constant_none ⟨.non, H, I, rfl, h⟩
theorem ze_non {j pos} : ZE X (.Constant .none j pos) (tC .non) := by with_unfolding_all exact pe_non 
theorem pe_str {x j pos} : PE X (.Constant (.str x) j pos) (tC (.str x)) := fun _ _ _ H _ I h => Calls.Constant_str ⟨.str x, H, I.tok _, ⟨_, rfl⟩, h⟩
theorem ze_str {x j pos} : ZE X (.Constant (.str x) j pos) (tC (.str x)) := by with_unfolding_all exact pe_str 

noncomputable def Gl (X : Cx) (x : Str) : Prop := X.env.kindOf x = some .globalImplicit
theorem ld_glob {E : Value → Shared → Prop} {pins : List (Addr × Obj)} {s : Shared} {σ : St} {H : Hp} {x : Str} {u : Value} {pos : Pos} {Q : Value → Shared → Prop} (I : Inv X pins σ H s) (hg : Gl X x) (hm : X.mg x = some u) (h : Q u s)
    (hd : (x == ("__debug__" : Str)) = false := by decide) : wpAny (model X.prog X.w) X.A (eval (.Name x pos) X.env) Q E s :=
  Calls.Name_function_global I.ok.kind hg (Calls.loadGlobal_global (by rw [I.ok.glob]; exact I.mod.glob.keeps I.bk) hm h) hd
theorem ld_blt {E : Value → Shared → Prop} {pins : List (Addr × Obj)} {s : Shared} {σ : St} {H : Hp} {x : Str} {u : Value} {pos : Pos} {Q : Value → Shared → Prop} (I : Inv X pins σ H s) (hg : Gl X x) (hm : X.mg x = none) (hv : bootBuiltins x = some u) (h : Q u s)
    (hn : x ≠ "__name__" := by decide) (hd : (x == ("__debug__" : Str)) = false := by decide) : wpAny (model X.prog X.w) X.A (eval (.Name x pos) X.env) Q E s := by
  obtain ⟨mb, h1, h2⟩ := I.mod.blt
  exact Calls.Name_function_global I.ok.kind hg (Calls.loadGlobal_builtin (by rw [I.ok.glob]; exact I.mod.glob.keeps I.bk) hm (by rw [I.ok.blt]; exact h1.keeps I.bk) ((h2 x hn).trans hv) h) hd
theorem pe_glob {x : Str} {v : V} {u : Value} {pos : Pos} (hg : Gl X x) (hm : X.mg x = some u) (r : RelV v u) (hd : (x == ("__debug__" : Str)) = false := by decide) : PE X (.Name x pos) (tC v) :=
  fun _ _ _ H _ I h => ld_glob I hg hm ⟨v, H, I, r, h⟩ hd
theorem pe_bltn {x : Str} {v : V} {u : Value} {pos : Pos} (hg : Gl X x) (hm : X.mg x = none) (hv : bootBuiltins x = some u) (r : RelV v u) (hn : x ≠ "__name__" := by decide) (hd : (x == ("__debug__" : Str)) = false := by decide) : PE X (.Name x pos) (tC v) :=
  fun _ _ _ H _ I h => ld_blt I hg hm hv ⟨v, H, I, r, h⟩ hn hd

variable {a b : Expr} {ta tb : TE} {pos : Pos}
variable {tA tB' : TT} {rest : List Expr}
noncomputable def tAnd (t u : TT) : TT := fun σ H Q => t σ H fun c H1 => if c = true then u σ H1 Q else Q false H1
noncomputable def tOr (t u : TT) : TT := fun σ H Q => t σ H fun c H1 => if c = true then Q true H1 else u σ H1 Q
noncomputable def tNot (t : TT) : TT := fun σ H Q => t σ H fun c H1 => Q (!c) H1
theorem pw_and1 (ha : PT X a tA) : PW X (.BoolOp .And [a] pos) tA := by
  intro wh pins s σ H Q I h
  refine isTrue_and (thn (ha pins s σ H Q I h) fun c s1 e => ?_)
  cases c with
  | true => exact isTrue_and_nil e
  | false => exact e
theorem zw_and1 (ha : ZT X a tA) : ZW X (.BoolOp .And [a] pos) tA := by with_unfolding_all exact pw_and1 ha
theorem pw_or1 (ha : PT X a tA) : PW X (.BoolOp .Or [a] pos) tA := by
  intro wh pins s σ H Q I h
  refine isTrue_or (thn (ha pins s σ H Q I h) fun c s1 e => ?_)
  cases c with
  | false => exact isTrue_or_nil e
  | true => exact e
theorem zw_or1 (ha : ZT X a tA) : ZW X (.BoolOp .Or [a] pos) tA := by with_unfolding_all exact pw_or1 ha
theorem pw_and (ha : PT X a tA) (hb : PW X (.BoolOp .And (b :: rest) pos) tB') : PW X (.BoolOp .And (a :: b :: rest) pos) (tAnd tA tB') := by
  intro wh pins s σ H Q I h
  refine isTrue_and (thn (ha pins s σ H _ I h) fun c s1 ⟨H1, I1, q1⟩ => ?_)
  cases c with
  | true => exact hb wh pins s1 σ H1 Q I1 q1
  | false => exact ⟨H1, I1, q1⟩
theorem zw_and (ha : ZT X a tA) (hb : ZW X (.BoolOp .And (b :: rest) pos) tB') : ZW X (.BoolOp .And (a :: b :: rest) pos) (tAnd tA tB') := by with_unfolding_all exact pw_and ha hb
theorem pw_or (ha : PT X a tA) (hb : PW X (.BoolOp .Or (b :: rest) pos) tB') : PW X (.BoolOp .Or (a :: b :: rest) pos) (tOr tA tB') := by
  intro wh pins s σ H Q I h
  refine isTrue_or (thn (ha pins s σ H _ I h) fun c s1 ⟨H1, I1, q1⟩ => ?_)
  cases c with
  | true => exact ⟨H1, I1, q1⟩
  | false => exact hb wh pins s1 σ H1 Q I1 q1
theorem zw_or (ha : ZT X a tA) (hb : ZW X (.BoolOp .Or (b :: rest) pos) tB') : ZW X (.BoolOp .Or (a :: b :: rest) pos) (tOr tA tB') := by with_unfolding_all exact pw_or ha hb
theorem pt_not (ha : PT X a tA) : PT X (.UnaryOp .Not a pos) (tNot tA) := by
  intro pins s σ H Q I h
  exact isTrue_not (ha pins s σ H (fun c H1 => Q (!c) H1) I h)
theorem zt_not (ha : ZT X a tA) : ZT X (.UnaryOp .Not a pos) (tNot tA) := by with_unfolding_all exact pt_not ha
theorem pe_one {op} {t : TE} (h : PE X a t) : PE X (.BoolOp op [a] pos) t := fun pins s σ H Q I hw => BoolOp_one (h pins s σ H Q I hw)
theorem ze_one {op} {t : TE} (h : ZE X a t) : ZE X (.BoolOp op [a] pos) t := by with_unfolding_all exact pe_one h
end
end L2
namespace L2
open PySem PySem.Spec PyProof.Rows
noncomputable def SqL (K : PySem.W.Frag) (H : Hp) (a : Addr) (xs : List V) : Prop :=
  Rd H a (.lst xs) ∨
    ∃ (o : Obj) (its : Array Value) (n : Nat), K.lookup a = some o ∧ o.cls = .type "list" ∧ o.dict = none ∧ o.data = .seq its n ∧ its.size ≤ sizeLine ∧ Vals xs its.toList
noncomputable def SqT (K : PySem.W.Frag) (H : Hp) (a : Addr) (xs : List V) : Prop :=
  Rd H a (.tup xs) ∨
    ∃ (o : Obj) (its : Array Value) (n : Nat), K.lookup a = some o ∧ o.cls = .type "tuple" ∧ o.data = .seq its n ∧ its.size ≤ sizeLine ∧ Vals xs its.toList
noncomputable def absV : Value → Option V
  | .none => some .non
  | .bool b => some (.bl b)
  | .int i _ => some (.int i)
  | .str x _ => some (.str x)
  | .bytes b _ => some (.byt b)
  | .float b _ => some (.flt b)
  | .ref a => some (.ref a)
  | .type n => some (.ty n)
  | _ => none
theorem RelV.abs {x : V} {u : Value} (r : RelV x u) : absV u = some x := by
  cases x with
  | non => cases r; rfl
  | bl _ => cases r; rfl
  | int _ => obtain ⟨t, rfl⟩ := r; rfl
  | str _ => obtain ⟨t, rfl⟩ := r; rfl
  | byt _ => obtain ⟨t, rfl⟩ := r; rfl
  | flt _ => obtain ⟨t, rfl⟩ := r; rfl
  | ref _ => cases r; rfl
  | ty _ => cases r; rfl
theorem RelV.inj {x y : V} {u : Value} (r : RelV x u) (q : RelV y u) : x = y := Option.some.inj (r.abs.symm.trans q.abs)
theorem Vals.inj : ∀ {xs ys : List V} {us : List Value}, Vals xs us → Vals ys us → xs = ys
  | _, _, _, .nil, .nil => rfl
  | _, _, _, .cons r t, .cons r' t' => by rw [r.inj r', Vals.inj t t']
section
variable {X : Cx} {pins : List (Addr × Obj)} {σ : St} {H : Hp} {s : Shared} {a : Addr} {xs ys : List V}
theorem SqL.of {K : PySem.W.Frag} (h : H a = some (.lst xs)) : SqL K H a xs := .inl (.inl h)
theorem SqT.of {K : PySem.W.Frag} (h : H a = some (.tup xs)) : SqT K H a xs := .inl (.inl h)
theorem Inv.list (I : Inv X pins σ H s) (h : SqL X.K H a xs) : ∃ its : List Value, Vals xs its ∧ PlainL s.heap a its.toArray ∧ xs.length ≤ sizeLine := by
  rcases h with h | ⟨o, its, n, hk, hc, hd, hs, hz, r⟩
  · obtain ⟨z, its, n, r, e⟩ := h.ok I.hok
    exact ⟨its, r, ⟨_, n, e, rfl, rfl, rfl⟩, z⟩
  · refine ⟨its.toList, r, ⟨o, n, I.kIn a o hk, hc, hd, by simpa using hs⟩, ?_⟩
    have e := r.length
    simp only [Array.length_toList] at e
    omega
theorem Inv.tuple (I : Inv X pins σ H s) (h : SqT X.K H a xs) : ∃ its : List Value, Vals xs its ∧ IsTup s.heap a its.toArray ∧ xs.length ≤ sizeLine := by
  rcases h with h | ⟨o, its, n, hk, hc, hs, hz, r⟩
  · obtain ⟨z, its, r, p⟩ := h.ok I.hok
    exact ⟨its, r, p.tup, z⟩
  · refine ⟨its.toList, r, ⟨o, I.kIn a o hk, hc, n, by simpa using hs⟩, ?_⟩
    have e := r.length
    simp only [Array.length_toList] at e
    omega
theorem Inv.list_inj (I : Inv X pins σ H s) (h : SqL X.K H a xs) (h' : SqL X.K H a ys) : xs = ys := by
  obtain ⟨its, r, ⟨o, n, e, _, _, d⟩, _⟩ := I.list h
  obtain ⟨its', r', ⟨o', n', e', _, _, d'⟩, _⟩ := I.list h'
  rw [e] at e'; cases e'
  rw [d] at d'
  injection d' with d1 _
  have : its = its' := by simpa using congrArg Array.toList d1
  subst this
  exact r.inj r'
theorem Inv.tuple_inj (I : Inv X pins σ H s) (h : SqT X.K H a xs) (h' : SqT X.K H a ys) : xs = ys := by
  obtain ⟨its, r, ⟨o, e, _, n, d⟩, _⟩ := I.tuple h
  obtain ⟨its', r', ⟨o', e', _, n', d'⟩, _⟩ := I.tuple h'
  rw [e] at e'; cases e'
  rw [d] at d'
  injection d' with d1 _
  have : its = its' := by simpa using congrArg Array.toList d1
  subst this
  exact r.inj r'
end
noncomputable abbrev Cx.wish (X : Cx) (E : Value → Shared → Prop) : Cx := { X with xe := E }
noncomputable abbrev Cx.nox (X : Cx) : Cx := X.wish fun _ _ => False
theorem Cx.Ok.wish {X : Cx} (ok : X.Ok) (E : Value → Shared → Prop) : (X.wish E).Ok :=
  ⟨ok.mod, ok.kind, ok.glob, ok.blt, ok.above, ok.inj, ok.has, ok.cab, ok.hd, ok.frames, ok.stk, ok.exf, ok.bs, ok.bsz, ok.noex, ok.exfs, ok.funs, ok.frf⟩
theorem Cx.Ok.unwish {X : Cx} {E : Value → Shared → Prop} (ok : (X.wish E).Ok) : X.Ok :=
  ⟨ok.mod, ok.kind, ok.glob, ok.blt, ok.above, ok.inj, ok.has, ok.cab, ok.hd, ok.frames, ok.stk, ok.exf, ok.bs, ok.bsz, ok.noex, ok.exfs, ok.funs, ok.frf⟩
section
variable {X : Cx} {pins : List (Addr × Obj)} {σ : St} {H : Hp} {s : Shared} {E : Value → Shared → Prop}
theorem Inv.wish (I : Inv X pins σ H s) (E : Value → Shared → Prop) : Inv (X.wish E) pins σ H s := ⟨I.ok.wish E, I.os, I.bare, I.base, I.loc, I.cell, I.free, I.freeC, I.pin, I.hok, I.len⟩
theorem Inv.unwish (I : Inv (X.wish E) pins σ H s) : Inv X pins σ H s := ⟨I.ok.unwish, I.os, I.bare, I.base, I.loc, I.cell, I.free, I.freeC, I.pin, I.hok, I.len⟩
theorem SP.unwish {D : Ends} {f : Flow} {s' : Shared} (h : SP (X.wish E) pins D f s') : SP X pins D f s' := by
  cases f with
  | next => obtain ⟨σ', H', I, q⟩ := h; exact ⟨σ', H', I.unwish, q⟩
  | brk => obtain ⟨σ', H', I, q⟩ := h; exact ⟨σ', H', I.unwish, q⟩
  | cont => obtain ⟨σ', H', I, q⟩ := h; exact ⟨σ', H', I.unwish, q⟩
  | ret u => obtain ⟨v, σ', H', I, r, q⟩ := h; exact ⟨v, σ', H', I.unwish, r, q⟩
theorem PSs.nox {st : List Stmt} {t : TS} (h : PSs X.nox st t) : PSs X st t := fun pins s σ H D I hw =>
  wpAny_mono (h pins s σ H D (I.wish _) hw) (fun _ _ q => q.unwish) fun _ _ z => False.elim z
end
section
variable {X : Cx} {st : Stmt} {rest : List Stmt} {t u : TS} {e : Expr} {te : TE} {pos : Pos}
noncomputable def tNext : TS := fun D σ H => D.nx σ H
noncomputable def tSeq (t u : TS) : TS := fun D σ H => t { D with nx := u D } σ H
theorem pss_nil : PSs X [] tNext := fun _ _ σ H _ I h => wpAny_execs_nil ⟨σ, H, I, h⟩
theorem zss_nil : ZSs X [] tNext := by with_unfolding_all exact pss_nil 
theorem pss_cons (h1 : PS X st t) (h2 : PSs X rest u) : PSs X (st :: rest) (tSeq t u) := by
  intro pins s σ H D I h
  refine wpAny_execs_cons (thn (h1 pins s σ H { D with nx := u D } I h) fun f s1 q => ?_)
  cases f with
  | next =>
    obtain ⟨σ', H', I', q⟩ := q
    exact h2 pins s1 σ' H' D I' q
  | ret v => exact q
  | brk => exact q
  | cont => exact q
theorem zss_cons (h1 : ZS X st t) (h2 : ZSs X rest u) : ZSs X (st :: rest) (tSeq t u) := by with_unfolding_all exact pss_cons h1 h2
theorem pss_one (h1 : PS X st t) : PSs X [st] t := by
  intro pins s σ H D I h
  refine wpAny_execs_cons (thn (h1 pins s σ H D I h) fun f s1 q => ?_)
  cases f with
  | next => exact wpAny_execs_nil q
  | ret v => exact q
  | brk => exact q
  | cont => exact q
theorem zss_one (h1 : ZS X st t) : ZSs X [st] t := by with_unfolding_all exact pss_one h1
theorem Inv.quiet {pins : List (Addr × Obj)} {σ : St} {H : Hp} {s : Shared} (I : Inv X pins σ H s) : interactive X.env = false := by simp [interactive, I.ok.kind]
noncomputable def tDrop (te : TE) : TS := fun D σ H => te σ H fun _ H1 => D.nx σ H1
theorem ps_expr (he : PE X e te) (hs : swapsWith e none pos.line X.env = pure false := by rfl) : PS X (.Expr e pos) (tDrop te) := by
  intro pins s σ H D I h
  exact wpAny_Expr_any (thn (he pins s σ H _ I h) fun v s1 ⟨x, H1, I1, r1, q1⟩ => ⟨σ, H1, I1, q1⟩) I.quiet hs
theorem zs_expr (he : ZE X e te) (hs : swapsWith e none pos.line X.env = pure false := by rfl) : ZS X (.Expr e pos) (tDrop te) := by with_unfolding_all exact ps_expr he hs
noncomputable def tRet (te : TE) : TS := fun D σ H => te σ H D.rt
theorem ps_ret (he : PE X e te) : PS X (.Return (some e) pos) (tRet te) := by
  intro pins s σ H D I h
  exact wpAny_Return_some (thn (he pins s σ H _ I h) fun v s1 ⟨x, H1, I1, r1, q1⟩ => ⟨x, σ, H1, I1, r1, q1⟩)
theorem zs_ret (he : ZE X e te) : ZS X (.Return (some e) pos) (tRet te) := by with_unfolding_all exact ps_ret he
noncomputable def tIfS (c : TT) (t u : TS) : TS := fun D σ H => c σ H fun b H1 => if b = true then t D σ H1 else u D σ H1
theorem ps_if {c : Expr} {a b : List Stmt} {tc : TT} (hc : PT X c tc) (ha : PSs X a t) (hb : PSs X b u) : PS X (.If c a b pos) (tIfS tc t u) := by
  intro pins s σ H D I h
  refine wpAny_If (thn (hc pins s σ H _ I h) fun d s1 ⟨H1, I1, q1⟩ => ?_)
  cases d with
  | true => exact ha pins s1 σ H1 D I1 q1
  | false => exact hb pins s1 σ H1 D I1 q1
theorem zs_if {c : Expr} {a b : List Stmt} {tc : TT} (hc : ZT X c tc) (ha : ZSs X a t) (hb : ZSs X b u) : ZS X (.If c a b pos) (tIfS tc t u) := by with_unfolding_all exact ps_if hc ha hb
end
noncomputable abbrev TG := V → St → Hp → (St → Hp → Prop) → Prop
noncomputable abbrev TGs := List V → St → Hp → (St → Hp → Prop) → Prop
noncomputable def PG (X : Cx) (target : Expr) (t : TG) : Prop :=
  ∀ (pins : List (Addr × Obj)) (s : Shared) (σ : St) (H : Hp) (v : V) (u : Value) (Q : St → Hp → Prop), Inv X pins σ H s → RelV v u → t v σ H Q →
    wpAny (model X.prog X.w) X.A (assign target X.env u) (fun _ s' => ∃ σ' H', Inv X pins σ' H' s' ∧ Q σ' H') X.xe s
@[irreducible] noncomputable def ZG (X : Cx) (target : Expr) (t : TG) : Prop := PG X target t
noncomputable def PGs (X : Cx) (ts : List Expr) (t : TGs) : Prop :=
  ∀ (pins : List (Addr × Obj)) (s : Shared) (σ : St) (H : Hp) (vs : List V) (us : List Value) (Q : St → Hp → Prop), Inv X pins σ H s → Vals vs us → t vs σ H Q →
    wpAny (model X.prog X.w) X.A (assignInOrder ((assignEach ts X.env).map (·.2)) us) (fun _ s' => ∃ σ' H', Inv X pins σ' H' s' ∧ Q σ' H') X.xe s
@[irreducible] noncomputable def ZGs (X : Cx) (ts : List Expr) (t : TGs) : Prop := PGs X ts t
noncomputable abbrev TSet := V → V → V → Hp → (Hp → Prop) → Prop
noncomputable def PSet (X : Cx) (t : TSet) : Prop :=
  ∀ (pins : List (Addr × Obj)) (s : Shared) (σ : St) (H : Hp) (o i v : V) (ov iv u : Value) (Q : Hp → Prop), Inv X pins σ H s → RelV o ov → RelV i iv → RelV v u → t o i v H Q →
    wpAny (model X.prog X.w) X.A (setItem ov iv u) (fun _ s' => ∃ H', Inv X pins σ H' s' ∧ Q H') X.xe s
section
variable {X : Cx} {pos : Pos}
noncomputable def gName (i : Nat) : TG := fun v σ H Q => Q (σ.set i (some v)) H
theorem pg_name {i : Nat} {x : Str} (hN : X.N.Nodup) (hi : X.N[i]? = some x) (hx : Loc X.env.scope x) (hf : X.fn x = true ∨ X.env.scope.names.lookup x = some .local := by first | exact .inl rfl | exact .inr rfl | assumption) : PG X (.Name x pos) (gName i) := by
  intro pins s σ H v u Q I r h
  exact wpAny_assign_Name (store_ok I hN hi hx r (fun s' I' => ⟨_, H, I', h⟩) hf)
theorem zg_name {i : Nat} {x : Str} (hN : X.N.Nodup) (hi : X.N[i]? = some x) (hx : Loc X.env.scope x) (hf : X.fn x = true ∨ X.env.scope.names.lookup x = some .local := by first | exact .inl rfl | exact .inr rfl | assumption) : ZG X (.Name x pos) (gName i) := by with_unfolding_all exact pg_name hN hi hx hf
noncomputable def gNil : TGs := fun vs σ H Q => vs = [] ∧ Q σ H
noncomputable def gCons (t : TG) (u : TGs) : TGs := fun vs σ H Q => ∃ v r, vs = v :: r ∧ t v σ H fun σ' H' => u r σ' H' Q
theorem pgs_nil : PGs X [] gNil := by
  intro pins s σ H vs us Q I r h
  obtain ⟨e, h⟩ := h
  subst e
  cases r
  exact assignInOrder_nil ⟨σ, H, I, h⟩
theorem zgs_nil : ZGs X [] gNil := by with_unfolding_all exact pgs_nil 
theorem pgs_cons {e : Expr} {es : List Expr} {t : TG} {u : TGs} (h1 : PG X e t) (h2 : PGs X es u)
    (hs : (assignEach (e :: es) X.env).map (·.2) = assign e X.env :: (assignEach es X.env).map (·.2) := by rfl) : PGs X (e :: es) (gCons t u) := by
  intro pins s σ H vs us Q I r h
  obtain ⟨v, vr, e1, h⟩ := h
  subst e1
  cases r with
  | cons r rr =>
    rw [hs]
    refine assignInOrder_cons (thn (h1 pins s σ H _ _ _ I r h) fun _ s1 ⟨σ1, H1, I1, q1⟩ => ?_)
    exact h2 pins s1 σ1 H1 _ _ Q I1 rr q1
theorem zgs_cons {e : Expr} {es : List Expr} {t : TG} {u : TGs} (h1 : ZG X e t) (h2 : ZGs X es u)
    (hs : (assignEach (e :: es) X.env).map (·.2) = assign e X.env :: (assignEach es X.env).map (·.2) := by rfl) : ZGs X (e :: es) (gCons t u) := by with_unfolding_all exact pgs_cons h1 h2 hs
noncomputable def gTup (K : PySem.W.Frag) (n : Nat) (t : TGs) : TG := fun v σ H Q => ∃ a xs, v = .ref a ∧ SqT K H a xs ∧ xs.length = n ∧ t xs σ H Q
theorem pg_tup {es : List Expr} {k : Nat} {t : TGs} {n : Nat} (hc : X.calm = true) (h : PGs X es t)
    (hn : (assignEach es X.env).length = n := by rfl) (hst : (assignEach es X.env).findIdx? (·.1) = none := by rfl) : PG X (.Tuple es k pos) (gTup X.K n t) := by
  intro pins s σ H v u Q I r hw
  obtain ⟨a, xs, e1, hq, hl, hw⟩ := hw
  subst e1
  cases r
  obtain ⟨its, rv, ht, hz⟩ := I.tuple hq
  refine assign_Tuple_tuple (I.ok.hd hc) ht (by simp [hn, ← hl, rv.length]) hst fun h' hx => ?_
  have I1 : Inv X pins σ H { s with heap := h' } := I.kept (t' := s.toks) fun b o e => hx b o (Nat.ne_of_lt (Heap.lt_size e)) e
  exact h pins _ σ H xs _ Q I1 (by simpa using rv) hw
theorem zg_tup {es : List Expr} {k : Nat} {t : TGs} {n : Nat} (hc : X.calm = true) (h : ZGs X es t)
    (hn : (assignEach es X.env).length = n := by rfl) (hst : (assignEach es X.env).findIdx? (·.1) = none := by rfl) : ZG X (.Tuple es k pos) (gTup X.K n t) := by with_unfolding_all exact pg_tup hc h hn hst
noncomputable def gSub (to ti : TE) (t : TSet) : TG := fun v σ H Q => to σ H fun o H1 => ti σ H1 fun i H2 => t o i v H2 fun H3 => Q σ H3
theorem pg_sub {o i : Expr} {to ti : TE} {t : TSet} (ho : PE X o to) (hi : PE X i ti) (hs : PSet X t)
    (ha : ∀ v, assign (.Subscript o i pos) X.env v = (do
      let ov ← holding [v] (eval o X.env)
      let iv ← holding [v, ov] (eval i X.env)
      standAt pos
      holding [v, ov, iv] (setItem ov iv v)
      release [v, ov, iv] []) := by intro _; rfl) : PG X (.Subscript o i pos) (gSub to ti t) := by
  intro pins s σ H v u Q I r h
  rw [ha]
  refine wpAny_bind (wpAny_holding (thn (ho pins s σ H _ I h) fun ov s1 ⟨x, H1, I1, r1, q1⟩ => ?_))
  refine wpAny_bind (wpAny_holding (thn (hi pins s1 σ H1 _ I1 q1) fun iv s2 ⟨y, H2, I2, r2, q2⟩ => ?_))
  refine wpAny_bind (wpAny_standAt (wpAny_bind (wpAny_holding (thn (hs pins s2 σ H2 x y v ov iv u _ I2 r1 r2 r q2) fun _ s3 ⟨H3, I3, q3⟩ => ?_))))
  exact wpAny_release ⟨σ, H3, I3, q3⟩
theorem zg_sub {o i : Expr} {to ti : TE} {t : TSet} (ho : ZE X o to) (hi : ZE X i ti) (hs : PSet X t)
    (ha : ∀ v, assign (.Subscript o i pos) X.env v = (do
      let ov ← holding [v] (eval o X.env)
      let iv ← holding [v, ov] (eval i X.env)
      standAt pos
      holding [v, ov, iv] (setItem ov iv v)
      release [v, ov, iv] []) := by intro _; rfl) : ZG X (.Subscript o i pos) (gSub to ti t) := by with_unfolding_all exact pg_sub ho hi hs ha
noncomputable def tAsg (te : TE) (g : TG) : TS := fun D σ H => te σ H fun x H1 => g x σ H1 D.nx
theorem ps_asg {tg e : Expr} {te : TE} {g : TG} (he : PE X e te) (hg : PG X tg g) (hs : swapsWithSole [tg] e pos.line X.env = pure false := by rfl) (hw : swappedStores [tg] e X.env = pure none := by rfl)
    (h1 : (assignEach [tg] X.env).map (·.2) = [assign tg X.env] := by rfl) : PS X (.Assign [tg] e pos) (tAsg te g) := by
  intro pins s σ H D I h
  refine wpAny_Assign_stores (thn (he pins s σ H _ I h) fun v s1 ⟨x, H1, I1, r1, q1⟩ => ?_) hs hw
  rw [h1]
  exact thn (hg pins s1 σ H1 x v _ I1 r1 q1) fun _ s2 q => q
theorem zs_asg {tg e : Expr} {te : TE} {g : TG} (he : ZE X e te) (hg : ZG X tg g) (hs : swapsWithSole [tg] e pos.line X.env = pure false := by rfl) (hw : swappedStores [tg] e X.env = pure none := by rfl)
    (h1 : (assignEach [tg] X.env).map (·.2) = [assign tg X.env] := by rfl) : ZS X (.Assign [tg] e pos) (tAsg te g) := by with_unfolding_all exact ps_asg he hg hs hw h1
theorem ps_set {i : Nat} {x : Str} {e : Expr} {te : TE} {pos' : Pos} (hN : X.N.Nodup) (hi : X.N[i]? = some x) (hx : Loc X.env.scope x) (he : PE X e te) (hs : swapsWith e (some (.Name x pos')) pos.line X.env = pure false := by rfl) (hf : X.fn x = true ∨ X.env.scope.names.lookup x = some .local := by first | exact .inl rfl | exact .inr rfl | assumption) :
    PS X (.Assign [.Name x pos'] e pos) (tAsg te (gName i)) := by
  intro pins s σ H D I h
  refine wpAny_Assign_Name (thn (he pins s σ H _ I h) fun v s1 ⟨y, H1, I1, r1, q1⟩ => ?_) hs
  exact store_ok I1 hN hi hx r1 (fun s2 I2 => ⟨_, H1, I2, q1⟩) hf
theorem zs_set {i : Nat} {x : Str} {e : Expr} {te : TE} {pos' : Pos} (hN : X.N.Nodup) (hi : X.N[i]? = some x) (hx : Loc X.env.scope x) (he : ZE X e te) (hs : swapsWith e (some (.Name x pos')) pos.line X.env = pure false := by rfl) (hf : X.fn x = true ∨ X.env.scope.names.lookup x = some .local := by first | exact .inl rfl | exact .inr rfl | assumption) :
    ZS X (.Assign [.Name x pos'] e pos) (tAsg te (gName i)) := by with_unfolding_all exact ps_set hN hi hx he hs hf
noncomputable def tPar (i j : Nat) (ta : TA) : TS := fun D σ H => ta σ H fun vs H1 => ∃ v w, vs = [v, w] ∧ D.nx ((σ.set i (some v)).set j (some w)) H1
theorem ps_par {i j : Nat} {x y : Str} {a b : Expr} {ta : TA} {px py pt : Pos} {kt k2 pt2} (hc : X.calm = true) (hN : X.N.Nodup) (hi : X.N[i]? = some x) (hj : X.N[j]? = some y) (hij : i ≠ j)
    (hx : X.env.scope.names.lookup x = some .local) (hy : X.env.scope.names.lookup y = some .local) (ha : PA X [a, b] ta)
    (hw : swappedStores [.Tuple [.Name x px, .Name y py] kt pt] (.Tuple [a, b] k2 pt2) X.env = pure (some [x, y]))
    (hs : swapsWithSole [.Tuple [.Name x px, .Name y py] kt pt] (.Tuple [a, b] k2 pt2) pos.line X.env = pure false := by rfl) :
    PS X (.Assign [.Tuple [.Name x px, .Name y py] kt pt] (.Tuple [a, b] k2 pt2) pos) (tPar i j ta) := by
  intro pins s σ H D I h
  rw [exec_Assign_arm]
  refine wpAny_bind (wpAny_standAt ?_)
  rw [hs]
  refine wpAny_bind (wpAny_pure ?_)
  rw [if_neg (by decide)]
  refine wpAny_bind (Tuple_ (thn (ha _ pins s σ H _ I h) fun us s1 ⟨vs, H1, I1, r1, q1⟩ => ?_))
  obtain ⟨v, w, e1, q1⟩ := q1
  subst e1
  obtain ⟨u1, u2, rfl, rv, rw'⟩ : ∃ u1 u2, us = [u1, u2] ∧ RelV v u1 ∧ RelV w u2 := by
    cases r1 with
    | cons p q =>
      cases q with
      | cons p' q' =>
        cases q'
        exact ⟨_, _, rfl, p, p'⟩
  refine wpAny_newObj_type ?_ (by show 2 ≤ sizeLine; decide)
  have I2 : Inv X pins σ H1 { s1 with heap := s1.heap.push { cls := .type "tuple", data := .seq [u1, u2].toArray } } := I1.kept (t' := s1.toks) fun b o e => Heap.get?_push_of_some _ e
  rw [hw]
  refine wpAny_bind (wpAny_pure ?_)
  show wpAny (model X.prog X.w) X.A (do rule "assign.swapped-stores"; let items ← unpackItems (.ref s1.heap.objs.size) 2 none; assignInOrder [fun v => bindName X.env y v, fun v => bindName X.env x v] items.reverse; pure Flow.next) _ _ _
  refine wpAny_bind (wpAny_rule (wpAny_bind (unpackItems_tuple (items := #[u1, u2]) (I.ok.hd hc) (IsTup.new s1.heap _) fun h' hx' => ?_)))
  have I3 := I2.kept (h' := h') (t' := s1.toks) fun b o e => hx' b o (Nat.ne_of_lt (Heap.lt_size e)) e
  show wpAny _ _ (assignInOrder [fun v => bindName X.env y v, fun v => bindName X.env x v] [u2, u1] >>= fun _ => pure Flow.next) _ _ _
  refine wpAny_bind (assignInOrder_cons (wpAny_bindName (store_ok I3 hN hj (.inl hy) rw' (fun s2 I4 => ?_) (.inr hy))))
  refine assignInOrder_cons (wpAny_bindName (store_ok I4 hN hi (.inl hx) rv (fun s3 I5 => assignInOrder_nil (wpAny_pure ?_)) (.inr hx)))
  rw [List.set_comm _ _ (Ne.symm hij)] at I5
  exact ⟨_, H1, I5, q1⟩
theorem zs_par {i j : Nat} {x y : Str} {a b : Expr} {ta : TA} {px py pt : Pos} {kt k2 pt2} (hc : X.calm = true) (hN : X.N.Nodup) (hi : X.N[i]? = some x) (hj : X.N[j]? = some y) (hij : i ≠ j)
    (hx : X.env.scope.names.lookup x = some .local) (hy : X.env.scope.names.lookup y = some .local) (ha : ZA X [a, b] ta)
    (hw : swappedStores [.Tuple [.Name x px, .Name y py] kt pt] (.Tuple [a, b] k2 pt2) X.env = pure (some [x, y]))
    (hs : swapsWithSole [.Tuple [.Name x px, .Name y py] kt pt] (.Tuple [a, b] k2 pt2) pos.line X.env = pure false := by rfl) :
    ZS X (.Assign [.Tuple [.Name x px, .Name y py] kt pt] (.Tuple [a, b] k2 pt2) pos) (tPar i j ta) := by with_unfolding_all exact ps_par hc hN hi hj hij hx hy ha hw hs
end
section
variable {X : Cx} {pos : Pos}
end
structure It where
  go : Nat → Hp → Prop
  yld : Nat → Hp → V → Hp → Prop
  stop : Nat → Hp → Prop
noncomputable def FpOk (X : Cx) (pins : List (Addr × Obj)) (H : Hp) (b : Addr) : Prop :=
  H b = none ∧ b ≠ X.env.locals ∧ b ∉ X.fs ∧ (b ∈ X.ex ∨ X.s₀.heap.objs.size ≤ b) ∧ (∀ x c, X.env.cells.lookup x = some c → c ≠ b) ∧ ∀ p ∈ X.pn ++ pins, p.1 ≠ b
theorem Inv.fpOk {X : Cx} {pins : List (Addr × Obj)} {σ : St} {H H' : Hp} {s : Shared} {b : Addr} (I : Inv X pins σ H s) (hb : s.heap.objs.size ≤ b) (hn : H' b = none) : FpOk X pins H' b := by
  refine ⟨hn, Nat.ne_of_gt (Nat.lt_of_lt_of_le I.lt hb), I.nofs hb, .inr (Nat.le_trans I.sz hb), fun x c e z => ?_, fun p hp z => ?_⟩
  · obtain ⟨v, q⟩ := I.cell x c e
    exact absurd (Nat.lt_of_lt_of_le q.lt (by rw [z]; exact hb)) (Nat.lt_irrefl _)
  · exact absurd (Nat.lt_of_lt_of_le (Heap.lt_size (I.pin p hp).1) (by rw [z]; exact hb)) (Nat.lt_irrefl _)
structure Turn (P : Program) (w : World) (K : PySem.W.Frag) (tg : Expr) (J : It) (fp : List Addr) (it : Addr) (tn : Nat → Heap → Prop) : Prop where
  mem : it ∈ fp
  obj : ∀ i h, tn i h → ∀ b ∈ fp, ∃ o, h.get? b = some o ∧ ∀ v, o.data ≠ .cell v
  keep : ∀ i h h', tn i h → (∀ b ∈ fp, ∀ o, h.get? b = some o → h'.get? b = some o) → tn i h'
  item : ∀ (X : Cx), X.prog = P → X.w = w → X.K = K → X.calm = true → ∀ (i : Nat) (pins : List (Addr × Obj)) (s : Shared) (σ : St) (H : Hp) (E : Value → Shared → Prop), Inv X pins σ H s → (∀ b ∈ fp, FpOk X pins H b) → tn i s.heap → J.go i H →
    wpAny (model P w) X.A (pyNext (.ref it)) (fun r s1 => ∃ u, r = some u ∧
      wpAny (model P w) X.A (letOwnedTupleGo tg (.ref it) u) (fun _ s2 => ∃ x H', Inv X pins σ H' s2 ∧ RelV x u ∧ J.yld i H x H' ∧ tn (i + 1) s2.heap ∧ ∀ b ∈ fp, H' b = none) E s1) E s
  done : ∀ (X : Cx), X.prog = P → X.w = w → X.K = K → X.calm = true → ∀ (i : Nat) (pins : List (Addr × Obj)) (s : Shared) (σ : St) (H : Hp) (E : Value → Shared → Prop), Inv X pins σ H s → (∀ b ∈ fp, FpOk X pins H b) → tn i s.heap → J.stop i H →
    wpAny (model P w) X.A (pyNext (.ref it)) (fun r s1 => r = none ∧ Inv X pins σ H s1) E s
  self : ∀ (A : Around) (i : Nat) (s : Shared) (Q : Value → Shared → Prop) (E : Value → Shared → Prop), tn i s.heap → Q (.ref it) s → wpAny (model P w) A (pyIter (.ref it)) Q E s
noncomputable abbrev TI := St → Hp → (It → Hp → Prop) → Prop
noncomputable def PIE (X : Cx) (pins : List (Addr × Obj)) (σ : St) (tg : Expr) (R : It → Hp → Prop) (itv : Value) (s2 : Shared) : Prop :=
  ∃ (it : Addr) (fp : List Addr) (tn : Nat → Heap → Prop) (J : It) (H' : Hp), itv = .ref it ∧ Inv X pins σ H' s2 ∧ Turn X.prog X.w X.K tg J fp it tn ∧ tn 0 s2.heap ∧ (∀ b ∈ fp, FpOk X pins H' b) ∧ R J H'
noncomputable def PI (X : Cx) (tg iter : Expr) (wi : TI) : Prop :=
  ∀ (pins : List (Addr × Obj)) (s : Shared) (σ : St) (H : Hp) (R : It → Hp → Prop), Inv X pins σ H s → wi σ H R →
    wpAny (model X.prog X.w) X.A (eval iter X.env) (fun v s1 => wpAny (model X.prog X.w) X.A (pyIter v) (PIE X pins σ tg R) X.xe s1) X.xe s
@[irreducible] noncomputable def ZI (X : Cx) (tg iter : Expr) (wi : TI) : Prop := PI X tg iter wi
theorem go_of {M : Model} {A : Around} {E : Value → Shared → Prop} {s : Shared} {tg : Expr} {it : Addr} {u : Value} {o : Obj} {n : String} {vs : Array Value} {Q : Unit → Shared → Prop} (ho : s.heap.get? it = some o) (hc : o.cls = .type n) (hd : o.data = .fields vs)
    (hn : ["enumerate", "zip", "dict_itemiterator", "dict_reverseitemiterator", "odict_iterator", "itertools.zip_longest", "itertools.pairwise"].contains n = false) (hQ : Q () s) : wpAny M A (letOwnedTupleGo tg (.ref it) u) Q E s := by
  unfold letOwnedTupleGo
  cases tg <;> first
    | exact wpAny_pure hQ
    | (cases u <;> first
        | exact wpAny_pure hQ
        | (refine wpAny_bind (wpAny_load ho ?_)
           rw [hc, hd]
           show wpAny M A (if (["enumerate", "zip", "dict_itemiterator", "dict_reverseitemiterator", "odict_iterator", "itertools.zip_longest", "itertools.pairwise"].contains n && vs[0]? == some (rawInt _)) = true then _ else _) Q E s
           rw [if_neg (by intro h; rw [hn, Bool.false_and] at h; cases h)]
           exact wpAny_pure hQ))

noncomputable def Itl (K : PySem.W.Frag) (a : Addr) : It :=
  ⟨fun i H => ∃ xs x, SqL K H a xs ∧ xs[i]? = some x, fun i H x H' => H' = H ∧ ∀ xs, SqL K H a xs → xs[i]? = some x, fun i H => ∃ xs, SqL K H a xs ∧ xs.length ≤ i⟩
noncomputable def Itt (K : PySem.W.Frag) (a : Addr) : It :=
  ⟨fun i H => ∃ xs x, SqT K H a xs ∧ xs[i]? = some x, fun i H x H' => H' = H ∧ ∀ xs, SqT K H a xs → xs[i]? = some x, fun i H => ∃ xs, SqT K H a xs ∧ xs.length ≤ i⟩
noncomputable def Itr (lo : Int) (n : Nat) : It := ⟨fun i _ => i < n, fun i H x H' => H' = H ∧ x = .int (lo + i), fun i _ => n ≤ i⟩
theorem turn_list {P : Program} {w : World} {K : PySem.W.Frag} {tg : Expr} (a it : Addr) : Turn P w K tg (Itl K a) [it] it (fun i h => h.IsListIter it a i) where
  mem := by simp
  obj := fun i h st b hb => by
    have e : b = it := by simpa using hb
    subst e
    obtain ⟨o, e, c, d⟩ := st
    exact ⟨o, e, fun v z => by rw [d] at z; cases z⟩
  keep := fun i h h' st k => st.at fun o e => k it (by simp) o e
  item := by
    intro X hP hw hK hc i pins s σ H E I hf st hg
    subst hP hw hK
    obtain ⟨xs, x, hq, hx⟩ := hg
    obtain ⟨its, rv, p, hz⟩ := I.list hq
    obtain ⟨u, hu, ru⟩ := rv.get hx
    obtain ⟨f0, f1, f2, f3, f4, f5⟩ := hf it (by simp)
    refine wpAny_pyNext_list_item st p.isList (x := u) (by simpa using hu) fun h' st' sb => ?_
    have I1 : Inv X pins σ H { s with heap := h' } := I.turned (t' := s.toks) (fun b o hb e => (sb.2 b hb).trans e) f0 f1 f3 f4 f5
    obtain ⟨o, e, c, d⟩ := id st'
    exact ⟨u, rfl, go_of (s := { s with heap := h' }) e c d (by decide) ⟨x, H, I1, ru, ⟨rfl, fun ys hy => by rw [I.list_inj hy hq]; exact hx⟩, st', fun b hb => (hf b hb).1⟩⟩
  done := by
    intro X hP hw hK hc i pins s σ H E I hf st hg
    subst hP hw hK
    obtain ⟨xs, hq, hx⟩ := hg
    obtain ⟨its, rv, p, hz⟩ := I.list hq
    obtain ⟨f0, f1, f2, f3, f4, f5⟩ := hf it (by simp)
    have hl := rv.length
    exact wpAny_pyNext_list_end (I.ok.hd hc) st p.isList (by simp; omega) fun h' eb => ⟨rfl, I.turned (t' := s.toks) (fun b o hb e => eb b o hb e) f0 f1 f3 f4 f5⟩
  self := fun _ _ _ _ _ st h => wpAny_pyIter_listiter st h
theorem turn_tuple {P : Program} {w : World} {K : PySem.W.Frag} {tg : Expr} (a it : Addr) : Turn P w K tg (Itt K a) [it] it (fun i h => h.IsTupleIter it a i) where
  mem := by simp
  obj := fun i h st b hb => by
    have e : b = it := by simpa using hb
    subst e
    obtain ⟨o, e, c, d⟩ := st
    exact ⟨o, e, fun v z => by rw [d] at z; cases z⟩
  keep := fun i h h' st k => st.at fun o e => k it (by simp) o e
  item := by
    intro X hP hw hK hc i pins s σ H E I hf st hg
    subst hP hw hK
    obtain ⟨xs, x, hq, hx⟩ := hg
    obtain ⟨its, rv, p, hz⟩ := I.tuple hq
    obtain ⟨u, hu, ru⟩ := rv.get hx
    obtain ⟨f0, f1, f2, f3, f4, f5⟩ := hf it (by simp)
    refine wpAny_pyNext_tuple_item st (show s.heap.IsTuple a its.toArray from p) (x := u) (by simpa using hu) fun h' st' sb => ?_
    have I1 : Inv X pins σ H { s with heap := h' } := I.turned (t' := s.toks) (fun b o hb e => (sb.2 b hb).trans e) f0 f1 f3 f4 f5
    obtain ⟨o, e, c, d⟩ := id st'
    exact ⟨u, rfl, go_of (s := { s with heap := h' }) e c d (by decide) ⟨x, H, I1, ru, ⟨rfl, fun ys hy => by rw [I.tuple_inj hy hq]; exact hx⟩, st', fun b hb => (hf b hb).1⟩⟩
  done := by
    intro X hP hw hK hc i pins s σ H E I hf st hg
    subst hP hw hK
    obtain ⟨xs, hq, hx⟩ := hg
    obtain ⟨its, rv, p, hz⟩ := I.tuple hq
    obtain ⟨f0, f1, f2, f3, f4, f5⟩ := hf it (by simp)
    have hl := rv.length
    exact wpAny_pyNext_tuple_end (I.ok.hd hc) st (show s.heap.IsTuple a its.toArray from p) (by simp; omega) fun h' eb => ⟨rfl, I.turned (t' := s.toks) (fun b o hb e => eb b o hb e) f0 f1 f3 f4 f5⟩
  self := fun _ _ _ _ _ st h => wpAny_pyIter_tupleiter st h
theorem turn_range {P : Program} {w : World} {K : PySem.W.Frag} {tg : Expr} (it : Addr) (lo : Int) (n : Nat) : Turn P w K tg (Itr lo n) [it] it (fun i h => IsRangeIter h it (lo + (i : Nat) * 1) ((n : Int) - (i : Nat)) 1) where
  mem := by simp
  obj := fun i h st b hb => by
    have e : b = it := by simpa using hb
    subst e
    exact ⟨_, st, fun v z => by
      have z' : Data.fields _ = Data.cell v := z
      cases z'⟩
  keep := fun i h h' st k => k it (by simp) _ st
  item := by
    intro X hP hw hK hc i pins s σ H E I hf st hg
    subst hP hw hK
    obtain ⟨f0, f1, f2, f3, f4, f5⟩ := hf it (by simp)
    have W := Walks.range (prog := X.prog) (w := X.w) (I.ok.hd hc) it lo 1 n
    refine W.item i s _ _ hg st fun v h' tk hv st' kk => ?_
    obtain ⟨t, rfl⟩ := hv
    have I1 : Inv X pins σ H { s with heap := h', toks := tk } := I.turned (fun b o hb e => kk b o (by simpa using hb) e) f0 f1 f3 f4 f5
    refine ⟨_, rfl, go_of (s := { s with heap := h', toks := tk }) (n := "range_iterator") st' rfl rfl (by decide) ⟨.int (lo + i), H, I1, ⟨t, ?_⟩, ⟨rfl, rfl⟩, st', fun b hb => (hf b hb).1⟩⟩
    rw [Int.mul_one]
  done := by
    intro X hP hw hK hc i pins s σ H E I hf st hg
    subst hP hw hK
    obtain ⟨f0, f1, f2, f3, f4, f5⟩ := hf it (by simp)
    exact wpAny_pyNext_range_end (I.ok.hd hc) st (by have : n ≤ i := hg; omega) fun h' eb => ⟨rfl, I.turned (t' := s.toks) (fun b o hb e => eb b o hb e) f0 f1 f3 f4 f5⟩
  self := fun _ _ _ _ _ st h => wpAny_pyIter_rangeiter st h
end L2
namespace L2
open PySem PySem.Spec PyProof.Rows
section
variable {X : Cx} {tg : Expr}
noncomputable def iList (K : PySem.W.Frag) (tl : TE) : TI := fun σ H R => tl σ H fun x H1 => ∃ a, x = .ref a ∧ (∃ xs, SqL K H1 a xs) ∧ R (Itl K a) H1
noncomputable def iTup (K : PySem.W.Frag) (tl : TE) : TI := fun σ H R => tl σ H fun x H1 => ∃ a, x = .ref a ∧ (∃ xs, SqT K H1 a xs) ∧ R (Itt K a) H1
theorem pi_list {l : Expr} {tl : TE} (hl : PE X l tl) : PI X tg l (iList X.K tl) := by
  intro pins s σ H R I h
  refine thn (hl pins s σ H _ I h) fun v s1 ⟨x, H1, I1, r1, q1⟩ => ?_
  obtain ⟨a, e, ⟨xs, hq⟩, q⟩ := q1
  subst e
  cases r1
  obtain ⟨its, rv, p, hz⟩ := I1.list hq
  refine wpAny_pyIter_list p.isList ?_
  refine ⟨s1.heap.objs.size, [s1.heap.objs.size], _, _, H1, rfl, I1.kept (t' := s1.toks) fun b o e => Heap.get?_push_of_some _ e, turn_list a _, ⟨_, Heap.get?_push_size _ rfl, rfl, rfl⟩, fun b hb => ?_, q⟩
  have e : b = s1.heap.objs.size := by simpa using hb
  subst e
  exact I1.fpOk (Nat.le_refl _) (I1.hok.fresh (Nat.le_refl _))
theorem zi_list {l : Expr} {tl : TE} (hl : ZE X l tl) : ZI X tg l (iList X.K tl) := by with_unfolding_all exact pi_list hl
theorem pi_tup {l : Expr} {tl : TE} (hl : PE X l tl) : PI X tg l (iTup X.K tl) := by
  intro pins s σ H R I h
  refine thn (hl pins s σ H _ I h) fun v s1 ⟨x, H1, I1, r1, q1⟩ => ?_
  obtain ⟨a, e, ⟨xs, hq⟩, q⟩ := q1
  subst e
  cases r1
  obtain ⟨its, rv, p, hz⟩ := I1.tuple hq
  refine wpAny_pyIter_tuple (show s1.heap.IsTuple a its.toArray from p) ?_
  refine ⟨s1.heap.objs.size, [s1.heap.objs.size], _, _, H1, rfl, I1.kept (t' := s1.toks) fun b o e => Heap.get?_push_of_some _ e, turn_tuple a _, ⟨_, Heap.get?_push_size _ rfl, rfl, rfl⟩, fun b hb => ?_, q⟩
  have e : b = s1.heap.objs.size := by simpa using hb
  subst e
  exact I1.fpOk (Nat.le_refl _) (I1.hok.fresh (Nat.le_refl _))
theorem zi_tup {l : Expr} {tl : TE} (hl : ZE X l tl) : ZI X tg l (iTup X.K tl) := by with_unfolding_all exact pi_tup hl
theorem range_it {pins : List (Addr × Obj)} {σ : St} {H : Hp} {s : Shared} {R : It → Hp → Prop} {E : Value → Shared → Prop} {lo hi : Int} {t u v : Tok} {tk : Nat} (I : Inv X pins σ H s) (h1 : -(2 ^ 62) ≤ lo) (h2 : lo < 2 ^ 62) (h3 : -(2 ^ 62) ≤ hi) (h4 : hi < 2 ^ 62)
    (q : R (Itr lo (hi - lo).toNat) H) : wpAny (model X.prog X.w) X.A (pyIter (.ref s.heap.objs.size)) (PIE X pins σ tg R) E { s with heap := s.heap.push { cls := .type "range", data := .fields #[.int lo t, .int hi u, .int 1 v] }, toks := tk } := by
  refine wpAny_pyIter_range (IsRange.new ..) (small_one h1 h2 h3 h4) ?_
  have I1 : Inv X pins σ H { s with heap := s.heap.push { cls := .type "range", data := .fields #[.int lo t, .int hi u, .int 1 v] }, toks := tk } := I.kept fun b o e => Heap.get?_push_of_some _ e
  refine ⟨(s.heap.push { cls := .type "range", data := .fields #[.int lo t, .int hi u, .int 1 v] }).objs.size, [(s.heap.push { cls := .type "range", data := .fields #[.int lo t, .int hi u, .int 1 v] }).objs.size], _, _, H, rfl,
    I1.kept (t' := tk) fun b o e => Heap.get?_push_of_some _ e, turn_range _ lo (hi - lo).toNat, ?_, fun b hb => ?_, q⟩
  · have e1 : lo + ((0 : Nat) : Int) * 1 = lo := by simp
    have e2 : (((hi - lo).toNat : Nat) : Int) - ((0 : Nat) : Int) = Builtin.Range.rangeSize lo hi 1 := by rw [rangeSize_one]; split <;> omega
    show IsRangeIter _ _ (lo + ((0 : Nat) : Int) * 1) ((((hi - lo).toNat : Nat) : Int) - ((0 : Nat) : Int)) 1
    rw [e1, e2]
    exact Heap.get?_push_size _ rfl
  · have e : b = (s.heap.push { cls := .type "range", data := .fields #[.int lo t, .int hi u, .int 1 v] }).objs.size := by simpa using hb
    subst e
    exact I1.fpOk (Nat.le_refl _) (I1.hok.fresh (Nat.le_refl _))
noncomputable def iRng1 (ta : TA) : TI := fun σ H R => ta σ H fun vs H1 => ∃ j : Int, vs = [.int j] ∧ -(2 ^ 62) ≤ j ∧ j < 2 ^ 62 ∧ R (Itr 0 j.toNat) H1
noncomputable def iRng2 (ta : TA) : TI := fun σ H R => ta σ H fun vs H1 => ∃ i j : Int, vs = [.int i, .int j] ∧ (-(2 ^ 62) ≤ i ∧ i < 2 ^ 62 ∧ -(2 ^ 62) ≤ j ∧ j < 2 ^ 62) ∧ R (Itr i (j - i).toNat) H1
theorem pi_range1 {a : Expr} {ta : TA} {p pos : Pos} (hg : Gl X "range") (hm : X.mg "range" = none) (ha : PA X [a] ta) (hs : starEach [a] X.env = [(false, eval a X.env)] := by rfl) : PI X tg (.Call (.Name "range" p) [a] [] pos) (iRng1 ta) := by
  intro pins s σ H R I h
  refine Call_ (ld_blt I hg hm boot_range (PyProof.Rows.callWith_type1 (thn (ha pos pins s σ H _ I h) fun us s1 ⟨vs, H1, I1, r1, q1⟩ => ?_) hs rfl))
  obtain ⟨j, e, q1, q2, q⟩ := q1
  subst e
  cases r1 with
  | cons r rr =>
    cases rr
    obtain ⟨t, rfl⟩ := r
    exact call_range_1 (range_it I1 (by omega) (by omega) q1 q2 (by simpa using q))
theorem zi_range1 {a : Expr} {ta : TA} {p pos : Pos} (hg : Gl X "range") (hm : X.mg "range" = none) (ha : ZA X [a] ta) (hs : starEach [a] X.env = [(false, eval a X.env)] := by rfl) : ZI X tg (.Call (.Name "range" p) [a] [] pos) (iRng1 ta) := by with_unfolding_all exact pi_range1 hg hm ha hs
theorem pi_range2 {a b : Expr} {ta : TA} {p pos : Pos} (hg : Gl X "range") (hm : X.mg "range" = none) (ha : PA X [a, b] ta) (hs : starEach [a, b] X.env = [(false, eval a X.env), (false, eval b X.env)] := by rfl) (hs2 : starEach [b] X.env = [(false, eval b X.env)] := by rfl) :
    PI X tg (.Call (.Name "range" p) [a, b] [] pos) (iRng2 ta) := by
  intro pins s σ H R I h
  refine Call_ (ld_blt I hg hm boot_range (PyProof.Rows.callWith_type1 (thn (ha pos pins s σ H _ I h) fun us s1 ⟨vs, H1, I1, r1, q1⟩ => ?_) (by rw [hs, hs2]) (by rw [hs2]; rfl)))
  obtain ⟨i, j, e, ⟨q1, q2, q3, q4⟩, q⟩ := q1
  subst e
  cases r1 with
  | cons r rr =>
    cases rr with
    | cons r' rr =>
      cases rr
      obtain ⟨t, rfl⟩ := r
      obtain ⟨t', rfl⟩ := r'
      exact call_range_2 (range_it I1 q1 q2 q3 q4 q)
theorem zi_range2 {a b : Expr} {ta : TA} {p pos : Pos} (hg : Gl X "range") (hm : X.mg "range" = none) (ha : ZA X [a, b] ta) (hs : starEach [a, b] X.env = [(false, eval a X.env), (false, eval b X.env)] := by rfl) (hs2 : starEach [b] X.env = [(false, eval b X.env)] := by rfl) :
    ZI X tg (.Call (.Name "range" p) [a, b] [] pos) (iRng2 ta) := by with_unfolding_all exact pi_range2 hg hm ha hs hs2

noncomputable def tFor (wi : TI) (g : TG) (tb : TS) : TS := fun D σ H => wi σ H fun J H1 => ∃ W : Nat → Nat → St → Hp → Prop, (∃ m, W 0 m σ H1) ∧ ∀ i m σ H, W i m σ H →
  (J.stop i H ∧ D.nx σ H) ∨ (J.go i H ∧ ∃ N : St → Hp → Prop, (∀ σ' H', N σ' H' → ∃ m', m' < m ∧ W (i + 1) m' σ' H') ∧ ∀ x H', J.yld i H x H' → g x σ H' fun σ2 H2 => tb { D with nx := N, ct := N, bk := D.nx } σ2 H2)
noncomputable def pinsAt (fp : List Addr) (h : Heap) : List (Addr × Obj) := fp.filterMap fun b => (h.get? b).map fun o => (b, o)
theorem mem_pinsAt {fp : List Addr} {h : Heap} {b : Addr} {o : Obj} (hb : b ∈ fp) (e : h.get? b = some o) : (b, o) ∈ pinsAt fp h := List.mem_filterMap.mpr ⟨b, hb, by rw [e]; rfl⟩
theorem of_pinsAt {fp : List Addr} {h : Heap} {p : Addr × Obj} (hp : p ∈ pinsAt fp h) : p.1 ∈ fp ∧ h.get? p.1 = some p.2 := by
  obtain ⟨b, hb, e⟩ := List.mem_filterMap.mp hp
  cases q : h.get? b with
  | none => rw [q] at e; cases e
  | some o =>
    rw [q] at e
    have e' : (b, o) = p := Option.some.inj e
    subst e'
    exact ⟨hb, q⟩
theorem Inv.pinned {pins : List (Addr × Obj)} {σ : St} {H : Hp} {s : Shared} {fp : List Addr} (I : Inv X pins σ H s) (hf : ∀ b ∈ fp, FpOk X pins H b) (ho : ∀ b ∈ fp, ∃ o, s.heap.get? b = some o ∧ ∀ v, o.data ≠ .cell v) : Inv X (pins ++ pinsAt fp s.heap) σ H s :=
  I.pins_of fun p hp => (List.mem_append.mp hp).elim (fun z => I.pin p (List.mem_append_right _ z)) fun z => by
    obtain ⟨hb, e⟩ := of_pinsAt z
    obtain ⟨f0, f1, f2, _⟩ := hf p.1 hb
    obtain ⟨o, e', d⟩ := ho p.1 hb
    rw [e] at e'; cases e'
    exact ⟨e, f0, f1, f2, d⟩
theorem Inv.unpinned {pins pl : List (Addr × Obj)} {σ : St} {H : Hp} {s : Shared} (I : Inv X (pins ++ pl) σ H s) : Inv X pins σ H s := I.pins_of fun p hp => I.pin p (List.mem_append_right _ (List.mem_append_left _ hp))
theorem ps_for {iter : Expr} {body : List Stmt} {wi : TI} {g : TG} {tb : TS} {pos : Pos} (hp : PassesOwn (model X.prog X.w) X.A X.env X.xe) (hc : X.calm = true) (hi : PI X tg iter wi) (hg : PG X tg g) (hb : PSs X body tb)
    (hs : ∀ x, foldedSetIterable iter X.env x = pure x := by intro _; rfl) : PS X (.For tg iter body [] pos) (tFor wi g tb) := by
  intro pins s σ H D I h
  refine wpAny_For (thn (hi pins s σ H _ I h) fun v s1 h1 => thn h1 fun itv s2 h2 => ?_) hs
  obtain ⟨it, fp, tn, J, H2, e, I2, T, st2, f2, W, ⟨m0, w0⟩, turn⟩ := h2
  subst e
  -- what stays true of the iterator's objects through the loop
  have stat : ∀ {H' : Hp}, (∀ b ∈ fp, H' b = none) → ∀ b ∈ fp, FpOk X pins H' b := fun hn b hb => ⟨hn b hb, (f2 b hb).2⟩
  refine codeAny_forLoop_any (fun n s' => ∃ i σ' H', Inv X pins σ' H' s' ∧ tn i s'.heap ∧ (∀ b ∈ fp, H' b = none) ∧ W i n σ' H') ?_ m0 ⟨0, σ, H2, I2, st2, fun b hb => (f2 b hb).1, w0⟩
  rintro n s3 ⟨i, σ3, H3, I3, st3, fr3, w3⟩
  rcases turn i n σ3 H3 w3 with ⟨stop, qn⟩ | ⟨go, N, hN, step⟩
  · refine wpAny_passesOwn hp (thn (T.done X rfl rfl rfl hc i pins s3 σ3 H3 X.xe I3 (stat fr3) st3 stop) fun r s4 ⟨hr, I4⟩ => ?_)
    subst hr
    exact wpAny_execs_nil ⟨σ3, H3, I4, qn⟩
  · refine wpAny_passesOwn hp (thn (T.item X rfl rfl rfl hc i pins s3 σ3 H3 X.xe I3 (stat fr3) st3 go) fun r s4 ⟨u, hr, h4⟩ => ?_)
    subst hr
    refine wpAny_passesOwn hp (thn h4 fun _ s5 ⟨x, H5, I5, r5, y5, st5, fr5⟩ => ?_)
    have I5' := I5.pinned (stat fr5) (T.obj _ _ st5)
    refine wpAny_passesOwn hp (thn (hg _ s5 σ3 H5 x u _ I5' r5 (step x H5 y5)) fun _ s6 ⟨σ6, H6, I6, q6⟩ => ?_)
    refine wpAny_passesOwn hp (thn (hb _ s6 σ6 H6 _ I6 q6) fun f s7 q7 => ?_)
    have again : ∀ {σ7 : St} {H7 : Hp}, Inv X (pins ++ pinsAt fp s5.heap) σ7 H7 s7 → N σ7 H7 → ∃ m, m < n ∧ ∃ i σ' H', Inv X pins σ' H' s7 ∧ tn i s7.heap ∧ (∀ b ∈ fp, H' b = none) ∧ W i m σ' H' := fun {σ7 H7} I7 n7 => by
      obtain ⟨m', hm, w7⟩ := hN σ7 H7 n7
      refine ⟨m', hm, i + 1, σ7, H7, I7.unpinned, T.keep _ _ _ st5 fun b hb o e => (I7.pin (b, o) (List.mem_append_right _ (List.mem_append_right _ (mem_pinsAt hb e)))).1, fun b hb => ?_, w7⟩
      obtain ⟨o, e, d⟩ := T.obj _ _ st5 b hb
      exact (I7.pin (b, o) (List.mem_append_right _ (List.mem_append_right _ (mem_pinsAt hb e)))).2.1
    cases f with
    | next => obtain ⟨σ7, H7, I7, n7⟩ := q7; exact again I7 n7
    | cont => obtain ⟨σ7, H7, I7, n7⟩ := q7; exact again I7 n7
    | brk => obtain ⟨σ7, H7, I7, q7⟩ := q7; exact ⟨σ7, H7, I7.unpinned, q7⟩
    | ret v => obtain ⟨x7, σ7, H7, I7, r7, q7⟩ := q7; exact ⟨x7, σ7, H7, I7.unpinned, r7, q7⟩
theorem zs_for {iter : Expr} {body : List Stmt} {wi : TI} {g : TG} {tb : TS} {pos : Pos} (hp : PassesOwn (model X.prog X.w) X.A X.env X.xe) (hc : X.calm = true) (hi : ZI X tg iter wi) (hg : ZG X tg g) (hb : ZSs X body tb)
    (hs : ∀ x, foldedSetIterable iter X.env x = pure x := by intro _; rfl) : ZS X (.For tg iter body [] pos) (tFor wi g tb) := by with_unfolding_all exact ps_for hp hc hi hg hb hs
end
theorem for_tup {K : PySem.W.Frag} {a : Addr} {xs : List V} {g : TG} {tb : TS} {D : Ends} {σ : St} {H : Hp} (Pv : Nat → St → Hp → Prop) (h0 : Pv 0 σ H) (hl : ∀ i σ H, i ≤ xs.length → Pv i σ H → SqT K H a xs)
    (hs : ∀ i x σ H, xs[i]? = some x → Pv i σ H → g x σ H fun σ2 H2 => tb { D with nx := Pv (i + 1), ct := Pv (i + 1), bk := D.nx } σ2 H2) (hd : ∀ σ H, Pv xs.length σ H → D.nx σ H) :
    ∃ W : Nat → Nat → St → Hp → Prop, (∃ m, W 0 m σ H) ∧ ∀ i m σ H, W i m σ H →
      ((Itt K a).stop i H ∧ D.nx σ H) ∨ ((Itt K a).go i H ∧ ∃ N : St → Hp → Prop, (∀ σ' H', N σ' H' → ∃ m', m' < m ∧ W (i + 1) m' σ' H') ∧ ∀ x H', (Itt K a).yld i H x H' → g x σ H' fun σ2 H2 => tb { D with nx := N, ct := N, bk := D.nx } σ2 H2) := by
  refine ⟨fun i m σ H => m = xs.length - i ∧ i ≤ xs.length ∧ Pv i σ H, ⟨xs.length, by simp, Nat.zero_le _, h0⟩, ?_⟩
  rintro i m σ H ⟨rfl, hi, p⟩
  have q := hl i σ H hi p
  by_cases hlt : i < xs.length
  · refine .inr ⟨⟨xs, xs[i], q, by simp [hlt]⟩, Pv (i + 1), fun σ' H' p' => ⟨xs.length - (i + 1), by omega, rfl, hlt, p'⟩, fun x H' y => ?_⟩
    obtain ⟨e, y⟩ := y
    subst e
    exact hs i x σ _ (y xs q) p
  · have e : i = xs.length := by omega
    subst e
    exact .inl ⟨⟨xs, q, Nat.le_refl _⟩, hd σ H p⟩
theorem for_range {lo : Int} {n : Nat} {g : TG} {tb : TS} {D : Ends} {σ : St} {H : Hp} (Pv : Nat → St → Hp → Prop) (h0 : Pv 0 σ H)
    (hs : ∀ i σ H, i < n → Pv i σ H → g (.int (lo + i)) σ H fun σ2 H2 => tb { D with nx := Pv (i + 1), ct := Pv (i + 1), bk := D.nx } σ2 H2) (hd : ∀ σ H, Pv n σ H → D.nx σ H) :
    ∃ W : Nat → Nat → St → Hp → Prop, (∃ m, W 0 m σ H) ∧ ∀ i m σ H, W i m σ H →
      ((Itr lo n).stop i H ∧ D.nx σ H) ∨ ((Itr lo n).go i H ∧ ∃ N : St → Hp → Prop, (∀ σ' H', N σ' H' → ∃ m', m' < m ∧ W (i + 1) m' σ' H') ∧ ∀ x H', (Itr lo n).yld i H x H' → g x σ H' fun σ2 H2 => tb { D with nx := N, ct := N, bk := D.nx } σ2 H2) := by
  refine ⟨fun i m σ H => m = n - i ∧ i ≤ n ∧ Pv i σ H, ⟨n, by simp, Nat.zero_le _, h0⟩, ?_⟩
  rintro i m σ H ⟨rfl, hi, p⟩
  by_cases hlt : i < n
  · refine .inr ⟨hlt, Pv (i + 1), fun σ' H' p' => ⟨n - (i + 1), by omega, rfl, hlt, p'⟩, fun x H' y => ?_⟩
    obtain ⟨e, y⟩ := y
    subst e y
    exact hs i σ _ hlt p
  · have e : i = n := by omega
    subst e
    exact .inl ⟨Nat.le_refl _, hd σ H p⟩
end L2
namespace L2
open PySem PySem.Spec PyProof.Rows
noncomputable abbrev R2 := V → V → Hp → VK → Prop
noncomputable def OpR (X : Cx) (f : Value → Value → Sem Value) (r : R2) : Prop :=
  ∀ (pins : List (Addr × Obj)) (s : Shared) (σ : St) (H : Hp) (x y : V) (v u : Value) (Q : VK), Inv X pins σ H s → RelV x v → RelV y u → r x y H Q →
    wpAny (model X.prog X.w) X.A (f v u) (EP X pins σ Q) X.xe s
noncomputable def UnR (X : Cx) (f : Value → Sem Value) (r : V → Hp → VK → Prop) : Prop :=
  ∀ (pins : List (Addr × Obj)) (s : Shared) (σ : St) (H : Hp) (x : V) (v : Value) (Q : VK), Inv X pins σ H s → RelV x v → r x H Q →
    wpAny (model X.prog X.w) X.A (f v) (EP X pins σ Q) X.xe s
noncomputable def CallR (X : Cx) (f : Value) (r : List V → Hp → VK → Prop) : Prop :=
  ∀ (pins : List (Addr × Obj)) (s : Shared) (σ : St) (H : Hp) (xs : List V) (us : List Value) (Q : VK), Inv X pins σ H s → Vals xs us → r xs H Q →
    wpAny (model X.prog X.w) X.A (call f us) (EP X pins σ Q) X.xe s
noncomputable def TruR (X : Cx) (r : V → Hp → (Bool → Hp → Prop) → Prop) : Prop :=
  ∀ (pins : List (Addr × Obj)) (s : Shared) (σ : St) (H : Hp) (x : V) (v : Value) (Q : Bool → Hp → Prop), Inv X pins σ H s → RelV x v → r x H Q →
    wpAny (model X.prog X.w) X.A (truthy v) (TP X pins σ Q) X.xe s

noncomputable def tOp (r : R2) (ta tb : TE) : TE := fun σ H Q => ta σ H fun x H1 => tb σ H1 fun y H2 => r x y H2 Q
noncomputable def tUn (r : V → Hp → VK → Prop) (ta : TE) : TE := fun σ H Q => ta σ H fun x H1 => r x H1 Q
noncomputable def rI (C : Int → Int → Prop) (g : Int → Int → V) : R2 := fun x y H Q => ∃ i j, x = .int i ∧ y = .int j ∧ C i j ∧ Q (g i j) H
noncomputable def rI0 (g : Int → Int → V) : R2 := fun x y H Q => ∃ i j, x = .int i ∧ y = .int j ∧ Q (g i j) H
noncomputable def rU (g : Int → V) : V → Hp → VK → Prop := fun x H Q => ∃ i, x = .int i ∧ Q (g i) H

section
variable {X : Cx} {a b c : Expr} {ta tb tc : TE} {pos : Pos}
theorem binT (ha : PE X a ta) (hb : PE X b tb) {pins : List (Addr × Obj)} {s : Shared} {σ : St} {H : Hp} {R : V → V → Hp → Prop} (I : Inv X pins σ H s)
    (h : ta σ H fun x H1 => tb σ H1 fun y H2 => R x y H2) {Q : Value → Shared → Prop} {f : Value → Value → Sem Value}
    (hf : ∀ v u s2 x y H2, Inv X pins σ H2 s2 → RelV x v → RelV y u → R x y H2 → wpAny (model X.prog X.w) X.A (f v u) Q X.xe s2) :
    wpAny (model X.prog X.w) X.A (eval a X.env) (fun v s₁ => wpAny (model X.prog X.w) X.A (eval b X.env) (fun u s₂ => wpAny (model X.prog X.w) X.A (f v u) Q X.xe s₂) X.xe s₁) X.xe s := by
  refine thn (ha pins s σ H _ I h) fun v s1 ⟨x, H1, I1, r1, q1⟩ => ?_
  refine thn (hb pins s1 σ H1 _ I1 q1) fun u s2 ⟨y, H2, I2, r2, q2⟩ => ?_
  exact hf v u s2 x y H2 I2 r1 r2 q2

theorem pe_op {op : Operator} {r : R2} (ho : OpR X (binaryOp op) r) (ha : PE X a ta) (hb : PE X b tb) : PE X (.BinOp a op b pos) (tOp r ta tb) := by
  intro pins s σ H Q I h
  exact wpAny_BinOp (binT ha hb I h fun v u s2 x y H2 I2 rx ry q => ho pins s2 σ H2 x y v u Q I2 rx ry q)
theorem ze_op {op : Operator} {r : R2} (ho : OpR X (binaryOp op) r) (ha : ZE X a ta) (hb : ZE X b tb) : ZE X (.BinOp a op b pos) (tOp r ta tb) := by with_unfolding_all exact pe_op ho ha hb
theorem pe_un {op : UnaryOp} {r : V → Hp → VK → Prop} (ho : UnR X (unaryOp op) r) (ha : PE X a ta) : PE X (.UnaryOp op a pos) (tUn r ta) := by
  intro pins s σ H Q I h
  exact UnaryOp_ (thn (ha pins s σ H _ I h) fun v s1 ⟨x, H1, I1, r1, q1⟩ => ho pins s1 σ H1 x v Q I1 r1 q1)
theorem ze_un {op : UnaryOp} {r : V → Hp → VK → Prop} (ho : UnR X (unaryOp op) r) (ha : ZE X a ta) : ZE X (.UnaryOp op a pos) (tUn r ta) := by with_unfolding_all exact pe_un ho ha
theorem opI {f : Value → Value → Sem Value} {C : Int → Int → Prop} {g : Int → Int → Int}
    (rule : ∀ (i j : Int) (t u : Tok) (s : Shared) (Q : Value → Shared → Prop) (E : Value → Shared → Prop), C i j → Q (.int (g i j) s.toks) { s with toks := s.toks + 1 } → wpAny (model X.prog X.w) X.A (f (.int i t) (.int j u)) Q E s) :
    OpR X f (rI C fun i j => .int (g i j)) := by
  intro pins s σ H x y v u Q I rx ry h
  obtain ⟨i, j, rfl, rfl, hc, q⟩ := h
  obtain ⟨t, rfl⟩ := rx
  obtain ⟨t', rfl⟩ := ry
  exact rule i j t t' s _ _ hc ⟨.int (g i j), H, I.tok _, ⟨_, rfl⟩, q⟩
theorem opI0 {f : Value → Value → Sem Value} {g : Int → Int → Int}
    (rule : ∀ (i j : Int) (t u : Tok) (s : Shared) (Q : Value → Shared → Prop) (E : Value → Shared → Prop), Q (.int (g i j) s.toks) { s with toks := s.toks + 1 } → wpAny (model X.prog X.w) X.A (f (.int i t) (.int j u)) Q E s) :
    OpR X f (rI0 fun i j => .int (g i j)) := by
  intro pins s σ H x y v u Q I rx ry h
  obtain ⟨i, j, rfl, rfl, q⟩ := h
  obtain ⟨t, rfl⟩ := rx
  obtain ⟨t', rfl⟩ := ry
  exact rule i j t t' s _ _ ⟨.int (g i j), H, I.tok _, ⟨_, rfl⟩, q⟩
theorem opB0 {f : Value → Value → Sem Value} {g : Int → Int → Bool}
    (rule : ∀ (i j : Int) (t u : Tok) (s : Shared) (Q : Value → Shared → Prop) (E : Value → Shared → Prop), Q (.bool (g i j)) s → wpAny (model X.prog X.w) X.A (f (.int i t) (.int j u)) Q E s) :
    OpR X f (rI0 fun i j => .bl (g i j)) := by
  intro pins s σ H x y v u Q I rx ry h
  obtain ⟨i, j, rfl, rfl, q⟩ := h
  obtain ⟨t, rfl⟩ := rx
  obtain ⟨t', rfl⟩ := ry
  exact rule i j t t' s _ _ ⟨.bl (g i j), H, I, rfl, q⟩

noncomputable def CDiv (i j : Int) : Prop := 0 < j ∧ j < 1073741824
noncomputable def CPow (i j : Int) : Prop := 0 ≤ j ∧ j ≤ 1000000 ∧ i.natAbs < 2 ^ 64
theorem op_add : OpR X (binaryOp .Add) (rI0 fun i j => .int (i + j)) := opI0 fun _ _ _ _ _ _ _ q => add_int q
theorem op_sub : OpR X (binaryOp .Sub) (rI0 fun i j => .int (i - j)) := opI0 fun _ _ _ _ _ _ _ q => sub_int q
theorem op_fdiv : OpR X (binaryOp .FloorDiv) (rI CDiv fun i j => .int (i / j)) := opI fun i j _ _ _ _ _ hc q => by
  have h1 : (0 : Int) < j := hc.1
  have h2 : j < 1073741824 := hc.2
  exact floordiv_int (by omega) (by rw [Int.fdiv_eq_ediv_of_nonneg i (by omega)]; exact q) (.inl (PyProof.noPylong_small (by omega)))
theorem op_mod : OpR X (binaryOp .Mod) (rI (fun _ j => 0 < j) fun i j => .int (i % j)) := opI fun i j _ _ _ _ _ hc q => by
  have h1 : (0 : Int) < j := hc
  exact mod_int' (by omega) (by rw [Int.fmod_eq_emod_of_nonneg i (by omega)]; exact q)
theorem op_pow : OpR X (binaryOp .Pow) (rI CPow fun i j => .int (i ^ j.toNat)) := opI fun _ _ _ _ _ _ _ hc q => pow_int_small hc.1 hc.2.1 hc.2.2 q
theorem unI {f : Value → Sem Value} {g : Int → Int}
    (rule : ∀ (i : Int) (t : Tok) (s : Shared) (Q : Value → Shared → Prop) (E : Value → Shared → Prop), Q (.int (g i) s.toks) { s with toks := s.toks + 1 } → wpAny (model X.prog X.w) X.A (f (.int i t)) Q E s) :
    UnR X f (rU fun i => .int (g i)) := by
  intro pins s σ H x v Q I rx h
  obtain ⟨i, rfl, q⟩ := h
  obtain ⟨t, rfl⟩ := rx
  exact rule i t s _ _ ⟨.int (g i), H, I.tok _, ⟨_, rfl⟩, q⟩
theorem un_neg : UnR X (unaryOp .USub) (rU fun i => .int (-i)) := unI fun _ _ _ _ _ q => neg_int q
end
noncomputable def scal : V → V → Bool
  | .non, .non => true | .non, .int _ => true | .int _, .non => true | .non, .bl _ => true | .bl _, .non => true | .non, .str _ => true | .str _, .non => true
  | .int _, .int _ => true | .bl _, .bl _ => true | .str _, .str _ => true | .byt _, .byt _ => true
  | .int _, .str _ => true | .str _, .int _ => true | .bl _, .str _ => true | .str _, .bl _ => true
  | _, _ => false
noncomputable def rEq : R2 := fun x y H Q => scal x y = true ∧ Q (.bl (decide (x = y))) H
noncomputable def rNe : R2 := fun x y H Q => scal x y = true ∧ Q (.bl (!decide (x = y))) H

theorem dec_int {i j : Int} : decide (V.int i = V.int j) = (i == j) := by
  rw [Bool.eq_iff_iff]
  simp
theorem dec_bl {i j : Bool} : decide (V.bl i = V.bl j) = (i == j) := by
  rw [Bool.eq_iff_iff]
  simp
theorem dec_str {i j : Str} : decide (V.str i = V.str j) = (i == j) := by
  rw [Bool.eq_iff_iff]
  simp
theorem dec_byt {i j : Array UInt8} : decide (V.byt i = V.byt j) = (i.toList == j.toList) := by
  rw [Bool.eq_iff_iff]
  cases i
  cases j
  simp

section
variable {X : Cx} {a b c : Expr} {ta tb tc : TE} {pos : Pos}
theorem fin_bl {pins : List (Addr × Obj)} {σ : St} {H : Hp} {s : Shared} {Q : VK} {k k' : Bool} (I : Inv X pins σ H s) (q : Q (.bl k) H) (e : k = k') : EP X pins σ Q (.bool k') s := by
  subst e
  exact ⟨.bl k, H, I, rfl, q⟩
theorem op_eq : OpR X (compareOp .Eq) rEq := by
  intro pins s σ H x y v u Q I rx ry h
  obtain ⟨hs, q⟩ := h
  cases x with
  | non =>
    cases rx
    cases y with
    | non => cases ry; exact PySem.EqNone.eq_none_none (fin_bl I q (by simp))
    | bl j => cases ry; exact PySem.EqNone.eq_none_bool (fin_bl I q (by simp))
    | int j => obtain ⟨t', rfl⟩ := ry; exact PySem.EqNone.eq_none_int (fin_bl I q (by simp))
    | str j => obtain ⟨t', rfl⟩ := ry; exact PySem.EqNone.eq_none_str (fin_bl I q (by simp))
    | _ => exact absurd (show false = true from hs) Bool.false_ne_true
  | bl i =>
    cases rx
    cases y with
    | non => cases ry; exact PySem.EqNone.eq_bool_none (fin_bl I q (by simp))
    | bl j => cases ry; exact eq_bool (fin_bl I q dec_bl)
    | str j => obtain ⟨t', rfl⟩ := ry; exact PySem.EqMixed.eq_bool_str (fin_bl I q (by simp))
    | _ => exact absurd (show false = true from hs) Bool.false_ne_true
  | int i =>
    obtain ⟨t, rfl⟩ := rx
    cases y with
    | non => cases ry; exact PySem.EqNone.eq_int_none (fin_bl I q (by simp))
    | int j => obtain ⟨t', rfl⟩ := ry; exact eq_int (fin_bl I q dec_int)
    | str j => obtain ⟨t', rfl⟩ := ry; exact PySem.EqMixed.eq_int_str (fin_bl I q (by simp))
    | _ => exact absurd (show false = true from hs) Bool.false_ne_true
  | str i =>
    obtain ⟨t, rfl⟩ := rx
    cases y with
    | non => cases ry; exact PySem.EqNone.eq_str_none (fin_bl I q (by simp))
    | bl j => cases ry; exact PySem.EqMixed.eq_str_bool (fin_bl I q (by simp))
    | int j => obtain ⟨t', rfl⟩ := ry; exact PySem.EqMixed.eq_str_int (fin_bl I q (by simp))
    | str j => obtain ⟨t', rfl⟩ := ry; exact eq_str (fin_bl I q dec_str)
    | _ => exact absurd (show false = true from hs) Bool.false_ne_true
  | byt i =>
    obtain ⟨t, rfl⟩ := rx
    cases y with
    | byt j => obtain ⟨t', rfl⟩ := ry; exact PySem.W.eq_bytes (fin_bl I q dec_byt)
    | _ => exact absurd (show false = true from hs) Bool.false_ne_true
  | _ => cases y <;> exact absurd (show false = true from hs) Bool.false_ne_true
theorem op_ne : OpR X (compareOp .NotEq) rNe := by
  intro pins s σ H x y v u Q I rx ry h
  obtain ⟨hs, q⟩ := h
  cases x with
  | non =>
    cases rx
    cases y with
    | non => cases ry; exact PySem.EqNone.ne_none_none (fin_bl I q (by simp))
    | bl j => cases ry; exact PySem.EqNone.ne_none_bool (fin_bl I q (by simp))
    | int j => obtain ⟨t', rfl⟩ := ry; exact PySem.EqNone.ne_none_int (fin_bl I q (by simp))
    | str j => obtain ⟨t', rfl⟩ := ry; exact PySem.EqNone.ne_none_str (fin_bl I q (by simp))
    | _ => exact absurd (show false = true from hs) Bool.false_ne_true
  | bl i =>
    cases rx
    cases y with
    | non => cases ry; exact PySem.EqNone.ne_bool_none (fin_bl I q (by simp))
    | bl j => cases ry; exact ne_bool (fin_bl I q (congrArg not dec_bl))
    | str j => obtain ⟨t', rfl⟩ := ry; exact PySem.EqMixed.ne_bool_str (fin_bl I q (by simp))
    | _ => exact absurd (show false = true from hs) Bool.false_ne_true
  | int i =>
    obtain ⟨t, rfl⟩ := rx
    cases y with
    | non => cases ry; exact PySem.EqNone.ne_int_none (fin_bl I q (by simp))
    | int j => obtain ⟨t', rfl⟩ := ry; exact ne_int (fin_bl I q (congrArg not dec_int))
    | str j => obtain ⟨t', rfl⟩ := ry; exact PySem.EqMixed.ne_int_str (fin_bl I q (by simp))
    | _ => exact absurd (show false = true from hs) Bool.false_ne_true
  | str i =>
    obtain ⟨t, rfl⟩ := rx
    cases y with
    | non => cases ry; exact PySem.EqNone.ne_str_none (fin_bl I q (by simp))
    | bl j => cases ry; exact PySem.EqMixed.ne_str_bool (fin_bl I q (by simp))
    | int j => obtain ⟨t', rfl⟩ := ry; exact PySem.EqMixed.ne_str_int (fin_bl I q (by simp))
    | str j => obtain ⟨t', rfl⟩ := ry; exact ne_str (fin_bl I q (congrArg not dec_str))
    | _ => exact absurd (show false = true from hs) Bool.false_ne_true
  | byt i =>
    obtain ⟨t, rfl⟩ := rx
    cases y with
    | byt j => obtain ⟨t', rfl⟩ := ry; exact PySem.W.ne_bytes (fin_bl I q (congrArg not dec_byt))
    | _ => exact absurd (show false = true from hs) Bool.false_ne_true
  | _ => cases y <;> exact absurd (show false = true from hs) Bool.false_ne_true

theorem op_lt : OpR X (compareOp .Lt) (rI0 fun i j => .bl (decide (i < j))) := opB0 fun _ _ _ _ _ _ _ q => lt_int q
theorem op_gt : OpR X (compareOp .Gt) (rI0 fun i j => .bl (decide (j < i))) := opB0 fun _ _ _ _ _ _ _ q => gt_int q
theorem op_ge : OpR X (compareOp .GtE) (rI0 fun i j => .bl (decide (j ≤ i))) := opB0 fun _ _ _ _ _ _ _ q => ge_int q
theorem op_isN : OpR X (compareOp .Is) (fun x y H Q => y = .non ∧ Q (.bl (decide (x = .non))) H) := by
  intro pins s σ H x y v u Q I rx ry h
  obtain ⟨rfl, q⟩ := h
  cases ry
  refine is_none_gen (fin_bl I q ?_)
  cases x <;> first
    | (cases rx; rfl)
    | (obtain ⟨t, rfl⟩ := rx; rfl)
theorem op_notN : OpR X (compareOp .IsNot) (fun x y H Q => y = .non ∧ Q (.bl (!decide (x = .non))) H) := by
  intro pins s σ H x y v u Q I rx ry h
  obtain ⟨rfl, q⟩ := h
  cases ry
  refine isnot_none_gen (fin_bl I q ?_)
  cases x <;> first
    | (cases rx; rfl)
    | (obtain ⟨t, rfl⟩ := rx; rfl)

theorem nomark (b : Expr) {op : CmpOp} (h : op ≠ .In := by decide) (h2 : op ≠ .NotIn := by decide) : behindInMarks op b = false := by
  have e1 : (op == CmpOp.In) = false := by cases op <;> first | rfl | exact absurd rfl h
  have e2 : (op == CmpOp.NotIn) = false := by cases op <;> first | rfl | exact absurd rfl h2
  cases b <;> simp [behindInMarks, e1, e2]
theorem pe_cmpR {op : CmpOp} {r : R2} (ho : OpR X (compareOp op) r) (ha : PE X a ta) (hb : PE X b tb) (hm : behindInMarks op b = false) : PE X (.Compare a [op] [b] pos) (tOp r ta tb) := by
  intro pins s σ H Q I h
  exact wpAny_Compare1 (binT ha hb I h fun v u s2 x y H2 I2 rx ry q => ho pins s2 σ H2 x y v u Q I2 rx ry q) hm
theorem ze_cmpR {op : CmpOp} {r : R2} (ho : OpR X (compareOp op) r) (ha : ZE X a ta) (hb : ZE X b tb) (hm : behindInMarks op b = false) : ZE X (.Compare a [op] [b] pos) (tOp r ta tb) := by with_unfolding_all exact pe_cmpR ho ha hb hm
noncomputable def TruV (K : PySem.W.Frag) (x : V) (H : Hp) (k : Bool) : Prop :=
  match x with
  | .non => k = false
  | .bl b => k = b
  | .int i => k = (i != 0)
  | .str y => y.length ≤ sizeLine ∧ k = ((y.length : Int) != 0)
  | .byt y => y.size ≤ sizeLine ∧ k = ((y.size : Int) != 0)
  | .ref p => (∃ xs, SqL K H p xs ∧ k = !xs.isEmpty) ∨ (∃ xs, SqT K H p xs ∧ k = !xs.isEmpty) ∨ ∃ kvs, H p = some (.dK kvs) ∧ k = !kvs.isEmpty
  | _ => False
theorem isEmpty_kv {κ : Type} {kvs : List (κ × V)} {vs : List (κ × Value)} (r : KV kvs vs) : (!vs.isEmpty) = !kvs.isEmpty := by
  cases r <;> rfl
theorem isEmpty_of {xs : List V} {its : List Value} (r : Vals xs its) : (!its.toArray.isEmpty) = !xs.isEmpty := by
  cases r <;> simp
theorem line63 : (sizeLine : Nat) < 2 ^ 63 := by rw [sizeLine_eq]; decide
theorem tru_ok : TruR X (fun x H Q => ∃ k, TruV X.K x H k ∧ Q k H) := by
  intro pins s σ H x v Q I rx h
  obtain ⟨k, e, q⟩ := h
  have hl := line63
  have hs : sizeLine = 16777216 := sizeLine_eq
  cases x with
  | non =>
    cases rx
    have e' : k = false := e
    subst e'
    exact truthy_none ⟨H, I, q⟩
  | bl b =>
    cases rx
    have e' : k = b := e
    subst e'
    exact wpAny_truthy_bool ⟨H, I, q⟩
  | int i =>
    obtain ⟨t, rfl⟩ := rx
    have e' : k = (i != 0) := e
    subst e'
    exact PySem.P.truthy_int ⟨H, I, q⟩
  | str y =>
    obtain ⟨t, rfl⟩ := rx
    obtain ⟨hy, e'⟩ : y.length ≤ sizeLine ∧ k = ((y.length : Int) != 0) := e
    subst e'
    exact PySem.P.truthy_str (by omega) ⟨H, I.tok _, q⟩
  | byt y =>
    obtain ⟨t, rfl⟩ := rx
    obtain ⟨hy, e'⟩ : y.size ≤ sizeLine ∧ k = ((y.size : Int) != 0) := e
    subst e'
    exact PySem.W.truthy_bytes (by omega) ⟨H, I.tok _, q⟩
  | ref p =>
    cases rx
    have e' : (∃ xs, SqL X.K H p xs ∧ k = !xs.isEmpty) ∨ (∃ xs, SqT X.K H p xs ∧ k = !xs.isEmpty) ∨ ∃ kvs, H p = some (.dK kvs) ∧ k = !kvs.isEmpty := e
    rcases e' with ⟨xs, hx, e'⟩ | ⟨xs, hx, e'⟩ | ⟨kvs, hx, e'⟩
    · subst e'
      obtain ⟨its, r, pl, hz⟩ := I.list hx
      have hlen := r.length
      exact wpAny_truthy_list pl.isList (by simp only [List.size_toArray]; omega) ⟨H, I.tok _, by rw [isEmpty_of r]; exact q⟩
    · subst e'
      obtain ⟨its, r, pl, hz⟩ := I.tuple hx
      have hlen := r.length
      exact truthy_tuple pl (by simp only [List.size_toArray]; omega) ⟨H, I.tok _, by rw [isEmpty_of r]; exact q⟩
    · subst e'
      obtain ⟨hz, hS, vs, r, m⟩ : kvs.length ≤ sizeLine ∧ (p == sysModules) = false ∧ ∃ vs, KV kvs vs ∧ s.heap.DictOf (mixKind X.prog X.w) p vs := I.hok p _ hx
      have hlen : kvs.length = vs.length := Paired.length r
      exact wpAny_truthy_dict hS m (by omega) ⟨H, I.tok _, by rw [isEmpty_kv r]; exact q⟩
  | _ => exact (show False from e).elim
theorem op_add_str : OpR X (binaryOp .Add) (fun x y H Q => ∃ i j, x = .str i ∧ y = .str j ∧ i.length + j.length ≤ sizeLine ∧ Q (.str (i ++ j)) H) := by
  intro pins s σ H x y v u Q I rx ry h
  obtain ⟨i, j, rfl, rfl, hz, q⟩ := h
  obtain ⟨t, rfl⟩ := rx
  obtain ⟨t', rfl⟩ := ry
  exact add_str (fun t' tk => ⟨.str (i ++ j), H, I.tok _, ⟨_, rfl⟩, q⟩) hz
theorem vals1 {x : V} {us : List Value} (r : Vals [x] us) : ∃ u, us = [u] ∧ RelV x u := by
  cases r with
  | cons r1 r2 => cases r2; exact ⟨_, rfl, r1⟩
theorem vals2 {x y : V} {us : List Value} (r : Vals [x, y] us) : ∃ u w', us = [u, w'] ∧ RelV x u ∧ RelV y w' := by
  cases r with
  | cons r1 r2 =>
    cases r2 with
    | cons r3 r4 => cases r4; exact ⟨_, _, rfl, r1, r3⟩
theorem call_max2 (hc : X.calm = true) : CallR X (.builtin "max") (fun xs H Q => ∃ i j, xs = [.int i, .int j] ∧ Q (.int (if j > i then j else i)) H) := by
  intro pins s σ H xs us Q I r h
  obtain ⟨i, j, rfl, q⟩ := h
  obtain ⟨u, w', rfl, ⟨t, rfl⟩, ⟨t', rfl⟩⟩ := vals2 r
  refine max_two_ints (I.ok.hd hc) fun h' tk k => ⟨_, H, I.kept k, ?_, q⟩
  by_cases hj : j > i
  · rw [if_pos hj, if_pos hj]; exact ⟨_, rfl⟩
  · rw [if_neg hj, if_neg hj]; exact ⟨_, rfl⟩
theorem call_min2 (hc : X.calm = true) : CallR X (.builtin "min") (fun xs H Q => ∃ i j, xs = [.int i, .int j] ∧ Q (.int (if j < i then j else i)) H) := by
  intro pins s σ H xs us Q I r h
  obtain ⟨i, j, rfl, q⟩ := h
  obtain ⟨u, w', rfl, ⟨t, rfl⟩, ⟨t', rfl⟩⟩ := vals2 r
  refine min_two_ints (I.ok.hd hc) fun h' tk k => ⟨_, H, I.kept k, ?_, q⟩
  by_cases hj : j < i
  · rw [if_pos hj, if_pos hj]; exact ⟨_, rfl⟩
  · rw [if_neg hj, if_neg hj]; exact ⟨_, rfl⟩
end
end L2
namespace L2
open PySem PySem.Spec PyProof.Rows
structure ObjM (h : Heap) (x dx C : Addr) (mA : Str → Option Value) : Prop where
  obj : h.get? x = some (PySem.W.instObj C dx)
  ns : h.Ns1 dx mA
  ne : dx ≠ x

theorem lookIn_ns {h : Heap} {dx : Addr} {mA : Str → Option Value} (n : h.Ns1 dx mA) : ∃ od, h.get? dx = some od ∧ ∀ name, PySem.W.lookIn name od = some (mA name) := by
  obtain ⟨o, es, ep, ho, hd, hk, _, hm⟩ := n
  refine ⟨o, ho, fun name => ?_⟩
  have e := hm name
  unfold nsFind findBy at e
  rw [← Array.find?_toList] at e
  unfold PySem.W.lookIn
  rw [hd]
  dsimp only
  split
  · rename_i y q
    rw [q] at e
    exact congrArg some e
  · rename_i q
    rw [q] at e
    have a : es.toList.any (·.refKey) = false := by
      rw [List.any_eq_false]
      intro y hy
      obtain ⟨z, t, hkey⟩ := hk y (Array.mem_toList_iff.mp hy)
      simp [DictEntry.refKey, hkey]
    have a' : ¬ es.toList.any (·.refKey) = true := by rw [a]; exact Bool.false_ne_true
    rw [if_neg a']
    exact congrArg some e

theorem ObjM.look {h : Heap} {x dx C : Addr} {mA : Str → Option Value} (I : ObjM h x dx C mA) : ∃ od, PySem.W.InstAt h x (PySem.W.instObj C dx) C (some od) ∧ ∀ name, PySem.W.lookIn name od = some (mA name) :=
  let ⟨od, ho, hl⟩ := lookIn_ns I.ns
  ⟨od, ⟨I.obj, rfl, rfl, ho⟩, hl⟩

section
variable {prog : Program} {w : World} {A : Around} {E : Value → Shared → Prop} {s : Shared} {K : PySem.W.Frag} {x dx C f : Addr} {mA : Str → Option Value} {name : Str} {v : Value}
end
section
variable {P : Program} {w : World} {H H' : Hp} {h h' : Heap} {a C dx : Addr} {fs fs' : List (Str × V)}
theorem ins_get (hok : HOk P w H h) (e : H a = some (.ins C dx fs)) : ∃ mA, ObjM h a dx C mA ∧ (∀ f, RelO (fs.lookup f) (mA f)) ∧ PySem.Within mA (fs.map (·.1)) ∧ fs.length ≤ 1000 ∧ H dx = some (.own a) := by
  obtain ⟨d, z, ne, ob, mA, n, r, q⟩ := (show ObjOk P w H h a (.ins C dx fs) from hok a _ e)
  exact ⟨mA, ⟨ob, n, ne⟩, r, q, z, d⟩
end
structure Cls (K : PySem.W.Frag) (C : Addr) : Prop where
  pg : PySem.W.plainGet K C Str.empty = true
  hd : PySem.W.hasDictIn K C = true
  po : PySem.W.plainOver K C = true
  sa : PySem.W.findIn K (.ref C) "__setattr__" = some (some (.builtin "object.__setattr__"))
theorem Cls.get {K : PySem.W.Frag} {C : Addr} (c : Cls K C) (f : Str) : PySem.W.plainGet K C f = true := c.pg
section
variable {X : Cx} {pins : List (Addr × Obj)} {σ : St} {H : Hp} {s : Shared} {a C dx : Addr} {fs : List (Str × V)} {f : Str} {v : V} {A : Around} {E : Value → Shared → Prop}
end
section
variable {X : Cx} {o e value : Expr} {f : Str} {pos pos' tpos : Pos} {ta tv : TE}
end
section
variable {X : Cx} {pins : List (Addr × Obj)} {σ : St} {H : Hp} {s : Shared} {A : Around} {E : Value → Shared → Prop} {Q : Value → Shared → Prop} {c : Value} {b : Bool}
inductive TyOf (K : PySem.W.Frag) (H : Hp) : V → Value → Prop where
  | non : TyOf K H .non (.type "NoneType")
  | bl (x : Bool) : TyOf K H (.bl x) (.type "bool")
  | int (i : Int) : TyOf K H (.int i) (.type "int")
  | str (x : Str) : TyOf K H (.str x) (.type "str")
  | flt (x : UInt64) : TyOf K H (.flt x) (.type "float")
  | lst {a : Addr} {xs : List V} (e : H a = some (.lst xs)) : TyOf K H (.ref a) (.type "list")
  | frz {a : Addr} {o : Obj} {xs : List V} (e : H a = some (.frz o (.lst xs))) : TyOf K H (.ref a) (.type "list")
  | tup {a : Addr} {xs : List V} (e : H a = some (.tup xs)) : TyOf K H (.ref a) (.type "tuple")
  | dK {a : Addr} {kvs : List (Key × V)} (e : H a = some (.dK kvs)) : TyOf K H (.ref a) (.type "dict")
  | dT {a : Addr} {kvs : List (List Key × V)} (e : H a = some (.dT kvs)) : TyOf K H (.ref a) (.type "dict")
  | ins {a C dx : Addr} {fs : List (Str × V)} (e : H a = some (.ins C dx fs)) (cl : Cls K C) (ha : PySem.W.findIn K (.ref C) "__class__" = some (some (.builtin "object.__class__")))
      (hn : PySem.W.specialIn K (.builtin "object.__class__") "__get__" = some (some (.builtin "getset_descriptor.__get__"))) (htk : PySem.W.takesIn K (.builtin "object.__class__") = some true)
      (hm : PySem.W.mroIn K C (.type "object") = some true) : TyOf K H (.ref a) (.ref C)
theorem isinst_ok {x : V} {u t : Value} (I : Inv X pins σ H s) (rx : RelV x u) (ty : TyOf X.K H x t) (e : PySem.W.kitOne X.K t c = some b) (h : ∀ tk, Q (.bool b) { s with toks := tk }) :
    wpAny (model X.prog X.w) A (call (.builtin "isinstance") [u, c]) Q E s := by
  cases ty with
  | non => cases (show u = Value.none from rx); exact PySem.W.kia_one PySem.W.kitx_none I.kIn True.intro e (fun z => nomatch z) h
  | bl y => cases (show u = Value.bool y from rx); exact PySem.W.kia_one PySem.W.kitx_bool I.kIn True.intro e (fun z => nomatch z) h
  | int i => obtain ⟨t, q⟩ := (show ∃ t, u = Value.int i t from rx); cases q; exact PySem.W.kia_one PySem.W.kitx_int I.kIn True.intro e (fun z => nomatch z) h
  | str y => obtain ⟨t, q⟩ := (show ∃ t, u = Value.str y t from rx); cases q; exact PySem.W.kia_one PySem.W.kitx_str I.kIn True.intro e (fun z => nomatch z) h
  | flt y => obtain ⟨t, q⟩ := (show ∃ t, u = Value.float y t from rx); cases q; exact PySem.W.kia_one PySem.W.kitx_float I.kIn True.intro e (fun z => nomatch z) h
  | @lst a xs ea =>
    cases (show u = Value.ref a from rx)
    obtain ⟨_, _, n, _, h1⟩ := (show ObjOk X.prog X.w H s.heap a (.lst xs) from I.hok a _ ea)
    exact PySem.W.kia_one PySem.W.kitx_list I.kIn ⟨_, h1, rfl⟩ e (fun z => nomatch z) h
  | @frz a ob xs ea =>
    cases (show u = Value.ref a from rx)
    obtain ⟨_, _, _, n, _, h1⟩ := (show ObjOk X.prog X.w H s.heap a (.frz ob (.lst xs)) from I.hok a _ ea)
    exact PySem.W.kia_one PySem.W.kitx_list I.kIn ⟨_, h1, rfl⟩ e (fun z => nomatch z) h
  | @tup a xs ea =>
    cases (show u = Value.ref a from rx)
    obtain ⟨_, _, _, p⟩ := (show ObjOk X.prog X.w H s.heap a (.tup xs) from I.hok a _ ea)
    obtain ⟨o, h1, h2, _⟩ := p.tup
    exact PySem.W.kia_one PySem.W.kitx_tuple I.kIn ⟨o, h1, h2⟩ e (fun z => nomatch z) h
  | @dK a kvs ea =>
    cases (show u = Value.ref a from rx)
    obtain ⟨_, _, vs, _, p⟩ := (show ObjOk X.prog X.w H s.heap a (.dK kvs) from I.hok a _ ea)
    obtain ⟨o, es, ep, h1, h2, _⟩ := p
    exact PySem.W.kia_one PySem.W.kitx_dict I.kIn ⟨o, h1, h2.1⟩ e (fun z => nomatch z) h
  | @dT a kvs ea =>
    cases (show u = Value.ref a from rx)
    obtain ⟨_, _, xs, _, o, es, ep, h1, h2, _⟩ := (show ObjOk X.prog X.w H s.heap a (.dT kvs) from I.hok a _ ea)
    exact PySem.W.kia_one PySem.W.kitx_dict I.kIn ⟨o, h1, h2.1⟩ e (fun z => nomatch z) h
  | @ins a C dx fs ea cl ha hn htk hm =>
    cases (show u = Value.ref a from rx)
    obtain ⟨mA, O, _⟩ := ins_get I.hok ea
    obtain ⟨od, J, _⟩ := O.look
    exact PySem.W.kia_one (PySem.W.kitx_own (cl.get _) cl.hd ha hn htk hm) I.kIn J e (fun z => nomatch z) h
end
end L2
namespace L2
open PySem PySem.Spec PyProof.Rows
structure Room (k : Nat) (A : Around) : Prop where
  hd : A.handled = none
  dp : A.depth + 3 * k + 5 < recursionLimit
  un : A.units + 16 * k + 200 < cLine
  gd : A.guards = some []
theorem Room.mono {j k : Nat} {A : Around} (r : Room k A) (h : j ≤ k) : Room j A := ⟨r.hd, by have := r.dp; omega, by have := r.un; omega, r.gd⟩
theorem Room.deeper {k : Nat} {A : Around} (r : Room (k + 1) A) (env : Env) : Room k (A.deeper env) :=
  ⟨r.hd, by have := r.dp; show A.depth + 1 + 3 * k + 5 < _; omega, by have := r.un; show A.units + 3 + 16 * k + 200 < _; omega, r.gd⟩
theorem Room.depth {k : Nat} {A : Around} (r : Room k A) : A.depth < recursionLimit := by have := r.dp; omega
theorem Room.units {k : Nat} {A : Around} (r : Room k A) : A.units + 64 < cLine := by have := r.un; omega
noncomputable def tNil : TA := fun _ H Q => Q [] H
noncomputable def tCons (ta : TE) (tr : TA) : TA := fun σ H Q => ta σ H fun x H1 => tr σ H1 fun xs H2 => Q (x :: xs) H2
section
variable {X : Cx} {e : Expr} {es : List Expr} {te : TE} {t : TA} {pos : Pos}
theorem pa_nil : PA X [] tNil := fun _ _ _ _ H Q I h => Calls.spliced_nil ⟨[], H, I, .nil, h⟩
theorem za_nil : ZA X [] tNil := by with_unfolding_all exact pa_nil 
theorem pa_cons (ha : PE X e te) (hr : PA X es t) (hs : starEach (e :: es) X.env = (false, eval e X.env) :: starEach es X.env := by rfl) : PA X (e :: es) (tCons te t) := by
  intro pos pins s σ H Q I h
  rw [hs]
  show wpAny _ _ (spliced ((false, eval e X.env) :: backTo pos (starEach es X.env))) _ _ s
  refine Calls.spliced_cons (thn (ha pins s σ H _ I h) fun u s1 ⟨x, H1, I1, r1, q1⟩ => ?_)
  exact thn (hr pos pins s1 σ H1 _ I1 q1) fun us s2 ⟨xs, H2, I2, r2, q2⟩ => ⟨x :: xs, H2, I2, .cons r1 r2, q2⟩
theorem za_cons (ha : ZE X e te) (hr : ZA X es t) (hs : starEach (e :: es) X.env = (false, eval e X.env) :: starEach es X.env := by rfl) : ZA X (e :: es) (tCons te t) := by with_unfolding_all exact pa_cons ha hr hs

noncomputable def tTup (t : TA) : TE := fun σ H Q => t σ H fun xs H1 => xs.length ≤ sizeLine ∧ ∀ p, H1 p = none → Q (.ref p) (upd H1 p (.tup xs))
noncomputable def tLst (t : TA) : TE := fun σ H Q => t σ H fun xs H1 => xs.length ≤ sizeLine ∧ ∀ p, H1 p = none → Q (.ref p) (upd H1 p (.lst xs))
theorem pe_tup {x1} (h : PA X es t) : PE X (.Tuple es x1 pos) (tTup t) := by
  intro pins s σ H Q I hq
  refine wpAny_Tuple_spliced (thn (h pos pins s σ H _ I hq) fun us s1 ⟨xs, H1, I1, r, z, q⟩ => ⟨by rw [← r.length]; exact z, ?_⟩)
  have hf : H1 s1.heap.objs.size = none := I1.hok.fresh (Nat.le_refl _)
  refine ⟨.ref s1.heap.objs.size, upd H1 s1.heap.objs.size (.tup xs), I1.laid (t' := s1.toks) (fun b u e => Heap.get?_push_of_some _ e) (Nat.le_refl _) ?_, rfl, q _ hf⟩
  exact ⟨z, us, r, ⟨_, Heap.get?_push_size _ rfl⟩⟩
theorem ze_tup {x1} (h : ZA X es t) : ZE X (.Tuple es x1 pos) (tTup t) := by with_unfolding_all exact pe_tup h
theorem pe_lst (h : PA X es t) : PE X (.List es pos) (tLst t) := by
  intro pins s σ H Q I hq
  refine wpAny_List_spliced (thn (h pos pins s σ H _ I hq) fun us s1 ⟨xs, H1, I1, r, z, q⟩ => ⟨by rw [← r.length]; exact z, ?_⟩)
  have hf : H1 s1.heap.objs.size = none := I1.hok.fresh (Nat.le_refl _)
  refine ⟨.ref s1.heap.objs.size, upd H1 s1.heap.objs.size (.lst xs), I1.laid (t' := s1.toks) (fun b u e => Heap.get?_push_of_some _ e) (Nat.le_refl _) ?_, rfl, q _ hf⟩
  exact ⟨z, us, 0, r, Heap.get?_push_size _ rfl⟩
theorem ze_lst (h : ZA X es t) : ZE X (.List es pos) (tLst t) := by with_unfolding_all exact pe_lst h
end
noncomputable abbrev Sp := List V → Hp → VK → XK → Prop
noncomputable abbrev CXT := List Env → Hp → Shared → XK → Value → Shared → Prop

structure Env0 (P : Program) (w : World) (K : PySem.W.Frag) (mg : Str → Option Value) (base : Heap) (A : Around) (outer : List Env) (s : Shared) (H : Hp) : Prop where
  frames : A.frames = some outer
  mod : Mod K mg base
  bs : ∀ b o, base.get? b = some o → s.heap.get? b = some o ∧ H b = none
  bsz : base.objs.size ≤ s.heap.objs.size
  funs : s.heap.FunFrames base outer
  frf : ∀ b ∈ frs outer, H b = none
  hok : HOk P w H s.heap
  bare : AllBare s.gens
noncomputable def CE (outer : List Env) (P : Program) (w : World) (H : Hp) (s : Shared) (Q : VK) (u : Value) (s' : Shared) : Prop :=
  ∃ v H', s'.os = s.os ∧ AllBare s'.gens ∧ Un (frs outer) [] H H' s.heap s'.heap ∧ HOk P w H' s'.heap ∧ RelV v u ∧ Q v H'
noncomputable def CR (CX : CXT) (outer : List Env) (P : Program) (w : World) (H : Hp) (s : Shared) (Q : VK) (E : XK) (r : Result) (s' : Shared) : Prop :=
  match r with
  | .ok (.ret u) => CE outer P w H s Q u s'
  | .ok _ => False
  | .error e => CX outer H s E e s'
structure FnOk (P : Program) (w : World) (K : PySem.W.Frag) (mg : Str → Option Value) (base : Heap) (CX : CXT) (k : Nat) (f : Addr) (fd : FuncData) (ps : List Str) (sp : Sp) : Prop where
  len : ∀ vs H Q E, sp vs H Q E → vs.length = ps.length
  run : ∀ (A : Around) (outer : List Env) (s : Shared) (H : Hp) (args : Args) (us : List Value) (vs : List V) (Q : VK) (E : XK), Room k A → Env0 P w K mg base A outer s H → BindsTo s fd args (ps.zip us) → Vals vs us → sp vs H Q E →
    codeAny (model P w) A (.call (.ref f) args) (CR CX outer P w H s Q E) s
theorem FnOk.mono {P : Program} {w : World} {K : PySem.W.Frag} {mg : Str → Option Value} {base : Heap} {CX : CXT} {j k : Nat} {f : Addr} {fd : FuncData} {ps : List Str} {sp : Sp} (F : FnOk P w K mg base CX j f fd ps sp) (h : j ≤ k) :
    FnOk P w K mg base CX k f fd ps sp := ⟨F.len, fun A outer s H args us vs Q E hr => F.run A outer s H args us vs Q E (hr.mono h)⟩
section
variable {X : Cx} {pins : List (Addr × Obj)} {σ : St} {H : Hp} {s s' : Shared}
theorem Inv.env0 (I : Inv X pins σ H s) : Env0 X.prog X.w X.K X.mg X.base X.A X.stack s H :=
  ⟨I.ok.frames, I.ok.mod, I.bs, Nat.le_trans I.ok.bsz I.sz, I.stack, I.stkFree, I.hok, I.bare⟩
theorem Inv.after {Q : VK} {u : Value} (I : Inv X pins σ H s) (h : CE X.stack X.prog X.w H s Q u s') : EP X pins σ Q u s' := by
  obtain ⟨v, H', os, bare, un, hok, r, q⟩ := h
  obtain ⟨hh, g, d, t, os'⟩ := s'
  obtain rfl : os' = s.os := os
  exact ⟨v, H', I.call (h' := hh) (g' := g) (d' := d) (t' := t) (ch := []) un hok bare (fun b z => absurd z (by simp)), r, q⟩
end
noncomputable def tCall (sp : Sp) (dvs : List V) (E : XK) (t : TA) : TE := fun σ H Q => t σ H fun vs H1 => sp (vs ++ dvs) H1 Q E
noncomputable def Binds (K : PySem.W.Frag) (fd : FuncData) (ps : List Str) (ds : List Value) : Prop :=
  ∀ (s : Shared) (us : List Value), K.In s.heap → (us ++ ds).length = ps.length → BindsTo s fd ⟨us, []⟩ (ps.zip (us ++ ds))
theorem Binds.all {K : PySem.W.Frag} {fd : FuncData} {ps : List Str} (h : ∀ us : List Value, us.length = ps.length → bindArgs fd ⟨us, []⟩ = pure (ps.zip us)) : Binds K fd ps [] := fun s us _ hl => by
  rw [List.append_nil] at hl ⊢
  exact .of_eq (h us hl)

noncomputable def Passes (CX : CXT) (X : Cx) (E : XK) : Prop := ∀ (pins : List (Addr × Obj)) (σ : St) (H : Hp) (s : Shared) (e : Value) (s' : Shared), Inv X pins σ H s → CX X.stack H s E e s' → X.xe e s'

section
variable {X : Cx} {CX : CXT} {k : Nat} {f C : Addr} {fd : FuncData} {ps : List Str} {sp : Sp} {dvs : List V} {ds : List Value} {E : XK} {x m : Str} {p pos apos : Pos} {e o : Expr} {es : List Expr} {ta : TE} {t : TA}
theorem run_fn {pins : List (Addr × Obj)} {σ : St} {H : Hp} {s : Shared} {Q : VK} {us : List Value} {vs : List V} (F : FnOk X.prog X.w X.K X.mg X.base CX k f fd ps sp) (hr : Room k X.A) (hb : Binds X.K fd ps ds) (hd : Vals dvs ds) (hx : Passes CX X E)
    (I : Inv X pins σ H s) (r : Vals vs us) (h : sp (vs ++ dvs) H Q E) : wpAny (model X.prog X.w) X.A (call (.ref f) us) (EP X pins σ Q) X.xe s := by
  have r2 : Vals (vs ++ dvs) (us ++ ds) := r.append hd
  have hl : (us ++ ds).length = ps.length := by rw [← r2.length]; exact F.len _ _ _ _ h
  refine wpAny_call (codeAny_mono (F.run X.A X.stack s H ⟨us, []⟩ (us ++ ds) (vs ++ dvs) Q E hr I.env0 (hb s us I.kIn hl) r2 h) fun r s' hq => ?_)
  cases r with
  | error e => exact hx pins σ H s e s' I hq
  | ok fl =>
    cases fl with
    | ret u => exact I.after hq
    | next => exact False.elim hq
    | brk => exact False.elim hq
    | cont => exact False.elim hq

theorem pe_call (F : FnOk X.prog X.w X.K X.mg X.base CX k f fd ps sp) (hr : Room k X.A) (hg : Gl X x) (hm : X.mg x = some (.ref f)) (hk : PySem.W.keepIn X.K (.ref f) = true) (hb : Binds X.K fd ps ds) (hd : Vals dvs ds) (hx : Passes CX X E)
    (ha : PA X (e :: es) t) (hdb : (x == ("__debug__" : Str)) = false := by decide) (he : starEach (e :: es) X.env = (false, eval e X.env) :: starEach es X.env := by rfl) (hpl : (backTo pos (starEach es X.env)).any (·.1) = false := by rfl) :
    PE X (.Call (.Name x p) (e :: es) [] pos) (tCall sp dvs E t) := by
  intro pins s σ H Q I h
  refine wpAny_Call_Name_kw (ld_glob I hg hm ?_ hdb)
  refine PySem.W.callWith_K (h₀ := X.base) I.ok.mod.kin hk (thn (ha pos pins s σ H _ I h) fun us s1 ⟨vs, H1, I1, r, q⟩ => ⟨I1.kIn, ?_⟩) he hpl
  exact run_fn F hr hb hd hx I1 r q
end
section
variable {X : Cx} {CX : CXT} {k : Nat} {f C : Addr} {fd : FuncData} {ps ks : List Str} {sp : Sp} {E : XK} {x m : Str} {p pos apos kpos : Pos} {e o : Expr} {es : List Expr} {kws : List Keyword} {te ta : TE} {t tk : TA} {nm : Option Str}
variable {g : List Value → List Value → List Value} {gV : List V → List V → List V}
end
structure FnScope (N P : List Str) (sc : Scope) : Prop where
  kind : sc.kind = .function
  co : sc.isCoroutine = false
  gen : sc.isGenerator = false
  nd : N.Nodup
  pre : N.take P.length = P
  par : ∀ x ∈ P, sc.names.lookup x = some .local ∨ sc.names.lookup x = some .cell
  nofree : ∀ y ∈ sc.names, y.2 ≠ .free

theorem bindL_out {kindOf : Str → Option NameKind} {x : Str} : ∀ {binds : List (Str × Value)} {m : Str → Option Value}, (∀ v, (x, v) ∉ binds) → bindL kindOf binds m x = m x
  | [], _, _ => rfl
  | (n, v) :: r, m, h => by
    unfold bindL
    rw [bindL_out fun w hw => h w (List.mem_cons_of_mem _ hw)]
    split
    · have : x ≠ n := by rintro rfl; exact h v List.mem_cons_self
      simp [this]
    · rfl
theorem bindC_out {kindOf : Str → Option NameKind} {x : Str} : ∀ {binds : List (Str × Value)} {m : Str → Option Value}, (∀ v, (x, v) ∉ binds) → bindC kindOf binds m x = m x
  | [], _, _ => rfl
  | (n, v) :: r, m, h => by
    unfold bindC
    rw [bindC_out fun w hw => h w (List.mem_cons_of_mem _ hw)]
    split
    · rfl
    · have : x ≠ n := by rintro rfl; exact h v List.mem_cons_self
      simp [this]
theorem bindL_get {kindOf : Str → Option NameKind} {x : Str} {v : Value} : ∀ {P : List Str} {vs : List Value} {i : Nat} {m : Str → Option Value}, P.Nodup → P[i]? = some x → vs[i]? = some v → kindOf x = some .local →
    bindL kindOf (P.zip vs) m x = some v
  | [], _, _, _, _, h, _, _ => by simp at h
  | _ :: _, [], _, _, _, _, h, _ => by simp at h
  | p :: P, w :: vs, 0, m, nd, h1, h2, hk => by
    simp at h1 h2; subst h1; subst h2
    show bindL kindOf ((p, w) :: P.zip vs) m p = _
    unfold bindL
    rw [bindL_out fun v hv => (List.nodup_cons.mp nd).1 (List.of_mem_zip hv).1, if_pos hk]
    simp
  | p :: P, w :: vs, i + 1, m, nd, h1, h2, hk => by
    show bindL kindOf ((p, w) :: P.zip vs) m x = _
    unfold bindL
    exact bindL_get (i := i) (List.nodup_cons.mp nd).2 (by simpa using h1) (by simpa using h2) hk
theorem bindC_get {kindOf : Str → Option NameKind} {x : Str} {v : Value} : ∀ {P : List Str} {vs : List Value} {i : Nat} {m : Str → Option Value}, P.Nodup → P[i]? = some x → vs[i]? = some v → kindOf x ≠ some .local →
    bindC kindOf (P.zip vs) m x = some v
  | [], _, _, _, _, h, _, _ => by simp at h
  | _ :: _, [], _, _, _, _, h, _ => by simp at h
  | p :: P, w :: vs, 0, m, nd, h1, h2, hk => by
    simp at h1 h2; subst h1; subst h2
    show bindC kindOf ((p, w) :: P.zip vs) m p = _
    unfold bindC
    rw [bindC_out fun v hv => (List.nodup_cons.mp nd).1 (List.of_mem_zip hv).1, if_neg hk]
    simp
  | p :: P, w :: vs, i + 1, m, nd, h1, h2, hk => by
    show bindC kindOf ((p, w) :: P.zip vs) m x = _
    unfold bindC
    exact bindC_get (i := i) (List.nodup_cons.mp nd).2 (by simpa using h1) (by simpa using h2) hk

noncomputable def start (N : List Str) (vs : List V) : St := vs.map some ++ List.replicate (N.length - vs.length) none

noncomputable def cxOf (CX : CXT) (P : Program) (w : World) (K : PySem.W.Frag) (mg : Str → Option Value) (base : Heap) (N : List Str) (qual : Str) (scope : Scope) (f : Addr) (cd : Value) (A : Around) (outer : List Env) (s : Shared) (H : Hp) (E : XK) : Cx where
  prog := P
  w := w
  K := K
  mg := mg
  base := base
  A := A.deeper (envOfC qual scope s.heap.objs.size f cd)
  N := N
  s₀ := s
  H₀ := H
  env := envOfC qual scope s.heap.objs.size f cd
  outer := outer
  stack := envOfC qual scope s.heap.objs.size f cd :: outer
  ex := []
  calm := true
  fn := fun _ => true
  pn := []
  xe := fun e s' => wpAny (model P w) (A.deeper (envOfC qual scope s.heap.objs.size f cd)) (leaving (envOfC qual scope s.heap.objs.size f cd) e) (fun _ s'' => CX outer H s E e s'') (fun e' s'' => CX outer H s E e' s'') s'

theorem cell_has {sc : Scope} {n : Nat} {x : Str} (h : sc.names.lookup x = some .cell) : ∃ c, (cellsFrom n sc.names []).lookup x = some c := by
  have q := PySem.W.cellsFrom_some sc.names n [] (.inl h)
  exact Option.isSome_iff_exists.mp q

theorem inv_start {CX : CXT} {P : Program} {w : World} {K : PySem.W.Frag} {mg : Str → Option Value} {base : Heap} {N ps : List Str} {qual : Str} {scope : Scope} {f : Addr} {cd : Value} {A : Around} {outer : List Env} {s s1 : Shared} {H : Hp} {E : XK} {us : List Value} {vs : List V}
    (S : FnScope N ps scope) (hd : A.handled = none) (e0 : Env0 P w K mg base A outer s H) (hl : vs.length = ps.length) (r : Vals vs us)
    (x : InCallC s s.heap.objs.size (bindL (envOfC qual scope s.heap.objs.size f cd).kindOf (ps.zip us) fun _ => none) (cellsFrom (s.heap.objs.size + 1) scope.names []) (bindC (envOfC qual scope s.heap.objs.size f cd).kindOf (ps.zip us) fun _ => none) s1) :
    Inv (cxOf CX P w K mg base N qual scope f cd A outer s H E) [] (start N vs) H s1 := by
  have hpl : ps.length ≤ N.length := by have := congrArg List.length S.pre; rw [List.length_take] at this; omega
  obtain ⟨h1, tk, rfl, hk⟩ := x.done
  have noA : ∀ b : Addr, b ∉ (cxOf CX P w K mg base N qual scope f cd A outer s H E).ex := fun b z => absurd (show b ∈ ([] : List Addr) from z) (by simp)
  refine ⟨⟨e0.mod, S.kind, rfl, rfl, Nat.le_refl _, fun y z c h1 h2 => ?_, fun y hy => ?_, fun y c _ h => ?_, fun _ => hd, Around.frames_deeper e0.frames, .inr ⟨rfl, rfl⟩, fun b z => absurd z (noA b), e0.bs, e0.bsz, fun b _ _ => noA b, fun b z => absurd z (noA b), e0.funs, e0.frf⟩,
    rfl, e0.bare, Un.kept hk, ⟨_, x.toInCall.ns, fun i y v h1 h2 h3 => ?_⟩, fun y c h => ⟨_, x.cell y c h⟩, e0.hok.fresh (Nat.le_refl _), fun y c h => ?_, fun p hp => absurd (show p ∈ ([] : List (Addr × Obj)) from hp) (by simp), e0.hok.kept hk, ?_⟩
  · exact name_of_addr x.apart (PySem.mem_of_lookup h1) (PySem.mem_of_lookup h2)
  · have hy : scope.names.lookup y = some .cell ∨ scope.names.lookup y = some .free := hy
    rcases hy with hy | hy
    · exact cell_has hy
    · exact absurd rfl (S.nofree _ (PySem.mem_of_lookup hy))
  · exact Nat.le_of_lt (x.above y c (PySem.mem_of_lookup h))
  · have hi : i < vs.length := by
      unfold start at h2
      by_cases hi : i < vs.length
      · exact hi
      · rw [List.getElem?_append_right (by simpa using hi)] at h2
        rw [List.getElem?_replicate] at h2
        split at h2 <;> cases h2
    have ha : vs[i]? = some v := by
      unfold start at h2
      rw [List.getElem?_append_left (by simpa using hi), List.getElem?_map] at h2
      cases e : vs[i]? with
      | none => rw [e] at h2; cases h2
      | some a => rw [e] at h2; cases h2; rfl
    obtain ⟨u, hu, rv⟩ := r.get ha
    have hp : ps[i]? = some y := by
      rw [← S.pre, List.getElem?_take_of_lt (by omega)]; exact h1
    have ndP : ps.Nodup := by rw [← S.pre]; exact S.nd.sublist (List.take_sublist _ _)
    refine ⟨u, rv, ?_⟩
    rcases S.par y (List.mem_of_getElem? hp) with k | k
    · exact .inl ⟨k, bindL_get ndP hp hu k⟩
    · obtain ⟨c, e⟩ := cell_has (n := s.heap.objs.size + 1) k
      refine .inr ⟨.inl k, c, e, ?_⟩
      have q := x.cell y c e
      rw [bindC_get ndP hp hu (by show scope.names.lookup y ≠ _; rw [k]; decide)] at q
      exact q
  · exact e0.hok.fresh (Nat.le_of_lt (x.above y c (PySem.mem_of_lookup h)))
  · unfold start
    show _ = N.length
    rw [List.length_append, List.length_map, List.length_replicate]
    omega

theorem fn_of {CX : CXT} {P : Program} {w : World} {K : PySem.W.Frag} {mg : Str → Option Value} {base : Heap} {k : Nat} {f : Addr} {name qual : Str} {params : Arguments} {body : List Stmt} {scope : Scope} {dV kV doc pm cdv ct oc : Value} {an od : Option Addr}
    {osl : Array (Option Value)} {N ps : List Str} {sp : Sp} (lk : K.lookup f = some ⟨oc, od, .func (PySem.W.fnOf name qual params body scope dV kV doc pm an cdv ct), osl⟩) (hcd : PySem.W.codeIn K cdv qual = true) (S : FnScope N ps scope)
    (len : ∀ vs H Q E, sp vs H Q E → vs.length = ps.length)
    (hbody : ∀ (A : Around) (outer : List Env) (s : Shared) (H : Hp) (vs : List V) (Q : VK) (E : XK), Room k (A.deeper (envOfC qual scope s.heap.objs.size f cdv)) → sp vs H Q E →
      ∃ t, PSs (cxOf CX P w K mg base N qual scope f cdv A outer s H E) body t ∧ t { nx := fun _ H' => Q .non H', rt := Q } (start N vs) H) :
    FnOk P w K mg base CX (k + 1) f (PySem.W.fnOf name qual params body scope dV kV doc pm an cdv ct) ps sp := by
  refine ⟨len, fun A outer s H args us vs Q E hr e0 hb r hsp => ?_⟩
  have hl := len _ _ _ _ hsp
  have KX : K.In s.heap := e0.mod.kin.keeps fun b o e => (e0.bs b o e).1
  have lim : s.heap.NoLimit := e0.mod.nolimit.keeps fun b o e => (e0.bs b o e).1
  have hkind : ∀ y ∈ ps.zip us, scope.names.lookup y.1 = some .local ∨ (scope.names.lookup y.1 = some .cell ∧ ((cellsFrom (s.heap.objs.size + 1) scope.names []).lookup y.1).isSome = true) := fun ⟨n, v⟩ hy => by
    rcases S.par n (List.of_mem_zip hy).1 with q | q
    · exact .inl q
    · exact .inr ⟨q, PySem.W.cellsFrom_some _ _ _ (.inl q)⟩
  refine codeAny_call_function hr.depth (KX _ _ lk) rfl S.co S.gen rfl (PySem.W.codeRec_of KX hcd) (hb _ _ _ _ ?_)
  refine wpAny_newFunctionEnv_cells S.kind hkind fun env he s1 x => ?_
  subst he
  refine ⟨lim.keeps x.toInCall.keep, codeAny_func ?_⟩
  obtain ⟨t, ht, hq⟩ := hbody A outer s H vs Q E (hr.deeper _) hsp
  have I : Inv (cxOf CX P w K mg base N qual scope f cdv A outer s H E) [] (start N vs) H s1 := inv_start S hr.hd e0 hl r x
  refine wpAny_mono (ht [] s1 (start N vs) H _ I hq) (fun fl s' hs => ?_) fun e s' hs => hs
  have fin : ∀ {σ' : St} {H' : Hp} {v : V} {u : Value}, Inv (cxOf CX P w K mg base N qual scope f cdv A outer s H E) [] σ' H' s' → RelV v u → Q v H' → CE outer P w H s Q u s' :=
    fun {σ' H' v u} J rv q => ⟨v, H', J.os, J.bare, J.base, J.hok, rv, q⟩
  cases fl with
  | ret u =>
    obtain ⟨v, σ', H', J, rv, q⟩ := hs
    exact fin J rv q
  | next =>
    obtain ⟨σ', H', J, q⟩ := hs
    exact fin (v := V.non) (u := Value.none) J rfl q
  | brk =>
    obtain ⟨_, _, _, q⟩ := hs
    exact False.elim q
  | cont =>
    obtain ⟨_, _, _, q⟩ := hs
    exact False.elim q
end L2
namespace L2
open PySem PySem.Spec PyProof.Rows
section
variable {X : Cx} {x : Str} {p pos : Pos} {e : Expr} {es : List Expr} {t : TA} {id T : String} {r : List V → Hp → VK → Prop}
noncomputable def tCB (r : List V → Hp → VK → Prop) (t : TA) : TE := fun σ H Q => t σ H fun vs H1 => r vs H1 Q
theorem pe_callB (hc : CallR X (.builtin id) r) (hg : Gl X x) (hm : X.mg x = none) (hv : bootBuiltins x = some (.builtin id)) (ha : PA X (e :: es) t) (hn : x ≠ "__name__" := by decide) (hdb : (x == ("__debug__" : Str)) = false := by decide)
    (he : starEach (e :: es) X.env = (false, eval e X.env) :: starEach es X.env := by rfl) (hpl : (backTo pos (starEach es X.env)).any (·.1) = false := by rfl) : PE X (.Call (.Name x p) (e :: es) [] pos) (tCB r t) := by
  intro pins s σ H Q I h
  refine wpAny_Call_Name_kw (ld_blt I hg hm hv ?_ hn hdb)
  exact PyProof.Rows.callWith_builtin1 (thn (ha pos pins s σ H _ I h) fun us s1 ⟨vs, H1, I1, r1, q1⟩ => hc pins s1 σ H1 vs us Q I1 r1 q1) he hpl
theorem pe_callTy (hc : CallR X (.type T) r) (hg : Gl X x) (hm : X.mg x = none) (hv : bootBuiltins x = some (.type T)) (ha : PA X (e :: es) t) (hn : x ≠ "__name__" := by decide) (hdb : (x == ("__debug__" : Str)) = false := by decide)
    (he : starEach (e :: es) X.env = (false, eval e X.env) :: starEach es X.env := by rfl) (hpl : (backTo pos (starEach es X.env)).any (·.1) = false := by rfl) : PE X (.Call (.Name x p) (e :: es) [] pos) (tCB r t) := by
  intro pins s σ H Q I h
  refine wpAny_Call_Name_kw (ld_blt I hg hm hv ?_ hn hdb)
  exact PyProof.Rows.callWith_type1 (thn (ha pos pins s σ H _ I h) fun us s1 ⟨vs, H1, I1, r1, q1⟩ => hc pins s1 σ H1 vs us Q I1 r1 q1) he hpl
end
end L2
namespace HT
open PySem PyProof.Rows
section
open PySem.SeqAt
open PySem.AutoSeq1 (wpAny_loadPart')
open PySem.MeetsSeq PySem.MeetsSeq2 PySem.MeetsSeq3
end
section
variable {prog : Program} {w : World} {A : Around} {E : Value → Shared → Prop} {s : Shared}
theorem cat_tup {t b : Addr} {vs ws : List Value} {Q : Value → Shared → Prop} (ht : IsTup s.heap t vs.toArray) (hb : IsTup s.heap b ws.toArray) (hv : vs ≠ [])
    (h1 : ws = [] → Q (.ref t) s) (h2 : ws ≠ [] → Q (.ref s.heap.objs.size) { s with heap := s.heap.push { cls := .type "tuple", data := .seq (vs ++ ws).toArray } })
    (hsz : vs.length + ws.length ≤ sizeLine) : wpAny (model prog w) A (binaryOp .Add (.ref t) (.ref b)) Q E s := by
  obtain ⟨⟨cls, dd, data, sl⟩, ho, hc, n, hd⟩ := id ht
  obtain ⟨⟨cls2, dd2, data2, sl2⟩, ho2, hc2, n2, hd2⟩ := id hb
  simp only at hc hd hc2 hd2
  subst hc hd hc2 hd2
  have e : vs.toArray ++ ws.toArray = (vs ++ ws).toArray := by simp
  by_cases hw : ws = []
  · exact concat_meets ⟨_, ho, rfl⟩ ⟨_, ho2, rfl⟩ noFill_tuple_add seq_tuple_add PySem.F.slot_tuple_add PySem.F.entry_tuple_add (PySem.F.args_tuple_add_2 _ _)
      (tuple_addW1 t b vs.toArray ws.toArray n n2 dd dd2 sl sl2 (by simpa using hv) (by simp [hw])) ⟨ho, ho2, h1 hw⟩
  · refine concat_meets ⟨_, ho, rfl⟩ ⟨_, ho2, rfl⟩ noFill_tuple_add seq_tuple_add PySem.F.slot_tuple_add PySem.F.entry_tuple_add (PySem.F.args_tuple_add_2 _ _)
      (tuple_addW2 t b vs.toArray ws.toArray n n2 dd dd2 sl sl2 (by simpa using hv) (by simpa using hw) (by rw [List.size_toArray, List.size_toArray]; exact hsz)) ⟨ho, ho2, ?_⟩
    rw [e]
    exact h2 hw

noncomputable def sIx (n d : Nat) : Option Int → Nat
  | none => d
  | some v => if v < 0 then (v + (n : Int)).toNat else min v.toNat n
theorem sIx_none (n d : Nat) : sIx n d none = d := rfl
theorem sIx_nat (n d k : Nat) : sIx n d (some (k : Int)) = min k n := by
  show (if (k : Int) < 0 then ((k : Int) + (n : Int)).toNat else min (k : Int).toNat n) = min k n
  rw [if_neg (by omega), Int.toNat_natCast]
theorem sIx_le (n d : Nat) (hd : d ≤ n) (o : Option Int) : sIx n d o ≤ n := by
  cases o with
  | none => exact hd
  | some v =>
    show (if v < 0 then (v + (n : Int)).toNat else min v.toNat n) ≤ n
    by_cases hv : v < 0
    · rw [if_pos hv]; omega
    · rw [if_neg hv]; exact Nat.min_le_right _ _
theorem clip_eq (v : Int) (n d : Nat) : (if v < 0 then max (v + (n : Int)) 0 else min v (n : Int)) = ((sIx n d (some v) : Nat) : Int) := by
  show (if v < 0 then max (v + (n : Int)) 0 else min v (n : Int)) = (((if v < 0 then (v + (n : Int)).toNat else min v.toNat n) : Nat) : Int)
  by_cases hv : v < 0
  · simp only [if_pos hv]; omega
  · simp only [if_neg hv]; omega
theorem adjust_gen (lo hi : Option Int) (n : Nat) : Builtin.Slice.sliceAdjust lo hi 1 (n : Int) = (((sIx n 0 lo : Nat) : Int), ((sIx n n hi : Nat) : Int)) := by
  have h1 : ¬ ((1 : Int) < 0) := by omega
  unfold Builtin.Slice.sliceAdjust
  simp only [h1, if_false]
  refine Prod.ext ?_ ?_
  · cases lo with
    | none => rfl
    | some v => exact clip_eq v n 0
  · cases hi with
    | none => rfl
    | some v => exact clip_eq v n n
theorem places_gen (i j : Nat) : Builtin.Slice.slicePlaces (i : Int) (j : Int) 1 = j - i := by
  unfold Builtin.Slice.slicePlaces
  have h1 : (1 : Int) > 0 := by omega
  simp only [h1, if_true, Int.ediv_one]
  split <;> omega
theorem slicePart_ {v : Value} {o : Option Int} {Q : Option Int → Shared → Prop} (p : IsPart v o) (h : Q o s) : wpAny (model prog w) A (Builtin.Slice.slicePartIndex v) Q E s := by
  cases p with
  | none => exact slicePart_none h
  | int i t => exact slicePart_int h
theorem sliceApplied_gen {sl : Addr} {vl vu : Value} {lo hi : Option Int} {n : Nat} {Q : Int × Int × Nat → Shared → Prop} (hs : s.heap.IsSliceOf sl vl vu .none) (pl : IsPart vl lo) (pu : IsPart vu hi)
    (h : Q (((sIx n 0 lo : Nat) : Int), 1, sIx n n hi - sIx n 0 lo) s) : wpAny (model prog w) A (Builtin.Slice.sliceApplied (.ref sl) (pure (n : Int))) Q E s := by
  obtain ⟨os, hos, hcs, hds⟩ := id hs
  unfold Builtin.Slice.sliceApplied Builtin.Slice.sliceFields
  refine wpAny_bind (wpAny_bind (wpAny_field hos hds (x := vl) rfl (wpAny_bind (wpAny_field hos hds (x := vu) rfl (wpAny_bind (wpAny_field hos hds (x := .none) rfl (wpAny_pure ?_)))))))
  refine wpAny_bind (slicePart_none ?_)
  show wpAny _ _ (if ((1 : Int) == 0) = true then _ else _) _ _ s
  rw [if_neg (by decide)]
  refine wpAny_bind (slicePart_ pl (wpAny_bind (slicePart_ pu (wpAny_bind (wpAny_pure ?_)))))
  show wpAny _ _ (match Builtin.Slice.sliceAdjust lo hi 1 (n : Int) with | (lo, hi) => pure (lo, (1 : Int), Builtin.Slice.slicePlaces lo hi 1)) _ _ s
  rw [adjust_gen lo hi n]
  show wpAny _ _ (pure (((sIx n 0 lo : Nat) : Int), (1 : Int), Builtin.Slice.slicePlaces ((sIx n 0 lo : Nat) : Int) ((sIx n n hi : Nat) : Int) 1)) _ _ s
  rw [places_gen]
  exact wpAny_pure h
theorem pick_gen (xs : Array Value) (i k : Nat) : ((List.range k).filterMap fun (m : Nat) => xs[((i : Int) + (m : Int) * 1).toNat]?).toArray = ((xs.toList.drop i).take k).toArray := by
  have e : (fun (m : Nat) => xs[((i : Int) + (m : Int) * 1).toNat]?) = fun m => xs[i + m]? := by
    funext m
    have : ((i : Int) + (m : Int) * 1).toNat = i + m := by omega
    rw [this]
  rw [e]
  have := pick_run xs i k
  rw [List.filterMap_map] at this
  have e2 : ((fun x => xs[x]?) ∘ fun x => i + x) = fun m => xs[i + m]? := rfl
  rw [e2] at this
  rw [this]

theorem getItem_tuple_cut {t sl : Addr} {items : Array Value} {vl vu : Value} {lo hi : Option Int} {Q : Value → Shared → Prop} (ht : IsTup s.heap t items) (hs : s.heap.IsSliceOf sl vl vu .none) (pl : IsPart vl lo) (pu : IsPart vu hi)
    (hw : ¬ (sIx items.size 0 lo = 0 ∧ sIx items.size items.size hi = items.size))
    (h : Q (.ref s.heap.objs.size) { s with heap := s.heap.push { cls := .type "tuple", data := .seq ((items.toList.drop (sIx items.size 0 lo)).take (sIx items.size items.size hi - sIx items.size 0 lo)).toArray } })
    (hsz : items.size ≤ sizeLine) : wpAny (model prog w) A (getItem (.ref t) (.ref sl)) Q E s := by
  have htake : sizeOk (.seq ((items.toList.drop (sIx items.size 0 lo)).take (sIx items.size items.size hi - sIx items.size 0 lo)).toArray) := by
    show ((items.toList.drop (sIx items.size 0 lo)).take (sIx items.size items.size hi - sIx items.size 0 lo)).toArray.size ≤ sizeLine
    rw [List.size_toArray, List.length_take, List.length_drop, Array.length_toList]
    omega
  have hj : sIx items.size items.size hi ≤ items.size := sIx_le _ _ (Nat.le_refl _) hi
  obtain ⟨os, hos, hcs, hds⟩ := id hs
  have hTs : s.TypeIs (.ref sl) "slice" := ⟨os, hos, hcs⟩
  unfold getItem
  try with_reducible refine wpAny_holding ?_
  first | refine wpAny_bind (wpAny_pure ?_) | skip
  refine wpAny_bind (wpAny_sequenceKey ht.typeIs (by decide) ?_)
  refine wpAny_bind (wpAny_callSpecial?_slot (name := Str.ofString "__getitem__") ht.typeIs PyProof.Rows.slot_tuple_getitem
    (wpAny_call_entry PyProof.Rows.slot_tuple_getitem ht.typeIs entry_tuple_getitem ?_ (args_tuple_getitem _ _)))
  show wpAny _ _ (Builtin.Tuple.tupleItemsOf (.ref t) >>= _) _ _ s
  refine wpAny_bind (tupleItemsOf_ ht ?_)
  refine wpAny_bind (wpAny_typeOf hTs ?_)
  rw [if_pos (by decide)]
  refine wpAny_bind (sliceApplied_gen hs pl pu ?_)
  have hno : ¬ ((((sIx items.size 0 lo : Nat) : Int) == 0 && (1 : Int) == 1 && (sIx items.size items.size hi - sIx items.size 0 lo) == items.size) = true) := by
    intro q
    rw [Bool.and_eq_true, Bool.and_eq_true] at q
    have q1 : ((sIx items.size 0 lo : Nat) : Int) = 0 := eq_of_beq q.1.1
    have q2 : sIx items.size items.size hi - sIx items.size 0 lo = items.size := eq_of_beq q.2
    exact hw ⟨by omega, by omega⟩
  show wpAny _ _ (if (((sIx items.size 0 lo : Nat) : Int) == 0 && (1 : Int) == 1 && (sIx items.size items.size hi - sIx items.size 0 lo) == items.size) = true then _ else _) _ _ s
  rw [if_neg hno, pick_gen]
  first
    | exact wpAny_bind (m := Builtin.Tuple.tupleExact _) (wpAny_newObj_type (wpAny_pure ⟨_, rfl, wpAny_pure h⟩) htake)
    | exact wpAny_bind (m := Builtin.Tuple.tupleExact _) (wpAny_newObj_type (wpAny_bind (wpAny_pure (wpAny_pure ⟨_, rfl, wpAny_pure h⟩))) htake)
    | exact wpAny_bind (wpAny_bind (m := Builtin.Tuple.tupleExact _) (wpAny_newObj_type (wpAny_pure (wpAny_pure ⟨_, rfl, wpAny_pure h⟩)) htake))
    | exact wpAny_bind (wpAny_bind (m := Builtin.Tuple.tupleExact _) (wpAny_newObj_type (wpAny_pure ⟨_, rfl, wpAny_pure h⟩) htake))
end
end HT
namespace L2
open PySem PySem.Spec PyProof.Rows
noncomputable abbrev TO := St → Hp → (Option Int → Hp → Prop) → Prop
noncomputable def PO (X : Cx) (e : Option Expr) (t : TO) : Prop :=
  ∀ (pins : List (Addr × Obj)) (s : Shared) (σ : St) (H : Hp) (Q : Option Int → Hp → Prop), Inv X pins σ H s → t σ H Q →
    wpAny (model X.prog X.w) X.A (evalPart e X.env) (fun u s' => ∃ o H', Inv X pins σ H' s' ∧ IsPart u o ∧ Q o H') X.xe s
@[irreducible] noncomputable def ZO (X : Cx) (e : Option Expr) (t : TO) : Prop := PO X e t
noncomputable def tNoPart : TO := fun _ H Q => Q none H
noncomputable def tPart (t : TE) : TO := fun σ H Q => t σ H fun x H1 => ∃ i, x = .int i ∧ Q (some i) H1

theorem intsAre_of {ns : List Int} : ∀ {us : List Value}, Vals (ns.map V.int) us → IntsAre us ns := by
  induction ns with
  | nil => intro us r; rw [List.map_nil] at r; cases r; exact .nil
  | cons n ns ih =>
    intro us r
    rw [List.map_cons] at r
    cases r with
    | cons r1 r2 =>
      obtain ⟨t, e⟩ := r1
      subst e
      exact .cons n t (ih r2)

section
variable {X : Cx} {e : Expr} {te : TE} {lo hi : Option Expr} {tl th : TO} {pos p2 : Pos}
theorem po_none : PO X none tNoPart := by
  intro pins s σ H Q I h
  rw [evalPart_none]
  exact wpAny_pure ⟨none, H, I, .none, h⟩
theorem zo_none : ZO X none tNoPart := by with_unfolding_all exact po_none 
theorem po_some (h : PE X e te) : PO X (some e) (tPart te) := by
  intro pins s σ H Q I hw
  rw [evalPart_some]
  refine thn (h pins s σ H _ I hw) fun u s1 ⟨x, H1, I1, r1, q1⟩ => ?_
  obtain ⟨i, rfl, q⟩ := q1
  obtain ⟨t, rfl⟩ := r1
  exact ⟨some i, H1, I1, .int i t, q⟩
theorem zo_some (h : ZE X e te) : ZO X (some e) (tPart te) := by with_unfolding_all exact po_some h

noncomputable def SlR (X : Cx) (r : V → Option Int → Option Int → Hp → VK → Prop) : Prop :=
  ∀ (pins : List (Addr × Obj)) (s : Shared) (σ : St) (H : Hp) (x : V) (v vl vu : Value) (lo hi : Option Int) (sl : Addr) (Q : VK), Inv X pins σ H s → RelV x v → s.heap.IsSliceOf sl vl vu .none → IsPart vl lo → IsPart vu hi → r x lo hi H Q →
    ∃ T id, typeLookup (.type T) "__getitem__" = pure (some (.builtin id)) ∧ s.TypeIs v T ∧ wpAny (model X.prog X.w) X.A (getItem v (.ref sl)) (EP X pins σ Q) X.xe s
noncomputable def tSl (r : V → Option Int → Option Int → Hp → VK → Prop) (te : TE) (tl th : TO) : TE := fun σ H Q => te σ H fun x H1 => tl σ H1 fun l H2 => th σ H2 fun u H3 => r x l u H3 Q
theorem pe_slice {r : V → Option Int → Option Int → Hp → VK → Prop} (hr : SlR X r) (he : PE X e te) (hl : PO X lo tl) (hu : PO X hi th) : PE X (.Subscript e (.Slice lo hi none p2) pos) (tSl r te tl th) := by
  intro pins s σ H Q I h
  refine Subscript_ (thn (he pins s σ H _ I h) fun v s1 ⟨x, H1, I1, r1, q1⟩ => ?_)
  refine wpAny_Slice (thn (hl pins s1 σ H1 _ I1 q1) fun vl s2 ⟨l, H2, I2, pl, q2⟩ => thn (hu pins s2 σ H2 _ I2 q2) fun vu s3 ⟨u, H3, I3, pu, q3⟩ => ?_)
  rw [evalPart_none]
  refine wpAny_pure ?_
  have I4 : Inv X pins σ H3 { s3 with heap := s3.heap.push { cls := .type "slice", data := .fields #[vl, vu, .none] } } := I3.kept (t' := s3.toks) fun b ob q => Heap.get?_push_of_some _ q
  obtain ⟨T, id, hT, ht, hg⟩ := hr pins { s3 with heap := s3.heap.push { cls := .type "slice", data := .fields #[vl, vu, .none] } } σ H3 x v vl vu l u s3.heap.objs.size Q I4 r1 (Heap.IsSliceOf.new ..) pl pu q3
  show wpAny (model X.prog X.w) X.A (subscriptTail e (.Slice lo hi none p2) v (.ref s3.heap.objs.size)) (EP X pins σ Q) X.xe { s3 with heap := s3.heap.push { cls := .type "slice", data := .fields #[vl, vu, .none] } }
  exact tail_any (ops := [.ref s3.heap.objs.size, v]) ht hT hg (by with_unfolding_all rfl)
theorem ze_slice {r : V → Option Int → Option Int → Hp → VK → Prop} (hr : SlR X r) (he : ZE X e te) (hl : ZO X lo tl) (hu : ZO X hi th) : ZE X (.Subscript e (.Slice lo hi none p2) pos) (tSl r te tl th) := by with_unfolding_all exact pe_slice hr he hl hu

noncomputable def cutV (xs : List V) (lo hi : Option Int) : List V := (xs.drop (HT.sIx xs.length 0 lo)).take (HT.sIx xs.length xs.length hi - HT.sIx xs.length 0 lo)
theorem cutV_length (xs : List V) (lo hi : Option Int) : (cutV xs lo hi).length ≤ xs.length := by
  unfold cutV
  rw [List.length_take, List.length_drop]
  omega
noncomputable def rSlT (K : PySem.W.Frag) : V → Option Int → Option Int → Hp → VK → Prop := fun x lo hi H Q => ∃ a xs, x = .ref a ∧ SqT K H a xs ∧
  ¬ (HT.sIx xs.length 0 lo = 0 ∧ HT.sIx xs.length xs.length hi = xs.length) ∧ ∀ p, H p = none → Q (.ref p) (upd H p (.tup (cutV xs lo hi)))
theorem sl_tup : SlR X (rSlT X.K) := by
  intro pins s σ H x v vl vu lo hi sl Q I rx hs pl pu h
  obtain ⟨a, xs, rfl, hx, hw, q⟩ := h
  cases rx
  obtain ⟨its, r, ht, hz⟩ := I.tuple hx
  have hlen : its.toArray.size = xs.length := by rw [List.size_toArray]; exact r.length.symm
  refine ⟨"tuple", _, PyProof.Rows.slot_tuple_getitem.lookup, ht.typeIs, ?_⟩
  refine HT.getItem_tuple_cut ht hs pl pu (by rw [hlen]; exact hw) ?_ (by rw [hlen]; exact hz)
  rw [hlen]
  refine ⟨.ref s.heap.objs.size, _, I.laid (t' := s.toks) (o := .tup (cutV xs lo hi)) (fun b ob q => Heap.get?_push_of_some _ q) (Nat.le_refl _) ?_, rfl, q _ (I.hok.fresh (Nat.le_refl _))⟩
  exact ⟨Nat.le_trans (cutV_length xs lo hi) hz, _, (r.drop (HT.sIx xs.length 0 lo)).take (HT.sIx xs.length xs.length hi - HT.sIx xs.length 0 lo), TupD.new _ _⟩

noncomputable def rCatT (K : PySem.W.Frag) : R2 := fun x y H Q => ∃ a b xs ys, x = .ref a ∧ y = .ref b ∧ SqT K H a xs ∧ SqT K H b ys ∧ xs ≠ [] ∧ xs.length + ys.length ≤ sizeLine ∧
  (ys = [] → Q (.ref a) H) ∧ (ys ≠ [] → ∀ p, H p = none → Q (.ref p) (upd H p (.tup (xs ++ ys))))
theorem Vals.nil_iff {xs : List V} {us : List Value} (r : Vals xs us) : us = [] ↔ xs = [] := by
  cases r with
  | nil => simp
  | cons _ _ => simp
theorem op_catT : OpR X (binaryOp .Add) (rCatT X.K) := by
  intro pins s σ H x y v u Q I rx ry h
  obtain ⟨a, b, xs, ys, rfl, rfl, ha, hb, hx, hz, q1, q2⟩ := h
  cases rx
  cases ry
  obtain ⟨its, r1, p1, _⟩ := I.tuple ha
  obtain ⟨its2, r2, p2, _⟩ := I.tuple hb
  refine HT.cat_tup p1 p2 (fun z => hx (r1.nil_iff.mp z)) (fun z => ⟨.ref a, H, I, rfl, q1 (r2.nil_iff.mp z)⟩) (fun z => ?_) (by rw [← r1.length, ← r2.length]; exact hz)
  refine ⟨.ref s.heap.objs.size, _, I.laid (t' := s.toks) (o := .tup (xs ++ ys)) (fun b ob q => Heap.get?_push_of_some _ q) (Nat.le_refl _) ?_, rfl, q2 (fun w => z (r2.nil_iff.mpr w)) _ (I.hok.fresh (Nat.le_refl _))⟩
  exact ⟨by rw [List.length_append]; exact hz, _, r1.append r2, TupD.new _ _⟩
end
end L2
namespace L2
open PySem PySem.Spec PyProof.Rows
noncomputable def ixN (n : Nat) (i : Int) : Option Nat := if 0 ≤ i then (if i < n then some i.toNat else none) else if -(n : Int) ≤ i then some (i + n).toNat else none
noncomputable def atI {α : Type} (xs : List α) (i : Int) : Option α := (ixN xs.length i).bind fun j => xs[j]?
theorem ixN_seq {n : Nat} {i : Int} {j : Nat} (h : ixN n i = some j) : seqIndex? i n = some j ∧ j < n ∧ -(n : Int) ≤ i ∧ i < n := by
  unfold ixN at h
  by_cases h0 : 0 ≤ i
  · rw [if_pos h0] at h
    by_cases h1 : i < n
    · rw [if_pos h1] at h
      have e : i.toNat = j := Option.some.inj h
      exact ⟨by rw [seqIndex_of h0 h1, e], by omega, by omega, h1⟩
    · rw [if_neg h1] at h; cases h
  · rw [if_neg h0] at h
    by_cases h1 : -(n : Int) ≤ i
    · rw [if_pos h1] at h
      have e : (i + n).toNat = j := Option.some.inj h
      exact ⟨by rw [seqIndex_neg (by omega) h1, e], by omega, h1, by omega⟩
    · rw [if_neg h1] at h; cases h
theorem atI_get {α : Type} {xs : List α} {i : Int} {v : α} (h : atI xs i = some v) : ∃ j, seqIndex? i xs.length = some j ∧ xs[j]? = some v ∧ j < xs.length ∧ -(xs.length : Int) ≤ i ∧ i < xs.length := by
  unfold atI at h
  cases e : ixN xs.length i with
  | none => rw [e] at h; cases h
  | some j =>
    rw [e] at h
    obtain ⟨h1, h2, h3, h4⟩ := ixN_seq e
    exact ⟨j, h1, h, h2, h3, h4⟩
theorem atI_nat {α : Type} {xs : List α} {j : Nat} {v : α} (h : xs[j]? = some v) : atI xs (j : Int) = some v := by
  have hj : j < xs.length := (List.getElem?_eq_some_iff.mp h).1
  have e : ixN xs.length (j : Int) = some j := by
    unfold ixN
    rw [if_pos (by omega), if_pos (by omega)]; simp
  unfold atI; rw [e]; exact h
theorem atI_last {α : Type} (xs : List α) (v : α) : atI (xs ++ [v]) (-1) = some v := by
  have hl : (xs ++ [v]).length = xs.length + 1 := by simp
  have e : ixN (xs ++ [v]).length (-1) = some xs.length := by
    unfold ixN
    rw [hl, if_neg (by decide), if_pos (by omega)]
    congr 1
    omega
  unfold atI
  rw [e]
  show (xs ++ [v])[xs.length]? = some v
  simp

noncomputable def PlainIx (b : Expr) : Prop := ∀ o i, subscripted b false o i = operate [o, i] (getItem o i)
noncomputable def IxR (X : Cx) (r : R2) : Prop :=
  ∀ (value slice : Expr) (pins : List (Addr × Obj)) (s : Shared) (σ : St) (H : Hp) (x y : V) (v u : Value) (Q : VK), Inv X pins σ H s → RelV x v → RelV y u → r x y H Q →
    subscripted slice false v u = operate [v, u] (getItem v u) → wpAny (model X.prog X.w) X.A (subscriptTail value slice v u) (EP X pins σ Q) X.xe s
noncomputable def MtR (X : Cx) (id : String) (r : V → List V → Hp → VK → Prop) : Prop :=
  ∀ (pins : List (Addr × Obj)) (s : Shared) (σ : St) (H : Hp) (x : V) (xs : List V) (v : Value) (us : List Value) (Q : VK), Inv X pins σ H s → RelV x v → Vals xs us → r x xs H Q →
    wpAny (model X.prog X.w) X.A (call (.builtin id) (v :: us)) (EP X pins σ Q) X.xe s
section
variable {X : Cx} {a b : Expr} {ta tb : TE} {pos : Pos}
theorem pe_ix {r : R2} (hr : IxR X r) (ha : PE X a ta) (hb : PE X b tb) (hs : PlainIx b) : PE X (.Subscript a b pos) (tOp r ta tb) := by
  intro pins s σ H Q I h
  exact Subscript_ (binT ha hb I h fun v u s2 x y H2 I2 rx ry q => hr a b pins s2 σ H2 x y v u Q I2 rx ry q (hs _ _))
theorem ze_ix {r : R2} (hr : IxR X r) (ha : ZE X a ta) (hb : ZE X b tb) (hs : PlainIx b) : ZE X (.Subscript a b pos) (tOp r ta tb) := by with_unfolding_all exact pe_ix hr ha hb hs

noncomputable def rIxL (K : PySem.W.Frag) : R2 := fun x y H Q => ∃ p xs i v, x = .ref p ∧ y = .int i ∧ SqL K H p xs ∧ atI xs i = some v ∧ Q v H
noncomputable def rIxT (K : PySem.W.Frag) : R2 := fun x y H Q => ∃ p xs i v, x = .ref p ∧ y = .int i ∧ SqT K H p xs ∧ atI xs i = some v ∧ Q v H
theorem ix_list : IxR X (rIxL X.K) := by
  intro value slice pins s σ H x y v u Q I rx ry h hs
  obtain ⟨p, xs, i, z, rfl, rfl, hq, he, q⟩ := h
  cases rx
  obtain ⟨t, rfl⟩ := ry
  obtain ⟨its, r, pl, hz⟩ := I.list hq
  obtain ⟨j, h1, h2, h3, h4, h5⟩ := atI_get he
  obtain ⟨w, ew, rw'⟩ := r.get h2
  have hl := r.length
  have hn := line63
  have fin : EP X pins σ Q w s := ⟨z, H, I, rw', q⟩
  by_cases h0 : 0 ≤ i
  · have hj : i.toNat = j := by
      rw [seqIndex_of h0 h5] at h1
      exact Option.some.inj h1
    exact item_listR pl.isList h0 (by omega) (by rw [hj]; simpa using ew) fin hs
  · have hj : (i + (its.toArray.size : Int)).toNat = j := by
      rw [seqIndex_neg (by omega) h4] at h1
      rw [List.size_toArray, ← hl]
      exact Option.some.inj h1
    exact subscriptTail_builtinR (x := w) pl.isList.typeIs slot_list_getitem.lookup
      (wpAny_getItem_list_neg (Q := fun r s' => r = w ∧ EP X pins σ Q r s') pl.isList (by omega) (by rw [List.size_toArray] <;> omega) (by omega) (by rw [hj]; simpa using ew) ⟨rfl, fin⟩) hs
theorem ix_tup : IxR X (rIxT X.K) := by
  intro value slice pins s σ H x y v u Q I rx ry h hs
  obtain ⟨p, xs, i, z, rfl, rfl, hq, he, q⟩ := h
  cases rx
  obtain ⟨t, rfl⟩ := ry
  obtain ⟨its, r, pl, hz⟩ := I.tuple hq
  obtain ⟨j, h1, h2, h3, h4, h5⟩ := atI_get he
  obtain ⟨w, ew, rw'⟩ := r.get h2
  have hl := r.length
  have hn := line63
  have fin : EP X pins σ Q w s := ⟨z, H, I, rw', q⟩
  exact subscriptTail_builtinR (x := w) pl.typeIs slot_tuple_getitem.lookup
    (getItem_tuple (j := j) (Q := fun r s' => r = w ∧ EP X pins σ Q r s') pl (by omega) (by omega) (by rw [List.size_toArray, ← hl]; exact h1) (by simpa using ew) ⟨rfl, fin⟩) hs
theorem mapSeq_set (its : List Value) (n j : Nat) (u : Value) : Obj.mapSeq (·.setIfInBounds j u) { cls := .type "list", data := .seq its.toArray n } = { cls := .type "list", data := .seq (its.set j u).toArray n } := by
  simp [Obj.mapSeq]
theorem Inv.lst {pins : List (Addr × Obj)} {σ : St} {H : Hp} {s : Shared} {p : Addr} {xs : List V} (I : Inv X pins σ H s) (h : H p = some (.lst xs)) :
    ∃ (its : List Value) (n : Nat), Vals xs its ∧ s.heap.get? p = some { cls := .type "list", data := .seq its.toArray n } ∧ xs.length ≤ sizeLine := by
  obtain ⟨z, its, n, r, e⟩ := I.hok p _ h
  exact ⟨its, n, r, e, z⟩
theorem Inv.lstUpd {pins : List (Addr × Obj)} {σ : St} {H : Hp} {s : Shared} {p : Addr} {xs ys : List V} {its its' : List Value} {n n' : Nat} {f : Obj → Obj} (I : Inv X pins σ H s) (h : H p = some (.lst xs))
    (ho : s.heap.get? p = some { cls := .type "list", data := .seq its.toArray n }) (hf : f { cls := .type "list", data := .seq its.toArray n } = { cls := .type "list", data := .seq its'.toArray n' }) (r : Vals ys its') (hz : ys.length ≤ sizeLine) (t : Nat) :
    Inv X pins σ (upd H p (.lst ys)) { s with heap := s.heap.update p f, toks := t } := by
  have e : (s.heap.update p f).get? p = some { cls := .type "list", data := .seq its'.toArray n' } := by
    rw [Heap.get?_update_self f ho (by rw [hf] <;> rfl), hf]
  refine I.write (x := p) (e := p) (by rw [h]; trivial) (.inl rfl) (fun b u hb q => (Heap.get?_update_other _ _ (Ne.symm hb)).trans q) ⟨_, e⟩ ?_
  exact ⟨hz, its', n', r, e⟩
noncomputable def rSetL : V → V → V → Hp → (Hp → Prop) → Prop := fun o i v H Q => ∃ p xs k j, o = .ref p ∧ i = .int k ∧ H p = some (.lst xs) ∧ ixN xs.length k = some j ∧ Q (upd H p (.lst (xs.set j v)))
theorem set_list : PSet X rSetL := by
  intro pins s σ H o i v ov iv u Q I ro ri rv h
  obtain ⟨p, xs, k, j, rfl, rfl, hp, hj, q⟩ := h
  cases ro
  obtain ⟨t, rfl⟩ := ri
  obtain ⟨its, n, r, ho, hz⟩ := I.lst hp
  obtain ⟨h1, h2, h3, h4⟩ := ixN_seq hj
  have hl := r.length
  have hn := line63
  have I' : Inv X pins σ (upd H p (.lst (xs.set j v))) { s with heap := s.heap.update p (Obj.mapSeq (·.setIfInBounds j u)) } :=
    I.lstUpd hp ho (mapSeq_set its n j u) (r.set rv j) (by rw [List.length_set]; exact hz) s.toks
  by_cases h0 : 0 ≤ k
  · have hk : k.toNat = j := by
      rw [seqIndex_of h0 h4] at h1
      exact Option.some.inj h1
    exact PySem.W.ki_setAt ho h0 (by omega) (by rw [List.size_toArray, ← hl]; exact h4) (by rw [hk]; exact ⟨_, I', q⟩)
  · have hk : (k + (its.toArray.size : Int)).toNat = j := by
      rw [seqIndex_neg (by omega) h3] at h1
      rw [List.size_toArray, ← hl]
      exact Option.some.inj h1
    exact PySem.W.ki_setBack ho (by omega) (by rw [List.size_toArray, ← hl]; exact h3) (by omega) (by rw [hk]; exact ⟨_, I', q⟩)

theorem slice_bounds (lo hi : Option Int) (n : Nat) : (sliceBounds lo hi none n).1 = ((HT.sIx n 0 lo : Nat) : Int) ∧ (sliceBounds lo hi none n).2.1 = ((HT.sIx n n hi : Nat) : Int) ∧ (sliceBounds lo hi none n).2.2 = 1 := by
  refine ⟨?_, ?_, rfl⟩
  · cases lo with
    | none => simp [sliceBounds, HT.sIx]
    | some i =>
      simp only [sliceBounds, HT.sIx, Option.getD_none, show (1 : Int) > 0 by decide, if_true]
      by_cases h : i < 0
      · simp only [h, if_true] <;> omega
      · simp only [h, if_false] <;> omega
  · cases hi with
    | none => simp [sliceBounds, HT.sIx]
    | some i =>
      simp only [sliceBounds, HT.sIx, Option.getD_none, show (1 : Int) > 0 by decide, if_true]
      by_cases h : i < 0
      · simp only [h, if_true] <;> omega
      · simp only [h, if_false] <;> omega
theorem slicePick_cut (its : List Value) (lo hi : Option Int) : slicePick its.toArray lo hi none = ((its.drop (HT.sIx its.length 0 lo)).take (HT.sIx its.length its.length hi - HT.sIx its.length 0 lo)).toArray := by
  obtain ⟨h1, h2, h3⟩ := slice_bounds lo hi its.toArray.size
  unfold slicePick
  rw [h1, h2, h3]
  simp only [sliceRange_one, pick_run, List.size_toArray] <;> rfl
noncomputable def rSlL (K : PySem.W.Frag) : V → Option Int → Option Int → Hp → VK → Prop := fun x lo hi H Q => ∃ a xs, x = .ref a ∧ SqL K H a xs ∧ ∀ p, H p = none → Q (.ref p) (upd H p (.lst (cutV xs lo hi)))
theorem sl_list : SlR X (rSlL X.K) := by
  intro pins s σ H x v vl vu lo hi sl Q I rx hs pl pu h
  obtain ⟨a, xs, rfl, hx, q⟩ := h
  cases rx
  obtain ⟨its, r, ht, hz⟩ := I.list hx
  have hlen := r.length
  refine ⟨"list", _, slot_list_getitem.lookup, ht.isList.typeIs, ?_⟩
  refine wpAny_getItem_list_slice ht.isList hs pl pu .none (by simp) ?_ (by rw [List.size_toArray] <;> omega)
  rw [slicePick_cut, ← hlen]
  refine ⟨.ref s.heap.objs.size, _, I.laid (t' := s.toks) (o := .lst (cutV xs lo hi)) (fun b ob q => Heap.get?_push_of_some _ q) (Nat.le_refl _) ?_, rfl, q _ (I.hok.fresh (Nat.le_refl _))⟩
  exact ⟨Nat.le_trans (cutV_length xs lo hi) hz, _, 0, (r.drop (HT.sIx xs.length 0 lo)).take (HT.sIx xs.length xs.length hi - HT.sIx xs.length 0 lo), Heap.get?_push_size _ rfl⟩

noncomputable def flatV : V → Bool
  | .non => true
  | .bl _ => true
  | .int _ => true
  | .str _ => true
  | _ => false
noncomputable def eqV : V → V → Bool
  | .non, .non => true
  | .bl a, .bl b => a == b
  | .bl a, .int b => (if a then 1 else 0) == b
  | .int a, .bl b => a == (if b then 1 else 0)
  | .int a, .int b => a == b
  | .str a, .str b => a == b
  | _, _ => false
theorem eqAt_V {A : Around} {s : Shared} {y x : V} {u v : Value} (ry : RelV y u) (rx : RelV x v) (fy : flatV y = true) (fx : flatV x = true) : SeqAt.EqAt A s u v (eqV y x) := by
  cases y with
  | non =>
    cases ry
    cases x with
    | non => cases rx; exact SeqAt.EqAt.same _
    | bl b => cases rx; exact SeqAt.EqAt.none_bool b
    | int b => obtain ⟨t, rfl⟩ := rx; exact SeqAt.EqAt.none_int b t
    | str b => obtain ⟨t, rfl⟩ := rx; exact SeqAt.EqAt.none_str b t
    | _ => exact absurd (show false = true from fx) Bool.false_ne_true
  | bl a =>
    cases ry
    cases x with
    | non => cases rx; exact SeqAt.EqAt.bool_none a
    | bl b => cases rx; exact SeqAt.EqAt.bool_bool a b
    | int b => obtain ⟨t, rfl⟩ := rx; exact SeqAt.EqAt.bool_int a b t
    | str b => obtain ⟨t, rfl⟩ := rx; exact SeqAt.EqAt.bool_str a b t
    | _ => exact absurd (show false = true from fx) Bool.false_ne_true
  | int a =>
    obtain ⟨t', rfl⟩ := ry
    cases x with
    | non => cases rx; exact SeqAt.EqAt.int_none a t'
    | bl b => cases rx; exact SeqAt.EqAt.int_bool a t' b
    | int b => obtain ⟨t, rfl⟩ := rx; exact SeqAt.EqAt.int_int a t' b t
    | str b => obtain ⟨t, rfl⟩ := rx; exact SeqAt.EqAt.int_str a t' b t
    | _ => exact absurd (show false = true from fx) Bool.false_ne_true
  | str a =>
    obtain ⟨t', rfl⟩ := ry
    cases x with
    | non => cases rx; exact SeqAt.EqAt.str_none a t'
    | bl b => cases rx; exact SeqAt.EqAt.str_bool a t' b
    | int b => obtain ⟨t, rfl⟩ := rx; exact SeqAt.EqAt.str_int a t' b t
    | str b => obtain ⟨t, rfl⟩ := rx; exact SeqAt.EqAt.str_str a t' b t
    | _ => exact absurd (show false = true from fx) Bool.false_ne_true
  | _ => exact absurd (show false = true from fy) Bool.false_ne_true
noncomputable def eqU (x : V) (u : Value) : Bool := match u with
  | .none => eqV .non x
  | .bool b => eqV (.bl b) x
  | .int i _ => eqV (.int i) x
  | .str z _ => eqV (.str z) x
  | _ => false
theorem eqU_of {x y : V} {u : Value} (r : RelV y u) (f : flatV y = true) : eqU x u = eqV y x := by
  cases y with
  | non => cases r; rfl
  | bl b => cases r; rfl
  | int i => obtain ⟨t, rfl⟩ := r; rfl
  | str z => obtain ⟨t, rfl⟩ := r; rfl
  | _ => exact absurd (show false = true from f) Bool.false_ne_true
theorem any_eqU {x : V} : ∀ {xs : List V} {us : List Value}, Vals xs us → xs.all flatV = true → us.any (eqU x) = xs.any fun y => eqV y x
  | _, _, .nil, _ => rfl
  | y :: xs, u :: us, .cons r t, f => by
    rw [List.all_cons, Bool.and_eq_true] at f
    rw [List.any_cons, List.any_cons, eqU_of r f.1, any_eqU t f.2]
theorem mem_eqAt {A : Around} {s : Shared} {x : V} {v : Value} (rx : RelV x v) (fx : flatV x = true) : ∀ {xs : List V} {us : List Value}, Vals xs us → xs.all flatV = true → ∀ u ∈ us, SeqAt.EqAt A s u v (eqU x u)
  | _, _, .nil, _ => fun u hu => by cases hu
  | y :: xs, u :: us, .cons r t, f => fun u' hu => by
    rw [List.all_cons, Bool.and_eq_true] at f
    rcases List.mem_cons.mp hu with rfl | hu
    · rw [eqU_of r f.1]; exact eqAt_V r rx f.1 fx
    · exact mem_eqAt rx fx t f.2 u' hu
noncomputable def inV (x : V) (xs : List V) : Bool := xs.any fun y => eqV y x
noncomputable def rIn (K : PySem.W.Frag) (neg : Bool) : R2 := fun x y H Q => ∃ p xs, y = .ref p ∧ (SqL K H p xs ∨ SqT K H p xs) ∧ flatV x = true ∧ xs.all flatV = true ∧ Q (.bl (if neg then !inV x xs else inV x xs)) H
theorem op_in_seq : OpR X (compareOp .In) (rIn X.K false) := by
  intro pins s σ H x y v u Q I rx ry h
  obtain ⟨p, xs, rfl, hq, fx, fs, q⟩ := h
  cases ry
  rcases hq with hq | hq
  · obtain ⟨its, r, pl, hz⟩ := I.list hq
    refine SeqAt.in_listAt (eqU x) pl.isList (fun w hw => mem_eqAt rx fx r fs w (by simpa using hw)) ⟨.bl _, H, I, rfl, ?_⟩
    rw [show its.toArray.any (eqU x) = its.any (eqU x) by simp, any_eqU r fs]
    exact q
  · obtain ⟨its, r, pl, hz⟩ := I.tuple hq
    refine SeqAt.in_tupleAt (eqU x) pl (fun w hw => mem_eqAt rx fx r fs w (by simpa using hw)) ⟨.bl _, H, I, rfl, ?_⟩
    rw [show its.toArray.any (eqU x) = its.any (eqU x) by simp, any_eqU r fs]
    exact q
theorem call_len_seq : CallR X (.builtin "len") (fun xs H Q => ∃ p ys, xs = [.ref p] ∧ (SqL X.K H p ys ∨ SqT X.K H p ys) ∧ Q (.int ys.length) H) := by
  intro pins s σ H xs us Q I r h
  obtain ⟨p, ys, rfl, hq, q⟩ := h
  obtain ⟨u, rfl, rx⟩ := vals1 r
  cases rx
  have hn := line63
  rcases hq with hq | hq
  · obtain ⟨its, r', pl, hz⟩ := I.list hq
    have hlen := r'.length
    exact Calls.call_len_list pl.isList (by simp only [List.size_toArray] <;> omega) ⟨.int ys.length, H, I.tok _, ⟨s.toks + 1, by rw [List.size_toArray, hlen]⟩, q⟩
  · obtain ⟨its, r', pl, hz⟩ := I.tuple hq
    have hlen := r'.length
    exact len_tuple pl (by simp only [List.size_toArray] <;> omega) ⟨.int ys.length, H, I.tok _, ⟨s.toks + 1, by rw [List.size_toArray, hlen]⟩, q⟩
theorem call_list_of : CallR X (.type "list") (fun xs H Q => ∃ p ys, xs = [.ref p] ∧ (SqL X.K H p ys ∨ SqT X.K H p ys) ∧ ∀ l, H l = none → Q (.ref l) (upd H l (.lst ys))) := by
  intro pins s σ H xs us Q I r h
  obtain ⟨p, ys, rfl, hq, q⟩ := h
  obtain ⟨u, rfl, rx⟩ := vals1 r
  cases rx
  have fin : ∀ (its : List Value), Vals ys its → ys.length ≤ sizeLine → ∀ (h' : Heap) (c' : Nat), (∀ b o', s.heap.get? b = some o' → h'.get? b = some o') →
      h'.get? s.heap.objs.size = some { cls := .type "list", dict := none, data := .seq its.toArray c', slots := #[] } → EP X pins σ Q (.ref s.heap.objs.size) { s with heap := h' } := fun its r' hz h' c' kp e =>
    ⟨.ref s.heap.objs.size, _, I.laid (t' := s.toks) kp (Nat.le_refl _) (show ObjOk X.prog X.w _ h' _ (.lst ys) from ⟨hz, its, c', r', e⟩), rfl, q _ (I.hok.fresh (Nat.le_refl _))⟩
  rcases hq with hq | hq
  · obtain ⟨its, r', pl, hz⟩ := I.list hq
    have hlen := r'.length
    obtain ⟨o, ho, hc, n, hd⟩ := pl.isList
    exact call_list_seq p (.inl rfl) ho hc hd (fun h' c' kp e => fin its r' hz h' c' kp e) (by simp only [List.size_toArray] <;> omega)
  · obtain ⟨its, r', pl, hz⟩ := I.tuple hq
    have hlen := r'.length
    obtain ⟨o, ho, hc, n, hd⟩ := pl
    exact call_list_seq p (.inr rfl) ho hc hd (fun h' c' kp e => fin its r' hz h' c' kp e) (by simp only [List.size_toArray] <;> omega)
theorem call_tuple_of : CallR X (.type "tuple") (fun xs H Q => ∃ p ys, xs = [.ref p] ∧ ((SqL X.K H p ys ∧ ∀ l, H l = none → Q (.ref l) (upd H l (.tup ys))) ∨ (SqT X.K H p ys ∧ Q (.ref p) H))) := by
  intro pins s σ H xs us Q I r h
  obtain ⟨p, ys, rfl, h⟩ := h
  obtain ⟨u, rfl, rx⟩ := vals1 r
  cases rx
  rcases h with ⟨hq, q⟩ | ⟨hq, q⟩
  · obtain ⟨its, r', pl, hz⟩ := I.list hq
    have hlen := r'.length
    refine call_tuple_list pl.isList (fun h' kp => ?_) (by simp only [List.size_toArray] <;> omega)
    have I1 : Inv X pins σ H { s with heap := h' } := I.kept (t' := s.toks) kp
    have I2 : Inv X pins σ (upd H h'.objs.size (.tup ys)) { s with heap := h'.push { cls := .type "tuple", data := .seq its.toArray } } :=
      I1.laid (t' := s.toks) (fun b o e => Heap.get?_push_of_some _ e) (Nat.le_refl _) (show ObjOk X.prog X.w _ _ _ (.tup ys) from ⟨hz, its, r', TupD.new _ _⟩)
    exact ⟨.ref h'.objs.size, _, I2, rfl, q _ (I1.hok.fresh (Nat.le_refl _))⟩
  · obtain ⟨its, r', pl, hz⟩ := I.tuple hq
    exact call_tuple_same pl ⟨.ref p, H, I, rfl, q⟩

noncomputable def tyV (K : PySem.W.Frag) (T : String) (x : V) (H : Hp) : Prop := match x with
  | .str _ => T = "str"
  | .int _ => T = "int"
  | .ref p => (T = "list" ∧ ∃ xs, SqL K H p xs) ∨ (T = "tuple" ∧ ∃ o, K.lookup p = some o ∧ o.cls = .type "tuple" ∧ o.dict = none) ∨
      (T = "dict" ∧ ((∃ kvs, H p = some (.dK kvs)) ∨ ∃ kvs, H p = some (.dT kvs))) ∨ (T = "set" ∧ ∃ S n, H p = some (.set S n)) ∨ (T = "tuple" ∧ ∃ xs, H p = some (.tup xs))
  | _ => False
theorem tyV_is {pins : List (Addr × Obj)} {σ : St} {H : Hp} {s : Shared} {T : String} {x : V} {v : Value} (I : Inv X pins σ H s) (r : RelV x v) (ty : tyV X.K T x H) :
    s.TypeIs v T ∧ ∀ a, v = .ref a → ∃ ob, s.heap.get? a = some ob ∧ ob.dict = none := by
  cases x with
  | str z =>
    obtain ⟨t, rfl⟩ := r
    cases (show T = "str" from ty)
    exact ⟨typeIs_str s z t, fun _ e => nomatch e⟩
  | int i =>
    obtain ⟨t, rfl⟩ := r
    cases (show T = "int" from ty)
    exact ⟨typeIs_int s i t, fun _ e => nomatch e⟩
  | ref p =>
    cases r
    rcases ty with ⟨rfl, xs, hq⟩ | ⟨rfl, o, hk, hc, hd⟩ | ⟨rfl, hk⟩ | ⟨rfl, S, n, hk⟩ | ⟨rfl, xs, hk⟩
    · obtain ⟨its, _, pl, _⟩ := I.list hq
      refine ⟨pl.isList.typeIs, fun a e => ?_⟩
      cases e
      obtain ⟨o, n, e, c, hd, _⟩ := pl
      exact ⟨o, e, hd⟩
    · refine ⟨⟨o, I.kIn p o hk, hc⟩, fun a e => ?_⟩
      cases e
      exact ⟨o, I.kIn _ o hk, hd⟩
    · have z : ∃ o, s.heap.get? p = some o ∧ o.ExactDict := by
        rcases hk with ⟨kvs, hk⟩ | ⟨kvs, hk⟩
        · obtain ⟨_, _, _, _, o, _, _, e, ex, _⟩ := I.hok p _ hk
          exact ⟨o, e, ex⟩
        · obtain ⟨_, _, _, _, o, _, _, e, ex, _⟩ := I.hok p _ hk
          exact ⟨o, e, ex⟩
      obtain ⟨o, e, ex⟩ := z
      refine ⟨⟨o, e, ex.1⟩, fun a e2 => ?_⟩
      cases e2
      exact ⟨o, e, ex.2.1⟩
    · obtain ⟨o, _, _, _, e, ex, _⟩ := I.hok p _ hk
      refine ⟨⟨o, e, ex.1⟩, fun a e2 => ?_⟩
      cases e2
      exact ⟨o, e, ex.2.1⟩
    · obtain ⟨_, _, _, n, e⟩ := I.hok p _ hk
      refine ⟨⟨_, e, rfl⟩, fun a e2 => ?_⟩
      cases e2
      exact ⟨_, e, rfl⟩
  | _ => exact False.elim ty
noncomputable def tBM (K : PySem.W.Frag) (T : String) (r : V → List V → Hp → VK → Prop) (to : TE) (t : TA) : TE := fun σ H Q => to σ H fun x H1 => tyV K T x H1 ∧ t σ H1 fun xs H2 => r x xs H2 Q
variable {o e : Expr} {es : List Expr} {to : TE} {t : TA} {name : Str} {apos cpos : Pos} {T id : String} {r : V → List V → Hp → VK → Prop}
theorem pe_bm (pa : PlainAttrs T) (slot : Slot T name id) (hty : typeOf (.builtin id) = pure (.type "method_descriptor")) (hm : MtR X id r) (ho : PE X o to) (ha : PA X (e :: es) t)
    (hbase : attributeBase o name X.env (eval o X.env) = eval o X.env := by rfl)
    (hfew : ((backTo cpos (starEach (e :: es) X.env)).all (fun x => !x.1) && (backToKw cpos (keywordEach [] X.env)).all (fun x => x.1.isSome)
      && decide ((e :: es).length + ([] : List Keyword).length + (if ([] : List Keyword).isEmpty then 0 else 1) < 30)) = true := by rfl)
    (hline : (apos.endLine == cpos.line) = true := by rfl) (hs : starEach (e :: es) X.env = (false, eval e X.env) :: starEach es X.env := by rfl) (hplain : (backTo cpos (starEach es X.env)).any (·.1) = false := by rfl) :
    PE X (.Call (.Attribute o name apos) (e :: es) [] cpos) (tBM X.K T r to t) := by
  intro pins s σ H Q I h
  refine wpAny_Call_method_late hbase hfew hline rfl (thn (ho pins s σ H _ I h) fun v s1 ⟨x, H1, I1, r1, ty, q1⟩ => ?_)
  obtain ⟨h1, h2⟩ := tyV_is I1 r1 ty
  refine ⟨T, id, pa, slot, hty, h1, h2, ?_⟩
  have hA := ha cpos pins s1 σ H1 _ I1 q1
  rw [hs] at hA ⊢
  refine Calls.callWith_builtin (by show (false || (backTo cpos (starEach es X.env)).any (·.1)) = false; rw [hplain] <;> rfl) (Calls.evalArgs_plain ?_)
  exact thn hA fun us s2 ⟨vs, H2, I2, r2, q2⟩ => hm pins s2 σ H2 x vs v us Q I2 r1 r2 q2
/- xs.append(e), list.index on a module's tuple .. are MtR facts of 06m -/
end
end L2
namespace L2
open PySem PySem.Spec PyProof.Rows
noncomputable def MtM (X : Cx) (id : String) (r : V → List V → Hp → VK → Prop) : Prop :=
  ∀ (pins : List (Addr × Obj)) (s : Shared) (σ : St) (H : Hp) (x : V) (xs : List V) (v : Value) (us : List Value) (Q : VK), Inv X pins σ H s → RelV x v → Vals xs us → r x xs H Q →
    wpAny (model X.prog X.w) X.A (call (.builtin id) (v :: us)) (EP X pins σ Q) X.xe s

theorem Vals.one : ∀ {x : V} {us : List Value}, Vals [x] us → ∃ u, us = [u] ∧ RelV x u
  | _, _, .cons r .nil => ⟨_, rfl, r⟩
theorem Vals.eraseIdx : ∀ {xs : List V} {us : List Value} (i : Nat), Vals xs us → Vals (xs.eraseIdx i) (us.eraseIdx i)
  | _, _, _, .nil => .nil
  | _, _, 0, .cons _ t => t
  | _, _, i + 1, .cons r t => .cons r (Vals.eraseIdx i t)
theorem Vals.reverse {xs : List V} {us : List Value} (h : Vals xs us) : Vals xs.reverse us.reverse := by
  induction h with
  | nil => exact .nil
  | cons r t ih => rw [List.reverse_cons, List.reverse_cons]; exact Vals.append ih (.cons r .nil)
theorem Vals.rep {xs : List V} {us : List Value} (h : Vals xs us) : ∀ k : Nat, Vals (List.replicate k xs).flatten (List.replicate k us).flatten
  | 0 => .nil
  | k + 1 => by
    rw [List.replicate_succ, List.replicate_succ, List.flatten_cons, List.flatten_cons]
    exact Vals.append h (Vals.rep h k)
theorem len_erase {α : Type} : ∀ (l : List α) (i : Nat), (l.eraseIdx i).length ≤ l.length
  | [], _ => Nat.le_refl _
  | _ :: _, 0 => Nat.le_succ _
  | _ :: r, i + 1 => Nat.succ_le_succ (len_erase r i)
theorem foldl_rep (its : List Value) : ∀ (k : Nat) (acc : List Value),
    List.foldl (fun x1 x2 => x1 ++ x2) acc.toArray (List.replicate k its.toArray) = (acc ++ (List.replicate k its).flatten).toArray
  | 0, acc => by simp
  | k + 1, acc => by
    have e : acc.toArray ++ its.toArray = (acc ++ its).toArray := by simp
    have e2 : (acc ++ its) ++ (List.replicate k its).flatten = acc ++ (List.replicate (k + 1) its).flatten := by
      rw [List.replicate_succ, List.flatten_cons, List.append_assoc]
    rw [← e2, ← foldl_rep its k (acc ++ its), ← e, List.replicate_succ, List.foldl_cons]

section
variable {X : Cx} {pins : List (Addr × Obj)} {σ : St} {H : Hp} {s : Shared} {l b : Addr} {xs ys zs : List V}
theorem Inv.lset {its its' : List Value} {n : Nat} {f : Array Value → Array Value} {t' : Nat} (I : Inv X pins σ H s) (hH : H l = some (.lst xs))
    (e : s.heap.get? l = some { cls := .type "list", data := .seq its.toArray n }) (hf : f its.toArray = its'.toArray) (hv : Vals ys its') (hz : ys.length ≤ sizeLine) :
    Inv X pins σ (upd H l (.lst ys)) { s with heap := s.heap.update l (Obj.mapSeq f), toks := t' } := by
  have q := PySem.IsL.update e f
  rw [hf] at q
  refine I.write (x := l) (e := l) (by rw [hH]; exact trivial) (.inl rfl) (fun b' u hb hu => (Heap.get?_update_other s.heap (Obj.mapSeq f) (Ne.symm hb)).trans hu) ⟨_, q⟩ ?_
  exact ⟨hz, its', _, hv, q⟩
theorem Inv.lnew {its : List Value} {t' : Nat} (I : Inv X pins σ H s) (hv : Vals ys its) (hz : ys.length ≤ sizeLine) :
    Inv X pins σ (upd H s.heap.objs.size (.lst ys)) { s with heap := s.heap.push { cls := .type "list", data := .seq its.toArray }, toks := t' } :=
  I.laid (fun _ _ q => Heap.get?_push_of_some _ q) (Nat.le_refl _) ⟨hz, its, 0, hv, Heap.get?_push_size _ rfl⟩
theorem Inv.fresh (I : Inv X pins σ H s) : H s.heap.objs.size = none := I.hok.fresh (Nat.le_refl _)
theorem Inv.lstM (I : Inv X pins σ H s) (hH : H l = some (.lst xs)) : xs.length ≤ sizeLine ∧ ∃ (its : List Value) (n : Nat), Vals xs its ∧ xs.length = its.length ∧ s.heap.get? l = some { cls := .type "list", data := .seq its.toArray n } := by
  obtain ⟨z, its, n, r, e⟩ := I.hok l _ hH
  exact ⟨z, its, n, r, r.length, e⟩

theorem notLongL {n : Nat} (h : n ≤ sizeLine) : Builtin.List.listTooLong n = false := by
  unfold Builtin.List.listTooLong
  exact decide_eq_false (by omega)
end
section
variable {X : Cx}
noncomputable def rAppend : V → List V → Hp → VK → Prop := fun x vs H Q => ∃ l xs y, x = .ref l ∧ vs = [y] ∧ H l = some (.lst xs) ∧ xs.length < sizeLine ∧ Q .non (upd H l (.lst (xs ++ [y])))
theorem mt_append : MtM X "list.append" rAppend := by
  intro pins s σ H x vs v us Q I rx rv h
  obtain ⟨l, xs, y, rfl, rfl, hH, hz, q⟩ := h
  cases rx
  obtain ⟨u, rfl, ru⟩ := rv.one
  obtain ⟨z, its, n, r, hl, e⟩ := I.lstM hH
  refine call_meets F.slot_list_append ⟨_, e, rfl⟩ F.entry_list_append (F.args_list_append_2 _ _) (PySem.list_append l its.toArray n u (by rw [List.size_toArray]; omega)) ⟨e, ?_⟩
  refine ⟨.non, _, I.lset (its' := its ++ [u]) hH e (by simp) (r.append (.cons ru .nil)) ?_, rfl, q⟩
  rw [List.length_append, List.length_singleton]
  omega

noncomputable def rPopAt : V → List V → Hp → VK → Prop := fun x vs H Q => ∃ l xs i k y, x = .ref l ∧ vs = [.int i] ∧ H l = some (.lst xs) ∧ -(2 ^ 63) ≤ i ∧ i < 2 ^ 63 ∧ seqIndex? i xs.length = some k ∧ xs[k]? = some y ∧ Q y (upd H l (.lst (xs.eraseIdx k)))
theorem mt_popAt : MtM X "list.pop" rPopAt := by
  intro pins s σ H x vs v us Q I rx rv h
  obtain ⟨l, xs, i, k, y, rfl, rfl, hH, h1, h2, hk, hy, q⟩ := h
  cases rx
  obtain ⟨u, rfl, ru⟩ := rv.one
  obtain ⟨t, rfl⟩ := ru
  obtain ⟨z, its, n, r, hl, e⟩ := I.lstM hH
  obtain ⟨w, hw, rw'⟩ := r.get hy
  refine call_meets F.slot_list_pop ⟨_, e, rfl⟩ F.entry_list_pop (F.args_list_pop_2 _ _)
    (MeetsSeq.list_pop_at l its.toArray n i t k w (fitsIndex_both h1 h2) (by rw [List.size_toArray, ← hl]; exact hk) (by rw [← Array.getElem?_toList]; exact hw) (by rw [List.size_toArray]; omega)) ⟨e, ?_⟩
  refine ⟨y, _, I.lset (its' := its.eraseIdx k) hH e ?_ (r.eraseIdx k) ?_, rw', q⟩
  · show its.toArray.eraseIdxIfInBounds k = (its.eraseIdx k).toArray
    rw [List.eraseIdxIfInBounds_toArray]
  · have := len_erase xs k
    omega

noncomputable def rCat : R2 := fun x y H Q => ∃ l b xs zs, x = .ref l ∧ y = .ref b ∧ H l = some (.lst xs) ∧ H b = some (.lst zs) ∧ xs.length + zs.length ≤ sizeLine ∧ ∀ p, H p = none → Q (.ref p) (upd H p (.lst (xs ++ zs)))
theorem op_cat : OpR X (binaryOp .Add) rCat := by
  intro pins s σ H x y v u Q I rx ry h
  obtain ⟨l, b, xs, zs, rfl, rfl, hH, hB, hz, q⟩ := h
  cases rx
  cases ry
  obtain ⟨z, its, n, r, hl, e⟩ := I.lstM hH
  obtain ⟨z2, its2, n2, r2, hl2, e2⟩ := I.lstM hB
  refine PySem.P.add_list e e2 ?_ (by rw [List.size_toArray, List.size_toArray]; omega)
  have ea : its.toArray ++ its2.toArray = (its ++ its2).toArray := by simp
  rw [ea]
  exact ⟨.ref _, _, I.lnew (t' := s.toks) (r.append r2) (by rw [List.length_append]; omega), rfl, q _ I.fresh⟩
noncomputable def rRep : R2 := fun x y H Q => ∃ l k xs, x = .ref l ∧ y = .int k ∧ H l = some (.lst xs) ∧ -(2 ^ 63) ≤ k ∧ k < 2 ^ 63 ∧ xs.length * k.toNat ≤ sizeLine ∧
  ∀ p, H p = none → Q (.ref p) (upd H p (.lst (List.replicate k.toNat xs).flatten))
theorem len_rep {α : Type} (xs : List α) (k : Nat) : (List.replicate k xs).flatten.length = k * xs.length := by
  induction k with
  | zero => simp
  | succ k ih => rw [List.replicate_succ, List.flatten_cons, List.length_append, ih, Nat.succ_mul, Nat.add_comm]
theorem op_rep : OpR X (binaryOp .Mult) rRep := by
  intro pins s σ H x y v u Q I rx ry h
  obtain ⟨l, k, xs, rfl, rfl, hH, h1, h2, hz, q⟩ := h
  cases rx
  obtain ⟨t, rfl⟩ := ry
  obtain ⟨z, its, n, r, hl, e⟩ := I.lstM hH
  have hlen : its.toArray.size * k.toNat ≤ sizeLine := by rw [List.size_toArray, ← hl]; exact hz
  have hcap : ¬ its.toArray.size * k.toNat > (2 ^ 63 - 1) / 8 := by
    have : (sizeLine : Nat) ≤ (2 ^ 63 - 1) / 8 := by decide
    omega
  have hfit : ¬ (!Builtin.List.listFitsIndex k) = true := by
    rw [fitsIndex_both h1 h2]
    exact Bool.false_ne_true
  have hlong : ¬ Builtin.List.listTooLong (its.toArray.size * k.toNat) = true := by
    rw [notLongL hlen]
    exact Bool.false_ne_true
  have hnew : List.foldl (fun x1 x2 => x1 ++ x2) #[] (List.replicate (if its.toArray.isEmpty = true then 0 else k.toNat) its.toArray) = (List.replicate k.toNat its).flatten.toArray := by
    have f0 : ∀ m : Nat, List.foldl (fun x1 x2 => x1 ++ x2) #[] (List.replicate m its.toArray) = (List.replicate m its).flatten.toArray := fun m => by
      have := foldl_rep its m []
      rw [List.nil_append] at this
      exact this
    rw [f0]
    cases its with
    | nil => simp
    | cons a r' => rw [if_neg (by simp)]
  refine wpAny_binaryOp_repeat_ref (T := "list") (U := "int") (by decide) ⟨_, e, rfl⟩ (fun s' => typeIs_int s' k t) noFill_list_mul F.fills_int_mul F.slot_int_rmul repeat_list F.slot_int_index.lookup
    (call_meets F.slot_int_rmul (typeIs_int s k t) F.entry_int_rmul (F.args_int_rmul_2 _ _) (int___rmul___int_list k t l its.toArray n)
      ⟨e, rfl, ⟨_, e, rfl⟩, call_meets F.slot_list_mul ⟨_, e, rfl⟩ F.entry_list_mul (F.args_list_mul_2 _ _) (AutoListH.list___mul___list_int_3 l its.toArray n k t hfit hcap hlong) ⟨e, ?_⟩⟩)
  rw [hnew]
  exact ⟨.ref _, _, I.lnew (t' := s.toks) (r.rep k.toNat) (by rw [len_rep, Nat.mul_comm]; exact hz), rfl, q _ I.fresh⟩

end
section
variable {prog : Program} {w : World} {A : Around} {E : Value → Shared → Prop} {s : Shared}
end
section
variable {X : Cx}
end
end L2
namespace Att
open PySem PySem.W PySem.Calls PyProof.Rows
theorem ints_of_wellAll {P : Params} {h : Heap} : ∀ (ns : List Int) (vs : List Value), WellAll P h vs (ns.map WData.int) → IntsAre vs ns := by
  intro ns
  induction ns with
  | nil =>
    intro vs w
    rw [List.map_nil] at w
    cases w
    exact .nil
  | cons n ns ih =>
    intro vs w
    rw [List.map_cons] at w
    cases w with
    | cons a b =>
      cases a
      exact .cons _ _ (ih _ b)

theorem script_of {l : OpenLaw} {n : Nat} (hn : l.most = some n) {P : Params} {h : Heap} {args : List WData} {vals : List Value}
    (hpre : l.row.toRowW.claim.pre args = true) (hwl : WellAll P h vals args) :
    ∃ a vs ns, vals = [Value.ref a] ∧ args = [WData.list (ns.map WData.int)] ∧ h.get? a = some { cls := .type "list", data := .seq vs.toArray } ∧ IntsAre vs ns ∧ ns.length ≤ n := by
  have hsh : WShape.hasAll [] args [.list .int] = true := (pre_splitW hpre).1
  have hc : l.pre.holds [] { args := args } = true := (pre_splitW hpre).2
  obtain ⟨d, r, rfl, h1, h2⟩ := hasAllW_cons hsh
  obtain rfl := hasAllW_nil h2
  obtain ⟨xs, rfl, h3⟩ := hasW_list h1
  obtain ⟨ns, rfl⟩ := items_int h3
  have hlen : ns.length ≤ n := by
    unfold OpenLaw.pre at hc
    have h4 : (WTm.not (.lt (.lit (.int (n : Int))) (.len (.arg 0)))).holds [] { args := [.list (ns.map .int)] } = true := by
      have h4 := (holds_andW hc).1
      rw [hn] at h4
      exact h4
    have h5 := condW_of h4 (w_not (w_lt w_lit (w_len_list (w_arg rfl))))
    rw [List.length_map] at h5
    refine Nat.le_of_not_lt fun q => ?_
    have q' : (n : Int) < ((ns.length : Nat) : Int) := by omega
    first
      | (rw [decide_eq_true q'] at h5; exact absurd h5 (by decide))
      | (simp at h5; omega)
  cases hwl with
  | cons w1 w2 =>
    cases w2
    cases w1 with
    | list ho hall => exact ⟨_, _, ns, rfl, rfl, ho, ints_of_wellAll ns _ hall, hlen⟩

theorem post_true (l : OpenLaw) (args : List WData) : l.row.toRowW.claim.post args (.bool true) args = true :=
  postW_of (r := l.row.toRowW) (X := (true == true))
    (show WShape.has [] (.bool true) .bool = true by first | rfl | decide | simp [WShape.has, WShape.arms, WShape.armsAll])
    (show (WTm.eq .res (.lit (.bool true))).value [] { args := args, res := some (.bool true), after := args } = some (.bool (true == true)) from w_eq_bool (w_res rfl) w_lit) rfl

theorem attach_call {l : OpenLaw} {n : Nat} {q : Program} {loose : List Str} {XP : (Str → Option Value) → Heap → Prop} {YP : World → Heap → Prop} {d : DefRec}
    (hn : l.most = some n) (hdf : d.params.defaults = [])
    (call : ∀ (w : World) (s₀ s₁ : Shared) (mg mb : Str → Option Value) (fa : Addr) (o : Obj) (pm cd doc : Value) (a : Addr) (vs : List Value) (ns : List Int),
      Ground q loose [] XP w s₀ mg mb s₁.heap → YP w s₁.heap →
      s₁.heap.get? fa = some o → o.data = .func (docDef d.name d.params d.body d.scope pm cd doc) → s₁.heap.CodeRec cd d.name → mg d.name = some (.ref fa) →
      s₁.heap.get? a = some { cls := .type "list", data := .seq vs.toArray } → IntsAre vs ns → ns.length ≤ n → s₁.gens = #[] →
      codeAny (model l.prog w) callerA (.call (.ref fa) ⟨[.ref a], []⟩) (fun r s' => r = .ok (.ret (.bool true)) ∧ OldK s₁.heap s'.heap ∧ s'.os = s₁.os ∧ AllBare s'.gens) s₁) :
    WalkO q loose XP YP l.row.toRowW d [] (fun f vs => PySem.call f vs) := by
  intro w s₀ s₁ mg mb G Y fa o pm cd doc dV kV ho hd hcd hD hmg hg args vals as hpre hlay hrd hwl hlo
  obtain rfl : dV = .none := Dflts.none hD hdf
  obtain rfl : kV = .none := Dflts.noKw hD
  obtain ⟨a, vs, ns, rfl, rfl, hobj, hints, hlen⟩ := script_of hn hpre hwl
  refine enter_call (codeAny_mono (call w s₀ s₁ mg mb fa o pm cd doc a vs ns G Y ho (fd_plain hd) hcd hmg hobj hints hlen hg) fun r s' hq => ?_)
  obtain ⟨rfl, h2, h3, h4⟩ := hq
  exact ⟨.inl ⟨.bool true, .bool true, [], rfl, fun _ => rfl, .bool true, post_true l _, fun _ => ⟨List.Pairwise.nil, fun _ hm => (nomatch hm)⟩⟩, h2, h3, h4⟩

section
variable {prog : Program} {w : World} {A : Around} {E : Value → Shared → Prop} {s : Shared} {K : Frag}
end
end Att
namespace L2
open PySem PySem.Spec PyProof.Rows
theorem vals_ints : ∀ {vs : List Value} {ns : List Int}, IntsAre vs ns → Vals (ns.map V.int) vs
  | _, _, .nil => .nil
  | _, _, .cons n t h => .cons ⟨t, rfl⟩ (vals_ints h)

noncomputable def Only (H : Hp) : Prop := ∀ b, H b = none ∨ ∃ o xs, H b = some (.frz o (.lst xs))

theorem law_call {P : Program} {w : World} {K : PySem.W.Frag} {mg mb : Str → Option Value} {CX : CXT} {k : Nat} {fa a : Addr} {fd : FuncData} {x : Str} {sp : Sp} {s₁ : Shared} {vs : List Value} {ns : List Int}
    (KX : K.In s₁.heap) (hns : s₁.heap.Ns mainGlobals mg) (hb : s₁.heap.Ns builtinsNs mb) (hbb : ∀ x : Str, x ≠ "__name__" → mb x = bootBuiltins x) (hlim : s₁.heap.NoLimit) (hg : s₁.gens = #[])
    (ha : s₁.heap.get? a = some { cls := .type "list", data := .seq vs.toArray }) (hi : IntsAre vs ns) (hl : ns.length ≤ sizeLine) (hr : Room k callerA)
    (F : ∀ base : Heap, K.In base → base.Ns mainGlobals mg → FnOk P w K mg base CX k fa fd [x] sp) (hbind : ∀ (s : Shared) (u : Value), BindsTo s fd ⟨[u], []⟩ [(x, u)])
    (hsp : ∀ H : Hp, Only H → SqL K H a (ns.map V.int) → sp [.ref a] H (fun v _ => v = .bl true) fun _ _ _ => False)
    (hCX : ∀ H e s', CX [] H s₁ (fun _ _ _ => False) e s' → False) :
    codeAny (model P w) callerA (.call (.ref fa) ⟨[.ref a], []⟩) (fun r s' => r = .ok (.ret (.bool true)) ∧ OldK s₁.heap s'.heap ∧ s'.os = s₁.os ∧ AllBare s'.gens) s₁ := by
  have rv := vals_ints hi
  have lenV := hi.length
  -- from an abstract heap in which nothing but the script may be tracked
  have core : ∀ H : Hp, Only H → SqL K H a (ns.map V.int) → HOk P w H s₁.heap → (∀ b, H b ≠ none → b = a) → (H a ≠ none → K.lookup a = none) →
      codeAny (model P w) callerA (.call (.ref fa) ⟨[.ref a], []⟩) (fun r s' => r = .ok (.ret (.bool true)) ∧ OldK s₁.heap s'.heap ∧ s'.os = s₁.os ∧ AllBare s'.gens) s₁ := by
    intro H hO hS hok hA hK
    have base_of : ∀ {b : Addr} {o : Obj}, s₁.heap.get? b = some o → H b = none → (hidT s₁.heap H).get? b = some o := fun e n => hidT_get e n
    have noA : ∀ {b : Addr} {o : Obj} {es : Array DictEntry} {ep : Nat}, s₁.heap.get? b = some o → o.data = .dict es ep → H b = none := fun {b o es ep} e d => by
      cases q : H b with
      | none => rfl
      | some u =>
        have e' : b = a := hA b (by rw [q]; simp)
        subst e'
        rw [ha] at e; cases e
        have d' : Data.seq vs.toArray _ = Data.dict es ep := d
        cases d'
    have nsK : ∀ {b : Addr} {m : Str → Option Value}, s₁.heap.Ns b m → (hidT s₁.heap H).Ns b m := fun {b m} ⟨o, es, ep, e, d, r⟩ => ⟨o, es, ep, base_of e (noA e d), d, r⟩
    have hKb : K.In (hidT s₁.heap H) := fun b o e => base_of (KX b o e) (by
      cases q : H b with
      | none => rfl
      | some u =>
        have e' : b = a := hA b (by rw [q]; simp)
        subst e'
        rw [hK (by rw [q]; simp)] at e; cases e)
    have hM : Mod K mg (hidT s₁.heap H) := ⟨hKb, nsK hns, ⟨mb, nsK hb, hbb⟩, let ⟨mc, h1, h2⟩ := hlim; ⟨mc, nsK h1, h2⟩⟩
    have e0 : Env0 P w K mg (hidT s₁.heap H) callerA [] s₁ H := ⟨rfl, hM, fun b o e => of_hidT e, Nat.le_of_eq (hidT_size _ _), trivial, fun b hb => absurd (show b ∈ ([] : List Addr) from hb) (by simp), hok, .of_eq hg⟩
    refine codeAny_mono ((F _ hKb (nsK hns)).run callerA [] s₁ H ⟨[.ref a], []⟩ [.ref a] [.ref a] _ _ hr e0 (hbind s₁ (.ref a)) (.cons rfl .nil) (hsp H hO hS)) fun r s' h => ?_
    cases r with
    | error e => exact (hCX H e s' h).elim
    | ok fl =>
      cases fl with
      | next => exact False.elim h
      | brk => exact False.elim h
      | cont => exact False.elim h
      | ret u =>
        obtain ⟨v, H', os, bare, un, hok', r', q⟩ := h
        have q' : v = .bl true := q
        subst q'
        obtain rfl : u = Value.bool true := r'
        refine ⟨rfl, OldK.of_keep fun b o e => ?_, os, bare⟩
        cases q : H b with
        | none => exact un.keep b o e q (by intro z; exact absurd (show b ∈ ([] : List Addr) from z) (by simp)) (by simp)
        | some u =>
          rcases hO b with z | ⟨ob, xs, z⟩
          · rw [q] at z; cases z
          · have z2 := un.frzs b ob _ z
            obtain ⟨e1, _⟩ := hok b _ z
            obtain ⟨e2, _⟩ := hok' b _ z2
            rw [e] at e1; cases e1
            exact e2
  cases hk : K.lookup a with
  | some o =>
    -- the script is one of the module's own objects
    have e := KX a o hk
    rw [ha] at e
    cases e
    refine core (fun _ => none) (fun _ => .inl rfl) (.inr ⟨_, vs.toArray, _, hk, rfl, rfl, rfl, by rw [List.size_toArray, lenV]; exact hl, by simpa using rv⟩) (fun b u z => by have z' : (none : Option HO) = some u := z; cases z') (fun b z => absurd rfl z) fun z => absurd rfl z
  | none =>
    refine core (fun b => if b = a then some (.frz { cls := .type "list", data := .seq vs.toArray } (.lst (ns.map V.int))) else none) (fun b => ?_) (.inl (.inr ⟨{ cls := .type "list", data := .seq vs.toArray }, if_pos rfl⟩)) (fun b u z => ?_) (fun b z => ?_) fun _ => hk
    · by_cases hb : b = a
      · exact .inr ⟨_, _, if_pos hb⟩
      · exact .inl (if_neg hb)
    · by_cases hb : b = a
      · have z' := (if_pos hb).symm.trans z
        cases z'
        subst hb
        exact ⟨ha, by rw [List.length_map]; exact hl, vs, _, rv, ha⟩
      · have z' := (if_neg hb).symm.trans z
        cases z'
    · by_cases hb : b = a
      · exact hb
      · exact absurd (if_neg hb) z
end L2
namespace L2
open PySem PySem.Spec PyProof.Rows
theorem walk_of {l : PySem.W.OpenLaw} {n k : Nat} {q : Program} {loose : List Str} {XP : (Str → Option Value) → Heap → Prop} {YP : World → Heap → Prop} {d : DefRec} {K : Params → PySem.W.Frag} {CX : World → CXT} {sp : World → Sp} {x : Str}
    (hn : l.most = some n) (hn2 : n ≤ sizeLine) (hdf : d.params.defaults = []) (hr : Room k callerA)
    (hY : ∀ (w : World) (h : Heap), YP w h → (K w.params).In h)
    (F : ∀ (w : World) (mg : Str → Option Value) (fa : Addr) (h : Heap), (K w.params).In h → h.Ns mainGlobals mg → mg d.name = some (.ref fa) →
      ∃ fd : FuncData, (∀ (s : Shared) (u : Value), BindsTo s fd ⟨[u], []⟩ [(x, u)]) ∧
        ∀ base : Heap, (K w.params).In base → base.Ns mainGlobals mg → FnOk l.prog w (K w.params) mg base (CX w) k fa fd [x] (sp w))
    (hsp : ∀ (w : World) (H : Hp) (a : Addr) (ns : List Int), ns.length ≤ n → Only H → SqL (K w.params) H a (ns.map V.int) → sp w [.ref a] H (fun v _ => v = .bl true) fun _ _ _ => False)
    (hCX : ∀ (w : World) (H : Hp) (s : Shared) (e : Value) (s' : Shared), CX w [] H s (fun _ _ _ => False) e s' → False) :
    PySem.W.WalkO q loose XP YP l.row.toRowW d [] (fun f vs => PySem.call f vs) := by
  refine Att.attach_call hn hdf fun w s₀ s₁ mg mb fa o pm cd doc a vs ns G Y ho hd hcd hmg hobj hints hlen hg => ?_
  have KX := hY w _ Y
  obtain ⟨fd, hb, hF⟩ := F w mg fa _ KX G.T.g hmg
  exact law_call KX G.T.g G.T.b G.T.builtins G.T.nolimit hg hobj hints (Nat.le_trans hlen hn2) hr hF hb (fun H hO hS => hsp w H a ns hlen hO hS) fun H e s' => hCX w H s₁ e s'
end L2
/- THE LAST THEOREM (shape; LID, My.* are yours):
   My.Adr: a structure of the addresses that your layer names (classes, functions); My.Txt K t: a structure (Prop) of the equations over K;
   My.txt_mk : {K} {implicit addresses ..} (e1 : nsIn K mainGlobals "law" = some (some (.ref f))) (e2 : K.lookup f = some ⟨oc, od, .func (fnOf "law" "law" params body scope dV kV doc pm an cdv ct), sl⟩) (e3 : codeIn K cdv "law" = true) .. : ∃ t, My.Txt K t
(the tactic k_is has no namespace: write k_is) -/
namespace L2
open PySem PySem.Spec PyProof.Rows
noncomputable def defArgs (s : Stmt) : Arguments := match s with
  | .FunctionDef _ a _ _ _ _ _ _ _ _ => a
  | _ => { posonlyargs := [], args := [], vararg := none, kwonlyargs := [], kw_defaults := [], kwarg := none, defaults := [] }
noncomputable def defBody (s : Stmt) : List Stmt := match s with
  | .FunctionDef _ _ b _ _ _ _ _ _ _ => b
  | _ => []
noncomputable def defScope (s : Stmt) : Scope := match s with
  | .FunctionDef _ _ _ _ _ _ sc _ _ _ => sc
  | _ => { kind := .function, names := [], isGenerator := false, isCoroutine := false }

noncomputable abbrev CX0 : CXT := fun _ _ _ _ _ _ => False
noncomputable abbrev E0 : XK := fun _ _ _ => False
theorem pass0 {X : Cx} : Passes CX0 X E0 := fun _ _ _ _ _ _ _ h => h.elim

structure Fun (K : PySem.W.Frag) (x qual : Str) (st : Stmt) (f : Addr) (fd : FuncData) : Prop where
  ex : ∃ (oc : Value) (od : Option Addr) (kV doc pm : Value) (an : Option Addr) (cdv ct : Value) (osl : Array (Option Value)),
    fd = PySem.W.fnOf x qual (defArgs st) (defBody st) (defScope st) .none kV doc pm an cdv ct ∧ K.lookup f = some ⟨oc, od, .func fd, osl⟩ ∧ PySem.W.codeIn K cdv qual = true
  kp : PySem.W.keepIn K (.ref f) = true
section
variable {P : Program} {w : World} {K : PySem.W.Frag} {mg : Str → Option Value} {base : Heap}
theorem Fun.ok {x qual : Str} {st : Stmt} {f : Addr} {fd : FuncData} {N ps : List Str} {k : Nat} {sp : Sp} (F : Fun K x qual st f fd) (S : FnScope N ps (defScope st)) (len : ∀ vs H Q E, sp vs H Q E → vs.length = ps.length)
    (hbody : ∀ (cdv : Value) (A : Around) (outer : List Env) (s : Shared) (H : Hp) (vs : List V) (Q : VK) (E : XK), Room k (A.deeper (envOfC qual (defScope st) s.heap.objs.size f cdv)) → sp vs H Q E →
      ∃ t, PSs (cxOf CX0 P w K mg base N qual (defScope st) f cdv A outer s H E).nox (defBody st) t ∧ t { nx := fun _ H' => Q .non H', rt := Q } (start N vs) H) : FnOk P w K mg base CX0 (k + 1) f fd ps sp := by
  obtain ⟨oc, od, kV, doc, pm, an, cdv, ct, osl, rfl, lk, hcd⟩ := F.ex
  refine fn_of lk hcd S len fun A outer s H vs Q E hr hsp => ?_
  obtain ⟨t, h, q⟩ := hbody cdv A outer s H vs Q E hr hsp
  exact ⟨t, h.nox, q⟩
theorem Fun.okz {x qual : Str} {st : Stmt} {f : Addr} {fd : FuncData} {N ps : List Str} {k : Nat} {sp : Sp} (F : Fun K x qual st f fd) (S : FnScope N ps (defScope st)) (len : ∀ vs H Q E, sp vs H Q E → vs.length = ps.length)
    (hbody : ∀ (cdv : Value) (A : Around) (outer : List Env) (s : Shared) (H : Hp) (vs : List V) (Q : VK) (E : XK), Room k (A.deeper (envOfC qual (defScope st) s.heap.objs.size f cdv)) → sp vs H Q E →
      ∃ t, ZSs (cxOf CX0 P w K mg base N qual (defScope st) f cdv A outer s H E).nox (defBody st) t ∧ t { nx := fun _ H' => Q .non H', rt := Q } (start N vs) H) : FnOk P w K mg base CX0 (k + 1) f fd ps sp :=
  F.ok S len fun cdv A outer s H vs Q E hr h => let ⟨t, h1, h2⟩ := hbody cdv A outer s H vs Q E hr h; ⟨t, h1.p, h2⟩
theorem Fun.binds {x qual : Str} {st : Stmt} {f : Addr} {fd : FuncData} {ps : List Str} (F : Fun K x qual st f fd)
    (h : ∀ (kV doc pm : Value) (an : Option Addr) (cdv ct : Value) (us : List Value), us.length = ps.length → bindArgs (PySem.W.fnOf x qual (defArgs st) (defBody st) (defScope st) .none kV doc pm an cdv ct) ⟨us, []⟩ = pure (ps.zip us)) : Binds K fd ps [] := by
  obtain ⟨oc, od, kV, doc, pm, an, cdv, ct, osl, rfl, lk, hcd⟩ := F.ex
  exact .all (h kV doc pm an cdv ct)
theorem fun_mk {x qual : Str} {st : Stmt} {f : Addr} {oc : Value} {od an : Option Addr} {osl : Array (Option Value)} {kV doc pm cdv ct : Value} (l : K.lookup f = some ⟨oc, od, .func (PySem.W.fnOf x qual (defArgs st) (defBody st) (defScope st) .none kV doc pm an cdv ct), osl⟩)
    (c : PySem.W.codeIn K cdv qual = true) (k : PySem.W.keepIn K (.ref f) = true) : Fun K x qual st f (PySem.W.fnOf x qual (defArgs st) (defBody st) (defScope st) .none kV doc pm an cdv ct) := ⟨⟨oc, od, kV, doc, pm, an, cdv, ct, osl, rfl, l, c⟩, k⟩
end
theorem small1000 {n : Nat} (h : n ≤ 1000) : n < sizeLine := Nat.lt_of_le_of_lt h (by decide)

section
variable {X : Cx}
end
theorem iteF {A B : Prop} (h : B) : if false = true then A else B := by
  rw [if_neg Bool.false_ne_true]
  exact h
theorem iteT {A B : Prop} (h : A) : if true = true then A else B := by
  rw [if_pos rfl]
  exact h
noncomputable def Same (H H' : Hp) : Prop := ∀ b o, H b = some o → H' b = some o
theorem Same.refl (H : Hp) : Same H H := fun _ _ h => h
theorem Same.trans {H H1 H2 : Hp} (a : Same H H1) (b : Same H1 H2) : Same H H2 := fun c o h => b c o (a c o h)
end L2
set_option Elab.async false
set_option linter.all false
set_option maxRecDepth 100000
set_option maxHeartbeats 4000000
namespace L2
open PySem PySem.Spec PyProof.Rows
noncomputable def clsOf (env : Env) : List (Str × NameKind) → List (Str × Addr) → List (Str × Addr)
  | [], cs => cs
  | y :: r, cs => clsOf env r (if (y.2 == .free) = true then (y.1, (env.cells.lookup y.1).getD 0) :: cs else cs)
theorem closure_ok {env : Env} {scope : Scope} (h : ∀ y ∈ scope.names, y.2 = .free → ∃ c, env.cells.lookup y.1 = some c) : closureFor scope env = pure (clsOf env scope.names []) := by
  simp only [closureFor]
  generalize scope.names = ns at h
  have go : ∀ (ns : List (Str × NameKind)) (cs : List (Str × Addr)), (∀ y ∈ ns, y.2 = .free → ∃ c, env.cells.lookup y.1 = some c) →
      (forIn ns cs fun (x : Str × NameKind) (r : List (Str × Addr)) => (if (x.2 == NameKind.free) = true then do let a ← cellOf env x.1; pure (ForInStep.yield ((x.1, a) :: r)) else pure (ForInStep.yield r) : Sem (ForInStep (List (Str × Addr))))) = (pure (clsOf env ns cs) : Sem (List (Str × Addr))) := by
    intro ns
    induction ns with
    | nil => intro cs _; rfl
    | cons y r ih =>
      intro cs hy
      rw [List.forIn_cons]
      have hr := fun z hz => hy z (List.mem_cons_of_mem _ hz)
      by_cases hf : (y.2 == NameKind.free) = true
      · obtain ⟨c, hc⟩ := hy y List.mem_cons_self (by simpa using hf)
        have e : cellOf env y.1 = pure c := by unfold cellOf; rw [hc]
        rw [if_pos hf, e]
        refine Eq.trans (ih ((y.1, c) :: cs) hr) (congrArg pure ?_)
        show _ = clsOf env r (if (y.2 == .free) = true then (y.1, (env.cells.lookup y.1).getD 0) :: cs else cs)
        rw [if_pos hf, hc]
        rfl
      · rw [if_neg hf]
        refine Eq.trans (ih cs hr) (congrArg pure ?_)
        show _ = clsOf env r (if (y.2 == .free) = true then (y.1, (env.cells.lookup y.1).getD 0) :: cs else cs)
        rw [if_neg hf]
  have e := go ns [] h
  exact (congrArg (fun (t : Sem (List (Str × Addr))) => t >>= fun cs => pure cs) e).trans rfl
theorem clsOf_look {env : Env} : ∀ (ns : List (Str × NameKind)) (cs : List (Str × Addr)), (∀ y ∈ ns, y.2 = .free → ∃ c, env.cells.lookup y.1 = some c) → (∀ n c, cs.lookup n = some c → env.cells.lookup n = some c) →
    ∀ n c, (clsOf env ns cs).lookup n = some c → env.cells.lookup n = some c
  | [], cs, _, hc => hc
  | y :: r, cs, hy, hc => by
    refine clsOf_look r _ (fun z hz => hy z (List.mem_cons_of_mem _ hz)) fun n c e => ?_
    by_cases hf : (y.2 == NameKind.free) = true
    · rw [if_pos hf, List.lookup_cons] at e
      obtain ⟨c', hc'⟩ := hy y List.mem_cons_self (by simpa using hf)
      cases hn : n == y.1 with
      | true =>
        rw [hn] at e
        have en : n = y.1 := by simpa using hn
        rw [hc'] at e
        rw [en, hc']
        exact e
      | false => rw [hn] at e; exact hc n c e
    · rw [if_neg hf] at e
      exact hc n c e
theorem clsOf_has {env : Env} : ∀ (ns : List (Str × NameKind)) (cs : List (Str × Addr)) (n : Str), ((n, NameKind.free) ∈ ns ∨ ∃ c, cs.lookup n = some c) → ∃ c, (clsOf env ns cs).lookup n = some c
  | [], cs, n, h => by
    rcases h with h | h
    · cases h
    · exact h
  | y :: r, cs, n, h => by
    refine clsOf_has r _ n ?_
    rcases h with h | ⟨c, h⟩
    · rcases List.mem_cons.mp h with e | h
      · refine .inr ⟨(env.cells.lookup n).getD 0, ?_⟩
        have e2 : y.2 = .free := by rw [← e]
        have e1 : y.1 = n := by rw [← e]
        rw [if_pos (by rw [e2]; rfl), e1, List.lookup_cons]
        simp
      · exact .inl h
    · refine .inr ?_
      by_cases hf : (y.2 == NameKind.free) = true
      · rw [if_pos hf, List.lookup_cons]
        cases hn : n == y.1 with
        | true => exact ⟨_, rfl⟩
        | false => exact ⟨c, h⟩
      · rw [if_neg hf]; exact ⟨c, h⟩
noncomputable def rlOf (env : Env) (y : Str × NameKind) : Str × NameKind := if (y.2 == NameKind.free && env.scope.kind == .function && env.kindOf y.1 == some .cell) = true then (y.1, NameKind.cell) else (y.1, y.2)
theorem rl_look {env : Env} : ∀ {names : List (Str × NameKind)} {x : Str} {k' : NameKind}, (names.map (rlOf env)).lookup x = some k' →
    ∃ k, (x, k) ∈ names ∧ names.lookup x = some k ∧ (k' = k ∨ (k = .free ∧ k' = .cell))
  | [], _, _, h => by simp at h
  | (n, k) :: r, x, k', h => by
    have ih := @rl_look env r x k'
    rw [List.map_cons] at h
    unfold rlOf at h
    dsimp only at h
    cases hx : x == n with
    | true =>
      have en : x = n := by simpa using hx
      refine ⟨k, by rw [en]; exact List.mem_cons_self, by simp [List.lookup_cons, hx], ?_⟩
      by_cases hc : (k == NameKind.free && env.scope.kind == .function && env.kindOf n == some .cell) = true
      · rw [if_pos hc, List.lookup_cons, hx] at h
        have hk : k = .free := by
          have := (Bool.and_eq_true_iff.mp (Bool.and_eq_true_iff.mp hc).1).1
          simpa using this
        exact .inr ⟨hk, by cases h; rfl⟩
      · rw [if_neg hc, List.lookup_cons, hx] at h
        exact .inl (by cases h; rfl)
    | false =>
      have h' : (r.map (rlOf env)).lookup x = some k' := by
        by_cases hc : (k == NameKind.free && env.scope.kind == .function && env.kindOf n == some .cell) = true
        · rw [if_pos hc, List.lookup_cons, hx] at h; exact h
        · rw [if_neg hc, List.lookup_cons, hx] at h; exact h
      obtain ⟨k, h1, h2, h3⟩ := ih h'
      exact ⟨k, List.mem_cons_of_mem _ h1, by rw [List.lookup_cons, hx]; exact h2, h3⟩
theorem rl_has {env : Env} : ∀ {names : List (Str × NameKind)} {x : Str} {k : NameKind}, names.lookup x = some k → ∃ k', (names.map (rlOf env)).lookup x = some k'
  | [], _, _, h => by simp at h
  | (n, k0) :: r, x, k, h => by
    have ih := @rl_has env r x k
    rw [List.map_cons]
    have e1 : (rlOf env (n, k0)).1 = n := by unfold rlOf; split <;> rfl
    have e0 : rlOf env (n, k0) = (n, (rlOf env (n, k0)).2) := by rw [Prod.ext_iff]; exact ⟨e1, rfl⟩
    rw [e0, List.lookup_cons]
    cases hx : x == n with
    | true => exact ⟨_, rfl⟩
    | false =>
      rw [List.lookup_cons, hx] at h
      exact ih h

noncomputable def cmpX (X : Cx) (nv : List Str) (ix : List (Str × Nat)) (scope : Scope) (C : Addr) (s₀ : Shared) (H₀ : Hp) (fp : List Addr) : Cx :=
  { X with N := nv ++ ix.map (·.1), s₀ := s₀, H₀ := H₀, env := compEnvC scope (clsOf X.env scope.names []) C X.env, outer := X.stack, stack := X.stack, ex := fp, fn := fun _ => false, pn := [], xe := fun _ _ => False }
noncomputable def frV (σ : St) (ix : List (Str × Nat)) : St := ix.map fun p => (σ[p.2]?).join
noncomputable def st0 (nv : List Str) (ix : List (Str × Nat)) (σ : St) : St := nv.map (fun _ => none) ++ frV σ ix
structure CompOk (X : Cx) (nv : List Str) (ix : List (Str × Nat)) (scope : Scope) : Prop where
  kind : scope.kind = .function
  nocell : ∀ y ∈ scope.names, y.2 ≠ .cell
  names : ∀ y ∈ scope.names, y.2 = .local → scope.names.lookup y.1 = some .local
  free : (scope.names.all fun y => !(y.2 == NameKind.free) || (X.env.kindOf y.1 == some NameKind.cell || X.env.kindOf y.1 == some NameKind.free)) = true
  ix : (ix.all fun p => (scope.names.lookup p.1 == some NameKind.free) && (X.N[p.2]? == some p.1)) = true
section
variable {X : Cx} {nv : List Str} {ix : List (Str × Nat)} {scope : Scope} {pins : List (Addr × Obj)} {σ : St} {H : Hp} {s : Shared}
theorem CompOk.fk (co : CompOk X nv ix scope) {y : Str × NameKind} (hy : y ∈ scope.names) (hf : y.2 = .free) : X.env.kindOf y.1 = some .cell ∨ X.env.kindOf y.1 = some .free := by
  have q := List.all_eq_true.mp co.free y hy
  rw [hf] at q
  simpa using q
theorem CompOk.cells (co : CompOk X nv ix scope) (ok : X.Ok) : ∀ y ∈ scope.names, y.2 = .free → ∃ c, X.env.cells.lookup y.1 = some c := fun y hy hf => ok.has y.1 (co.fk hy hf)
theorem CompOk.look (co : CompOk X nv ix scope) (ok : X.Ok) {n : Str} {c : Addr} (h : (clsOf X.env scope.names []).lookup n = some c) : X.env.cells.lookup n = some c :=
  clsOf_look _ _ (co.cells ok) (fun _ _ e => by cases e) n c h
theorem CompOk.ixp (co : CompOk X nv ix scope) {p : Str × Nat} (hp : p ∈ ix) : scope.names.lookup p.1 = some .free ∧ X.N[p.2]? = some p.1 := by
  have q := Bool.and_eq_true_iff.mp (List.all_eq_true.mp co.ix p hp)
  exact ⟨by simpa using q.1, by simpa using q.2⟩
theorem lookup_mem {α : Type} : ∀ {l : List (Str × α)} {n : Str} {k : α}, l.lookup n = some k → (n, k) ∈ l
  | [], _, _, h => by cases h
  | (m, j) :: r, n, k, h => by
    rw [List.lookup_cons] at h
    cases e : n == m with
    | true => rw [e] at h; cases h; have : n = m := by simpa using e
              rw [this]; exact List.mem_cons_self
    | false => rw [e] at h; exact List.mem_cons_of_mem _ (lookup_mem h)
theorem cmpX_ok (co : CompOk X nv ix scope) (I : Inv X pins σ H s) {fp : List Addr} {C : Addr} (hC : s.heap.objs.size ≤ C) (hf : ∀ b ∈ fp, FpOk X pins H b) (hlt : ∀ b ∈ fp, b < s.heap.objs.size) : (cmpX X nv ix scope C s H fp).Ok where
  mod := I.mod
  kind := co.kind
  glob := I.ok.glob
  blt := I.ok.blt
  above := hC
  inj := fun x y c a b => I.ok.inj x y c (co.look I.ok a) (co.look I.ok b)
  has := fun x hk => by
    have z : ∃ k, (x, k) ∈ scope.names ∧ k = .free := by
      rcases hk with hk | hk
      · obtain ⟨k, h1, _, h3⟩ := rl_look (env := X.env) (names := scope.names) hk
        rcases h3 with h3 | ⟨h3, _⟩
        · exact absurd h3.symm (co.nocell _ h1)
        · exact ⟨k, h1, h3⟩
      · obtain ⟨k, h1, _, h3⟩ := rl_look (env := X.env) (names := scope.names) hk
        rcases h3 with h3 | ⟨_, h3⟩
        · exact ⟨k, h1, h3.symm⟩
        · cases h3
    obtain ⟨k, h1, rfl⟩ := z
    exact clsOf_has _ _ x (.inl h1)
  cab := fun x c h _ => by cases h
  hd := I.ok.hd
  frames := I.ok.frames
  stk := .inl rfl
  exf := fun b hb => ⟨Nat.ne_of_lt (Nat.lt_of_lt_of_le (hlt b hb) hC), fun x c e => (hf b hb).2.2.2.2.1 x c (co.look I.ok e)⟩
  bs := fun b o e => I.bs b o e
  bsz := Nat.le_trans I.ok.bsz I.sz
  noex := fun b o e hb => by
    rcases (hf b hb).2.2.2.1 with z | z
    · exact I.ok.noex b o e z
    · exact absurd (Nat.lt_of_lt_of_le (Heap.lt_size e) (Nat.le_trans I.ok.bsz z)) (Nat.lt_irrefl _)
  exfs := fun b hb hs => by
    rcases List.mem_cons.mp (I.stkSub b hs) with e | h
    · exact (hf b hb).2.1 e
    · exact (hf b hb).2.2.1 h
  funs := I.stack
  frf := I.stkFree
noncomputable abbrev lobj (its : List Value) (k : Nat) : Obj := { cls := .type "list", data := .seq its.toArray k }
theorem join_some {o : Option (Option V)} {v : V} (h : o.join = some v) : o = some (some v) := by
  cases o with
  | none => cases h
  | some o' => exact congrArg some h
theorem cmp_start (co : CompOk X nv ix scope) (I : Inv X pins σ H s) {fp : List Addr} {h₁ : Heap} {tk : Nat} {m : Str → Option Value} (hf : ∀ b ∈ fp, FpOk X pins H b) (hlt : ∀ b ∈ fp, b < s.heap.objs.size)
    (hn : h₁.Ns (s.heap.objs.size + 1) m) (old : ∀ b o, s.heap.get? b = some o → h₁.get? b = some o) (hD : h₁.get? s.heap.objs.size = some (lobj [] 0)) :
    Inv (cmpX X nv ix scope (s.heap.objs.size + 1) s H fp) [(s.heap.objs.size, lobj [] 0)] (st0 nv ix σ) H { s with heap := h₁, toks := tk } where
  ok := cmpX_ok co I (Nat.le_succ _) hf hlt
  os := rfl
  bare := I.bare
  base := Un.kept old
  loc := by
    refine ⟨m, hn, fun i x v e1 e2 hv => ?_⟩
    obtain ⟨m₀, _, hl⟩ := I.loc
    have e1' : (nv ++ ix.map (·.1))[i]? = some x := e1
    unfold st0 at e2
    by_cases hi : i < nv.length
    · rw [List.getElem?_append_left (by rw [List.length_map]; exact hi), List.getElem?_map] at e2
      cases q : nv[i]? with
      | none => rw [q] at e2; cases e2
      | some z => rw [q] at e2; cases e2
    · have hi' : nv.length ≤ i := Nat.not_lt.mp hi
      rw [List.getElem?_append_right hi', List.getElem?_map] at e1'
      rw [List.getElem?_append_right (by rw [List.length_map]; exact hi'), List.length_map] at e2
      unfold frV at e2
      rw [List.getElem?_map] at e2
      cases q : ix[i - nv.length]? with
      | none => rw [q] at e1'; cases e1'
      | some p =>
        rw [q] at e1' e2
        have hp : p ∈ ix := List.mem_of_getElem? q
        have ex : p.1 = x := Option.some.inj e1'
        have ev : σ[p.2]? = some (some v) := join_some (Option.some.inj e2)
        obtain ⟨f1, f2⟩ := co.ixp hp
        have hk := co.fk (lookup_mem f1) rfl
        obtain ⟨u, r, l⟩ := hl p.2 p.1 v f2 ev (hk.elim (fun z => .inr (.inl z)) fun z => .inr (.inr z))
        refine ⟨u, r, .inr ⟨?_, ?_⟩⟩
        · obtain ⟨k', hk'⟩ := rl_has (env := X.env) f1
          obtain ⟨k, h1, h2, h3⟩ := rl_look hk'
          rw [f1] at h2
          cases h2
          rw [← ex]
          rcases h3 with h3 | ⟨_, h3⟩
          · exact .inr (hk'.trans (congrArg some h3))
          · exact .inl (hk'.trans (congrArg some h3))
        · obtain ⟨c, hc⟩ := clsOf_has (env := X.env) scope.names [] p.1 (.inl (lookup_mem f1))
          refine ⟨c, by rw [← ex]; exact hc, ?_⟩
          have hc' := co.look I.ok hc
          rcases l with ⟨z, _⟩ | ⟨_, c', z1, o, z2, z3⟩
          · have z' : X.env.kindOf p.1 = some .local := z
            rcases hk with hk | hk
            · have hk' : X.env.kindOf p.1 = some .cell := hk
              rw [z'] at hk'; cases hk'
            · have hk' : X.env.kindOf p.1 = some .free := hk
              rw [z'] at hk'; cases hk'
          · rw [hc'] at z1
            cases z1
            exact ⟨o, old _ _ z2, z3⟩
  cell := fun x c e => by
    obtain ⟨v, o, h1, h2⟩ := I.cell x c (co.look I.ok e)
    exact ⟨v, o, old _ _ h1, h2⟩
  free := I.hok.fresh (Nat.le_succ _)
  freeC := fun x c e => I.freeC x c (co.look I.ok e)
  pin := fun p hp => by
    have e : p = (s.heap.objs.size, lobj [] 0) := by simpa [cmpX] using hp
    subst e
    refine ⟨hD, I.hok.fresh (Nat.le_refl _), Nat.ne_of_lt (Nat.lt_succ_self _), fun hb => ?_, fun v z => by cases z⟩
    rcases List.mem_cons.mp (I.stkSub _ hb) with e | h
    · exact absurd I.lt (by rw [← e]; exact Nat.lt_irrefl _)
    · exact I.nofs (Nat.le_refl _) h
  hok := I.hok.kept old
  len := by
    show (nv.map (fun _ => none) ++ frV σ ix).length = (nv ++ ix.map (·.1)).length
    unfold frV
    simp
theorem Inv.track {D : Addr} {ys its : List _} {k : Nat} (I : Inv X pins σ H s) (rv : Vals ys its) (hz : ys.length ≤ sizeLine) (e : s.heap.get? D = some (lobj its k)) (hn : H D = none) (hd : FpOk X pins H D) : Inv X pins σ (upd H D (.lst ys)) s := by
  have nD : ∀ b u, H b = some u → b ≠ D := fun b u q z => by rw [z, hn] at q; cases q
  obtain ⟨h1, h2, h3, h4, h5, h6⟩ := hd
  refine I.step (s := s) (h' := s.heap) (g' := s.gens) (t' := s.toks) (d' := s.drawn) (ch := [D]) (fun b hb => ?_) (fun b o _ _ _ q _ => q) (fun b o _ _ _ q _ => ⟨o.slots, q⟩) (fun b o hb _ q => ?_) (fun b o _ q => ⟨o, q⟩)
    (fun b xs q => by rw [upd_ne (nD b _ q)]; exact q) (fun b o u q => by rw [upd_ne (nD b _ q)]; exact q) (fun b ps q => ⟨#[], by rw [upd_ne (nD b _ q), q]; simp⟩) (fun m hm => hm) (fun b u q => ?_) I.bare
  · have e : b = D := by simpa using hb
    subst e
    exact ⟨h4, h2, h5, h6⟩
  · rw [upd_ne (fun z => hb (by simp [z]))]; exact q
  · by_cases hb : b = D
    · subst hb
      rw [upd_same] at q
      cases q
      exact ⟨hz, its, k, rv, e⟩
    · rw [upd_ne hb] at q
      exact (I.hok b u q).stay (fun c v _ r => r) (fun c r => by rw [upd_ne (nD c _ r)]; exact r) fun c xs r => by rw [upd_ne (nD c _ r)]; exact r
theorem cmp_end {ps2 : List (Addr × Obj)} {σ2 : St} {H' : Hp} {s' : Shared} {fp : List Addr} {C : Addr} (I : Inv X pins σ H s) (hf : ∀ b ∈ fp, FpOk X pins H b) (Ic : Inv (cmpX X nv ix scope C s H fp) ps2 σ2 H' s') : Inv X pins σ H' s' :=
  I.call' (ch := fp) Ic.os Ic.base Ic.hok Ic.bare fun b hb => ⟨(hf b hb).2.2.2.1, (hf b hb).2.1, (hf b hb).2.2.2.2.1, (hf b hb).2.2.2.2.2⟩

noncomputable def PIf (X : Cx) (ifs : List Expr) (t : TT) : Prop :=
  ∀ (pins : List (Addr × Obj)) (s : Shared) (σ : St) (H : Hp) (Q : Bool → Hp → Prop), Inv X pins σ H s → t σ H Q →
    wpAny (model X.prog X.w) X.A (forIn ifs true fun c r => if r = true then do let ok ← isTrue c X.env (eval c X.env); pure (ForInStep.yield ok) else pure (ForInStep.yield r)) (TP X pins σ Q) X.xe s
@[irreducible] noncomputable def ZIf (X : Cx) (ifs : List Expr) (t : TT) : Prop := PIf X ifs t
noncomputable def tYes : TT := fun _ H Q => Q true H
theorem pif_nil : PIf X [] tYes := fun _ _ _ H _ I h => wpAny_tests_nil ⟨H, I, h⟩
theorem zif_nil : ZIf X [] tYes := by with_unfolding_all exact pif_nil 
end
section
variable {prog : Program} {w : World} {A : Around} {E : Value → Shared → Prop} {R : Result → Shared → Prop} {s : Shared}
theorem compLoop_go {elt target iter : Expr} {ifs : List Expr} {scope : Scope} {pos : Pos} {it acc : Value} {env : Env} (I : Nat → Shared → Prop)
    (turn : ∀ n s, I n s → wpAny (model prog w) A (pyNext it) (fun r s₁ => match r with
      | none => R (.ok .next) s₁
      | some v => wpAny (model prog w) A (letOwnedTupleGo target it v) (fun _ s₁' => wpAny (model prog w) A (assign target env v) (fun _ s₂ =>
          wpAny (model prog w) A (forIn ifs true fun c r => if r = true then do let ok ← isTrue c env (eval c env); pure (ForInStep.yield ok) else pure (ForInStep.yield r)) (fun ok s₃ =>
            if ok = true then wpAny (model prog w) A (eval elt env) (fun x s₄ =>
              wpAny (model prog w) A (call (.builtin "list.append") [acc, x]) (fun _ s₅ => ∃ m, m < n ∧ I m s₅) (fun _ _ => False) s₄) (fun _ _ => False) s₃
            else ∃ m, m < n ∧ I m s₃) (fun _ _ => False) s₂) (fun _ _ => False) s₁') (fun _ _ => False) s₁) (fun _ _ => False) s)
    (n : Nat) (h : I n s) :
    codeAny (model prog w) A (.compLoop (.ListComp elt [⟨target, iter, ifs, 0⟩] scope pos) 0 it acc env) R s := by
  refine codeAny_loop rfl I (fun n s hI => ?_) n h
  show wpAny _ A ((compTurn (.ListComp elt [⟨target, iter, ifs, 0⟩] scope pos) 0 it acc env).onRaise (fun x => do noteFrame x env; theTreesLotGoes x)) _ _ s
  refine wpAny_noted ?_
  rw [compTurn_list]
  refine wpAny_bind (wpAny_standAt (wpAny_bind (wpAny_mono (turn n s hI) (fun r s₁ h₁ => ?_) fun _ _ h' => h'.elim)))
  cases r with
  | none => exact wpAny_pure h₁
  | some v =>
    refine wpAny_bind (wpAny_mono h₁ (fun _ s₁' h₁' => ?_) fun _ _ h' => h'.elim)
    refine wpAny_bind (wpAny_mono h₁' (fun _ s₂ h₂ => wpAny_bind (wpAny_mono h₂ (fun ok s₃ h₃ => ?_) fun _ _ h' => h'.elim)) fun _ _ h' => h'.elim)
    cases ok with
    | false => exact wpAny_pure ⟨rfl, h₃⟩
    | true =>
      exact wpAny_bind (wpAny_bind (wpAny_mono h₃ (fun x s₄ h₄ => wpAny_bind (wpAny_mono h₄ (fun _ s₅ h₅ => wpAny_pure (wpAny_pure ⟨rfl, h₅⟩)) fun _ _ h' => h'.elim)) fun _ _ h' => h'.elim))
end
section
variable {X : Cx} {nv : List Str} {ix : List (Str × Nat)} {scope : Scope} {pins : List (Addr × Obj)} {σ : St} {H : Hp} {s : Shared} {elt tg iter : Expr} {ifs : List Expr} {pos : Pos}
noncomputable def Kp (σ σ2 : St) : Prop := σ.length = σ2.length ∧ ∀ (i : Nat) v, σ[i]? = some (some v) → σ2[i]? = some (some v)
noncomputable def KpG (nv : List Str) (g : TG) : Prop := ∀ (fr : St) (v : V) (H : Hp) (Q : St → Hp → Prop), g v (nv.map (fun _ => none) ++ fr) H Q → g v (nv.map (fun _ => none) ++ fr) H fun σ2 H2 => Kp (nv.map (fun _ => none) ++ fr) σ2 ∧ Q σ2 H2
theorem kpg_name {x : Str} : KpG [x] (gName 0) := fun fr v H Q h => by
  refine ⟨⟨by simp, fun i w e => ?_⟩, h⟩
  cases i with
  | zero => cases e
  | succ i => exact e
noncomputable def CmpW (nv : List Str) (ix : List (Str × Nat)) (g : TG) (ti : TT) (te : TE) (σ : St) (J : It) (Fin : List V → Hp → Prop) (H1 : Hp) : Prop :=
  ∃ W : Nat → Nat → List V → Hp → Prop, (∃ m, W 0 m [] H1) ∧ ∀ i m ys H, W i m ys H →
    (J.stop i H ∧ Fin ys H) ∨ (J.go i H ∧ ys.length < sizeLine ∧ ∃ N : List V → Hp → Prop, (∀ ys' H', N ys' H' → ∃ m', m' < m ∧ W (i + 1) m' ys' H') ∧
      ∀ x H', J.yld i H x H' → g x (st0 nv ix σ) H' fun σ2 H2 => ti σ2 H2 fun b H3 => if b = true then te σ2 H3 fun y H4 => N (ys ++ [y]) H4 else N ys H3)
theorem comp_run {J : It} {fp : List Addr} {it : Addr} {tn : Nat → Heap → Prop} {g : TG} {ti : TT} {te : TE} {Fin : List V → Hp → Prop} {E : Value → Shared → Prop} {RR : Value → Addr → Result → Shared → Prop}
    (co : CompOk X nv ix scope) (hc : X.calm = true) (I : Inv X pins σ H s) (T : Turn X.prog X.w X.K tg J fp it tn) (st : tn 0 s.heap) (hf : ∀ b ∈ fp, FpOk X pins H b)
    (kg : KpG nv g) (hg : ∀ C s₀ H₀ fp, PG (cmpX X nv ix scope C s₀ H₀ fp) tg g) (hi : ∀ C s₀ H₀ fp, PIf (cmpX X nv ix scope C s₀ H₀ fp) ifs ti) (he : ∀ C s₀ H₀ fp, PE (cmpX X nv ix scope C s₀ H₀ fp) elt te)
    (q : CmpW nv ix g ti te σ J Fin H)
    (fin : ∀ D C s' H' ys, Inv X pins σ (upd H' D (.lst ys)) s' → H' D = none → Fin ys H' → (∃ m, s'.heap.Ns C m) → FpOk X pins (upd H' D (.lst ys)) C → RR (.ref D) C (.ok .next) s') :
    wpAny (model X.prog X.w) X.A (newList []) (fun acc s₃ => wpAny (model X.prog X.w) X.A (newFunctionEnv scope X.env.globals (clsOf X.env scope.names []) [] X.env.qual none .none (some X.env)) (fun cenv s₄ =>
      codeAny (model X.prog X.w) X.A (.compStart (.ListComp elt [⟨tg, iter, ifs, 0⟩] scope pos) 0 (.ref it) acc { cenv with scope := relabel scope X.env }) (RR acc cenv.locals) s₄) E s₃) E s := by
  obtain ⟨W, ⟨m0, w0⟩, turn⟩ := q
  refine wpAny_newObj_type (wpAny_newFunctionEnv co.nocell (by intro y hy; simp at hy) (fun h₁ hns₁ hsb₁ => ?_) co.kind)
  dsimp only at hns₁ hsb₁ ⊢
  generalize hH2 : s.heap.push { cls := .type "list", dict := none, data := .seq ([] : List Value).toArray } = H2 at hns₁ hsb₁ ⊢
  have hC : H2.objs.size = s.heap.objs.size + 1 := by rw [← hH2, Heap.size_push]
  rw [hC] at hns₁ hsb₁ ⊢
  have hDC : s.heap.objs.size ≠ s.heap.objs.size + 1 := Nat.ne_of_lt (Nat.lt_succ_self _)
  have below : ∀ b, b < s.heap.objs.size → b ≠ s.heap.objs.size + 1 ∧ b ≠ s.heap.objs.size := fun b hb => ⟨Nat.ne_of_lt (Nat.lt_succ_of_lt hb), Nat.ne_of_lt hb⟩
  have old : ∀ b o, s.heap.get? b = some o → h₁.get? b = some o := fun b o e => hsb₁.extBut b o (below b (Heap.lt_size e)).1 (Heap.get?_push_of_some _ (hH2 ▸ Heap.get?_push_of_some _ e))
  have hacc : h₁.get? s.heap.objs.size = some (lobj [] 0) := hsb₁.extBut _ _ hDC (Heap.get?_push_of_some _ (hH2 ▸ Heap.get?_push_size _ rfl))
  have hlt : ∀ b ∈ fp, b < s.heap.objs.size := fun b hb => by
    obtain ⟨o, e, _⟩ := T.obj 0 _ st b hb
    exact Heap.lt_size e
  have I₁ := fun tk => cmp_start (tk := tk) co I hf hlt hns₁ old hacc
  have st₁ : tn 0 h₁ := T.keep 0 _ _ st fun b _ o e => old b o e
  have fpD : ∀ {H' : Hp}, H' s.heap.objs.size = none → FpOk X pins H' s.heap.objs.size := fun hn => I.fpOk (Nat.le_refl _) hn
  have loop : ∀ tk : Nat, codeAny (model X.prog X.w) X.A (.compLoop (.ListComp elt [⟨tg, iter, ifs, 0⟩] scope pos) 0 (.ref it) (.ref s.heap.objs.size) (compEnvC scope (clsOf X.env scope.names []) (s.heap.objs.size + 1) X.env))
      (RR (.ref s.heap.objs.size) (s.heap.objs.size + 1)) { s with heap := h₁, toks := tk } := by
    intro tk
    refine compLoop_go (fun n s' => ∃ i H' ys its k, Inv (cmpX X nv ix scope (s.heap.objs.size + 1) s H fp) [(s.heap.objs.size, lobj its k)] (st0 nv ix σ) H' s' ∧ Vals ys its ∧ ys.length ≤ sizeLine ∧ tn i s'.heap ∧ (∀ b ∈ fp, H' b = none) ∧ W i n ys H')
      ?_ m0 ⟨0, H, [], [], 0, I₁ tk, .nil, Nat.zero_le _, st₁, fun b hb => (hf b hb).1, w0⟩
    rintro n s3 ⟨i, H3, ys, its, k, I3, rv, hz, st3, fr3, w3⟩
    have fpc : ∀ {H' : Hp} {its : List Value} {k : Nat}, (∀ b ∈ fp, H' b = none) → ∀ b ∈ fp, FpOk (cmpX X nv ix scope (s.heap.objs.size + 1) s H fp) [(s.heap.objs.size, lobj its k)] H' b := fun {H' its k} hn b hb => by
      refine ⟨hn b hb, (below b (hlt b hb)).1, fun hs => ?_, .inl hb, fun x c e => (hf b hb).2.2.2.2.1 x c (co.look I.ok e), fun p hp z => ?_⟩
      · rcases List.mem_cons.mp (I.stkSub b hs) with e | h
        · exact (hf b hb).2.1 e
        · exact (hf b hb).2.2.1 h
      · have e : p = (s.heap.objs.size, lobj its k) := by simpa [cmpX] using hp
        subst e
        exact (below b (hlt b hb)).2 z.symm
    have pD := fun {ps : List (Addr × Obj)} {σ' : St} {H' : Hp} {s' : Shared} (I' : Inv (cmpX X nv ix scope (s.heap.objs.size + 1) s H fp) ((s.heap.objs.size, lobj its k) :: ps) σ' H' s') =>
      I'.pin (s.heap.objs.size, lobj its k) (List.mem_append_right _ List.mem_cons_self)
    rcases turn i n ys H3 w3 with ⟨stop, fin0⟩ | ⟨go, hlt', N, hN, step⟩
    · refine thn (T.done (cmpX X nv ix scope (s.heap.objs.size + 1) s H fp) rfl rfl rfl hc i _ s3 _ H3 _ I3 (fpc fr3) st3 stop) fun r s4 ⟨hr, I4⟩ => ?_
      subst hr
      obtain ⟨p1, p2, _⟩ := pD I4
      have I5 := (cmp_end I hf I4).track rv hz p1 p2 (fpD p2)
      obtain ⟨mC, hmC, _⟩ := I4.loc
      exact fin _ _ s4 H3 ys I5 p2 fin0 ⟨mC, hmC⟩ (I.fpOk (Nat.le_succ _) (by rw [upd_ne (Ne.symm hDC)]; exact I4.free))
    · refine thn (T.item (cmpX X nv ix scope (s.heap.objs.size + 1) s H fp) rfl rfl rfl hc i _ s3 _ H3 _ I3 (fpc fr3) st3 go) fun r s4 ⟨u, hr, h4⟩ => ?_
      subst hr
      refine thn h4 fun _ s5 ⟨x, H5, I5, r5, y5, st5, fr5⟩ => ?_
      have I5' := I5.pinned (fpc fr5) (T.obj _ _ st5)
      refine thn (hg _ _ _ _ _ s5 _ H5 x u _ I5' r5 (kg _ _ _ _ (step x H5 y5))) fun _ s6 ⟨σ6, H6, I6, kp, q6⟩ => ?_
      refine thn (hi _ _ _ _ _ s6 σ6 H6 _ I6 q6) fun b s7 ⟨H7, I7, q7⟩ => ?_
      have again : ∀ {s7 : Shared} {H7 : Hp} {ys' its' : List _} {k' : Nat}, Inv (cmpX X nv ix scope (s.heap.objs.size + 1) s H fp) ([(s.heap.objs.size, lobj its' k')] ++ pinsAt fp s5.heap) σ6 H7 s7 → Vals ys' its' → ys'.length ≤ sizeLine → N ys' H7 →
          ∃ m, m < n ∧ ∃ i H' ys its k, Inv (cmpX X nv ix scope (s.heap.objs.size + 1) s H fp) [(s.heap.objs.size, lobj its k)] (st0 nv ix σ) H' s7 ∧ Vals ys its ∧ ys.length ≤ sizeLine ∧ tn i s7.heap ∧ (∀ b ∈ fp, H' b = none) ∧ W i m ys H' := fun {s7 H7 ys' its' k'} I8 rv' hz' n8 => by
        obtain ⟨m', hm, w8⟩ := hN _ _ n8
        have pn := fun (b : Addr) (o : Obj) (hb : b ∈ fp) (e : s5.heap.get? b = some o) => I8.pin (b, o) (List.mem_append_right _ (List.mem_append_right _ (mem_pinsAt hb e)))
        refine ⟨m', hm, i + 1, H7, ys', its', k', (I8.unpinned).weak kp.1 kp.2, rv', hz', T.keep _ _ _ st5 fun b hb o e => (pn b o hb e).1, fun b hb => ?_, w8⟩
        obtain ⟨o, e, d⟩ := T.obj _ _ st5 b hb
        exact (pn b o hb e).2.1
      cases b with
      | false =>
        rw [if_neg Bool.false_ne_true] at q7 ⊢
        exact again I7 rv hz q7
      | true =>
        rw [if_pos rfl] at q7 ⊢
        refine thn (he _ _ _ _ _ s7 σ6 H7 _ I7 q7) fun u8 s8 ⟨y, H8, I8, r8, q8⟩ => ?_
        obtain ⟨p1, p2, p3, p4, p5⟩ := pD I8
        refine append_at (hsz := by rw [List.size_toArray, ← rv.length]; exact Nat.le_of_lt hlt') p1 fun h9 hs9 hD9 => ?_
        have I9 : Inv (cmpX X nv ix scope (s.heap.objs.size + 1) s H fp) (pinsAt fp s5.heap) σ6 H8 { s8 with heap := h9 } := by
          have Iu : Inv (cmpX X nv ix scope (s.heap.objs.size + 1) s H fp) (pinsAt fp s5.heap) σ6 H8 s8 := I8.pins_of fun p hp => I8.pin p (List.mem_append_right _ (List.mem_append_right _ hp))
          refine Iu.turned (t' := s8.toks) (it := s.heap.objs.size) (fun b o hb e => (hs9.2 b hb).trans e) p2 p3 (.inr (Nat.le_refl _)) (fun x c e z => ?_) fun p hp z => ?_
          · obtain ⟨v, o, e1, _⟩ := I.cell x c (co.look I.ok e)
            exact absurd (Heap.lt_size e1) (by rw [z]; exact Nat.lt_irrefl _)
          · have hp' : p ∈ pinsAt fp s5.heap := by simpa [cmpX] using hp
            obtain ⟨hb, _⟩ := of_pinsAt hp'
            exact (below _ (hlt _ hb)).2 z
        have I10 : Inv (cmpX X nv ix scope (s.heap.objs.size + 1) s H fp) ([(s.heap.objs.size, lobj (its ++ [u8]) (k + 1))] ++ pinsAt fp s5.heap) σ6 H8 { s8 with heap := h9 } :=
          I9.pins_of fun p hp => by
            rcases List.mem_append.mp hp with hp | hp
            · have e : p = (s.heap.objs.size, lobj (its ++ [u8]) (k + 1)) := by simpa using hp
              subst e
              refine ⟨?_, p2, p3, p4, fun v z => by cases z⟩
              rw [List.push_toArray] at hD9
              exact hD9
            · exact I9.pin p (List.mem_append_right _ hp)
        exact again I10 (rv.append (.cons r8 .nil)) (by rw [List.length_append, List.length_singleton]; exact hlt') q8
  exact codeAny_compStart_list (loop _) (T.self _ 0 _ _ _ st₁ (loop _))

noncomputable def tComp (nv : List Str) (ix : List (Str × Nat)) (wi : TI) (g : TG) (ti : TT) (te : TE) : TE := fun σ H Q => wi σ H fun J H1 => CmpW nv ix g ti te σ J (fun ys H2 => ∀ D, H2 D = none → Q (.ref D) (upd H2 D (.lst ys))) H1
theorem pe_comp {wi : TI} {g : TG} {ti : TT} {te : TE} (nv : List Str) (ix : List (Str × Nat)) (hc : X.calm = true) (co : CompOk X nv ix scope) (hit : PI X tg iter wi) (kg : KpG nv g) (hg : ∀ C s₀ H₀ fp, PG (cmpX X nv ix scope C s₀ H₀ fp) tg g)
    (hi : ∀ C s₀ H₀ fp, PIf (cmpX X nv ix scope C s₀ H₀ fp) ifs ti) (he : ∀ C s₀ H₀ fp, PE (cmpX X nv ix scope C s₀ H₀ fp) elt te)
    (hs : ∀ x, foldedSetIterable iter X.env x = pure x := by intro _; rfl) : PE X (.ListComp elt [⟨tg, iter, ifs, 0⟩] scope pos) (tComp nv ix wi g ti te) := by
  intro pins s σ H Q I h
  rw [eval_ListComp]
  refine wpAny_comprehension_free (use := none) rfl hs (closure_ok (co.cells I.ok)) co.kind co.names (thn (hit pins s σ H _ I h) fun v s1 h1 => thn h1 fun itv s2 h2 => ?_)
  obtain ⟨it, fp, tn, J, H2, e, I2, T, st2, f2, q⟩ := h2
  subst e
  refine comp_run co hc I2 T st2 f2 kg hg hi he q fun D C s' H' ys I' hD fin ⟨m, hm⟩ hC => ?_
  obtain ⟨c0, c1, c2, c3, c4, c5⟩ := hC
  exact ⟨m, hm, fun h' hs' => ⟨.ref D, _, I'.turned (t' := s'.toks) (fun b o hb e => (hs'.2 b hb).trans e) c0 c1 c3 c4 c5, rfl, fin D hD⟩⟩
theorem ze_comp {wi : TI} {g : TG} {ti : TT} {te : TE} (nv : List Str) (ix : List (Str × Nat)) (hc : X.calm = true) (co : CompOk X nv ix scope) (hit : ZI X tg iter wi) (kg : KpG nv g) (hg : ∀ C s₀ H₀ fp, ZG (cmpX X nv ix scope C s₀ H₀ fp) tg g)
    (hi : ∀ C s₀ H₀ fp, ZIf (cmpX X nv ix scope C s₀ H₀ fp) ifs ti) (he : ∀ C s₀ H₀ fp, ZE (cmpX X nv ix scope C s₀ H₀ fp) elt te)
    (hs : ∀ x, foldedSetIterable iter X.env x = pure x := by intro _; rfl) : ZE X (.ListComp elt [⟨tg, iter, ifs, 0⟩] scope pos) (tComp nv ix wi g ti te) := by with_unfolding_all exact pe_comp nv ix hc co hit kg hg hi he hs
end
section
variable {nv : List Str} {ix : List (Str × Nat)} {σ : St} {H : Hp} {g : TG} {ti : TT} {te : TE} {Fin : List V → Hp → Prop} {K : PySem.W.Frag} {a : Addr} {xs : List V}
theorem cmp_list (Pv : Nat → List V → Hp → Prop) (h0 : Pv 0 [] H) (hl : ∀ i ys H, i ≤ xs.length → Pv i ys H → SqL K H a xs)
    (hs : ∀ i x ys H, xs[i]? = some x → Pv i ys H → ys.length < sizeLine ∧ g x (st0 nv ix σ) H fun σ2 H2 => ti σ2 H2 fun b H3 => if b = true then te σ2 H3 fun y H4 => Pv (i + 1) (ys ++ [y]) H4 else Pv (i + 1) ys H3)
    (hd : ∀ ys H, Pv xs.length ys H → Fin ys H) : CmpW nv ix g ti te σ (Itl K a) Fin H := by
  refine ⟨fun i m ys H => m = xs.length - i ∧ i ≤ xs.length ∧ Pv i ys H, ⟨xs.length, by simp, Nat.zero_le _, h0⟩, ?_⟩
  rintro i m ys H ⟨rfl, hi, p⟩
  have q := hl i ys H hi p
  by_cases hlt : i < xs.length
  · have e := hs i xs[i] ys H (by simp [hlt]) p
    refine .inr ⟨⟨xs, xs[i], q, by simp [hlt]⟩, e.1, Pv (i + 1), fun σ' H' p' => ⟨xs.length - (i + 1), by omega, rfl, hlt, p'⟩, fun x H' y => ?_⟩
    obtain ⟨e', y⟩ := y
    subst e'
    exact (hs i x ys _ (y xs q) p).2
  · have e : i = xs.length := by omega
    subst e
    exact .inl ⟨⟨xs, q, Nat.le_refl _⟩, hd ys H p⟩
theorem cmp_tup (Pv : Nat → List V → Hp → Prop) (h0 : Pv 0 [] H) (hl : ∀ i ys H, i ≤ xs.length → Pv i ys H → SqT K H a xs)
    (hs : ∀ i x ys H, xs[i]? = some x → Pv i ys H → ys.length < sizeLine ∧ g x (st0 nv ix σ) H fun σ2 H2 => ti σ2 H2 fun b H3 => if b = true then te σ2 H3 fun y H4 => Pv (i + 1) (ys ++ [y]) H4 else Pv (i + 1) ys H3)
    (hd : ∀ ys H, Pv xs.length ys H → Fin ys H) : CmpW nv ix g ti te σ (Itt K a) Fin H := by
  refine ⟨fun i m ys H => m = xs.length - i ∧ i ≤ xs.length ∧ Pv i ys H, ⟨xs.length, by simp, Nat.zero_le _, h0⟩, ?_⟩
  rintro i m ys H ⟨rfl, hi, p⟩
  have q := hl i ys H hi p
  by_cases hlt : i < xs.length
  · have e := hs i xs[i] ys H (by simp [hlt]) p
    refine .inr ⟨⟨xs, xs[i], q, by simp [hlt]⟩, e.1, Pv (i + 1), fun σ' H' p' => ⟨xs.length - (i + 1), by omega, rfl, hlt, p'⟩, fun x H' y => ?_⟩
    obtain ⟨e', y⟩ := y
    subst e'
    exact (hs i x ys _ (y xs q) p).2
  · have e : i = xs.length := by omega
    subst e
    exact .inl ⟨⟨xs, q, Nat.le_refl _⟩, hd ys H p⟩
theorem cmp_range {lo : Int} {n : Nat} (Pv : Nat → List V → Hp → Prop) (h0 : Pv 0 [] H)
    (hs : ∀ i ys H, i < n → Pv i ys H → ys.length < sizeLine ∧ g (.int (lo + i)) (st0 nv ix σ) H fun σ2 H2 => ti σ2 H2 fun b H3 => if b = true then te σ2 H3 fun y H4 => Pv (i + 1) (ys ++ [y]) H4 else Pv (i + 1) ys H3)
    (hd : ∀ ys H, Pv n ys H → Fin ys H) : CmpW nv ix g ti te σ (Itr lo n) Fin H := by
  refine ⟨fun i m ys H => m = n - i ∧ i ≤ n ∧ Pv i ys H, ⟨n, by simp, Nat.zero_le _, h0⟩, ?_⟩
  rintro i m ys H ⟨rfl, hi, p⟩
  by_cases hlt : i < n
  · refine .inr ⟨hlt, (hs i ys H hlt p).1, Pv (i + 1), fun σ' H' p' => ⟨n - (i + 1), by omega, rfl, hlt, p'⟩, fun x H' y => ?_⟩
    obtain ⟨e', y⟩ := y
    subst e' y
    exact (hs i ys _ hlt p).2
  · have e : i = n := by omega
    subst e
    exact .inl ⟨Nat.le_refl _, hd ys H p⟩
end
end L2
set_option Elab.async false
set_option linter.all false
set_option maxRecDepth 100000
set_option maxHeartbeats 4000000
namespace L2
open PySem PySem.Spec PyProof.Rows
theorem Same.new {H : Hp} {p : Addr} (h : H p = none) (o : HO) : Same H (upd H p o) := fun b u q => by rw [upd_ne (ne_of_none q h)]; exact q

section
variable {X : Cx} {a b c : Expr} {ta tb tc : TE} {pos : Pos}
theorem op_mulB : OpR X (binaryOp .Mult) (rI (fun i j => IntMulOk i j) fun i j => .int (i * j)) := opI fun _ _ _ _ _ _ _ hc q => mul_int q hc

noncomputable def RvR (X : Cx) (r : V → Hp → VK → Prop) : Prop :=
  ∀ (pins : List (Addr × Obj)) (s : Shared) (σ : St) (H : Hp) (x : V) (v vk : Value) (sl : Addr) (Q : VK), Inv X pins σ H s → RelV x v → s.heap.IsSliceOf sl .none .none vk → IsPart vk (some (-1)) → r x H Q →
    ∃ T id, typeLookup (.type T) "__getitem__" = pure (some (.builtin id)) ∧ s.TypeIs v T ∧ wpAny (model X.prog X.w) X.A (getItem v (.ref sl)) (EP X pins σ Q) X.xe s
noncomputable def tRv (r : V → Hp → VK → Prop) (te : TE) : TE := fun σ H Q => te σ H fun x H1 => r x H1 Q
theorem pe_rev {e : Expr} {te : TE} {p1 p2 p3 : Pos} {k : Nat} {r : V → Hp → VK → Prop} (hr : RvR X r) (he : PE X e te) : PE X (.Subscript e (.Slice none none (some (.UnaryOp .USub (.Constant (.int 1) k p1) p2)) p3) pos) (tRv r te) := by
  intro pins s σ H Q I h
  refine Subscript_ (thn (he pins s σ H _ I h) fun v s1 ⟨x, H1, I1, r1, q1⟩ => ?_)
  refine wpAny_Slice ?_
  rw [evalPart_none]
  refine wpAny_pure ?_
  refine wpAny_pure ?_
  rw [evalPart_some]
  refine UnaryOp_ (wpAny_Constant_int (neg_int ?_))
  have I4 : ∀ (tk : Nat) (u : Tok), Inv X pins σ H1 { s1 with heap := s1.heap.push { cls := .type "slice", data := .fields #[.none, .none, .int (-1) u] }, toks := tk } := fun tk u => I1.kept fun b ob q => Heap.get?_push_of_some _ q
  obtain ⟨T, id, hT, ht, hg⟩ := hr pins _ σ H1 x v _ s1.heap.objs.size Q (I4 _ _) r1 (Heap.IsSliceOf.new ..) (IsPart.int (-1) _) q1
  exact tail_any (ops := [v, .ref s1.heap.objs.size]) ht hT hg (by with_unfolding_all rfl)
theorem ze_rev {e : Expr} {te : TE} {p1 p2 p3 : Pos} {k : Nat} {r : V → Hp → VK → Prop} (hr : RvR X r) (he : ZE X e te) : ZE X (.Subscript e (.Slice none none (some (.UnaryOp .USub (.Constant (.int 1) k p1) p2)) p3) pos) (tRv r te) := by with_unfolding_all exact pe_rev hr he
noncomputable def rRvL (K : PySem.W.Frag) : V → Hp → VK → Prop := fun x H Q => ∃ a xs, x = .ref a ∧ SqL K H a xs ∧ ∀ p, H p = none → Q (.ref p) (upd H p (.lst xs.reverse))
theorem rv_list : RvR X (rRvL X.K) := by
  intro pins s σ H x v vk sl Q I rx hs pk h
  obtain ⟨a, xs, rfl, hx, q⟩ := h
  cases rx
  obtain ⟨its, r, ht, hz⟩ := I.list hx
  have hlen := r.length
  refine ⟨"list", _, slot_list_getitem.lookup, ht.isList.typeIs, ?_⟩
  refine wpAny_getItem_list_slice ht.isList hs .none .none pk (by decide) ?_ (by rw [List.size_toArray] <;> omega)
  rw [PySem.W.krv_pick]
  refine ⟨.ref s.heap.objs.size, _, I.laid (t' := s.toks) (o := .lst xs.reverse) (fun b ob q => Heap.get?_push_of_some _ q) (Nat.le_refl _) ?_, rfl, q _ (I.hok.fresh (Nat.le_refl _))⟩
  exact ⟨by rw [List.length_reverse]; exact hz, its.reverse, 0, r.reverse, Heap.get?_push_size _ rfl⟩

end
end L2
set_option Elab.async false
set_option linter.all false
set_option maxRecDepth 100000
set_option maxHeartbeats 4000000
namespace L2
open PySem PySem.Spec PyProof.Rows
section
variable {prog : Program} {w : World} {A : Around} {E : Value → Shared → Prop} {s : Shared}
theorem getItem_tuple_whole {t sl : Addr} {items : Array Value} {vl vu : Value} {lo hi : Option Int} {Q : Value → Shared → Prop} (ht : IsTup s.heap t items) (hs : s.heap.IsSliceOf sl vl vu .none) (pl : IsPart vl lo) (pu : IsPart vu hi)
    (hw : HT.sIx items.size 0 lo = 0 ∧ HT.sIx items.size items.size hi = items.size)
    (h : Q (.ref t) s) : wpAny (model prog w) A (getItem (.ref t) (.ref sl)) Q E s := by
  obtain ⟨os, hos, hcs, hds⟩ := id hs
  have hTs : s.TypeIs (.ref sl) "slice" := ⟨os, hos, hcs⟩
  unfold getItem
  try with_reducible refine wpAny_holding ?_
  first | refine wpAny_bind (wpAny_pure ?_) | skip
  refine wpAny_bind (wpAny_sequenceKey ht.typeIs (by decide) ?_)
  refine wpAny_bind (wpAny_callSpecial?_slot (name := Str.ofString "__getitem__") ht.typeIs PyProof.Rows.slot_tuple_getitem
    (wpAny_call_entry PyProof.Rows.slot_tuple_getitem ht.typeIs entry_tuple_getitem ?_ (args_tuple_getitem _ _)))
  show wpAny _ _ (Builtin.Tuple.tupleItemsOf (.ref t) >>= _) _ _ s
  refine wpAny_bind (tupleItemsOf_ ht ?_)
  refine wpAny_bind (wpAny_typeOf hTs ?_)
  rw [if_pos (by decide)]
  refine wpAny_bind (HT.sliceApplied_gen hs pl pu ?_)
  have hyes : ((((HT.sIx items.size 0 lo : Nat) : Int) == 0 && (1 : Int) == 1 && (HT.sIx items.size items.size hi - HT.sIx items.size 0 lo) == items.size) = true) := by
    rw [hw.1, hw.2]
    simp
  show wpAny _ _ (if (((HT.sIx items.size 0 lo : Nat) : Int) == 0 && (1 : Int) == 1 && (HT.sIx items.size items.size hi - HT.sIx items.size 0 lo) == items.size) = true then _ else _) _ _ s
  rw [if_pos hyes]
  refine wpAny_bind (m := Builtin.Tuple.tupleIsExact _) ?_
  unfold Builtin.Tuple.tupleIsExact
  refine wpAny_bind (wpAny_typeOf ht.typeIs (wpAny_pure ?_))
  rw [if_pos (by decide)]
  exact wpAny_bind (wpAny_rule (wpAny_pure ⟨_, rfl, wpAny_pure h⟩))
theorem filterMap_eq {α β : Type} {f g : α → Option β} : ∀ {l : List α}, (∀ a ∈ l, f a = g a) → l.filterMap f = l.filterMap g
  | [], _ => rfl
  | a :: r, h => by
    rw [List.filterMap_cons, List.filterMap_cons, h a List.mem_cons_self, filterMap_eq fun b hb => h b (List.mem_cons_of_mem _ hb)]
theorem rev_pick (xs : Array Value) : ((List.range xs.size).filterMap fun (m : Nat) => xs[(((xs.size : Int) - 1) + (m : Int) * (-1)).toNat]?).toArray = xs.toList.reverse.toArray := by
  have h := PySem.W.krv_pick xs
  unfold slicePick at h
  rw [PySem.W.krv_bounds] at h
  have h' : ((sliceRange ((xs.size : Int) - 1) (-1) (-1)).filterMap (xs[·]?)).toArray = xs.toList.reverse.toArray := h
  rw [PySem.W.krv_sliceRange, List.filterMap_map] at h'
  rw [← h']
  congr 1
  refine filterMap_eq fun m hm => ?_
  have := List.mem_range.mp hm
  show xs[_]? = xs[xs.size - 1 - m]?
  congr 1
  omega
theorem sliceApplied_rev {sl : Addr} {vk : Value} {n : Nat} {Q : Int × Int × Nat → Shared → Prop} (hs : s.heap.IsSliceOf sl .none .none vk) (pk : IsPart vk (some (-1)))
    (h : Q ((n : Int) - 1, -1, n) s) : wpAny (model prog w) A (Builtin.Slice.sliceApplied (.ref sl) (pure (n : Int))) Q E s := by
  obtain ⟨os, hos, hcs, hds⟩ := id hs
  unfold Builtin.Slice.sliceApplied Builtin.Slice.sliceFields
  refine wpAny_bind (wpAny_bind (wpAny_field hos hds (x := .none) rfl (wpAny_bind (wpAny_field hos hds (x := .none) rfl (wpAny_bind (wpAny_field hos hds (x := vk) rfl (wpAny_pure ?_)))))))
  refine wpAny_bind (HT.slicePart_ pk ?_)
  show wpAny _ _ (if ((-1 : Int) == 0) = true then _ else _) _ _ s
  rw [if_neg (by decide)]
  refine wpAny_bind (slicePart_none (wpAny_bind (slicePart_none (wpAny_bind (wpAny_pure ?_)))))
  show wpAny _ _ (match Builtin.Slice.sliceAdjust none none (-1) (n : Int) with | (lo, hi) => pure (lo, (-1 : Int), Builtin.Slice.slicePlaces lo hi (-1))) _ _ s
  have e1 : Builtin.Slice.sliceAdjust none none (-1) (n : Int) = ((n : Int) - 1, -1) := by rfl
  rw [e1]
  show wpAny _ _ (pure ((n : Int) - 1, (-1 : Int), Builtin.Slice.slicePlaces ((n : Int) - 1) (-1) (-1))) _ _ s
  have e2 : Builtin.Slice.slicePlaces ((n : Int) - 1) (-1) (-1) = n := by
    unfold Builtin.Slice.slicePlaces
    rw [if_neg (by decide)]
    have e3 : (- -1 : Int) = 1 := by decide
    rw [e3, Int.ediv_one]
    split <;> omega
  rw [e2]
  exact wpAny_pure h
theorem getItem_tuple_rev {t sl : Addr} {items : Array Value} {vk : Value} {Q : Value → Shared → Prop} (ht : IsTup s.heap t items) (hs : s.heap.IsSliceOf sl .none .none vk) (pk : IsPart vk (some (-1)))
    (h : Q (.ref s.heap.objs.size) { s with heap := s.heap.push { cls := .type "tuple", data := .seq items.toList.reverse.toArray } })
    (hsz : items.size ≤ sizeLine) : wpAny (model prog w) A (getItem (.ref t) (.ref sl)) Q E s := by
  have htake : sizeOk (.seq items.toList.reverse.toArray) := by
    show items.toList.reverse.toArray.size ≤ sizeLine
    rw [List.size_toArray, List.length_reverse, Array.length_toList]
    exact hsz
  obtain ⟨os, hos, hcs, hds⟩ := id hs
  have hTs : s.TypeIs (.ref sl) "slice" := ⟨os, hos, hcs⟩
  unfold getItem
  try with_reducible refine wpAny_holding ?_
  first | refine wpAny_bind (wpAny_pure ?_) | skip
  refine wpAny_bind (wpAny_sequenceKey ht.typeIs (by decide) ?_)
  refine wpAny_bind (wpAny_callSpecial?_slot (name := Str.ofString "__getitem__") ht.typeIs PyProof.Rows.slot_tuple_getitem
    (wpAny_call_entry PyProof.Rows.slot_tuple_getitem ht.typeIs entry_tuple_getitem ?_ (args_tuple_getitem _ _)))
  show wpAny _ _ (Builtin.Tuple.tupleItemsOf (.ref t) >>= _) _ _ s
  refine wpAny_bind (tupleItemsOf_ ht ?_)
  refine wpAny_bind (wpAny_typeOf hTs ?_)
  rw [if_pos (by decide)]
  refine wpAny_bind (sliceApplied_rev hs pk ?_)
  have hno : ¬ ((((items.size : Int) - 1) == 0 && (-1 : Int) == 1 && items.size == items.size) = true) := by
    intro q
    rw [Bool.and_eq_true, Bool.and_eq_true] at q
    exact absurd q.1.2 (by decide)
  show wpAny _ _ (if (((items.size : Int) - 1) == 0 && (-1 : Int) == 1 && items.size == items.size) = true then _ else _) _ _ s
  rw [if_neg hno, rev_pick]
  first
    | exact wpAny_bind (m := Builtin.Tuple.tupleExact _) (wpAny_newObj_type (wpAny_pure ⟨_, rfl, wpAny_pure h⟩) htake)
    | exact wpAny_bind (m := Builtin.Tuple.tupleExact _) (wpAny_newObj_type (wpAny_bind (wpAny_pure (wpAny_pure ⟨_, rfl, wpAny_pure h⟩))) htake)
    | exact wpAny_bind (wpAny_bind (m := Builtin.Tuple.tupleExact _) (wpAny_newObj_type (wpAny_pure (wpAny_pure ⟨_, rfl, wpAny_pure h⟩)) htake))
    | exact wpAny_bind (wpAny_bind (m := Builtin.Tuple.tupleExact _) (wpAny_newObj_type (wpAny_pure ⟨_, rfl, wpAny_pure h⟩) htake))
end
section
variable {X : Cx} {a b c : Expr} {ta tb tc : TE} {pos : Pos}
noncomputable def rSlP (K : PySem.W.Frag) : V → Option Int → Option Int → Hp → VK → Prop := fun x lo hi H Q => ∃ a, x = .ref a ∧ ((∃ xs, H a = some (.tup xs) ∧ ∀ r H', Same H H' → H' r = some (.tup (cutV xs lo hi)) → Q (.ref r) H') ∨
  ∃ xs, SqL K H a xs ∧ ∀ p, H p = none → Q (.ref p) (upd H p (.lst (cutV xs lo hi))))
theorem sl_P : SlR X (rSlP X.K) := by
  intro pins s σ H x v vl vu lo hi sl Q I rx hs pl pu h
  obtain ⟨a, rfl, ⟨xs, hx, q⟩ | ⟨xs, hx, q⟩⟩ := h
  · by_cases hw : HT.sIx xs.length 0 lo = 0 ∧ HT.sIx xs.length xs.length hi = xs.length
    · cases rx
      obtain ⟨its, r, ht, hz⟩ := I.tuple (SqT.of hx)
      have hlen : its.toArray.size = xs.length := by rw [List.size_toArray]; exact r.length.symm
      refine ⟨"tuple", _, PyProof.Rows.slot_tuple_getitem.lookup, ht.typeIs, ?_⟩
      refine getItem_tuple_whole ht hs pl pu (by rw [hlen]; exact hw) ⟨.ref a, H, I, rfl, q a H (Same.refl H) ?_⟩
      rw [hx]
      unfold cutV
      rw [hw.1, hw.2, List.drop_zero, Nat.sub_zero, List.take_of_length_le (Nat.le_refl _)]
    · exact sl_tup pins s σ H _ v vl vu lo hi sl Q I rx hs pl pu ⟨a, xs, rfl, SqT.of hx, hw, fun p hp => q p _ (Same.new hp _) upd_same⟩
  · exact sl_list pins s σ H _ v vl vu lo hi sl Q I rx hs pl pu ⟨a, xs, rfl, hx, q⟩
noncomputable def rRvP (K : PySem.W.Frag) : V → Hp → VK → Prop := fun x H Q => ∃ a, x = .ref a ∧ ((∃ xs, H a = some (.tup xs) ∧ ∀ p, H p = none → Q (.ref p) (upd H p (.tup xs.reverse))) ∨ ∃ xs, SqL K H a xs ∧ ∀ p, H p = none → Q (.ref p) (upd H p (.lst xs.reverse)))
theorem rv_P : RvR X (rRvP X.K) := by
  intro pins s σ H x v vk sl Q I rx hs pk h
  obtain ⟨a, rfl, ⟨xs, hx, q⟩ | ⟨xs, hx, q⟩⟩ := h
  · cases rx
    obtain ⟨its, r, ht, hz⟩ := I.tuple (SqT.of hx)
    have hlen := r.length
    refine ⟨"tuple", _, PyProof.Rows.slot_tuple_getitem.lookup, ht.typeIs, ?_⟩
    refine getItem_tuple_rev ht hs pk ?_ (by rw [List.size_toArray, ← hlen]; exact hz)
    refine ⟨.ref s.heap.objs.size, _, I.laid (t' := s.toks) (o := .tup xs.reverse) (fun b ob q => Heap.get?_push_of_some _ q) (Nat.le_refl _) ?_, rfl, q _ (I.hok.fresh (Nat.le_refl _))⟩
    exact ⟨by rw [List.length_reverse]; exact hz, its.reverse, r.reverse, TupD.new _ _⟩
  · exact rv_list pins s σ H _ v vk sl Q I rx hs pk ⟨a, xs, rfl, hx, q⟩

theorem PE.imp {e : Expr} {t t' : TE} (h : PE X e t) (i : ∀ σ H Q, t' σ H Q → t σ H Q) : PE X e t' := fun pins s σ H Q I q => h pins s σ H Q I (i σ H Q q)
theorem OpR.imp {f : Value → Value → Sem Value} {r r' : R2} (h : OpR X f r) (i : ∀ x y H Q, r' x y H Q → r x y H Q) : OpR X f r' := fun pins s σ H x y v u Q I rx ry q => h pins s σ H x y v u Q I rx ry (i x y H Q q)
noncomputable def tV (i : Nat) : TE := fun σ H Q => match σ[i]? with | some (some v) => Q v H | _ => False
theorem tV_var {i : Nat} (σ : St) (H : Hp) (Q : VK) (h : tV i σ H Q) : tVar i σ H Q := by
  unfold tV at h
  split at h
  · exact ⟨_, by assumption, h⟩
  · exact h.elim
theorem pn (i : Nat) {x : Str} {pos : Pos} (hN : X.N[i]? = some x := by rfl) (hv : Vis X.env.scope x := by first | exact Or.inl rfl | exact Or.inr (Or.inl rfl) | exact Or.inr (Or.inr rfl)) (hd : (x == ("__debug__" : Str)) = false := by decide)
    (hcd : (x == ("__classdict__" : Str)) = false := by decide) : PE X (.Name x pos) (tV i) := (pe_var hN hv hd hcd).imp tV_var
theorem zn (i : Nat) {x : Str} {pos : Pos} (hN : X.N[i]? = some x := by rfl) (hv : Vis X.env.scope x := by first | exact Or.inl rfl | exact Or.inr (Or.inl rfl) | exact Or.inr (Or.inr rfl)) (hd : (x == ("__debug__" : Str)) = false := by decide)
    (hcd : (x == ("__classdict__" : Str)) = false := by decide) : ZE X (.Name x pos) (tV i) := by with_unfolding_all exact pn i hN hv hd hcd
noncomputable def rAddP (K : PySem.W.Frag) : R2 := fun x y H Q => match x, y with
  | .int i, .int j => Q (.int (i + j)) H
  | .str i, .str j => i.length + j.length ≤ sizeLine ∧ Q (.str (i ++ j)) H
  | .ref a, .ref b => (∃ xs ys, H a = some (.lst xs) ∧ H b = some (.lst ys) ∧ xs.length + ys.length ≤ sizeLine ∧ ∀ p, H p = none → Q (.ref p) (upd H p (.lst (xs ++ ys)))) ∨
      ∃ xs ys, H a = some (.tup xs) ∧ H b = some (.tup ys) ∧ xs.length + ys.length ≤ sizeLine ∧ ∀ r H', Same H H' → H' r = some (.tup (xs ++ ys)) → Q (.ref r) H'
  | _, _ => False
theorem op_catA' : OpR X (binaryOp .Add) (fun x y H Q => ∃ a b xs ys, x = .ref a ∧ y = .ref b ∧ H a = some (.tup xs) ∧ H b = some (.tup ys) ∧ xs.length + ys.length ≤ sizeLine ∧ ∀ r H', Same H H' → H' r = some (.tup (xs ++ ys)) → Q (.ref r) H') := by
  intro pins s σ H x y v u Q I rx ry h
  obtain ⟨a, b, xs, ys, rfl, rfl, ha, hb, hz, q⟩ := h
  by_cases hx : xs = []
  · subst hx
    cases rx
    cases ry
    obtain ⟨its, r1, p1, _⟩ := I.tuple (SqT.of ha)
    obtain ⟨its2, r2, p2, _⟩ := I.tuple (SqT.of hb)
    cases r1
    obtain ⟨⟨cls, dd, data, sl⟩, ho, hc, n, hd⟩ := id p1
    obtain ⟨⟨cls2, dd2, data2, sl2⟩, ho2, hc2, n2, hd2⟩ := id p2
    simp only at hc hd hc2 hd2
    subst hc hd hc2 hd2
    exact concat_meets ⟨_, ho, rfl⟩ ⟨_, ho2, rfl⟩ noFill_tuple_add seq_tuple_add PySem.F.slot_tuple_add PySem.F.entry_tuple_add (PySem.F.args_tuple_add_2 _ _)
      (tuple_addW0 a b _ _ n n2 dd dd2 sl sl2 (by rfl)) ⟨ho, ho2, ⟨.ref b, H, I, rfl, q b H (Same.refl H) hb⟩⟩
  · refine op_catT pins s σ H _ _ v u Q I rx ry ⟨a, b, xs, ys, rfl, rfl, SqT.of ha, SqT.of hb, hx, hz, fun e => ?_, fun e p hp => ?_⟩
    · subst e
      exact q a H (Same.refl H) (by rw [List.append_nil]; exact ha)
    · exact q p _ (Same.new hp _) upd_same
theorem op_addP : OpR X (binaryOp .Add) (rAddP X.K) := by
  intro pins s σ H x y v u Q I rx ry h
  unfold rAddP at h
  split at h
  · exact op_add pins s σ H _ _ v u Q I rx ry ⟨_, _, rfl, rfl, h⟩
  · exact op_add_str pins s σ H _ _ v u Q I rx ry ⟨_, _, rfl, rfl, h⟩
  · rcases h with ⟨xs, ys, h1, h2, h3, q⟩ | ⟨xs, ys, h1, h2, h3, q⟩
    · exact op_cat pins s σ H _ _ v u Q I rx ry ⟨_, _, xs, ys, rfl, rfl, h1, h2, h3, q⟩
    · exact op_catA' pins s σ H _ _ v u Q I rx ry ⟨_, _, xs, ys, rfl, rfl, h1, h2, h3, q⟩
  · exact h.elim
noncomputable def rP (C : Int → Int → Prop) (g : Int → Int → V) : R2 := fun x y H Q => match x, y with | .int i, .int j => C i j ∧ Q (g i j) H | _, _ => False
noncomputable def rP0 (g : Int → Int → V) : R2 := fun x y H Q => match x, y with | .int i, .int j => Q (g i j) H | _, _ => False
theorem rP_rI {C : Int → Int → Prop} {g : Int → Int → V} (x y : V) (H : Hp) (Q : VK) (h : rP C g x y H Q) : rI C g x y H Q := by
  unfold rP at h
  split at h
  · exact ⟨_, _, rfl, rfl, h⟩
  · exact h.elim
theorem rP0_rI0 {g : Int → Int → V} (x y : V) (H : Hp) (Q : VK) (h : rP0 g x y H Q) : rI0 g x y H Q := by
  unfold rP0 at h
  split at h
  · exact ⟨_, _, rfl, rfl, h⟩
  · exact h.elim
theorem op_subP : OpR X (binaryOp .Sub) (rP0 fun i j => .int (i - j)) := op_sub.imp rP0_rI0
theorem op_modP : OpR X (binaryOp .Mod) (rP (fun _ j => 0 < j) fun i j => .int (i % j)) := op_mod.imp rP_rI
theorem op_fdivP : OpR X (binaryOp .FloorDiv) (rP CDiv fun i j => .int (i / j)) := op_fdiv.imp rP_rI
theorem op_powP : OpR X (binaryOp .Pow) (rP CPow fun i j => .int (i ^ j.toNat)) := op_pow.imp rP_rI
theorem op_ltP : OpR X (compareOp .Lt) (rP0 fun i j => .bl (decide (i < j))) := op_lt.imp rP0_rI0
theorem op_gtP : OpR X (compareOp .Gt) (rP0 fun i j => .bl (decide (j < i))) := op_gt.imp rP0_rI0
theorem op_geP : OpR X (compareOp .GtE) (rP0 fun i j => .bl (decide (j ≤ i))) := op_ge.imp rP0_rI0
noncomputable def rIsP (neg : Bool) : R2 := fun x y H Q => match y with
  | .non => Q (.bl (if neg then !decide (x = y) else decide (x = y))) H
  | .bl _ => match x with
    | .flt _ => False
    | .byt _ => False
    | .ty _ => False
    | _ => Q (.bl (if neg then !decide (x = y) else decide (x = y))) H
  | _ => False
end
end L2
set_option Elab.async false
set_option linter.all false
set_option maxRecDepth 100000
set_option maxHeartbeats 4000000
namespace L2
open PySem PySem.Spec PyProof.Rows
mutual
inductive DatV (H : Hp) : V → PyData → Prop where
  | non : DatV H .non .none
  | bl (b : Bool) : DatV H (.bl b) (.bool b)
  | int (i : Int) : DatV H (.int i) (.int i)
  | str (x : Str) : DatV H (.str x) (.str x)
  | lst {a : Addr} {xs : List V} {ds : List PyData} (e : H a = some (.lst xs)) (r : DatAll H xs ds) : DatV H (.ref a) (.list ds)
  | tup {a : Addr} {xs : List V} {ds : List PyData} (e : H a = some (.tup xs)) (r : DatAll H xs ds) : DatV H (.ref a) (.tuple ds)
inductive DatAll (H : Hp) : List V → List PyData → Prop where
  | nil : DatAll H [] []
  | cons {x : V} {d : PyData} {xs : List V} {ds : List PyData} (h : DatV H x d) (r : DatAll H xs ds) : DatAll H (x :: xs) (d :: ds)
end
theorem DatAll.ints {H : Hp} : ∀ ns : List Int, DatAll H (ns.map V.int) (ns.map PyData.int)
  | [] => .nil
  | n :: r => .cons (.int n) (DatAll.ints r)
section
variable {X : Cx} {pins : List (Addr × Obj)} {σ : St} {H : Hp} {s : Shared}
mutual
theorem DatV.reads (I : Inv X pins σ H s) : ∀ {x : V} {d : PyData} {v : Value}, DatV H x d → RelV x v → ∃ as, Reads s.heap v d as
  | _, _, _, .non, r => by cases r; exact ⟨_, .none⟩
  | _, _, _, .bl b, r => by cases r; exact ⟨_, .bool b⟩
  | _, _, _, .int i, r => by obtain ⟨t, rfl⟩ := r; exact ⟨_, .int i t⟩
  | _, _, _, .str x, r => by obtain ⟨t, rfl⟩ := r; exact ⟨_, .str x t⟩
  | _, _, _, .lst e q, r => by
    cases r
    obtain ⟨_, its, n, rv, h⟩ := I.lstM e
    obtain ⟨_, h⟩ := h
    obtain ⟨as, z⟩ := DatAll.reads I q rv
    exact ⟨_, reads_list_at h rfl rfl z⟩
  | _, _, _, .tup e q, r => by
    cases r
    obtain ⟨its, rv, ⟨o, h1, h2, n, h3⟩, _⟩ := I.tuple (SqT.of e)
    obtain ⟨as, z⟩ := DatAll.reads I q rv
    exact ⟨_, reads_tuple_at h1 h2 h3 z⟩
theorem DatAll.reads (I : Inv X pins σ H s) : ∀ {xs : List V} {ds : List PyData} {vs : List Value}, DatAll H xs ds → Vals xs vs → ∃ as, ReadsAll s.heap vs ds as
  | _, _, _, .nil, r => by cases r; exact ⟨_, .nil⟩
  | _, _, _, .cons h q, r => by
    cases r with
    | cons r1 r2 =>
      obtain ⟨as, z⟩ := DatV.reads I h r1
      obtain ⟨bs, y⟩ := DatAll.reads I q r2
      exact ⟨_, .cons z y⟩
end
end
section
variable {X : Cx} {a b c : Expr} {ta tb tc : TE} {pos : Pos}
noncomputable def rEqD (neg : Bool) : R2 := fun x y H Q => match scal x y with
  | true => Q (.bl (if neg then !decide (x = y) else decide (x = y))) H
  | false => ∃ d e, DatV H x d ∧ DatV H y e ∧ SeqAt.shaped d = true ∧ SeqAt.shaped e = true ∧ Q (.bl (if neg then !PyData.eqv d e else PyData.eqv d e)) H
theorem op_eqD (hu : X.A.units + 64 < cLine) : OpR X (compareOp .Eq) (rEqD false) := by
  intro pins s σ H x y v u Q I rx ry h
  unfold rEqD at h
  split at h
  · exact op_eq pins s σ H x y v u Q I rx ry ⟨by assumption, h⟩
  · obtain ⟨d, e, h1, h2, h3, h4, q⟩ := h
    obtain ⟨as, r1⟩ := h1.reads I rx
    obtain ⟨bs, r2⟩ := h2.reads I ry
    exact eq_dataH r1 r2 h3 h4 hu ⟨.bl _, H, I, rfl, q⟩
theorem op_neD (hu : X.A.units + 64 < cLine) : OpR X (compareOp .NotEq) (rEqD true) := by
  intro pins s σ H x y v u Q I rx ry h
  unfold rEqD at h
  split at h
  · exact op_ne pins s σ H x y v u Q I rx ry ⟨by assumption, h⟩
  · obtain ⟨d, e, h1, h2, h3, h4, q⟩ := h
    obtain ⟨as, r1⟩ := h1.reads I rx
    obtain ⟨bs, r2⟩ := h2.reads I ry
    exact ne_dataH r1 r2 h3 h4 hu ⟨.bl _, H, I, rfl, q⟩
theorem op_isP : OpR X (compareOp .Is) (rIsP false) := by
  intro pins s σ H x y v u Q I rx ry h
  unfold rIsP at h
  split at h
  · exact op_isN pins s σ H x _ v u Q I rx ry ⟨rfl, h⟩
  · rename_i k
    cases ry
    split at h
    · exact h.elim
    · exact h.elim
    · exact h.elim
    · rename_i hf hb ht
      cases x with
      | non => cases rx; exact wpAny_is_plain rfl (fin_bl I h (by simp))
      | bl j => cases rx; exact wpAny_is_plain rfl (fin_bl I h (by rw [Bool.eq_iff_iff]; simp))
      | int j => obtain ⟨t, rfl⟩ := rx; exact wpAny_is_plain rfl (fin_bl I h (by simp))
      | str j => obtain ⟨t, rfl⟩ := rx; exact wpAny_is_plain rfl (fin_bl I h (by simp))
      | byt j => exact absurd rfl (hb j)
      | flt j => exact absurd rfl (hf j)
      | ref j => cases rx; exact wpAny_is_plain rfl (fin_bl I h (by simp))
      | ty j => exact absurd rfl (ht j)
  · exact h.elim
theorem op_isntP : OpR X (compareOp .IsNot) (rIsP true) := by
  intro pins s σ H x y v u Q I rx ry h
  unfold rIsP at h
  split at h
  · exact op_notN pins s σ H x _ v u Q I rx ry ⟨rfl, h⟩
  · rename_i k
    cases ry
    split at h
    · exact h.elim
    · exact h.elim
    · exact h.elim
    · rename_i hf hb ht
      cases x with
      | non => cases rx; exact wpAny_isNot_plain rfl (fin_bl I h (by simp))
      | bl j => cases rx; exact wpAny_isNot_plain rfl (fin_bl I h (by rw [Bool.eq_iff_iff]; simp))
      | int j => obtain ⟨t, rfl⟩ := rx; exact wpAny_isNot_plain rfl (fin_bl I h (by simp))
      | str j => obtain ⟨t, rfl⟩ := rx; exact wpAny_isNot_plain rfl (fin_bl I h (by simp))
      | byt j => exact absurd rfl (hb j)
      | flt j => exact absurd rfl (hf j)
      | ref j => cases rx; exact wpAny_isNot_plain rfl (fin_bl I h (by simp))
      | ty j => exact absurd rfl (ht j)
  · exact h.elim

noncomputable def tBlP (t : TE) : TT := fun σ H Q => t σ H fun x H1 => match x with | .bl c => Q c H1 | _ => False
theorem blP {x : V} {P : Bool → Prop} (h : match x with | .bl c => P c | _ => False) : ∃ c, x = .bl c ∧ P c := by
  cases x <;> first | exact ⟨_, rfl, h⟩ | exact h.elim
theorem pt_cmpP {op : CmpOp} {r : R2} (ho : OpR X (compareOp op) r) (ha : PE X a ta) (hb : PE X b tb) (hm : behindInMarks op b = false) : PT X (.Compare a [op] [b] pos) (tBlP (tOp r ta tb)) := by
  intro pins s σ H Q I h
  refine wpAny_isTrue_Compare1 (binT ha hb I h fun v u s2 x y H2 I2 rx ry q => ?_) hm
  refine thn (ho pins s2 σ H2 x y v u _ I2 rx ry q) fun z s3 ⟨w', H3, I3, r3, q3⟩ => ?_
  obtain ⟨k, rfl, q3⟩ := blP q3
  cases r3
  exact wpAny_truthy_bool ⟨H3, I3, q3⟩
theorem zt_cmpP {op : CmpOp} {r : R2} (ho : OpR X (compareOp op) r) (ha : ZE X a ta) (hb : ZE X b tb) (hm : behindInMarks op b = false) : ZT X (.Compare a [op] [b] pos) (tBlP (tOp r ta tb)) := by with_unfolding_all exact pt_cmpP ho ha hb hm
theorem pt_valP {e : Expr} {t : TE} (h : PE X e t) (he : ∀ whole, isTrue e X.env whole = (do let v ← whole; standAt e.pos; holding [v] (truthy v)) := by intro _; rfl) : PT X e (tBlP t) := by
  intro pins s σ H Q I q
  refine isTrue_plain (thn (h pins s σ H _ I q) fun v s1 ⟨x, H1, I1, r1, q1⟩ => ?_) (he _)
  obtain ⟨k, rfl, q1⟩ := blP q1
  cases r1
  exact wpAny_truthy_bool ⟨H1, I1, q1⟩
theorem zt_valP {e : Expr} {t : TE} (h : ZE X e t) (he : ∀ whole, isTrue e X.env whole = (do let v ← whole; standAt e.pos; holding [v] (truthy v)) := by intro _; rfl) : ZT X e (tBlP t) := by with_unfolding_all exact pt_valP h he
noncomputable def tAndP (ta tb : TE) : TE := fun σ H Q => ta σ H fun x H1 => match x with | .bl c => if c = true then tb σ H1 Q else Q (.bl false) H1 | _ => False
noncomputable def tNotP (ta : TE) : TE := fun σ H Q => ta σ H fun x H1 => match x with | .bl c => Q (.bl (!c)) H1 | _ => False
variable {rest : List Expr}
theorem pe_andP (ha : PE X a ta) (hb : PE X (.BoolOp .And (b :: rest) pos) tb) : PE X (.BoolOp .And (a :: b :: rest) pos) (tAndP ta tb) := by
  intro pins s σ H Q I h
  refine BoolOp_and (thn (ha pins s σ H _ I h) fun v s1 ⟨x, H1, I1, r1, q1⟩ => ?_)
  obtain ⟨c, rfl, q1⟩ := blP q1
  cases r1
  refine wpAny_truthy_bool ?_
  cases c with
  | true => exact hb pins s1 σ H1 Q I1 q1
  | false => exact ⟨.bl false, H1, I1, rfl, q1⟩
theorem ze_andP (ha : ZE X a ta) (hb : ZE X (.BoolOp .And (b :: rest) pos) tb) : ZE X (.BoolOp .And (a :: b :: rest) pos) (tAndP ta tb) := by with_unfolding_all exact pe_andP ha hb
theorem pe_notP (ha : PE X a ta) : PE X (.UnaryOp .Not a pos) (tNotP ta) := by
  intro pins s σ H Q I h
  refine UnaryOp_ (thn (ha pins s σ H _ I h) fun v s1 ⟨x, H1, I1, r1, q1⟩ => ?_)
  obtain ⟨c, rfl, q1⟩ := blP q1
  cases r1
  exact not_of (wpAny_truthy_bool ⟨.bl (!c), H1, I1, rfl, q1⟩)
theorem ze_notP (ha : ZE X a ta) : ZE X (.UnaryOp .Not a pos) (tNotP ta) := by with_unfolding_all exact pe_notP ha

noncomputable def rIxP (K : PySem.W.Frag) : R2 := fun x y H Q => match x, y with
  | .ref p, .int i => (∃ xs, (SqL K H p xs ∨ H p = some (.tup xs)) ∧ ∃ v, atI xs i = some v ∧ Q v H)
  | _, _ => False
theorem ix_P : IxR X (rIxP X.K) := by
  intro value slice pins s σ H x y v u Q I rx ry h hs
  unfold rIxP at h
  split at h
  · obtain ⟨xs, h1 | h1, w, e, q⟩ := h
    · exact ix_list value slice pins s σ H _ _ v u Q I rx ry ⟨_, xs, _, w, rfl, rfl, h1, e, q⟩ hs
    · exact ix_tup value slice pins s σ H _ _ v u Q I rx ry ⟨_, xs, _, w, rfl, rfl, SqT.of h1, e, q⟩ hs
  · exact h.elim

theorem CallR.imp {f : Value} {r r' : List V → Hp → VK → Prop} (h : CallR X f r) (i : ∀ xs H Q, r' xs H Q → r xs H Q) : CallR X f r' := fun pins s σ H xs us Q I rs q => h pins s σ H xs us Q I rs (i xs H Q q)
noncomputable def rLenP (K : PySem.W.Frag) : List V → Hp → VK → Prop := fun xs H Q => match xs with
  | [.ref p] => ∃ ys, (SqL K H p ys ∨ H p = some (.tup ys)) ∧ Q (.int ys.length) H
  | _ => False
theorem call_lenP : CallR X (.builtin "len") (rLenP X.K) := call_len_seq.imp fun xs H Q h => by
  unfold rLenP at h
  split at h
  · obtain ⟨ys, h1 | h1, q⟩ := h
    · exact ⟨_, ys, rfl, .inl h1, q⟩
    · exact ⟨_, ys, rfl, .inr (SqT.of h1), q⟩
  · exact h.elim
noncomputable def tyName (H : Hp) : V → Option String
  | .non => some "NoneType"
  | .bl _ => some "bool"
  | .int _ => some "int"
  | .str _ => some "str"
  | .ref a => match H a with
    | some (.lst _) => some "list"
    | some (.tup _) => some "tuple"
    | some (.dK _) => some "dict"
    | _ => none
  | _ => none
noncomputable def subTy (t c : String) : Bool := t == c || (t == "bool" && c == "int")
theorem tyOf_name {K : PySem.W.Frag} {H : Hp} {x : V} {t : String} (h : tyName H x = some t) : TyOf K H x (.type t) := by
  unfold tyName at h
  split at h
  all_goals first | (cases h; constructor) | skip
  · split at h
    all_goals first | (cases h; constructor; assumption) | cases h
  · cases h
noncomputable def rIsiP : List V → Hp → VK → Prop := fun xs H Q => match xs with
  | [x, .ty c] => ∃ t, tyName H x = some t ∧ (c == "int" || c == "bool" || c == "tuple" || c == "str" || c == "list") = true ∧ Q (.bl (subTy t c)) H
  | _ => False
theorem kit_of {K : PySem.W.Frag} {H : Hp} {x : V} {t c : String} (h : tyName H x = some t) (hc : (c == "int" || c == "bool" || c == "tuple" || c == "str" || c == "list") = true) : PySem.W.kitOne K (.type t) (.type c) = some (subTy t c) := by
  have ht : t ∈ ["NoneType", "bool", "int", "str", "list", "tuple", "dict"] := by
    unfold tyName at h
    split at h
    all_goals first | (cases h; decide) | skip
    · split at h
      all_goals first | (cases h; decide) | cases h
    · cases h
  have hc' : c ∈ ["int", "bool", "tuple", "str", "list"] := by
    simp only [Bool.or_eq_true, beq_iff_eq] at hc
    simp only [List.mem_cons, List.not_mem_nil, or_false]
    rcases hc with (((hc | hc) | hc) | hc) | hc <;> simp [hc]
  have all : (["NoneType", "bool", "int", "str", "list", "tuple", "dict"].all fun t => ["int", "bool", "tuple", "str", "list"].all fun c => decide (PySem.W.kitOne [] (.type t) (.type c) = some (subTy t c))) = true := by decide +kernel
  have e : PySem.W.kitOne K (.type t) (.type c) = PySem.W.kitOne [] (.type t) (.type c) := rfl
  rw [e]
  exact of_decide_eq_true (List.all_eq_true.mp (List.all_eq_true.mp all t ht) c hc')
theorem call_isiP : CallR X (.builtin "isinstance") rIsiP := by
  intro pins s σ H xs us Q I r h
  unfold rIsiP at h
  split at h
  · obtain ⟨t, h1, h2, q⟩ := h
    obtain ⟨u, w', rfl, r1, r2⟩ := vals2 r
    cases r2
    exact isinst_ok I r1 (tyOf_name h1) (kit_of h1 h2) fun tk => ⟨.bl _, H, I.tok tk, rfl, q⟩
  · exact h.elim
noncomputable def rTupP (K : PySem.W.Frag) : List V → Hp → VK → Prop := fun xs H Q => match xs with
  | [.ref p] => ∃ ys, (SqL K H p ys ∨ H p = some (.tup ys)) ∧ ∀ r H', Same H H' → H' r = some (.tup ys) → Q (.ref r) H'
  | _ => False
theorem call_tupP : CallR X (.type "tuple") (rTupP X.K) := call_tuple_of.imp fun xs H Q h => by
  unfold rTupP at h
  split at h
  · obtain ⟨ys, h1 | h1, q⟩ := h
    · exact ⟨_, ys, rfl, .inl ⟨h1, fun l hl => q l _ (Same.new hl _) upd_same⟩⟩
    · exact ⟨_, ys, rfl, .inr ⟨SqT.of h1, q _ H (Same.refl H) h1⟩⟩
  · exact h.elim
noncomputable def rLstP (K : PySem.W.Frag) : List V → Hp → VK → Prop := fun xs H Q => match xs with
  | [.ref p] => ∃ ys, (SqL K H p ys ∨ H p = some (.tup ys)) ∧ ∀ l, H l = none → Q (.ref l) (upd H l (.lst ys))
  | _ => False
theorem call_lstP : CallR X (.type "list") (rLstP X.K) := call_list_of.imp fun xs H Q h => by
  unfold rLstP at h
  split at h
  · obtain ⟨ys, h1 | h1, q⟩ := h
    · exact ⟨_, ys, rfl, .inl h1, q⟩
    · exact ⟨_, ys, rfl, .inr (SqT.of h1), q⟩
  · exact h.elim
noncomputable def rMinP : List V → Hp → VK → Prop := fun xs H Q => match xs with
  | [.int i, .int j] => Q (.int (if j < i then j else i)) H
  | _ => False
theorem call_minP (hc : X.calm = true) : CallR X (.builtin "min") rMinP := (call_min2 hc).imp fun xs H Q h => by
  unfold rMinP at h
  split at h
  · exact ⟨_, _, rfl, h⟩
  · exact h.elim

structure FnA (P : Program) (w : World) (K : PySem.W.Frag) (mg : Str → Option Value) (base : Heap) (x : Str) (k : Nat) (ps : List Str) (sp : Sp) : Prop where
  ex : ∃ f fd, FnOk P w K mg base CX0 k f fd ps sp ∧ Binds K fd ps [] ∧ PySem.W.keepIn K (.ref f) = true ∧ mg x = some (.ref f)
noncomputable def tFn (sp : Sp) (t : TA) : TE := fun σ H Q => t σ H fun vs H1 => sp vs H1 Q E0
theorem pe_fn {x : Str} {k k' : Nat} {ps : List Str} {sp : Sp} {e : Expr} {es : List Expr} {t : TA} {p : Pos} (F : FnA X.prog X.w X.K X.mg X.base x k ps sp) (hr : Room k' X.A) (hk : k ≤ k') (hg : Gl X x)
    (ha : PA X (e :: es) t) (hdb : (x == ("__debug__" : Str)) = false := by decide) (he : starEach (e :: es) X.env = (false, eval e X.env) :: starEach es X.env := by rfl) (hpl : (backTo pos (starEach es X.env)).any (·.1) = false := by rfl) :
    PE X (.Call (.Name x p) (e :: es) [] pos) (tFn sp t) := by
  obtain ⟨f, fd, F1, b1, k1, m1⟩ := F.ex
  refine (pe_call (F1.mono hk) hr hg m1 k1 b1 .nil pass0 ha hdb he hpl).imp fun σ H Q h => ?_
  have e : (fun (vs : List V) (H1 : Hp) => sp (vs ++ []) H1 Q E0) = fun vs H1 => sp vs H1 Q E0 := by
    funext vs H1
    rw [List.append_nil]
  show t σ H fun vs H1 => sp (vs ++ []) H1 Q E0
  rw [e]
  exact h
theorem ze_fn {x : Str} {k k' : Nat} {ps : List Str} {sp : Sp} {e : Expr} {es : List Expr} {t : TA} {p : Pos} (F : FnA X.prog X.w X.K X.mg X.base x k ps sp) (hr : Room k' X.A) (hk : k ≤ k') (hg : Gl X x)
    (ha : ZA X (e :: es) t) (hdb : (x == ("__debug__" : Str)) = false := by decide) (he : starEach (e :: es) X.env = (false, eval e X.env) :: starEach es X.env := by rfl) (hpl : (backTo pos (starEach es X.env)).any (·.1) = false := by rfl) :
    ZE X (.Call (.Name x p) (e :: es) [] pos) (tFn sp t) := by with_unfolding_all exact pe_fn F hr hk hg ha hdb he hpl
end
end L2
set_option Elab.async false
set_option linter.all false
set_option maxRecDepth 100000
set_option maxHeartbeats 4000000
namespace L2
open PySem PySem.Spec PyProof.Rows
theorem pe_ty {X : Cx} {x : Str} {T : String} {pos : Pos} (hg : Gl X x) (hm : X.mg x = none) (hv : bootBuiltins x = some (.type T)) (hn : x ≠ "__name__" := by decide) (hd : (x == ("__debug__" : Str)) = false := by decide) : PE X (.Name x pos) (tC (.ty T)) :=
  pe_bltn hg hm hv (show RelV (.ty T) (.type T) from rfl) hn hd
theorem iteD {p : Prop} [Decidable p] {A B : Prop} (h1 : p → A) (h2 : ¬ p → B) : if decide p = true then A else B := by
  by_cases h : p
  · rw [decide_eq_true h]; exact iteT (h1 h)
  · rw [decide_eq_false h]; exact iteF (h2 h)
theorem iteB {b : Bool} {A B : Prop} (h1 : b = true → A) (h2 : b = false → B) : if b = true then A else B := by
  cases b with
  | true => exact iteT (h1 rfl)
  | false => exact iteF (h2 rfl)
theorem boot_isinstance : bootBuiltins "isinstance" = some (.builtin "isinstance") := by decide +kernel
theorem boot_sorted' : bootBuiltins "sorted" = some (.builtin "sorted") := by decide +kernel
theorem boot_min' : bootBuiltins "min" = some (.builtin "min") := by decide +kernel
theorem boot_all' : bootBuiltins "all" = some (.builtin "all") := by decide +kernel
theorem boot_int' : bootBuiltins "int" = some (.type "int") := by decide +kernel
theorem boot_bool' : bootBuiltins "bool" = some (.type "bool") := by decide +kernel
theorem boot_tuple' : bootBuiltins "tuple" = some (.type "tuple") := by decide +kernel
theorem boot_list' : bootBuiltins "list" = some (.type "list") := by decide +kernel
end L2
namespace L2
open PySem PySem.Spec PyProof.Rows
noncomputable def rAllP (K : PySem.W.Frag) : List V → Hp → VK → Prop := fun xs H Q => match xs with
  | [.ref p] => ∃ bs : List Bool, SqL K H p (bs.map V.bl) ∧ Q (.bl (bs.all id)) H
  | _ => False
theorem call_allP {X : Cx} (hc : X.calm = true) : CallR X (.builtin "all") (rAllP X.K) := by
  intro pins s σ H xs us Q I r h
  unfold rAllP at h
  split at h
  · rename_i p
    obtain ⟨bs, hq, q⟩ := h
    obtain ⟨u, rfl, rx⟩ := vals1 r
    cases rx
    obtain ⟨its, rv, pl, hz⟩ := I.list hq
    have hlen : its.length = bs.length := by rw [← rv.length, List.length_map]
    have hlt : p < s.heap.objs.size := by
      obtain ⟨_, e, _⟩ := pl.isList
      exact Heap.lt_size e
    refine call_all_walk (wpAny_pyIter_list pl.isList ?_)
    have W : Walks X.prog X.w X.A.in1 s.heap.objs.size [s.heap.objs.size, p] [s.heap.objs.size] its.toArray.size _ _ := Walks.list (show X.A.in1.handled = none from I.ok.hd hc) s.heap.objs.size p (Nat.ne_of_lt hlt) its.toArray
    refine ⟨s.heap.objs.size, _, _, _, _, _, fun i => bs.getD i false, rfl, W, ⟨⟨_, Heap.get?_push_size _ rfl, rfl, rfl⟩, pl.isList.push _⟩, ?_, fun h' tk hk => ?_⟩
    · intro i v s' Q' E' hP hQ
      have hP' : its[i]? = some v := by simpa using hP
      have hi : i < bs.length := by rw [← hlen]; exact (List.getElem?_eq_some_iff.mp hP').1
      obtain ⟨w', e1, e2⟩ := rv.get (i := i) (x := .bl bs[i]) (by rw [List.getElem?_map, List.getElem?_eq_getElem hi]; rfl)
      rw [hP'] at e1
      cases e1
      cases e2
      refine wpAny_truthy_bool ?_
      have e : bs.getD i false = bs[i] := by rw [List.getD_eq_getElem?_getD, List.getElem?_eq_getElem hi]; rfl
      have hQ' : Q' (bs.getD i false) s' := hQ
      rw [e] at hQ'
      exact hQ'
    · have I1 : Inv X pins σ H { s with heap := h', toks := tk } := I.kept fun b o e => hk b o (by simpa using Nat.ne_of_lt (Heap.lt_size e)) (Heap.get?_push_of_some _ e)
      refine ⟨.bl _, H, I1, rfl, ?_⟩
      have e : (List.range its.toArray.size).all (fun i => bs.getD i false) = bs.all id := by
        rw [List.size_toArray, hlen]
        have key : ∀ l : List Bool, (List.range l.length).all (fun i => l.getD i false) = l.all id := by
          intro l
          rw [Bool.eq_iff_iff, List.all_eq_true, List.all_eq_true]
          constructor
          · intro h x hx
            obtain ⟨i, hi, rfl⟩ := List.mem_iff_getElem.mp hx
            have := h i (List.mem_range.mpr hi)
            rw [List.getD_eq_getElem?_getD, List.getElem?_eq_getElem hi] at this
            exact this
          · intro h i hi
            have hi' := List.mem_range.mp hi
            rw [List.getD_eq_getElem?_getD, List.getElem?_eq_getElem hi']
            exact h _ (List.getElem_mem hi')
        exact key bs
      rw [e]
      exact q
  · exact h.elim
theorem dk_empty {P : Program} {w : World} {H : Hp} (h : Heap) (hb : sysModules < h.objs.size) : ObjOk P w H (h.push { cls := .type "dict", data := .dict #[] }) h.objs.size (.dK []) :=
  ⟨Nat.zero_le _, beq_eq_false_iff_ne.mpr (Ne.symm (Nat.ne_of_lt hb)), [], .nil, Heap.DictOf.new h⟩
noncomputable def tDNewK : TE := fun _ H Q => ∀ p, H p = none → Q (.ref p) (upd H p (.dK []))
theorem Inv.big {X : Cx} {pins : List (Addr × Obj)} {σ : St} {H : Hp} {s : Shared} (I : Inv X pins σ H s) : sysModules < s.heap.objs.size := by
  have h : mainGlobals < s.heap.objs.size := (I.mod.glob.keeps I.bk).lt
  exact Nat.lt_trans (by decide) h
theorem pe_dnewK {X : Cx} {pos : Pos} : PE X (.Dict [] [] pos) tDNewK := fun pins s σ H Q I h =>
  wpAny_Dict_empty ⟨.ref s.heap.objs.size, _, I.laid (a := s.heap.objs.size) (o := .dK []) (t' := s.toks) (fun _ _ q => Heap.get?_push_of_some _ q) (Nat.le_refl _) (dk_empty s.heap I.big), rfl, h _ (I.hok.fresh (Nat.le_refl _))⟩
theorem ze_dnewK {X : Cx} {pos : Pos} : ZE X (.Dict [] [] pos) tDNewK := by with_unfolding_all exact pe_dnewK 
noncomputable def tPar3 (i j k : Nat) (ta : TA) : TS := fun D σ H => ta σ H fun vs H1 => match vs with | [v, w, z] => D.nx (((σ.set i (some v)).set j (some w)).set k (some z)) H1 | _ => False
theorem ps_par3 {X : Cx} {pos : Pos} {i j k : Nat} {x y z : Str} {a b c : Expr} {ta : TA} {px py pz pt : Pos} {kt k2 pt2} (hc : X.calm = true) (hN : X.N.Nodup) (hi : X.N[i]? = some x) (hj : X.N[j]? = some y) (hk : X.N[k]? = some z) (hij : i ≠ j) (hik : i ≠ k) (hjk : j ≠ k)
    (hx : X.env.scope.names.lookup x = some .local) (hy : X.env.scope.names.lookup y = some .local) (hz : X.env.scope.names.lookup z = some .local) (ha : PA X [a, b, c] ta)
    (hw : swappedStores [.Tuple [.Name x px, .Name y py, .Name z pz] kt pt] (.Tuple [a, b, c] k2 pt2) X.env = pure (some [x, y, z]))
    (hs : swapsWithSole [.Tuple [.Name x px, .Name y py, .Name z pz] kt pt] (.Tuple [a, b, c] k2 pt2) pos.line X.env = pure false := by rfl) :
    PS X (.Assign [.Tuple [.Name x px, .Name y py, .Name z pz] kt pt] (.Tuple [a, b, c] k2 pt2) pos) (tPar3 i j k ta) := by
  intro pins s σ H D I h
  rw [exec_Assign_arm]
  refine wpAny_bind (wpAny_standAt ?_)
  rw [hs]
  refine wpAny_bind (wpAny_pure ?_)
  rw [if_neg (by decide)]
  refine wpAny_bind (Tuple_ (thn (ha _ pins s σ H _ I h) fun us s1 ⟨vs, H1, I1, r1, q1⟩ => ?_))
  obtain ⟨v, w, t, e1, q1⟩ : ∃ v w t, vs = [v, w, t] ∧ D.nx (((σ.set i (some v)).set j (some w)).set k (some t)) H1 := by
    match vs, q1 with
    | [v, w, t], q1 => exact ⟨v, w, t, rfl, q1⟩
    | [], q1 => exact q1.elim
    | [_], q1 => exact q1.elim
    | [_, _], q1 => exact q1.elim
    | _ :: _ :: _ :: _ :: _, q1 => exact q1.elim
  subst e1
  obtain ⟨u1, u2, u3, rfl, rv, rw', rz⟩ : ∃ u1 u2 u3, us = [u1, u2, u3] ∧ RelV v u1 ∧ RelV w u2 ∧ RelV t u3 := by
    cases r1 with
    | cons p q =>
      cases q with
      | cons p' q' =>
        cases q' with
        | cons p2 q2 =>
          cases q2
          exact ⟨_, _, _, rfl, p, p', p2⟩
  refine wpAny_newObj_type ?_ (by show 3 ≤ sizeLine; decide)
  have I2 : Inv X pins σ H1 { s1 with heap := s1.heap.push { cls := .type "tuple", data := .seq [u1, u2, u3].toArray } } := I1.kept (t' := s1.toks) fun b o e => Heap.get?_push_of_some _ e
  rw [hw]
  refine wpAny_bind (wpAny_pure ?_)
  show wpAny (model X.prog X.w) X.A (do rule "assign.swapped-stores"; let items ← unpackItems (.ref s1.heap.objs.size) 3 none; assignInOrder [fun v => bindName X.env z v, fun v => bindName X.env y v, fun v => bindName X.env x v] items.reverse; pure Flow.next) _ _ _
  refine wpAny_bind (wpAny_rule (wpAny_bind (unpackItems_tuple (items := #[u1, u2, u3]) (I.ok.hd hc) (IsTup.new s1.heap _) fun h' hx' => ?_)))
  have I3 := I2.kept (h' := h') (t' := s1.toks) fun b o e => hx' b o (Nat.ne_of_lt (Heap.lt_size e)) e
  show wpAny _ _ (assignInOrder [fun v => bindName X.env z v, fun v => bindName X.env y v, fun v => bindName X.env x v] [u3, u2, u1] >>= fun _ => pure Flow.next) _ _ _
  refine wpAny_bind (assignInOrder_cons (wpAny_bindName (store_ok I3 hN hk (.inl hz) rz (fun s2 I4 => ?_) (.inr hz))))
  refine assignInOrder_cons (wpAny_bindName (store_ok I4 hN hj (.inl hy) rw' (fun s3 I5 => ?_) (.inr hy)))
  refine assignInOrder_cons (wpAny_bindName (store_ok I5 hN hi (.inl hx) rv (fun s4 I6 => assignInOrder_nil (wpAny_pure ?_)) (.inr hx)))
  have e : ((σ.set k (some t)).set j (some w)).set i (some v) = ((σ.set i (some v)).set j (some w)).set k (some t) := by
    rw [List.set_comm _ _ (Ne.symm hij), List.set_comm _ _ (Ne.symm hik), List.set_comm _ _ (Ne.symm hjk)]
  rw [e] at I6
  exact ⟨_, H1, I6, q1⟩
theorem zs_par3 {X : Cx} {pos : Pos} {i j k : Nat} {x y z : Str} {a b c : Expr} {ta : TA} {px py pz pt : Pos} {kt k2 pt2} (hc : X.calm = true) (hN : X.N.Nodup) (hi : X.N[i]? = some x) (hj : X.N[j]? = some y) (hk : X.N[k]? = some z) (hij : i ≠ j) (hik : i ≠ k) (hjk : j ≠ k)
    (hx : X.env.scope.names.lookup x = some .local) (hy : X.env.scope.names.lookup y = some .local) (hz : X.env.scope.names.lookup z = some .local) (ha : ZA X [a, b, c] ta)
    (hw : swappedStores [.Tuple [.Name x px, .Name y py, .Name z pz] kt pt] (.Tuple [a, b, c] k2 pt2) X.env = pure (some [x, y, z]))
    (hs : swapsWithSole [.Tuple [.Name x px, .Name y py, .Name z pz] kt pt] (.Tuple [a, b, c] k2 pt2) pos.line X.env = pure false := by rfl) :
    ZS X (.Assign [.Tuple [.Name x px, .Name y py, .Name z pz] kt pt] (.Tuple [a, b, c] k2 pt2) pos) (tPar3 i j k ta) := by with_unfolding_all exact ps_par3 hc hN hi hj hk hij hik hjk hx hy hz ha hw hs
end L2
namespace L2
open PySem PySem.Spec PyProof.Rows
section
variable {X : Cx} {e : Expr} {es : List Expr} {t : TA} {p pos : Pos}
theorem pcb_len (hg : Gl X "len") (hm : X.mg "len" = none) (ha : PA X (e :: es) t) (he : starEach (e :: es) X.env = (false, eval e X.env) :: starEach es X.env) (hpl : (backTo pos (starEach es X.env)).any (·.1) = false) :
    PE X (.Call (.Name "len" p) (e :: es) [] pos) (tCB (rLenP X.K) t) := pe_callB call_lenP hg hm PySem.boot_len ha (by decide) (by decide) he hpl
theorem zcb_len (hg : Gl X "len") (hm : X.mg "len" = none) (ha : ZA X (e :: es) t) (he : starEach (e :: es) X.env = (false, eval e X.env) :: starEach es X.env) (hpl : (backTo pos (starEach es X.env)).any (·.1) = false) :
    ZE X (.Call (.Name "len" p) (e :: es) [] pos) (tCB (rLenP X.K) t) := by with_unfolding_all exact pcb_len hg hm ha he hpl
theorem pcb_isinstance (hg : Gl X "isinstance") (hm : X.mg "isinstance" = none) (ha : PA X (e :: es) t) (he : starEach (e :: es) X.env = (false, eval e X.env) :: starEach es X.env) (hpl : (backTo pos (starEach es X.env)).any (·.1) = false) :
    PE X (.Call (.Name "isinstance" p) (e :: es) [] pos) (tCB rIsiP t) := pe_callB call_isiP hg hm boot_isinstance ha (by decide) (by decide) he hpl
theorem zcb_isinstance (hg : Gl X "isinstance") (hm : X.mg "isinstance" = none) (ha : ZA X (e :: es) t) (he : starEach (e :: es) X.env = (false, eval e X.env) :: starEach es X.env) (hpl : (backTo pos (starEach es X.env)).any (·.1) = false) :
    ZE X (.Call (.Name "isinstance" p) (e :: es) [] pos) (tCB rIsiP t) := by with_unfolding_all exact pcb_isinstance hg hm ha he hpl
theorem pcb_min (hc : X.calm = true) (hg : Gl X "min") (hm : X.mg "min" = none) (ha : PA X (e :: es) t) (he : starEach (e :: es) X.env = (false, eval e X.env) :: starEach es X.env) (hpl : (backTo pos (starEach es X.env)).any (·.1) = false) :
    PE X (.Call (.Name "min" p) (e :: es) [] pos) (tCB rMinP t) := pe_callB (call_minP hc) hg hm boot_min' ha (by decide) (by decide) he hpl
theorem zcb_min (hc : X.calm = true) (hg : Gl X "min") (hm : X.mg "min" = none) (ha : ZA X (e :: es) t) (he : starEach (e :: es) X.env = (false, eval e X.env) :: starEach es X.env) (hpl : (backTo pos (starEach es X.env)).any (·.1) = false) :
    ZE X (.Call (.Name "min" p) (e :: es) [] pos) (tCB rMinP t) := by with_unfolding_all exact pcb_min hc hg hm ha he hpl
theorem pcb_all (hc : X.calm = true) (hg : Gl X "all") (hm : X.mg "all" = none) (ha : PA X (e :: es) t) (he : starEach (e :: es) X.env = (false, eval e X.env) :: starEach es X.env) (hpl : (backTo pos (starEach es X.env)).any (·.1) = false) :
    PE X (.Call (.Name "all" p) (e :: es) [] pos) (tCB (rAllP X.K) t) := pe_callB (call_allP hc) hg hm boot_all' ha (by decide) (by decide) he hpl
theorem zcb_all (hc : X.calm = true) (hg : Gl X "all") (hm : X.mg "all" = none) (ha : ZA X (e :: es) t) (he : starEach (e :: es) X.env = (false, eval e X.env) :: starEach es X.env) (hpl : (backTo pos (starEach es X.env)).any (·.1) = false) :
    ZE X (.Call (.Name "all" p) (e :: es) [] pos) (tCB (rAllP X.K) t) := by with_unfolding_all exact pcb_all hc hg hm ha he hpl
theorem pcb_tuple (hg : Gl X "tuple") (hm : X.mg "tuple" = none) (ha : PA X (e :: es) t) (he : starEach (e :: es) X.env = (false, eval e X.env) :: starEach es X.env) (hpl : (backTo pos (starEach es X.env)).any (·.1) = false) :
    PE X (.Call (.Name "tuple" p) (e :: es) [] pos) (tCB (rTupP X.K) t) := pe_callTy call_tupP hg hm boot_tuple' ha (by decide) (by decide) he hpl
theorem zcb_tuple (hg : Gl X "tuple") (hm : X.mg "tuple" = none) (ha : ZA X (e :: es) t) (he : starEach (e :: es) X.env = (false, eval e X.env) :: starEach es X.env) (hpl : (backTo pos (starEach es X.env)).any (·.1) = false) :
    ZE X (.Call (.Name "tuple" p) (e :: es) [] pos) (tCB (rTupP X.K) t) := by with_unfolding_all exact pcb_tuple hg hm ha he hpl
theorem pcb_list (hg : Gl X "list") (hm : X.mg "list" = none) (ha : PA X (e :: es) t) (he : starEach (e :: es) X.env = (false, eval e X.env) :: starEach es X.env) (hpl : (backTo pos (starEach es X.env)).any (·.1) = false) :
    PE X (.Call (.Name "list" p) (e :: es) [] pos) (tCB (rLstP X.K) t) := pe_callTy call_lstP hg hm boot_list' ha (by decide) (by decide) he hpl
theorem zcb_list (hg : Gl X "list") (hm : X.mg "list" = none) (ha : ZA X (e :: es) t) (he : starEach (e :: es) X.env = (false, eval e X.env) :: starEach es X.env) (hpl : (backTo pos (starEach es X.env)).any (·.1) = false) :
    ZE X (.Call (.Name "list" p) (e :: es) [] pos) (tCB (rLstP X.K) t) := by with_unfolding_all exact pcb_list hg hm ha he hpl
theorem pty_int (hg : Gl X "int") (hm : X.mg "int" = none) : PE X (.Name "int" pos) (tC (.ty "int")) := pe_ty hg hm boot_int' (by decide) (by decide)
theorem zty_int (hg : Gl X "int") (hm : X.mg "int" = none) : ZE X (.Name "int" pos) (tC (.ty "int")) := by with_unfolding_all exact pty_int hg hm
theorem pty_bool (hg : Gl X "bool") (hm : X.mg "bool" = none) : PE X (.Name "bool" pos) (tC (.ty "bool")) := pe_ty hg hm boot_bool' (by decide) (by decide)
theorem zty_bool (hg : Gl X "bool") (hm : X.mg "bool" = none) : ZE X (.Name "bool" pos) (tC (.ty "bool")) := by with_unfolding_all exact pty_bool hg hm
theorem pty_tuple (hg : Gl X "tuple") (hm : X.mg "tuple" = none) : PE X (.Name "tuple" pos) (tC (.ty "tuple")) := pe_ty hg hm boot_tuple' (by decide) (by decide)
theorem zty_tuple (hg : Gl X "tuple") (hm : X.mg "tuple" = none) : ZE X (.Name "tuple" pos) (tC (.ty "tuple")) := by with_unfolding_all exact pty_tuple hg hm
end
end L2
set_option Elab.async false
set_option linter.all false
set_option maxRecDepth 100000
set_option maxHeartbeats 4000000
namespace L2
open PySem PySem.Spec PyProof.Rows
end L2
set_option Elab.async false
set_option linter.all false
set_option maxRecDepth 100000
set_option maxHeartbeats 4000000
namespace L2
open PySem PySem.Spec PyProof.Rows
section
variable {X : Cx}
theorem ints_at {ns : List Int} {its : List Value} (rv : Vals (ns.map V.int) its) {i : Nat} {v : Value} (h : its.toArray[i]? = some v) : ∃ t, v = .int (ns.getD i 0) t := by
  have h' : its[i]? = some v := by simpa using h
  have hl : its.length = ns.length := by rw [← rv.length, List.length_map]
  have hi : i < ns.length := by rw [← hl]; exact (List.getElem?_eq_some_iff.mp h').1
  obtain ⟨w', e1, t, e2⟩ := rv.get (i := i) (x := .int ns[i]) (by rw [List.getElem?_map, List.getElem?_eq_getElem hi]; rfl)
  rw [h'] at e1
  cases e1
  refine ⟨t, ?_⟩
  rw [e2, List.getD_eq_getElem?_getD, List.getElem?_eq_getElem hi]
  rfl
noncomputable def rMax1P (K : PySem.W.Frag) : List V → Hp → VK → Prop := fun xs H Q => match xs with
  | [.int i, .int j] => Q (.int (if j > i then j else i)) H
  | [.ref p] => ∃ ns : List Int, (SqL K H p (ns.map V.int) ∨ H p = some (.tup (ns.map V.int))) ∧ ns ≠ [] ∧ ∀ M, M ∈ ns → (∀ n ∈ ns, n ≤ M) → Q (.int M) H
  | _ => False
theorem best_is {ns : List Int} (h : ns ≠ []) : ns.getD (argBest (fun i j => decide (ns.getD i 0 > ns.getD j 0)) (ns.length - 1)) 0 ∈ ns ∧ ∀ n ∈ ns, n ≤ ns.getD (argBest (fun i j => decide (ns.getD i 0 > ns.getD j 0)) (ns.length - 1)) 0 := by
  have hp : 0 < ns.length := List.length_pos_iff.mpr h
  obtain ⟨h1, h2⟩ := argBest_gt (fun i => ns.getD i 0) (ns.length - 1)
  have hlt : argBest (fun i j => decide (ns.getD i 0 > ns.getD j 0)) (ns.length - 1) < ns.length := by omega
  refine ⟨?_, fun n hn => ?_⟩
  · rw [List.getD_eq_getElem?_getD, List.getElem?_eq_getElem hlt]
    exact List.getElem_mem hlt
  · obtain ⟨i, hi, rfl⟩ := List.mem_iff_getElem.mp hn
    have := h2 i (by omega)
    have e : ns.getD i 0 = ns[i] := by rw [List.getD_eq_getElem?_getD, List.getElem?_eq_getElem hi]; rfl
    rw [e] at this
    exact this
theorem call_maxP (hc : X.calm = true) : CallR X (.builtin "max") (rMax1P X.K) := by
  intro pins s σ H xs us Q I r h
  unfold rMax1P at h
  split at h
  · exact call_max2 hc pins s σ H _ us Q I r ⟨_, _, rfl, h⟩
  · rename_i p
    obtain ⟨ns, hq, hne, q⟩ := h
    obtain ⟨u, rfl, rx⟩ := vals1 r
    cases rx
    have hh : X.A.in1.handled = none := I.ok.hd hc
    have hb := best_is hne
    rcases hq with hq | hq
    · obtain ⟨its, rv, pl, hz⟩ := I.list hq
      have hlen : its.length = ns.length := by rw [← rv.length, List.length_map]
      have hlt : p < s.heap.objs.size := by
        obtain ⟨_, e, _⟩ := pl.isList
        exact Heap.lt_size e
      refine call_max_walk (wpAny_pyIter_list pl.isList ?_)
      refine ⟨s.heap.objs.size, _, _, _, _, _, _, rfl, Walks.list hh s.heap.objs.size p (Nat.ne_of_lt hlt) its.toArray, ⟨⟨_, Heap.get?_push_size _ rfl, rfl, rfl⟩, pl.isList.push _⟩, ?_, ?_, CmpOf.ints_gt (fun i => ns.getD i 0) (fun i v hv => ints_at rv hv), fun v h' tk hv hk => ?_⟩
      · intro b hb
        rw [Heap.size_push]
        rcases List.mem_cons.mp hb with rfl | hb
        · exact Nat.lt_succ_self _
        · rcases List.mem_cons.mp hb with rfl | hb
          · exact Nat.lt_succ_of_lt hlt
          · cases hb
      · rw [List.size_toArray, hlen]; exact List.length_pos_iff.mpr hne
      · obtain ⟨t, rfl⟩ := ints_at rv hv
        refine ⟨.int _, H, I.kept fun b o e => hk b o (by simpa using Nat.ne_of_lt (Heap.lt_size e)) (Heap.get?_push_of_some _ e), ⟨t, rfl⟩, ?_⟩
        rw [List.size_toArray, hlen]
        exact q _ hb.1 hb.2
    · obtain ⟨its, rv, pl, hz⟩ := I.tuple (SqT.of hq)
      have hlen : its.length = ns.length := by rw [← rv.length, List.length_map]
      have hlt : p < s.heap.objs.size := pl.lt
      refine call_max_walk (wpAny_pyIter_tuple (show s.heap.IsTuple p its.toArray from pl) ?_)
      refine ⟨s.heap.objs.size, _, _, _, _, _, _, rfl, Walks.tuple hh s.heap.objs.size p (Nat.ne_of_lt hlt) its.toArray, ⟨⟨_, Heap.get?_push_size _ rfl, rfl, rfl⟩, IsTup.keeps pl fun b o e => Heap.get?_push_of_some _ e⟩, ?_, ?_, CmpOf.ints_gt (fun i => ns.getD i 0) (fun i v hv => ints_at rv hv), fun v h' tk hv hk => ?_⟩
      · intro b hb
        rw [Heap.size_push]
        rcases List.mem_cons.mp hb with rfl | hb
        · exact Nat.lt_succ_self _
        · rcases List.mem_cons.mp hb with rfl | hb
          · exact Nat.lt_succ_of_lt hlt
          · cases hb
      · rw [List.size_toArray, hlen]; exact List.length_pos_iff.mpr hne
      · obtain ⟨t, rfl⟩ := ints_at rv hv
        refine ⟨.int _, H, I.kept fun b o e => hk b o (by simpa using Nat.ne_of_lt (Heap.lt_size e)) (Heap.get?_push_of_some _ e), ⟨t, rfl⟩, ?_⟩
        rw [List.size_toArray, hlen]
        exact q _ hb.1 hb.2
  · exact h.elim
theorem noFill_tuple_mul : fillsNumberSlot (.type "tuple") "mul" = pure false :=
  PySem.fillsNumberSlot_seq (id := "tuple.__mul__") (r := some (.builtin "tuple.__rmul__")) F.slot_tuple_mul.lookup (by decide +kernel) F.slot_tuple_rmul.lookup (by decide +kernel)
theorem repeat_tuple : seqRepeat? (.type "tuple") = pure (some (.builtin "tuple.__mul__")) := by
  unfold seqRepeat?
  rw [PySem.seqSlot_of (T := "tuple") (name := "__mul__") (id := "tuple.__mul__") F.slot_tuple_mul.lookup (by decide +kernel), PySem.seqSlot_of (T := "tuple") (name := "__rmul__") (id := "tuple.__rmul__") F.slot_tuple_rmul.lookup (by decide +kernel)]
  rfl

theorem int_rmul_tuple (a : Int) (t : Tok) (l : Addr) (items : Array Value) (n : Nat) :
    Meets (Builtin.«int.__rmul__» ⟨[.int a t, .ref l], []⟩) (fun _ R s => s.heap.get? l = some { cls := .type "tuple", dict := none, data := .seq items n, slots := #[] } ∧ R (.ok (.ret Value.notImplemented)) s) :=
  .of_wp fun prog w A R s h => by obtain ⟨hp, g, d, tk, os⟩ := s; obtain ⟨hl, h⟩ := h; wp_walk; exact ⟨_, rfl, h⟩
theorem tuple_mul_same (l : Addr) (items : Array Value) (n : Nat) (x : Int) (u : Tok) (h1 : (decide (x < -(2 ^ 63)) || decide (x ≥ 2 ^ 63)) = false) (h2 : (items.isEmpty || x == 1) = true) :
    Meets (Builtin.«tuple.__mul__» ⟨[.ref l, .int x u], []⟩) (fun _ R s => s.heap.get? l = some { cls := .type "tuple", dict := none, data := .seq items n, slots := #[] } ∧ R (.ok (.ret (.ref l))) s) :=
  .of_wp fun prog w A R s h => by
    obtain ⟨hp, g, d, tk, os⟩ := s; obtain ⟨hl, h⟩ := h
    wp_walk; refine wpAny_ite_false (by rw [h1]; rfl) ?_; wp_walk; exact ⟨_, rfl, h⟩
theorem tuple_mul_none (l : Addr) (items : Array Value) (n : Nat) (x : Int) (u : Tok) (h1 : (decide (x < -(2 ^ 63)) || decide (x ≥ 2 ^ 63)) = false) (h2 : (items.isEmpty || x == 1) = false) (h3 : (decide (x ≤ 0) || items.isEmpty) = true) :
    Meets (Builtin.«tuple.__mul__» ⟨[.ref l, .int x u], []⟩) (fun _ R s => s.heap.get? l = some { cls := .type "tuple", dict := none, data := .seq items n, slots := #[] } ∧ R (.ok (.ret (.ref s.heap.objs.size))) { s with heap := s.heap.push { cls := .type "tuple", data := .seq #[] } }) :=
  .of_wp fun prog w A R s h => by
    obtain ⟨hp, g, d, tk, os⟩ := s; obtain ⟨hl, h⟩ := h
    wp_walk; refine wpAny_ite_false (by rw [h1]; rfl) ?_; wp_walk; exact ⟨_, rfl, h⟩
theorem tuple_mul_many (l : Addr) (items : Array Value) (n : Nat) (x : Int) (u : Tok) (h1 : (decide (x < -(2 ^ 63)) || decide (x ≥ 2 ^ 63)) = false) (h2 : (items.isEmpty || x == 1) = false) (h3 : (decide (x ≤ 0) || items.isEmpty) = false) (h4 : decide ((items.size : Int) * x > (2 ^ 63 - 1) / 8) = false) (h5 : Builtin.Tuple.tupleTooMany ((items.size : Int) * x) = false) (hz : ((List.replicate x.toNat items).foldl (· ++ ·) #[]).size ≤ sizeLine) :
    Meets (Builtin.«tuple.__mul__» ⟨[.ref l, .int x u], []⟩) (fun _ R s => s.heap.get? l = some { cls := .type "tuple", dict := none, data := .seq items n, slots := #[] } ∧ R (.ok (.ret (.ref s.heap.objs.size))) { s with heap := s.heap.push { cls := .type "tuple", data := .seq ((List.replicate x.toNat items).foldl (· ++ ·) #[]) } }) :=
  .of_wp fun prog w A R s h => by
    obtain ⟨hp, g, d, tk, os⟩ := s; obtain ⟨hl, h⟩ := h
    wp_walk; refine wpAny_ite_false (by rw [h1]; rfl) ?_; wp_walk; refine wpAny_ite_false h4 ?_; wp_walk; exact ⟨_, rfl, h⟩
end
end L2
set_option Elab.async false
set_option linter.all false
set_option maxRecDepth 100000
set_option maxHeartbeats 4000000
namespace L2
open PySem PySem.Spec PyProof.Rows
section
variable {X : Cx}
noncomputable def rMulQ : R2 := fun x y H Q => match x, y with
  | .int i, .int j => IntMulOk i j ∧ Q (.int (i * j)) H
  | .ref a, .int k => (-(2 ^ 63) ≤ k ∧ k < 2 ^ 63) ∧ ((∃ xs, H a = some (.lst xs) ∧ xs.length * k.toNat ≤ sizeLine ∧ ∀ p, H p = none → Q (.ref p) (upd H p (.lst (List.replicate k.toNat xs).flatten))) ∨
      ∃ xs, H a = some (.tup xs) ∧ xs.length * k.toNat ≤ sizeLine ∧ ∀ r H', Same H H' → H' r = some (.tup (List.replicate k.toNat xs).flatten) → Q (.ref r) H')
  | _, _ => False
theorem op_mulQ : OpR X (binaryOp .Mult) rMulQ := by
  intro pins s σ H x y v u Q I rx ry h
  unfold rMulQ at h
  split at h
  · exact op_mulB pins s σ H _ _ v u Q I rx ry ⟨_, _, rfl, rfl, h⟩
  · obtain ⟨⟨hk1, hk2⟩, ⟨xs, h1, h4, q⟩ | ⟨xs, hH, hz, q⟩⟩ := h
    · exact op_rep pins s σ H _ _ v u Q I rx ry ⟨_, _, xs, rfl, rfl, h1, hk1, hk2, h4, q⟩
    rename_i l k
    cases rx
    obtain ⟨t, rfl⟩ := ry
    obtain ⟨z, its, r, n, e⟩ := I.hok l _ hH
    have hl : its.length = xs.length := r.length.symm
    have hemp : its.toArray.isEmpty = xs.isEmpty := by
      cases r <;> rfl
    have g1 : (decide (k < -(2 ^ 63)) || decide (k ≥ 2 ^ 63)) = false := by
      rw [Bool.or_eq_false_iff]
      exact ⟨decide_eq_false (by omega), decide_eq_false (by omega)⟩
    refine wpAny_binaryOp_repeat_ref (T := "tuple") (U := "int") (by decide) ⟨_, e, rfl⟩ (fun s' => typeIs_int s' k t) noFill_tuple_mul F.fills_int_mul F.slot_int_rmul repeat_tuple F.slot_int_index.lookup
      (call_meets F.slot_int_rmul (typeIs_int s k t) F.entry_int_rmul (F.args_int_rmul_2 _ _) (int_rmul_tuple k t l its.toArray n) ⟨e, rfl, ⟨_, e, rfl⟩, ?_⟩)
    by_cases c1 : (its.toArray.isEmpty || k == 1) = true
    · refine call_meets F.slot_tuple_mul ⟨_, e, rfl⟩ F.entry_tuple_mul (F.args_tuple_mul_2 _ _) (tuple_mul_same l its.toArray n k t g1 c1) ⟨e, ?_⟩
      refine ⟨.ref l, H, I, rfl, q l H (Same.refl H) ?_⟩
      rw [hH]
      rw [Bool.or_eq_true] at c1
      rcases c1 with c1 | c1
      · rw [hemp, List.isEmpty_iff] at c1
        subst c1
        have : (List.replicate k.toNat ([] : List V)).flatten = [] := by
          induction k.toNat with
          | zero => rfl
          | succ m ih => rw [List.replicate_succ, List.flatten_cons, ih]; rfl
        rw [this]
      · have : k = 1 := by simpa using c1
        subst this
        show some (HO.tup xs) = some (.tup (List.replicate 1 xs).flatten)
        simp
    · have c1' : (its.toArray.isEmpty || k == 1) = false := by simpa using c1
      have he : its.toArray.isEmpty = false := (Bool.or_eq_false_iff.mp c1').1
      by_cases c2 : k ≤ 0
      · refine call_meets F.slot_tuple_mul ⟨_, e, rfl⟩ F.entry_tuple_mul (F.args_tuple_mul_2 _ _) (tuple_mul_none l its.toArray n k t g1 c1' (by rw [decide_eq_true c2]; rfl)) ⟨e, ?_⟩
        have e0 : (List.replicate k.toNat xs).flatten = [] := by
          have : k.toNat = 0 := by omega
          rw [this]; rfl
        have I2 : Inv X pins σ (upd H s.heap.objs.size (.tup [])) { s with heap := s.heap.push { cls := .type "tuple", data := .seq #[] } } :=
          I.laid (t' := s.toks) (o := .tup []) (fun b ob q => Heap.get?_push_of_some _ q) (Nat.le_refl _) ⟨Nat.zero_le _, [], .nil, TupD.new _ _⟩
        exact ⟨.ref s.heap.objs.size, _, I2, rfl, q _ _ (Same.new (I.hok.fresh (Nat.le_refl _)) _) (by rw [e0]; exact upd_same)⟩
      · have hcast : (its.toArray.size : Int) * k = ((xs.length * k.toNat : Nat) : Int) := by
          rw [List.size_toArray, hl]
          have : k = (k.toNat : Int) := by omega
          conv => lhs; rw [this]
          norm_cast
        have hb : (sizeLine : Nat) ≤ (2 ^ 63 - 1) / 8 := by decide
        have g4 : decide ((its.toArray.size : Int) * k > (2 ^ 63 - 1) / 8) = false := by
          refine decide_eq_false ?_
          rw [hcast]
          omega
        have g5 : Builtin.Tuple.tupleTooMany ((its.toArray.size : Int) * k) = false := by
          unfold Builtin.Tuple.tupleTooMany
          rw [hcast]
          exact decide_eq_false (by omega)
        have f0 : List.foldl (fun x1 x2 => x1 ++ x2) #[] (List.replicate k.toNat its.toArray) = (List.replicate k.toNat its).flatten.toArray := by
          have := foldl_rep its k.toNat []
          rw [List.nil_append] at this
          exact this
        refine call_meets F.slot_tuple_mul ⟨_, e, rfl⟩ F.entry_tuple_mul (F.args_tuple_mul_2 _ _) (tuple_mul_many l its.toArray n k t g1 c1' (by rw [decide_eq_false c2, he]; rfl) g4 g5 (by rw [f0, List.size_toArray, len_rep, hl, Nat.mul_comm]; exact hz)) ⟨e, ?_⟩
        rw [f0]
        have I2 : Inv X pins σ (upd H s.heap.objs.size (.tup (List.replicate k.toNat xs).flatten)) { s with heap := s.heap.push { cls := .type "tuple", data := .seq (List.replicate k.toNat its).flatten.toArray } } :=
          I.laid (t' := s.toks) (o := .tup (List.replicate k.toNat xs).flatten) (fun b ob q => Heap.get?_push_of_some _ q) (Nat.le_refl _) ⟨by rw [len_rep, Nat.mul_comm]; exact hz, _, r.rep k.toNat, TupD.new _ _⟩
        exact ⟨.ref s.heap.objs.size, _, I2, rfl, q _ _ (Same.new (I.hok.fresh (Nat.le_refl _)) _) upd_same⟩
  · exact h.elim
noncomputable def tTruP (K : PySem.W.Frag) (te : TE) : TT := fun σ H Q => te σ H fun x H1 => match x with
  | .bl c => Q c H1
  | .int i => Q (i != 0) H1
  | .ref p => ∃ xs, (SqL K H1 p xs ∨ H1 p = some (.tup xs)) ∧ Q (!xs.isEmpty) H1
  | _ => False
theorem pt_truP {a : Expr} {ta : TE} (ha : PE X a ta) (he : ∀ whole, isTrue a X.env whole = (do let v ← whole; standAt a.pos; holding [v] (truthy v)) := by intro _; rfl) : PT X a (tTruP X.K ta) := by
  intro pins s σ H Q I h
  refine isTrue_plain (thn (ha pins s σ H _ I h) fun v s1 ⟨x, H1, I1, r1, q1⟩ => ?_) (he _)
  refine tru_ok pins s1 σ H1 x v Q I1 r1 ?_
  dsimp only at q1
  split at q1
  · exact ⟨_, rfl, q1⟩
  · exact ⟨_, rfl, q1⟩
  · obtain ⟨xs, h1 | h1, q⟩ := q1
    · exact ⟨_, .inl ⟨xs, h1, rfl⟩, q⟩
    · exact ⟨_, .inr (.inl ⟨xs, SqT.of h1, rfl⟩), q⟩
  · exact q1.elim
theorem zt_truP {a : Expr} {ta : TE} (ha : ZE X a ta) (he : ∀ whole, isTrue a X.env whole = (do let v ← whole; standAt a.pos; holding [v] (truthy v)) := by intro _; rfl) : ZT X a (tTruP X.K ta) := by with_unfolding_all exact pt_truP ha he
theorem size_nonneg {a b c : Int} (hc : c ≠ 0) : 0 ≤ Builtin.Range.rangeSize a b c := by
  unfold Builtin.Range.rangeSize
  split
  · split
    · have := Int.ediv_nonneg (a := b - a - 1) (b := c) (by omega) (by omega); omega
    · omega
  · split
    · have := Int.ediv_nonneg (a := a - b - 1) (b := -c) (by omega) (by omega); omega
    · omega
end
section
variable {X : Cx} {e : Expr} {es : List Expr} {t : TA} {p pos : Pos}
theorem boot_max' : bootBuiltins "max" = some (.builtin "max") := by decide +kernel
theorem pcb_max (hc : X.calm = true) (hg : Gl X "max") (hm : X.mg "max" = none) (ha : PA X (e :: es) t) (he : starEach (e :: es) X.env = (false, eval e X.env) :: starEach es X.env) (hpl : (backTo pos (starEach es X.env)).any (·.1) = false) :
    PE X (.Call (.Name "max" p) (e :: es) [] pos) (tCB (rMax1P X.K) t) := pe_callB (call_maxP hc) hg hm boot_max' ha (by decide) (by decide) he hpl
theorem zcb_max (hc : X.calm = true) (hg : Gl X "max") (hm : X.mg "max" = none) (ha : ZA X (e :: es) t) (he : starEach (e :: es) X.env = (false, eval e X.env) :: starEach es X.env) (hpl : (backTo pos (starEach es X.env)).any (·.1) = false) :
    ZE X (.Call (.Name "max" p) (e :: es) [] pos) (tCB (rMax1P X.K) t) := by with_unfolding_all exact pcb_max hc hg hm ha he hpl
noncomputable def rAppP : V → List V → Hp → VK → Prop := fun x vs H Q => match x, vs with
  | .ref l, [y] => ∃ xs, H l = some (.lst xs) ∧ xs.length < sizeLine ∧ Q .non (upd H l (.lst (xs ++ [y])))
  | _, _ => False
theorem mt_appP : MtM X "list.append" rAppP := fun pins s σ H x vs v us Q I rx rv h => by
  unfold rAppP at h
  split at h
  · obtain ⟨xs, h1, h2, q⟩ := h
    exact mt_append pins s σ H _ _ v us Q I rx rv ⟨_, xs, _, rfl, rfl, h1, h2, q⟩
  · exact h.elim
variable {o : Expr} {to : TE} {apos cpos : Pos}
theorem pm_append (ho : PE X o to) (ha : PA X (e :: es) t) (hbase : attributeBase o "append" X.env (eval o X.env) = eval o X.env := by rfl)
    (hfew : ((backTo cpos (starEach (e :: es) X.env)).all (fun x => !x.1) && (backToKw cpos (keywordEach [] X.env)).all (fun x => x.1.isSome)
      && decide ((e :: es).length + ([] : List Keyword).length + (if ([] : List Keyword).isEmpty then 0 else 1) < 30)) = true := by rfl)
    (hline : (apos.endLine == cpos.line) = true := by rfl) (hs : starEach (e :: es) X.env = (false, eval e X.env) :: starEach es X.env := by rfl) (hplain : (backTo cpos (starEach es X.env)).any (·.1) = false := by rfl) :
    PE X (.Call (.Attribute o "append" apos) (e :: es) [] cpos) (fun σ H Q => to σ H fun x H1 => tyV X.K "list" x H1 ∧ t σ H1 fun xs H2 => rAppP x xs H2 Q) :=
  pe_bm PySem.F.plainAttrs_list PySem.F.slot_list_append PySem.F.type_list_append mt_appP ho ha hbase hfew hline hs hplain
theorem zm_append (ho : ZE X o to) (ha : ZA X (e :: es) t) (hbase : attributeBase o "append" X.env (eval o X.env) = eval o X.env := by rfl)
    (hfew : ((backTo cpos (starEach (e :: es) X.env)).all (fun x => !x.1) && (backToKw cpos (keywordEach [] X.env)).all (fun x => x.1.isSome)
      && decide ((e :: es).length + ([] : List Keyword).length + (if ([] : List Keyword).isEmpty then 0 else 1) < 30)) = true := by rfl)
    (hline : (apos.endLine == cpos.line) = true := by rfl) (hs : starEach (e :: es) X.env = (false, eval e X.env) :: starEach es X.env := by rfl) (hplain : (backTo cpos (starEach es X.env)).any (·.1) = false := by rfl) :
    ZE X (.Call (.Attribute o "append" apos) (e :: es) [] cpos) (fun σ H Q => to σ H fun x H1 => tyV X.K "list" x H1 ∧ t σ H1 fun xs H2 => rAppP x xs H2 Q) := by with_unfolding_all exact pm_append ho ha hbase hfew hline hs hplain
theorem tyL {K : PySem.W.Frag} {H : Hp} {l : Addr} {xs : List V} (h : H l = some (.lst xs)) : tyV K "list" (.ref l) H := .inl ⟨rfl, xs, SqL.of h⟩
end
end L2
set_option Elab.async false
set_option linter.all false
set_option maxRecDepth 100000
set_option maxHeartbeats 4000000
namespace L2
open PySem PySem.Spec PyProof.Rows
theorem DatV.ints {H : Hp} {a : Addr} {ns : List Int} (e : H a = some (.tup (ns.map V.int))) : DatV H (.ref a) (.tuple (ns.map PyData.int)) := .tup e (DatAll.ints ns)
noncomputable def PrAt (H : Hp) (v : V) (p : Int × Int) : Prop := ∃ b, v = .ref b ∧ H b = some (.tup [.int p.1, .int p.2])
inductive Prs (H : Hp) : List V → List (Int × Int) → Prop where
  | nil : Prs H [] []
  | cons {v p vs ps} : PrAt H v p → Prs H vs ps → Prs H (v :: vs) (p :: ps)
theorem Prs.same {H H' : Hp} (y : Same H H') : ∀ {vs ps}, Prs H vs ps → Prs H' vs ps
  | _, _, .nil => .nil
  | _, _, .cons ⟨b, e, h⟩ r => .cons ⟨b, e, y _ _ h⟩ (Prs.same y r)
theorem Prs.length {H : Hp} : ∀ {vs ps}, Prs H vs ps → vs.length = ps.length
  | _, _, .nil => rfl
  | _, _, .cons _ r => by rw [List.length_cons, List.length_cons, Prs.length r]
theorem Prs.get {H : Hp} : ∀ {vs ps} {i : Nat} {v : V}, Prs H vs ps → vs[i]? = some v → ∃ p, ps[i]? = some p ∧ PrAt H v p
  | _, _, _, _, .nil, h => by simp at h
  | _, _, 0, _, .cons h _, e => by simp at e; subst e; exact ⟨_, rfl, h⟩
  | _, _, i + 1, _, .cons _ r, e => by
    obtain ⟨p, h1, h2⟩ := Prs.get (i := i) r (by simpa using e)
    exact ⟨p, by simpa using h1, h2⟩
theorem Prs.snoc {H : Hp} {v : V} {p : Int × Int} (h : PrAt H v p) : ∀ {vs ps}, Prs H vs ps → Prs H (vs ++ [v]) (ps ++ [p])
  | _, _, .nil => .cons h .nil
  | _, _, .cons q r => .cons q (Prs.snoc h r)
theorem Prs.set {H : Hp} {v : V} {p : Int × Int} (h : PrAt H v p) : ∀ {vs ps} (i : Nat), Prs H vs ps → Prs H (vs.set i v) (ps.set i p)
  | _, _, _, .nil => .nil
  | _, _, 0, .cons _ r => .cons h r
  | _, _, i + 1, .cons q r => .cons q (Prs.set h i r)
theorem Same.updN {H H' : Hp} {t : Addr} {o : HO} (y : Same H H') (h : H t = none) : Same H (upd H' t o) := fun b u e => by
  rw [upd_ne (ne_of_none e h)]
  exact y b u e
theorem Prs.updL {H : Hp} {t : Addr} {xs ys : List V} (h : H t = some (.lst xs)) : ∀ {us ps}, Prs H us ps → Prs (upd H t (.lst ys)) us ps
  | _, _, .nil => .nil
  | _, _, .cons ⟨b, e, hb⟩ r => .cons ⟨b, e, by rw [upd_ne (ne_of hb h (by intro z; cases z))]; exact hb⟩ (Prs.updL h r)
theorem Prs.nilOf {H : Hp} {us ps} (r : Prs H us ps) : us.isEmpty = ps.isEmpty := by cases r <;> rfl
theorem Prs.split {H : Hp} {us : List V} {i : List (Int × Int)} {q : Int × Int} (r : Prs H us (i ++ [q])) : ∃ vs b, us = vs ++ [.ref b] ∧ vs.length = i.length ∧ H b = some (.tup [.int q.1, .int q.2]) := by
  have hl := r.length
  rw [List.length_append, List.length_singleton] at hl
  have hne : us ≠ [] := by intro e; subst e; simp at hl
  have e := List.dropLast_concat_getLast hne
  have hd : us.dropLast.length = i.length := by rw [List.length_dropLast]; omega
  obtain ⟨p, h1, b, h2, h3⟩ := r.get (i := i.length) (v := us.getLast hne) (by
    rw [List.getLast_eq_getElem, List.getElem?_eq_getElem (by omega)]
    congr 2
    omega)
  have : p = q := by simpa using h1.symm
  subst this
  exact ⟨us.dropLast, b, by rw [← h2]; exact e.symm, hd, h3⟩
end L2
namespace L2
open PySem PySem.Spec PyProof.Rows
theorem canInts : ∀ ns : List Int, PyData.canLayAll0 (ns.map PyData.int) = true ∧ PyData.depthAll (ns.map PyData.int) ≤ 1
  | [] => ⟨by simp [PyData.canLayAll0], by simp [PyData.depthAll]⟩
  | n :: r => by
    obtain ⟨h1, h2⟩ := canInts r
    refine ⟨by simp only [List.map_cons, PyData.canLayAll0, PyData.canLay0, h1, Bool.and_self], ?_⟩
    simp only [List.map_cons, PyData.depthAll, PyData.depth]
    omega
theorem shaped_ints (ns : List Int) : SeqAt.shaped (.tuple (ns.map PyData.int)) = true := by
  obtain ⟨h1, h2⟩ := canInts ns
  unfold SeqAt.shaped
  rw [Bool.and_eq_true]
  exact ⟨by simp only [PyData.canLay0]; exact h1, decide_eq_true (by simp only [PyData.depth]; omega)⟩
end L2
namespace L2
open PySem PySem.Spec PyProof.Rows
theorem SqL.same {K : PySem.W.Frag} {H H' : Hp} {a : Addr} {xs : List V} (e : Same H H') (h : SqL K H a xs) : SqL K H' a xs := by
  rcases h with (h | ⟨o, h⟩) | h
  · exact .inl (.inl (e _ _ h))
  · exact .inl (.inr ⟨o, e _ _ h⟩)
  · exact .inr h
end L2
namespace L2
open PySem PySem.Spec PyProof.Rows
end L2
set_option Elab.async false
set_option linter.all false
set_option maxRecDepth 100000
set_option maxHeartbeats 4000000
namespace L2
open PySem PySem.Spec PyProof.Rows
section
variable {X : Cx}
end
section
variable {X : Cx} {e : Expr} {es : List Expr} {t : TA} {o : Expr} {to : TE} {apos cpos : Pos}
end
end L2
namespace L2
open PySem PySem.Spec PyProof.Rows
inductive Tps (H : Hp) : List V → List (List Int) → Prop where
  | nil : Tps H [] []
  | cons {b : Addr} {ls : List Int} {vs lss} : H b = some (.tup (ls.map V.int)) → Tps H vs lss → Tps H (.ref b :: vs) (ls :: lss)
theorem Tps.same {H H' : Hp} (y : Same H H') : ∀ {vs ps}, Tps H vs ps → Tps H' vs ps
  | _, _, .nil => .nil
  | _, _, .cons h r => .cons (y _ _ h) (Tps.same y r)
theorem Tps.length {H : Hp} : ∀ {vs ps}, Tps H vs ps → vs.length = ps.length
  | _, _, .nil => rfl
  | _, _, .cons _ r => by rw [List.length_cons, List.length_cons, Tps.length r]
theorem Tps.get {H : Hp} : ∀ {vs ps} {i : Nat} {v : V}, Tps H vs ps → vs[i]? = some v → ∃ ls b, ps[i]? = some ls ∧ v = .ref b ∧ H b = some (.tup (ls.map V.int))
  | _, _, _, _, .nil, h => by simp at h
  | _, _, 0, _, .cons h _, e => by simp at e; exact ⟨_, _, rfl, e.symm, h⟩
  | _, _, i + 1, _, .cons _ r, e => by
    obtain ⟨ls, b, h1, h2⟩ := Tps.get (i := i) r (by simpa using e)
    exact ⟨ls, b, by simpa using h1, h2⟩
theorem Tps.snoc {H : Hp} {b : Addr} {ls : List Int} (h : H b = some (.tup (ls.map V.int))) : ∀ {vs ps}, Tps H vs ps → Tps H (vs ++ [.ref b]) (ps ++ [ls])
  | _, _, .nil => .cons h .nil
  | _, _, .cons q r => .cons q (Tps.snoc h r)
theorem Tps.updL {H : Hp} {t : Addr} {xs ys : List V} (h : H t = some (.lst xs)) : ∀ {us ps}, Tps H us ps → Tps (upd H t (.lst ys)) us ps
  | _, _, .nil => .nil
  | _, _, .cons hb r => .cons (by rw [upd_ne (ne_of hb h (by intro z; cases z))]; exact hb) (Tps.updL h r)
end L2
namespace L2
open PySem PySem.Spec PyProof.Rows
section
variable {X : Cx} {e : Expr} {es : List Expr} {t : TA} {p pos : Pos} {K : PySem.W.Frag} {o : Expr} {to : TE} {apos cpos : Pos}
end
end L2
namespace L2
open PySem
end L2
set_option Elab.async false
set_option linter.all false
set_option maxRecDepth 100000
set_option maxHeartbeats 4000000
namespace L2
open PySem PySem.Spec PyProof.Rows
section
variable {X : Cx} {pins : List (Addr × Obj)} {σ : St} {H : Hp} {s : Shared}
end
section
variable {X : Cx}
noncomputable def IntG (mg : Str → Option Value) (x : Str) (i : Int) : Prop := ∃ t, mg x = some (.int i t)
theorem pe_ig {x : Str} {i : Int} {pos : Pos} (hg : Gl X x) (hm : IntG X.mg x i) (hd : (x == ("__debug__" : Str)) = false := by decide) : PE X (.Name x pos) (tC (.int i)) := by
  obtain ⟨t, e⟩ := hm
  exact pe_glob hg e ⟨t, rfl⟩ hd
theorem ze_ig {x : Str} {i : Int} {pos : Pos} (hg : Gl X x) (hm : IntG X.mg x i) (hd : (x == ("__debug__" : Str)) = false := by decide) : ZE X (.Name x pos) (tC (.int i)) := by with_unfolding_all exact pe_ig hg hm hd
end
end L2
set_option Elab.async false
set_option linter.all false
set_option maxRecDepth 100000
set_option maxHeartbeats 4000000
namespace L2
open PySem PySem.Spec PyProof.Rows
section
variable {M : Model} {A : Around} {E : Value → Shared → Prop} {s : Shared}
end
section
variable {X : Cx} {x : Str} {nv : List Str} {ix : List (Str × Nat)} {scope : Scope} {pins : List (Addr × Obj)} {σ : St} {H : Hp} {s : Shared}
end
section
variable {X : Cx} {x : Str} {nv : List Str} {ix : List (Str × Nat)} {scope : Scope} {pins : List (Addr × Obj)} {σ : St} {H : Hp} {s : Shared} {elt tg iter : Expr} {ifs : List Expr} {pos : Pos}
end
end L2
namespace L2
open PySem PySem.Spec PyProof.Rows
section
variable {X : Cx} {K : PySem.W.Frag}
theorem pi_tup' {tg l : Expr} {tl : TE} (hl : PE X l tl) (h : X.K = K) : PI X tg l (iTup K tl) := by subst h; exact pi_tup hl
theorem zi_tup' {tg l : Expr} {tl : TE} (hl : ZE X l tl) (h : X.K = K) : ZI X tg l (iTup K tl) := by with_unfolding_all exact pi_tup' hl h
end
end L2
set_option Elab.async false
set_option linter.all false
set_option maxRecDepth 100000
set_option maxHeartbeats 4000000
namespace L2
open PySem PySem.Spec PyProof.Rows
section
variable {prog : Program} {w : World} {A : Around} {E : Value → Shared → Prop} {s : Shared}
theorem nextOf_tup_item {it t : Addr} {i : Nat} {items : Array Value} {x : Value} {Q : Value → Shared → Prop} (hit : s.heap.IsTupleIter it t i) (ht : s.heap.IsTuple t items) (hx : items[i]? = some x)
    (hQ : ∀ h', h'.IsTupleIter it t (i + 1) → Heap.SameBut it s.heap h' → Q x { s with heap := h' }) : wpAny (model prog w) A (Builtin.SmallTypes.nextOf (.ref it)) Q E s := by
  obtain ⟨ot, h1, c1, d1⟩ := id hit
  obtain ⟨og, h2, c2, n2, d2⟩ := ht
  unfold Builtin.SmallTypes.nextOf
  refine wpAny_bind (wpAny_callSpecial?_slot hit.typeIs F.slot_tuple_iterator_next (wpAny_call_entry F.slot_tuple_iterator_next hit.typeIs F.entry_tuple_iterator_next ?_ (F.args_tuple_iterator_next_1 _)))
  refine wpAny_bind (m := field (.ref it) 0) (wpAny_field h1 d1 (x := .ref t) rfl ?_)
  have hnn : ¬ ((Value.ref t == Value.none) = true) := fun z => Bool.false_ne_true z
  show wpAny _ _ (if (Value.ref t == Value.none) = true then _ else _) _ _ _
  rw [if_neg hnn]
  refine wpAny_bind (m := field (.ref it) 1) (wpAny_field h1 d1 (x := .int i 0) rfl (wpAny_bind (m := seqItems? (.ref t)) (wpAny_seqItems h2 d2 ?_)))
  simp only [Int.toNat_natCast, hx]
  refine wpAny_bind (wpAny_setField h1 d1 (by simp) (wpAny_pure ⟨_, rfl, wpAny_pure (hQ _ ⟨_, Heap.get?_update_self _ h1 (Obj.isFreed_of_fields (Obj.data_mapFields d1 _)), (Obj.cls_mapFields ..).trans c1, ?_⟩ (Heap.SameBut.update ..))⟩))
  rw [Obj.data_mapFields d1]
  simp [rawInt]
theorem nextOf_tup_end {it t : Addr} {i : Nat} {items : Array Value} {Q : Value → Shared → Prop} (hh : A.handled = none) (hit : s.heap.IsTupleIter it t i) (ht : s.heap.IsTuple t items) (hx : items[i]? = none)
    (hE : ∀ h' e, Heap.ExtBut it s.heap h' → (∃ o, h'.get? e = some o ∧ o.cls = .type "StopIteration") → E (.ref e) { s with heap := h' }) : wpAny (model prog w) A (Builtin.SmallTypes.nextOf (.ref it)) Q E s := by
  obtain ⟨ot, h1, c1, d1⟩ := id hit
  obtain ⟨og, h2, c2, n2, d2⟩ := ht
  unfold Builtin.SmallTypes.nextOf
  refine wpAny_bind (wpAny_callSpecial?_slot hit.typeIs F.slot_tuple_iterator_next (wpAny_call_entry F.slot_tuple_iterator_next hit.typeIs F.entry_tuple_iterator_next ?_ (F.args_tuple_iterator_next_1 _)))
  refine wpAny_bind (m := field (.ref it) 0) (wpAny_field h1 d1 (x := .ref t) rfl ?_)
  have hnn : ¬ ((Value.ref t == Value.none) = true) := fun z => Bool.false_ne_true z
  show wpAny _ _ (if (Value.ref t == Value.none) = true then _ else _) _ _ _
  rw [if_neg hnn]
  refine wpAny_bind (m := field (.ref it) 1) (wpAny_field h1 d1 (x := .int i 0) rfl (wpAny_bind (m := seqItems? (.ref t)) (wpAny_seqItems h2 d2 ?_)))
  simp only [Int.toNat_natCast, hx]
  refine wpAny_bind (wpAny_rule (wpAny_bind (wpAny_setField h1 d1 (by simp) (wpAny_bind (m := newExc (.type "StopIteration") []) ?_))))
  simp only [newExc, newTuple, raiseNew]
  refine wpAny_bind (wpAny_newObj_type (wpAny_bind (m := firstArgMember _ _) (wpAny_of_eq (a := Value.none) (by first | rfl | (simp only [firstArgMember]; rfl)) (wpAny_newObj_type (wpAny_bind (wpAny_handled ?_)) (by size_fits)))) (by size_fits))
  first | rw [show A.in1.handled = none from hh] | rw [hh]
  exact wpAny_bind (wpAny_pure (wpAny_throw (hE _ _ (((Heap.SameBut.update ..).extBut.push _).push _) ⟨_, Heap.get?_push_size _ rfl, rfl⟩)))
end
section
variable {X : Cx} {pins : List (Addr × Obj)} {σ : St} {H : Hp} {s : Shared}
theorem Inv.turned2 {h' : Heap} {t' : Nat} {e it : Addr} (I : Inv X pins σ H s) (hk : ∀ b o, b ≠ e → b ≠ it → s.heap.get? b = some o → h'.get? b = some o) (fe : FpOk X pins H e) (fi : FpOk X pins H it) : Inv X pins σ H { s with heap := h', toks := t' } := by
  have ne : ∀ {b}, b ∉ [e, it] → b ≠ e ∧ b ≠ it := fun {b} hb => ⟨fun z => hb (by simp [z]), fun z => hb (by simp [z])⟩
  refine I.step (g' := s.gens) (d' := s.drawn) (ch := [e, it]) (fun b hb => ?_) (fun b o _ _ hb q _ => hk b o (ne hb).1 (ne hb).2 q) (fun b o _ _ hb q _ => ⟨o.slots, hk b o (ne hb).1 (ne hb).2 q⟩) (fun b o _ _ n => n) (fun b o hb q => ⟨o, hk b o (ne hb).1 (ne hb).2 q⟩)
    (fun _ _ q => q) (fun _ _ _ q => q) (fun b ps q => ⟨#[], by rw [q]; simp⟩) (fun m hm => ?_) (fun b u q => ?_) I.bare
  · rcases List.mem_cons.mp hb with rfl | hb
    · exact ⟨fe.2.2.2.1, fe.2.1, fe.2.2.2.2.1, fe.2.2.2.2.2⟩
    · have : b = it := by simpa using hb
      subst this
      exact ⟨fi.2.2.2.1, fi.2.1, fi.2.2.2.2.1, fi.2.2.2.2.2⟩
  · obtain ⟨o, es, ep, ho, r⟩ := hm
    exact ⟨o, es, ep, hk _ o (Ne.symm fe.2.1) (Ne.symm fi.2.1) ho, r⟩
  · refine (I.hok b u q).stay (fun c v hc r => ?_) (fun c r => r) fun c xs r => r
    have nn : ∀ x, FpOk X pins H x → c ≠ x := fun x fx z => by
      subst z
      rcases hc with rfl | hc
      · rw [fx.1] at q; cases q
      · rw [fx.1] at hc; cases hc
    exact hk c v (nn e fe) (nn it fi) r
theorem Inv.trackT {D : Addr} {ys : List V} {its : List Value} (I : Inv X pins σ H s) (rv : Vals ys its) (hz : ys.length ≤ sizeLine) (e : TupD s.heap D its.toArray) (hd : FpOk X pins H D) : Inv X pins σ (upd H D (.tup ys)) s := by
  obtain ⟨h1, h2, h3, h4, h5, h6⟩ := hd
  have nD : ∀ b u, H b = some u → b ≠ D := fun b u q z => by rw [z, h1] at q; cases q
  refine I.step (s := s) (h' := s.heap) (g' := s.gens) (t' := s.toks) (d' := s.drawn) (ch := [D]) (fun b hb => ?_) (fun b o _ _ _ q _ => q) (fun b o _ _ _ q _ => ⟨o.slots, q⟩) (fun b o hb _ q => ?_) (fun b o _ q => ⟨o, q⟩)
    (fun b xs q => (upd_ne (nD b _ q)).trans q) (fun b o u q => (upd_ne (nD b _ q)).trans q) (fun b ps q => ⟨#[], by rw [upd_ne (nD b _ q), q]; simp⟩) (fun m hm => hm) (fun b u q => ?_) I.bare
  · have : b = D := by simpa using hb
    subst this
    exact ⟨h4, h2, h5, h6⟩
  · rw [upd_ne (fun z => hb (by simp [z]))]; exact q
  · by_cases hb : b = D
    · subst hb
      rw [upd_same] at q
      cases q
      exact ⟨hz, its, rv, e⟩
    · rw [upd_ne hb] at q
      exact (I.hok b u q).stay (fun c v _ r => r) (fun c r => (upd_ne (nD c _ r)).trans r) fun c xs r => (upd_ne (nD c _ r)).trans r
theorem boot_enumerate' : bootBuiltins "enumerate" = some (.type "enumerate") := by decide +kernel
noncomputable def rngO (p : Addr) (i j c : Int) : HO := .ext fun h => ∃ t u v, IsRange h p i j c t u v
theorem rng_laid {pins : List (Addr × Obj)} {σ : St} {H : Hp} {s : Shared} {i j c : Int} {t u v : Tok} {tk : Nat} (I : Inv X pins σ H s) : Inv X pins σ (upd H s.heap.objs.size (rngO s.heap.objs.size i j c)) { s with heap := s.heap.push { cls := .type "range", data := .fields #[.int i t, .int j u, .int c v] }, toks := tk } := by
  refine I.laid (fun b o e => Heap.get?_push_of_some _ e) (Nat.le_refl _) ⟨⟨t, u, v, IsRange.new ..⟩, ⟨_, Heap.get?_push_size _ rfl⟩, ?_⟩
  rintro h1 h2 ⟨t, u, v, e⟩ k
  exact ⟨t, u, v, k _ e⟩
noncomputable def rRng : List V → Hp → VK → Prop := fun vs H1 Q => match vs with
  | [.int i, .int j] => ∀ p, H1 p = none → Q (.ref p) (upd H1 p (rngO p i j 1))
  | [.int i, .int j, .int c] => (c ≠ 0 ∧ c < 2 ^ 29 ∧ -(2 ^ 29) < c) ∧ ∀ p, H1 p = none → Q (.ref p) (upd H1 p (rngO p i j c))
  | _ => False
theorem call_rng : CallR X (.type "range") rRng := by
  intro pins s σ H xs us Q I r h
  unfold rRng at h
  split at h
  · obtain ⟨u1, u2, rfl, ⟨t1, rfl⟩, t2, rfl⟩ := vals2 r
    exact call_range_2 ⟨.ref s.heap.objs.size, _, rng_laid I, rfl, h _ (I.hok.fresh (Nat.le_refl _))⟩
  · obtain ⟨⟨h1, h2, h3⟩, q⟩ := h
    cases r with
    | cons a1 r =>
      cases r with
      | cons a2 r =>
        cases r with
        | cons a3 r =>
          cases r
          obtain ⟨t1, rfl⟩ := a1
          obtain ⟨t2, rfl⟩ := a2
          obtain ⟨t3, rfl⟩ := a3
          exact PySem.call_range_3 h1 ⟨.ref s.heap.objs.size, _, rng_laid I, rfl, q _ (I.hok.fresh (Nat.le_refl _))⟩ (Or.inl (PyProof.noPylong_small (by omega)))
  · exact h.elim
noncomputable def rLstR : List V → Hp → VK → Prop := fun vs H Q => match vs with
  | [.ref p] => ∃ i j c, H p = some (rngO p i j c) ∧ Builtin.Range.small i j c = true ∧ c ≠ 0 ∧ (Builtin.Range.rangeSize i j c).toNat ≤ 1000000 ∧ ∀ l, H l = none → Q (.ref l) (upd H l (.lst (((List.range (Builtin.Range.rangeSize i j c).toNat).map fun (k : Nat) => i + (k : Int) * c).map V.int)))
  | _ => False
theorem vals_of_items {F : Nat → Int} : ∀ (n : Nat) {us : List Value}, us.length = n → (∀ (j : Nat) (v : Value), us[j]? = some v → ∃ t, v = .int (F j) t) → Vals (((List.range n).map F).map V.int) us := by
  intro n us hl h
  have : ∀ (us : List Value) (G : Nat → Int), (∀ (j : Nat) (v : Value), us[j]? = some v → ∃ t, v = .int (G j) t) → Vals (((List.range us.length).map G).map V.int) us := by
    intro us
    induction us with
    | nil => intro G _; exact .nil
    | cons u r ih =>
      intro G hG
      rw [List.length_cons, List.range_succ_eq_map, List.map_cons, List.map_cons]
      refine .cons (hG 0 u rfl) ?_
      have := ih (fun j => G (j + 1)) fun j v e => hG (j + 1) v (by simpa using e)
      have e : ((List.range r.length).map Nat.succ).map G = (List.range r.length).map (fun j => G (j + 1)) := by rw [List.map_map]; rfl
      rw [e]
      exact this
  have := this us F h
  rw [hl] at this
  exact this
theorem call_lrng (hc : X.calm = true) : CallR X (.type "list") rLstR := by
  intro pins s σ H xs us Q I r h
  unfold rLstR at h
  split at h
  · rename_i p
    obtain ⟨i, j, c, hp, hs, hc0, hn, q⟩ := h
    obtain ⟨u, rfl, rx⟩ := vals1 r
    cases rx
    obtain ⟨⟨t, u, v, hr⟩, _⟩ := I.hok p _ hp
    have h0 := size_nonneg (a := i) (b := j) hc0
    refine call_list_range (I.ok.hd hc) hr hs (n := (Builtin.Range.rangeSize i j c).toNat) (by omega) (by omega) fun h' tk acc' c' hk hS hit => ?_
    have rv : Vals (((List.range (Builtin.Range.rangeSize i j c).toNat).map fun (k : Nat) => i + (k : Int) * c).map V.int) acc'.toList := vals_of_items _ (by rw [Array.length_toList]; exact hit.1) fun k v e => hit.2 k v (by simpa using e)
    refine ⟨.ref s.heap.objs.size, _, I.laid (t' := tk) hk (Nat.le_refl _) (show ObjOk X.prog X.w _ h' _ (.lst (((List.range (Builtin.Range.rangeSize i j c).toNat).map fun (k : Nat) => i + (k : Int) * c).map V.int)) from ⟨?_, acc'.toList, c', rv, hS⟩), rfl, q _ (I.hok.fresh (Nat.le_refl _))⟩
    rw [List.length_map, List.length_map, List.length_range, sizeLine_eq]
    omega
  · exact h.elim
theorem boot_list'' : bootBuiltins "list" = some (.type "list") := by decide +kernel
variable {e : Expr} {es : List Expr} {t : TA} {p pos : Pos}
theorem pcb_range (hg : Gl X "range") (hm : X.mg "range" = none) (ha : PA X (e :: es) t) (he : starEach (e :: es) X.env = (false, eval e X.env) :: starEach es X.env) (hpl : (backTo pos (starEach es X.env)).any (·.1) = false) :
    PE X (.Call (.Name "range" p) (e :: es) [] pos) (tCB rRng t) := pe_callTy call_rng hg hm boot_range ha (by decide) (by decide) he hpl
theorem zcb_range (hg : Gl X "range") (hm : X.mg "range" = none) (ha : ZA X (e :: es) t) (he : starEach (e :: es) X.env = (false, eval e X.env) :: starEach es X.env) (hpl : (backTo pos (starEach es X.env)).any (·.1) = false) :
    ZE X (.Call (.Name "range" p) (e :: es) [] pos) (tCB rRng t) := by with_unfolding_all exact pcb_range hg hm ha he hpl
theorem pcb_lrange (hc : X.calm = true) (hg : Gl X "list") (hm : X.mg "list" = none) (ha : PA X (e :: es) t) (he : starEach (e :: es) X.env = (false, eval e X.env) :: starEach es X.env) (hpl : (backTo pos (starEach es X.env)).any (·.1) = false) :
    PE X (.Call (.Name "list" p) (e :: es) [] pos) (tCB rLstR t) := pe_callTy (call_lrng hc) hg hm boot_list'' ha (by decide) (by decide) he hpl
theorem zcb_lrange (hc : X.calm = true) (hg : Gl X "list") (hm : X.mg "list" = none) (ha : ZA X (e :: es) t) (he : starEach (e :: es) X.env = (false, eval e X.env) :: starEach es X.env) (hpl : (backTo pos (starEach es X.env)).any (·.1) = false) :
    ZE X (.Call (.Name "list" p) (e :: es) [] pos) (tCB rLstR t) := by with_unfolding_all exact pcb_lrange hc hg hm ha he hpl
end
end L2
set_option Elab.async false
set_option linter.all false
set_option maxRecDepth 100000
set_option maxHeartbeats 4000000
namespace L2
open PySem PySem.Spec PyProof.Rows
noncomputable def Itq (h : Heap) (i l : Addr) (k : Nat) (xs : Array Value) : Prop := (h.IsListIter i l k ∧ h.IsList l xs) ∨ (h.IsTupleIter i l k ∧ h.IsTuple l xs)
section
variable {prog : Program} {w : World} {A : Around} {E : Value → Shared → Prop} {s : Shared}
theorem Itq.item {i l : Addr} {k : Nat} {xs : Array Value} {v : Value} {Q : Value → Shared → Prop} (x : Itq s.heap i l k xs) (hne : l ≠ i) (hx : xs[k]? = some v)
    (hQ : ∀ h', Itq h' i l (k + 1) xs → Heap.SameBut i s.heap h' → Q v { s with heap := h' }) : wpAny (model prog w) A (Builtin.SmallTypes.nextOf (.ref i)) Q E s := by
  rcases x with ⟨x1, x2⟩ | ⟨x1, x2⟩
  · exact wpAny_nextOf_list_item x1 x2 hx fun h' a b => hQ h' (.inl ⟨a, x2.extBut b.extBut hne⟩) b
  · exact nextOf_tup_item x1 x2 hx fun h' a b => hQ h' (.inr ⟨a, x2.extBut b.extBut hne⟩) b
theorem Itq.fin {i l : Addr} {k : Nat} {xs : Array Value} {Q : Value → Shared → Prop} (hh : A.handled = none) (x : Itq s.heap i l k xs) (hx : xs[k]? = none)
    (hE : ∀ h' e, Heap.ExtBut i s.heap h' → (∃ o, h'.get? e = some o ∧ o.cls = .type "StopIteration") → E (.ref e) { s with heap := h' }) : wpAny (model prog w) A (Builtin.SmallTypes.nextOf (.ref i)) Q E s := by
  rcases x with ⟨x1, x2⟩ | ⟨x1, x2⟩
  · exact wpAny_nextOf_list_end hh x1 x2 hx hE
  · exact nextOf_tup_end hh x1 x2 hx hE
noncomputable def itCls (b : Bool) : String := if b then "tuple_iterator" else "list_iterator"
noncomputable def IsSq (h : Heap) (b : Bool) (l : Addr) (xs : Array Value) : Prop := if b = true then h.IsTuple l xs else h.IsList l xs
noncomputable abbrev zqI (b : Bool) (l : Addr) : Obj := { cls := .type (itCls b), data := .fields #[.ref l, .int 0 0] }
theorem iter_sq {b : Bool} {l : Addr} {xs : Array Value} {Q : Value → Shared → Prop} (x : IsSq s.heap b l xs) (h : Q (.ref s.heap.objs.size) { s with heap := s.heap.push (zqI b l) }) : wpAny (model prog w) A (pyIter (.ref l)) Q E s := by
  cases b with
  | true => exact wpAny_pyIter_tuple (show s.heap.IsTuple l xs from x) h
  | false => exact wpAny_pyIter_list (show s.heap.IsList l xs from x) h
end
section
variable {prog : Program} {w : World} {A : Around} {E : Value → Shared → Prop} {s : Shared}
end
section
variable {X : Cx} {pins : List (Addr × Obj)} {σ : St} {H : Hp} {s : Shared}
noncomputable def SqK (H : Hp) (c : Bool) (a : Addr) (xs : List V) : Prop := H a = some (if c = true then HO.tup xs else HO.lst xs)
theorem SqK.inj {c : Bool} {a : Addr} {xs ys : List V} (h : SqK H c a xs) (h' : SqK H c a ys) : xs = ys := by
  unfold SqK at h h'
  rw [h] at h'
  cases c <;> (injection h' with h'; injection h')
theorem SqK.ne {c : Bool} {a b : Addr} {xs : List V} (h : SqK H c a xs) (hb : H b = none) : a ≠ b := fun z => by
  subst z
  unfold SqK at h
  rw [hb] at h; cases h
theorem SqK.tup {a : Addr} {xs : List V} (h : H a = some (.tup xs)) : SqK H true a xs := h
theorem Inv.sqK {c : Bool} {a : Addr} {xs : List V} (I : Inv X pins σ H s) (h : SqK H c a xs) : ∃ its : List Value, Vals xs its ∧ IsSq s.heap c a its.toArray := by
  cases c with
  | true =>
    obtain ⟨its, r, p, _⟩ := I.tuple (SqT.of h)
    exact ⟨its, r, (show s.heap.IsTuple a its.toArray from p)⟩
  | false =>
    obtain ⟨its, r, p, _⟩ := I.list (SqL.of h)
    exact ⟨its, r, p.isList⟩
noncomputable def Itk (h : Heap) (c : Bool) (i l : Addr) (k : Nat) : Prop := if c = true then h.IsTupleIter i l k else h.IsListIter i l k
theorem Itk.at {h h' : Heap} {c : Bool} {i l : Addr} {k : Nat} (x : Itk h c i l k) (hi : ∀ o, h.get? i = some o → h'.get? i = some o) : Itk h' c i l k := by
  cases c with
  | true => exact (show h.IsTupleIter i l k from x).at hi
  | false => exact (show h.IsListIter i l k from x).at hi
theorem Itk.obj {h : Heap} {c : Bool} {i l : Addr} {k : Nat} (x : Itk h c i l k) : ∃ o, h.get? i = some o ∧ ∀ v, o.data ≠ .cell v := by
  cases c with
  | true => obtain ⟨o, e, _, d⟩ := (show h.IsTupleIter i l k from x); exact ⟨o, e, fun v z => by rw [d] at z; cases z⟩
  | false => obtain ⟨o, e, _, d⟩ := (show h.IsListIter i l k from x); exact ⟨o, e, fun v z => by rw [d] at z; cases z⟩
theorem Itk.q {h : Heap} {c : Bool} {i l : Addr} {k : Nat} {xs : Array Value} (x : Itk h c i l k) (q : IsSq h c l xs) : Itq h i l k xs := by
  cases c with
  | true => exact .inr ⟨x, q⟩
  | false => exact .inl ⟨x, q⟩
theorem two_cls {h : Heap} {l : Addr} {xs ys : Array Value} (p : h.IsTuple l xs) (q : h.IsList l ys) : False := by
  obtain ⟨o, e, c1, _⟩ := p
  obtain ⟨o', e', c2, _⟩ := q
  rw [e] at e'; cases e'
  rw [c1] at c2
  injection c2 with c2
  exact absurd c2 (by decide)
theorem Itq.k {h : Heap} {c : Bool} {i l : Addr} {k : Nat} {xs : Array Value} (x : Itq h i l k xs) (q : IsSq h c l xs) : Itk h c i l k := by
  rcases x with ⟨x1, x2⟩ | ⟨x1, x2⟩
  · cases c with
    | false => exact x1
    | true => exact (two_cls (show h.IsTuple l xs from q) x2).elim
  · cases c with
    | true => exact x1
    | false => exact (two_cls x2 (show h.IsList l xs from q)).elim
theorem IsSq.at {h h' : Heap} {c : Bool} {l : Addr} {xs : Array Value} (x : IsSq h c l xs) (hl : ∀ o, h.get? l = some o → h'.get? l = some o) : IsSq h' c l xs := by
  cases c with
  | true => exact (show h.IsTuple l xs from x).at hl
  | false => exact (show h.IsList l xs from x).at hl
theorem drawsK {prog : Program} {w : World} {A : Around} (hh : A.handled = none) (c : Bool) (it l : Addr) (hne : l ≠ it) (items : Array Value) :
    Draws prog w A it [it, l] items.size (fun i v => items[i]? = some v) (fun i h => Itk h c it l i ∧ IsSq h c l items) where
  live := fun _ _ st => let ⟨o, ho, _⟩ := st.1.obj; ⟨o, ho⟩
  frame := fun _ _ _ st k => ⟨st.1.at fun o e => k it (List.mem_cons_self ..) o e, st.2.at fun o e => k l (by simp) o e⟩
  item := fun i s Q E hi st hQ => Itq.item (v := items[i]) (st.1.q st.2) hne (by simp [hi]) fun h' a b => hQ items[i] h' s.toks (by simp [hi]) ⟨a.k (st.2.at fun o e => b.extBut _ _ hne e), st.2.at fun o e => b.extBut _ _ hne e⟩ b
  done := fun s Q E st hE => Itq.fin hh (st.1.q st.2) (by simp) hE
theorem meets_enumK (c : Bool) (l : Addr) (items : Array Value) :
    Meets (Builtin.«enumerate.__new__» ⟨[.type "enumerate", .ref l], []⟩) (fun _ R s => IsSq s.heap c l items ∧
      R (.ok (.ret (.ref (s.heap.push (zqI c l)).objs.size))) { s with heap := (s.heap.push (zqI c l)).push { cls := .type "enumerate", data := .fields #[.none, .bool false, .ref s.heap.objs.size, rawInt 0, .none, .none] } }) :=
  .of_wp fun prog w A R s h => by
    obtain ⟨hp, g, d, tk, os⟩ := s
    obtain ⟨hl, h⟩ := h
    have hsub := sub_enumerate
    have hS : IsSq (Shared.heap ⟨hp, g, d, tk, os⟩) c l items := hl
    obtain ⟨o, ho, _⟩ : ∃ o, hp.get? l = some o ∧ True := by
      cases c with
      | true => obtain ⟨o, e, _⟩ := (show hp.IsTuple l items from hl); exact ⟨o, e, trivial⟩
      | false => obtain ⟨o, e, _⟩ := (show hp.IsList l items from hl); exact ⟨o, e, trivial⟩
    wp_walk using AutoSeq1.wpAny_loadPart' ho
    refine wpAny_stack_any fun st => wpAny_pure ?_
    split
    · rename_i c' _ _ _ _ _
      cases (c' == Value.type "enumerate") <;> (wp_walk using AutoSeq1.wpAny_loadPart' ho, iter_sq hS) <;> exact ⟨_, rfl, h⟩
    · wp_walk using AutoSeq1.wpAny_loadPart' ho, iter_sq hS
      exact ⟨_, rfl, h⟩
noncomputable def ItE (c : Bool) (a : Addr) : It := ⟨fun i H => ∃ xs x, SqK H c a xs ∧ xs[i]? = some x, fun i H v H' => ∃ p, H p = none ∧ v = .ref p ∧ ∀ xs, SqK H c a xs → ∃ y, xs[i]? = some y ∧ H' = upd H p (.tup [.int i, y]), fun i H => ∃ xs, SqK H c a xs ∧ xs.length = i⟩
theorem turn_enumK {P : Program} {w : World} {K : PySem.W.Frag} {elts : List Expr} {k : Nat} {pos : Pos} {c : Bool} {e it a : Addr} (hei : e ≠ it) :
    Turn P w K (.Tuple elts k pos) (ItE c a) [e, it] e (fun i h => (∃ old, IsEnum h e it i old) ∧ Itk h c it a i) where
  mem := List.mem_cons_self ..
  obj := fun i h st b hb => by
    obtain ⟨⟨old, he⟩, kt⟩ := st
    rcases List.mem_cons.mp hb with rfl | hb
    · exact ⟨_, he, fun v z => by cases z⟩
    · have : b = it := by simpa using hb
      subst this
      exact kt.obj
  keep := fun i h h' st k => ⟨let ⟨old, he⟩ := st.1; ⟨old, k e (by simp) _ he⟩, st.2.at fun o q => k it (by simp) o q⟩
  item := by
    intro X hP hw hK hc i pins s σ H E I hf st hg
    subst hP hw hK
    obtain ⟨xs, x, hq, hx⟩ := hg
    obtain ⟨⟨old, he⟩, hit⟩ := st
    obtain ⟨its, rv, p⟩ := I.sqK hq
    obtain ⟨u, hu, ru⟩ := rv.get hx
    have fe := hf e (by simp)
    have fi := hf it (by simp)
    have hae : a ≠ e := hq.ne fe.1
    have hai : a ≠ it := hq.ne fi.1
    have hlt : i < its.toArray.size := by rw [List.size_toArray]; exact (List.getElem?_eq_some_iff.mp hu).1
    refine wpAny_pyNext_enum_itemD (drawsK (A := X.A.in1) (I.ok.hd hc) c it a hai its.toArray) he ⟨hit, p⟩ hlt hei (by simp [hei, Ne.symm hae]) fun x' h' tk hPx ho hst' hTup hsz hk => ?_
    have ex : x' = u := by
      have : its[i]? = some x' := by simpa using hPx
      rw [hu] at this
      exact (Option.some.inj this).symm
    subst ex
    refine ⟨_, rfl, wpAny_letOwnedTupleGo_enum ho fun h2 he2 hs2 => ?_⟩
    have hel : e < s.heap.objs.size := Heap.lt_size he
    have I1 : Inv X pins σ H { s with heap := h2, toks := tk + 1 } := I.turned2 (fun b o n1 n2 q => (hs2.2 b n1).trans (hk b o n1 n2 q)) fe fi
    have hTd : TupD h2 s.heap.objs.size [.int i tk, x'].toArray := ⟨0, (hs2.2 _ (Nat.ne_of_gt hel)).trans hTup⟩
    have hn : H s.heap.objs.size = none := I.hok.fresh (Nat.le_refl _)
    have I2 := I1.trackT (ys := [.int i, x]) (.cons ⟨tk, rfl⟩ (.cons ru .nil)) (by show 2 ≤ sizeLine; decide) hTd (I.fpOk (Nat.le_refl _) hn)
    have hil : it < s.heap.objs.size := by obtain ⟨o, q, _⟩ := hit.obj; exact Heap.lt_size q
    refine ⟨.ref s.heap.objs.size, _, I2, rfl, ⟨_, hn, rfl, fun ys hy => ?_⟩, ⟨⟨x', by simpa using he2⟩, hst'.1.at fun o q => (hs2.2 it (Ne.symm hei)).trans q⟩, fun b hb => ?_⟩
    · cases hq.inj hy
      exact ⟨x, hx, rfl⟩
    · rcases List.mem_cons.mp hb with rfl | hb
      · rw [upd_ne (Nat.ne_of_lt hel)]; exact fe.1
      · have : b = it := by simpa using hb
        subst this
        rw [upd_ne (Nat.ne_of_lt hil)]; exact fi.1
  done := by
    intro X hP hw hK hc i pins s σ H E I hf st hg
    subst hP hw hK
    obtain ⟨xs, hq, hx⟩ := hg
    obtain ⟨⟨old, he⟩, hit⟩ := st
    obtain ⟨its, rv, p⟩ := I.sqK hq
    have fi := hf it (by simp)
    have hai : a ≠ it := hq.ne fi.1
    have hn : its.toArray.size = i := by rw [List.size_toArray, ← rv.length]; exact hx
    refine wpAny_pyNext_enum_endD (drawsK (A := X.A.in1) (I.ok.hd hc) c it a hai its.toArray) he ⟨by rw [hn]; exact hit, p⟩ fun h' hb => ⟨rfl, I.turned (t' := s.toks) (it := it) (fun b o n q => hb b o n q) fi.1 fi.2.1 fi.2.2.2.1 fi.2.2.2.2.1 fi.2.2.2.2.2⟩
  self := fun A i s Q E st h => let ⟨⟨_, he⟩, _⟩ := st; wpAny_pyIter_enum he h
theorem call_enumK {prog : Program} {w : World} {A : Around} {E : Value → Shared → Prop} {s : Shared} {c : Bool} {l : Addr} {items : Array Value} {Q : Value → Shared → Prop} (hL : IsSq s.heap c l items)
    (h : ∀ h', IsEnum h' (s.heap.objs.size + 1) s.heap.objs.size 0 .none → Itk h' c s.heap.objs.size l 0 → (∀ b o, s.heap.get? b = some o → h'.get? b = some o) → Q (.ref (s.heap.objs.size + 1)) { s with heap := h' }) :
    wpAny (model prog w) A (call (.type "enumerate") [.ref l]) Q E s := by
  have hz : (s.heap.push (zqI c l)).objs.size = s.heap.objs.size + 1 := Heap.size_push ..
  refine callType_new F.called_enumerate (by decide) (F.typeCall_enumerate_1 _) (F.newCall_enumerate_1 _) (fun obj => F.args_object_init_2 obj _) F.entry_enumerate_new (meets_enumK c l items) ⟨hL, ?_⟩
  have g := Heap.get?_push_size (s.heap.push (zqI c l)) (o := { cls := .type "enumerate", data := .fields #[.none, .bool false, .ref s.heap.objs.size, rawInt 0, .none, .none] }) rfl
  rw [hz] at g
  show _ ∧ _
  rw [hz]
  refine ⟨⟨_, g, rfl⟩, h _ g ?_ fun b o q => Heap.get?_push_of_some _ (Heap.get?_push_of_some _ q)⟩
  have e := Heap.get?_push_of_some { cls := .type "enumerate", data := .fields #[.none, .bool false, .ref s.heap.objs.size, rawInt 0, .none, .none] } (Heap.get?_push_size s.heap (o := zqI c l) rfl)
  cases c with
  | true => exact ⟨_, e, rfl, rfl⟩
  | false => exact ⟨_, e, rfl, rfl⟩
noncomputable def iEnumK (ta : TA) : TI := fun σ H R => ta σ H fun vs H1 => match vs with
  | [.ref a] => ∃ c xs, SqK H1 c a xs ∧ R (ItE c a) H1
  | _ => False
theorem pi_enumK {l : Expr} {ta : TA} {elts : List Expr} {k : Nat} {tp p pos : Pos} (hg : Gl X "enumerate") (hm : X.mg "enumerate" = none) (ha : PA X [l] ta) (hs : starEach [l] X.env = [(false, eval l X.env)] := by rfl) :
    PI X (.Tuple elts k tp) (.Call (.Name "enumerate" p) [l] [] pos) (iEnumK ta) := by
  intro pins s σ H R I h
  refine Call_ (ld_blt I hg hm boot_enumerate' (PyProof.Rows.callWith_type1 (thn (ha pos pins s σ H _ I h) fun us s1 ⟨vs, H1, I1, r1, q1⟩ => ?_) hs rfl))
  dsimp only at q1
  split at q1
  · rename_i a
    obtain ⟨c, xs, hx, q⟩ := q1
    obtain ⟨u, rfl, rx⟩ := vals1 r1
    cases rx
    obtain ⟨its, rv, pt⟩ := I1.sqK hx
    refine call_enumK pt fun h' he hit hk => ?_
    have I2 : Inv X pins σ H1 { s1 with heap := h' } := I1.kept (t' := s1.toks) hk
    refine wpAny_pyIter_enum (s := { s1 with heap := h' }) he ⟨s1.heap.objs.size + 1, [s1.heap.objs.size + 1, s1.heap.objs.size], _, _, H1, rfl, I2, turn_enumK (Nat.succ_ne_self _), ⟨⟨_, he⟩, hit⟩, fun b hb => ?_, q⟩
    have hb' : s1.heap.objs.size ≤ b := by
      rcases List.mem_cons.mp hb with rfl | hb
      · exact Nat.le_succ _
      · have : b = s1.heap.objs.size := by simpa using hb
        exact Nat.le_of_eq this.symm
    exact I1.fpOk hb' (I1.hok.fresh hb')
  · exact q1.elim
theorem zi_enumK {l : Expr} {ta : TA} {elts : List Expr} {k : Nat} {tp p pos : Pos} (hg : Gl X "enumerate") (hm : X.mg "enumerate" = none) (ha : ZA X [l] ta) (hs : starEach [l] X.env = [(false, eval l X.env)] := by rfl) :
    ZI X (.Tuple elts k tp) (.Call (.Name "enumerate" p) [l] [] pos) (iEnumK ta) := by with_unfolding_all exact pi_enumK hg hm ha hs
theorem for_enumK {c : Bool} {a : Addr} {xs : List V} {g : TG} {tb : TS} {D : Ends} {σ : St} {H : Hp} (Pv : Nat → St → Hp → Prop) (h0 : Pv 0 σ H) (hl : ∀ i σ H, i ≤ xs.length → Pv i σ H → SqK H c a xs)
    (hs : ∀ i x σ H p, xs[i]? = some x → Pv i σ H → H p = none → g (.ref p) σ (upd H p (.tup [.int i, x])) fun σ2 H2 => tb { D with nx := Pv (i + 1), ct := Pv (i + 1), bk := D.nx } σ2 H2) (hd : ∀ σ H, Pv xs.length σ H → D.nx σ H) :
    ∃ W : Nat → Nat → St → Hp → Prop, (∃ m, W 0 m σ H) ∧ ∀ i m σ H, W i m σ H →
      ((ItE c a).stop i H ∧ D.nx σ H) ∨ ((ItE c a).go i H ∧ ∃ N : St → Hp → Prop, (∀ σ' H', N σ' H' → ∃ m', m' < m ∧ W (i + 1) m' σ' H') ∧ ∀ x H', (ItE c a).yld i H x H' → g x σ H' fun σ2 H2 => tb { D with nx := N, ct := N, bk := D.nx } σ2 H2) := by
  refine ⟨fun i m σ H => m = xs.length - i ∧ i ≤ xs.length ∧ Pv i σ H, ⟨xs.length, by simp, Nat.zero_le _, h0⟩, ?_⟩
  rintro i m σ H ⟨rfl, hi, p⟩
  have q := hl i σ H hi p
  by_cases hlt : i < xs.length
  · refine .inr ⟨⟨xs, xs[i], q, by simp [hlt]⟩, Pv (i + 1), fun σ' H' p' => ⟨xs.length - (i + 1), by omega, rfl, hlt, p'⟩, fun x H' y => ?_⟩
    obtain ⟨pp, hn, rfl, hy⟩ := y
    obtain ⟨z, hz, rfl⟩ := hy xs q
    exact hs i z σ H pp hz p hn
  · have e : i = xs.length := by omega
    subst e
    exact .inl ⟨⟨xs, q, rfl⟩, hd σ H p⟩
end
end L2
set_option Elab.async false
set_option linter.all false
set_option maxRecDepth 100000
set_option maxHeartbeats 4000000
namespace SRV
open PySem
open PyProof.Rows hiding K SortedTo K_bubble K_mirror K_congr K_mirror_equal
class KV where
  sh : Shared
  kind : SortKind
  kv : Keyed → Int
  good : Keyed → Prop
  lt : ∀ {prog : Program} {w : World} {A : Around} {E : Value → Shared → Prop} {st : SortSt} {x y : Keyed} {Q : Option Bool → SortSt → Prop}, kindOf st = kind → good x → good y → Q (some (decide (kv x < kv y))) st → wpS (model prog w) A E sh (lt' x y) Q st
variable [KV]
noncomputable def kv (p : Keyed) : Int := KV.kv p
noncomputable def IsI (p : Keyed) : Prop := KV.good p
noncomputable def AllI (xs : Array Keyed) : Prop := ∀ p ∈ xs.toList, IsI p
noncomputable def K (xs : Array Keyed) (i : Nat) : Int := match xs[i]? with
  | some p => kv p
  | none => 0
noncomputable def SortedTo (xs : Array Keyed) (k : Nat) : Prop := ∀ i j, i ≤ j → j < k → K xs i ≤ K xs j
theorem K_congr {xs ys : Array Keyed} {i j : Nat} (h : xs[i]? = ys[j]?) : K xs i = K ys j := by unfold K; rw [h]
theorem K_bubble {xs : Array Keyed} {src d : Nat} (hs : src < xs.size) (hd : d ≤ src) (k : Nat) :
    K (bubble xs src d) k = if k = src - d then K xs src else if src - d < k ∧ k ≤ src then K xs (k - 1) else K xs k := by
  have e := getElem?_bubble hs d hd k
  by_cases h1 : k = src - d
  · rw [if_pos h1] at e ⊢; exact K_congr e
  · rw [if_neg h1] at e ⊢
    by_cases h2 : src - d < k ∧ k ≤ src
    · rw [if_pos h2] at e ⊢; exact K_congr e
    · rw [if_neg h2] at e ⊢; exact K_congr e
theorem K_mirror {xs : Array Keyed} {i j : Nat} (hj : j ≤ xs.size) (k : Nat) :
    K (mirror xs i j ((j - i) / 2)) k = if i ≤ k ∧ k < j then K xs (i + j - 1 - k) else K xs k := by
  have e := getElem?_mirror_all (i := i) hj k
  by_cases h1 : i ≤ k ∧ k < j
  · rw [if_pos h1] at e ⊢; exact K_congr e
  · rw [if_neg h1] at e ⊢; exact K_congr e
theorem K_mirror_equal {xs : Array Keyed} {i j : Nat} (hj : j ≤ xs.size) (heq : ∀ k, i ≤ k → k < j → K xs k = K xs (j - 1)) (k : Nat) :
    K (mirror xs i j ((j - i) / 2)) k = K xs k := by
  rw [K_mirror hj]
  split
  · rename_i h
    rw [heq k h.1 h.2, heq (i + j - 1 - k) (by omega) (by omega)]
  · rfl
section
variable {prog : Program} {w : World} {A : Around} {E : Value → Shared → Prop}
theorem s_lt {st : SortSt} {x y : Keyed} {Q : Option Bool → SortSt → Prop} (hk : kindOf st = KV.kind) (hx : IsI x) (hy : IsI y) (h : Q (some (decide (kv x < kv y))) st) : wpS (model prog w) A E KV.sh (lt' x y) Q st := KV.lt hk hx hy h
theorem s_elem {st : SortSt} {xs : Array Keyed} {i : Nat} {p : Keyed} {Q : Keyed → SortSt → Prop} (e : xs[i]? = some p) (h : Q p st) : wpS (model prog w) A E KV.sh (elem' xs i) Q st := by
  rw [elem'_eq, e]; exact wpS_pure h
noncomputable def gal : Bool → Keyed → Array Keyed → Nat → Nat → Nat → StateT SortSt Sem (Option Nat) := sortPriv% PySem.Builtin.gallop
theorem gal_eq (lf : Bool) (ky : Keyed) (ar : Array Keyed) (bs n ht : Nat) : gal lf ky ar bs n ht = (do
  let byd (i : Nat) : StateT SortSt Sem (Option Bool) := do
    let x ← elem' ar (bs + i)
    if lf then lt' x ky else return (← lt' ky x).map (!·)
  let mut la := 0
  let mut os := 1
  let mut lo := 0
  let mut hi := 0
  let some rt ← byd ht | return none
  if rt then
    let mo := n - ht
    for _ in [0:n] do
      if os ≥ mo then break
      let some mr ← byd (ht + os) | return none
      if !mr then break
      la := os
      os := 2 * os + 1
    lo := ht + la + 1
    hi := ht + min os mo
  else
    let mo := ht + 1
    for _ in [0:n] do
      if os ≥ mo then break
      let some fd ← byd (ht - os) | return none
      if fd then break
      la := os
      os := 2 * os + 1
    lo := ht + 1 - min os mo
    hi := ht - la
  for _ in [0:n] do
    if lo ≥ hi then break
    let m := lo + (hi - lo) / 2
    let some mr ← byd m | return none
    if mr then lo := m + 1 else hi := m
  return some hi) := rfl
noncomputable def Byd (lf : Bool) (ky : Keyed) (ar : Array Keyed) (bs i : Nat) : Bool := if lf then decide (K ar (bs + i) < kv ky) else !decide (kv ky < K ar (bs + i))
theorem K_of {ar : Array Keyed} {i : Nat} {p : Keyed} (e : ar[i]? = some p) : K ar i = kv p := by unfold K; rw [e]
theorem at_of {ar : Array Keyed} {i : Nat} (h : i < ar.size) (hI : AllI ar) : ∃ p, ar[i]? = some p ∧ IsI p := ⟨ar[i], getElem?_pos ar i h, hI _ (by simp)⟩
theorem s_byd {st : SortSt} {lf : Bool} {ky : Keyed} {ar : Array Keyed} {bs i : Nat} {Q : Option Bool → SortSt → Prop} (hk : kindOf st = KV.kind) (hI : AllI ar) (hy : IsI ky) (hi : bs + i < ar.size) (h : Q (some (Byd lf ky ar bs i)) st) :
    wpS (model prog w) A E KV.sh (do let x ← elem' ar (bs + i); if lf then lt' x ky else return (← lt' ky x).map (!·)) Q st := by
  obtain ⟨p, e, hp⟩ := at_of hi hI
  have hK := K_of e
  unfold Byd at h
  refine wpS_bind (s_elem e ?_)
  cases lf with
  | true =>
    simp only [if_true] at h ⊢
    rw [hK] at h
    exact s_lt hk hp hy h
  | false =>
    simp only [Bool.false_eq_true, if_false] at h ⊢
    rw [hK] at h
    exact wpS_bind (s_lt hk hy hp (wpS_pure h))
theorem s_gal {st : SortSt} {lf : Bool} {ky : Keyed} {ar : Array Keyed} {bs n ht c : Nat} {Q : Option Nat → SortSt → Prop} (hk : kindOf st = KV.kind) (hI : AllI ar) (hy : IsI ky) (hn : bs + n ≤ ar.size) (hh : ht < n) (hc : c ≤ n)
    (cut : ∀ i, i < n → Byd lf ky ar bs i = decide (i < c)) (h : Q (some c) st) : wpS (model prog w) A E KV.sh (gal lf ky ar bs n ht) Q st := by
  have byd : ∀ {i : Nat} {R : Option Bool → SortSt → Prop}, i < n → R (some (decide (i < c))) st → wpS (model prog w) A E KV.sh (do let x ← elem' ar (bs + i); if lf then lt' x ky else return (← lt' ky x).map (!·)) R st := fun {i R} hi hR =>
    s_byd hk hI hy (by omega) (by rw [cut i hi]; exact hR)
  rw [gal_eq]
  dsimp only
  refine wpS_bind (byd hh ?_)
  by_cases hr : ht < c
  · simp only [hr, decide_true, if_true]
    refine wpS_bind (wpS_mono (wpS_forRange (I := fun x r st' => st = st' ∧ ∃ l o, r = (none, l, o) ∧ ht + l < c ∧ l < o ∧ x + 1 ≤ o) (Q := fun r st' => st = st' ∧ ∃ l o, r = (none, l, o) ∧ ht + l < c ∧ l < o ∧ c ≤ ht + min o (n - ht)) ?_ ?_ ⟨rfl, 0, 1, rfl, by omega, by omega, by omega⟩) ?_)
    · rintro x r st' _ hx ⟨rfl, l, o, rfl, g1, g2, g3⟩
      dsimp only
      by_cases hge : o ≥ n - ht
      · rw [if_pos hge]
        exact wpS_pure ⟨rfl, l, o, rfl, g1, g2, by omega⟩
      · rw [if_neg hge]
        refine wpS_bind (byd (by omega) ?_)
        by_cases hm : ht + o < c
        · simp only [hm, decide_true, Bool.not_true, Bool.false_eq_true, if_false]
          exact wpS_pure ⟨rfl, _, _, rfl, hm, by omega, by omega⟩
        · simp only [hm, decide_false, Bool.not_false, if_true]
          exact wpS_pure ⟨rfl, l, o, rfl, g1, g2, by omega⟩
    · rintro r st' ⟨rfl, l, o, rfl, g1, g2, g3⟩
      exact ⟨rfl, l, o, rfl, g1, g2, by omega⟩
    · rintro r st' ⟨rfl, l, o, rfl, g1, g2, g3⟩
      dsimp only
      refine wpS_bind (wpS_mono (wpS_forRange (I := fun x r st' => st = st' ∧ ∃ l u, r = (none, l, u) ∧ l ≤ c ∧ c ≤ u ∧ u ≤ n ∧ u - l ≤ n - x) (Q := fun r st' => st = st' ∧ ∃ l, r = (none, l, c)) ?_ ?_ ⟨rfl, (ht + l + 1), (ht + min o (n - ht)), rfl, (by omega), g3, (by omega), by omega⟩) ?_)
      · rintro x r st' _ hx ⟨rfl, l, u, rfl, g1, g2, g3, g4⟩
        dsimp only
        by_cases hge : l ≥ u
        · rw [if_pos hge]
          have : u = c := by omega
          subst this
          exact wpS_pure ⟨rfl, l, rfl⟩
        · rw [if_neg hge]
          refine wpS_bind (byd (by omega) ?_)
          by_cases hm : l + (u - l) / 2 < c
          · simp only [hm, decide_true, if_true]
            exact wpS_pure ⟨rfl, _, _, rfl, by omega, g2, g3, by omega⟩
          · simp only [hm, decide_false, Bool.false_eq_true, if_false]
            exact wpS_pure ⟨rfl, _, _, rfl, g1, by omega, by omega, by omega⟩
      · rintro r st' ⟨rfl, l, u, rfl, g1, g2, g3, g4⟩
        have : u = c := by
          have : max 0 n = n := by omega
          omega
        subst this
        exact ⟨rfl, l, rfl⟩
      · rintro r st' ⟨rfl, l, rfl⟩
        exact wpS_pure h
  · simp only [hr, decide_false, Bool.false_eq_true, if_false]
    refine wpS_bind (wpS_mono (wpS_forRange (I := fun x r st' => st = st' ∧ ∃ l o, r = (none, l, o) ∧ c ≤ ht - l ∧ l ≤ ht ∧ l < o ∧ x + 1 ≤ o) (Q := fun r st' => st = st' ∧ ∃ l o, r = (none, l, o) ∧ c ≤ ht - l ∧ l ≤ ht ∧ l < o ∧ ht + 1 - min o (ht + 1) ≤ c) ?_ ?_ ⟨rfl, 0, 1, rfl, by omega, by omega, by omega, by omega⟩) ?_)
    · rintro x r st' _ hx ⟨rfl, l, o, rfl, g1, g0, g2, g3⟩
      dsimp only
      by_cases hge : o ≥ ht + 1
      · rw [if_pos hge]
        exact wpS_pure ⟨rfl, l, o, rfl, g1, g0, g2, by omega⟩
      · rw [if_neg hge]
        refine wpS_bind (byd (by omega) ?_)
        by_cases hm : ht - o < c
        · simp only [hm, decide_true, if_true]
          exact wpS_pure ⟨rfl, l, o, rfl, g1, g0, g2, by omega⟩
        · simp only [hm, decide_false, Bool.false_eq_true, if_false]
          exact wpS_pure ⟨rfl, _, _, rfl, by omega, by omega, by omega, by omega⟩
    · rintro r st' ⟨rfl, l, o, rfl, g1, g0, g2, g3⟩
      exact ⟨rfl, l, o, rfl, g1, g0, g2, by omega⟩
    · rintro r st' ⟨rfl, l, o, rfl, g1, g0, g2, g3⟩
      dsimp only
      refine wpS_bind (wpS_mono (wpS_forRange (I := fun x r st' => st = st' ∧ ∃ l u, r = (none, l, u) ∧ l ≤ c ∧ c ≤ u ∧ u ≤ n ∧ u - l ≤ n - x) (Q := fun r st' => st = st' ∧ ∃ l, r = (none, l, c)) ?_ ?_ ⟨rfl, (ht + 1 - min o (ht + 1)), (ht - l), rfl, g3, g1, (by omega), by omega⟩) ?_)
      · rintro x r st' _ hx ⟨rfl, l, u, rfl, g1, g2, g3, g4⟩
        dsimp only
        by_cases hge : l ≥ u
        · rw [if_pos hge]
          have : u = c := by omega
          subst this
          exact wpS_pure ⟨rfl, l, rfl⟩
        · rw [if_neg hge]
          refine wpS_bind (byd (by omega) ?_)
          by_cases hm : l + (u - l) / 2 < c
          · simp only [hm, decide_true, if_true]
            exact wpS_pure ⟨rfl, _, _, rfl, by omega, g2, g3, by omega⟩
          · simp only [hm, decide_false, Bool.false_eq_true, if_false]
            exact wpS_pure ⟨rfl, _, _, rfl, g1, by omega, by omega, by omega⟩
      · rintro r st' ⟨rfl, l, u, rfl, g1, g2, g3, g4⟩
        have : u = c := by
          have : max 0 n = n := by omega
          omega
        subst this
        exact ⟨rfl, l, rfl⟩
      · rintro r st' ⟨rfl, l, rfl⟩
        exact wpS_pure h
end
end SRV
set_option Elab.async false
set_option linter.all false
set_option maxRecDepth 100000
set_option maxHeartbeats 4000000
namespace SRV
open PySem
open PyProof.Rows hiding K SortedTo K_bubble K_mirror K_congr K_mirror_equal
variable [KV]
noncomputable def Le (x y : Keyed) : Prop := kv x ≤ kv y
structure MI (A B : List Keyed) (o : List Keyed) (ia ib : Nat) : Prop where
  perm : o.Perm (A.take ia ++ B.take ib)
  srt : o.Pairwise Le
  lea : ∀ x ∈ o, ∀ y ∈ A.drop ia, kv x ≤ kv y
  leb : ∀ x ∈ o, ∀ y ∈ B.drop ib, kv x ≤ kv y
structure Mer (A B : List Keyed) (o : List Keyed) : Prop where
  perm : o.Perm (A ++ B)
  srt : o.Pairwise Le
theorem pw_drop {l : List Keyed} (h : l.Pairwise Le) {i : Nat} (hi : i < l.length) : ∀ y ∈ l.drop (i + 1), kv l[i] ≤ kv y := by
  have e : l.drop i = l[i] :: l.drop (i + 1) := List.drop_eq_getElem_cons hi
  have h2 : (l.drop i).Pairwise Le := h.sublist (List.drop_sublist i l)
  rw [e] at h2
  exact (List.pairwise_cons.mp h2).1
theorem mem_drop_succ {l : List Keyed} {i : Nat} {y : Keyed} (h : y ∈ l.drop (i + 1)) : y ∈ l.drop i := by
  rw [← List.drop_drop] at h
  exact List.mem_of_mem_drop h
theorem MI.pushB {A B o : List Keyed} {ia ib : Nat} (m : MI A B o ia ib) (hB : B.Pairwise Le) (hi : ib < B.length) (h : ∀ z ∈ A.drop ia, kv B[ib] ≤ kv z) : MI A B (o ++ [B[ib]]) ia (ib + 1) := by
  have hm : B[ib] ∈ B.drop ib := by rw [List.drop_eq_getElem_cons hi]; exact List.mem_cons_self
  refine ⟨?_, ?_, fun x hx y hy => ?_, fun x hx y hy => ?_⟩
  · have e : B.take (ib + 1) = B.take ib ++ [B[ib]] := by rw [List.take_succ, List.getElem?_eq_getElem hi]; rfl
    rw [e, ← List.append_assoc]
    exact m.perm.append_right _
  · refine List.pairwise_append.mpr ⟨m.srt, List.pairwise_singleton _ _, fun x hx y hy => ?_⟩
    rw [List.mem_singleton.mp hy]
    exact m.leb x hx _ hm
  · rcases List.mem_append.mp hx with hx | hx
    · exact m.lea x hx y hy
    · rw [List.mem_singleton.mp hx]; exact h y hy
  · rcases List.mem_append.mp hx with hx | hx
    · exact m.leb x hx y (mem_drop_succ hy)
    · rw [List.mem_singleton.mp hx]; exact pw_drop hB hi y hy
theorem MI.pushA {A B o : List Keyed} {ia ib : Nat} (m : MI A B o ia ib) (hA : A.Pairwise Le) (hi : ia < A.length) (h : ∀ z ∈ B.drop ib, kv A[ia] ≤ kv z) : MI A B (o ++ [A[ia]]) (ia + 1) ib := by
  have hm : A[ia] ∈ A.drop ia := by rw [List.drop_eq_getElem_cons hi]; exact List.mem_cons_self
  refine ⟨?_, ?_, fun x hx y hy => ?_, fun x hx y hy => ?_⟩
  · have e : A.take (ia + 1) = A.take ia ++ [A[ia]] := by rw [List.take_succ, List.getElem?_eq_getElem hi]; rfl
    rw [e, List.append_assoc]
    refine (m.perm.append_right _).trans ?_
    rw [List.append_assoc]
    exact List.Perm.append_left _ List.perm_append_comm
  · refine List.pairwise_append.mpr ⟨m.srt, List.pairwise_singleton _ _, fun x hx y hy => ?_⟩
    rw [List.mem_singleton.mp hy]
    exact m.lea x hx _ hm
  · rcases List.mem_append.mp hx with hx | hx
    · exact m.lea x hx y (mem_drop_succ hy)
    · rw [List.mem_singleton.mp hx]; exact pw_drop hA hi y hy
  · rcases List.mem_append.mp hx with hx | hx
    · exact m.leb x hx y hy
    · rw [List.mem_singleton.mp hx]; exact h y hy
theorem MI.extA {A B o : List Keyed} {ia ib : Nat} (m : MI A B o ia ib) (hA : A.Pairwise Le) : ∀ (k : Nat), ia + k ≤ A.length → (∀ i (hi : ia + i < A.length), i < k → ∀ z ∈ B.drop ib, kv A[ia + i] ≤ kv z) → MI A B (o ++ (A.drop ia).take k) (ia + k) ib
  | 0, _, _ => by rw [List.take_zero, List.append_nil]; exact m
  | k + 1, hk, h => by
    have ih := MI.extA m hA k (by omega) fun i hi hik => h i hi (by omega)
    have hi : ia + k < A.length := by omega
    have e : (A.drop ia).take (k + 1) = (A.drop ia).take k ++ [A[ia + k]] := by rw [List.take_succ, List.getElem?_drop, List.getElem?_eq_getElem hi]; rfl
    rw [e, ← List.append_assoc]
    exact ih.pushA hA hi (h k hi (by omega))
theorem MI.extB {A B o : List Keyed} {ia ib : Nat} (m : MI A B o ia ib) (hB : B.Pairwise Le) : ∀ (k : Nat), ib + k ≤ B.length → (∀ i (hi : ib + i < B.length), i < k → ∀ z ∈ A.drop ia, kv B[ib + i] ≤ kv z) → MI A B (o ++ (B.drop ib).take k) ia (ib + k)
  | 0, _, _ => by rw [List.take_zero, List.append_nil]; exact m
  | k + 1, hk, h => by
    have ih := MI.extB m hB k (by omega) fun i hi hik => h i hi (by omega)
    have hi : ib + k < B.length := by omega
    have e : (B.drop ib).take (k + 1) = (B.drop ib).take k ++ [B[ib + k]] := by rw [List.take_succ, List.getElem?_drop, List.getElem?_eq_getElem hi]; rfl
    rw [e, ← List.append_assoc]
    exact ih.pushB hB hi (h k hi (by omega))
theorem perm_mid (a b c d : List Keyed) : (a ++ b ++ (c ++ d)).Perm (a ++ c ++ (b ++ d)) := by
  rw [List.append_assoc, List.append_assoc]
  refine List.Perm.append_left a ?_
  rw [← List.append_assoc, ← List.append_assoc]
  exact List.Perm.append_right d List.perm_append_comm
theorem MI.finAB {A B o : List Keyed} {ia ib : Nat} (m : MI A B o ia ib) (hA : A.Pairwise Le) (hB : B.Pairwise Le) (h : ∀ x ∈ A.drop ia, ∀ y ∈ B.drop ib, kv x ≤ kv y) : Mer A B (o ++ A.drop ia ++ B.drop ib) := by
  refine ⟨?_, ?_⟩
  · have e := (m.perm.append_right (A.drop ia ++ B.drop ib)).trans (perm_mid (A.take ia) (B.take ib) (A.drop ia) (B.drop ib))
    rw [List.take_append_drop, List.take_append_drop] at e
    rw [List.append_assoc]; exact e
  · refine List.pairwise_append.mpr ⟨List.pairwise_append.mpr ⟨m.srt, hA.sublist (List.drop_sublist _ _), fun x hx y hy => m.lea x hx y hy⟩, hB.sublist (List.drop_sublist _ _), fun x hx y hy => ?_⟩
    rcases List.mem_append.mp hx with hx | hx
    · exact m.leb x hx y hy
    · exact h x hx y hy
theorem MI.finBA {A B o : List Keyed} {ia ib : Nat} (m : MI A B o ia ib) (hA : A.Pairwise Le) (hB : B.Pairwise Le) (h : ∀ x ∈ A.drop ia, ∀ y ∈ B.drop ib, kv y ≤ kv x) : Mer A B (o ++ B.drop ib ++ A.drop ia) := by
  refine ⟨?_, ?_⟩
  · have e := (m.perm.append_right (A.drop ia ++ B.drop ib)).trans (perm_mid (A.take ia) (B.take ib) (A.drop ia) (B.drop ib))
    rw [List.take_append_drop, List.take_append_drop] at e
    rw [List.append_assoc]
    exact (List.Perm.append_left o List.perm_append_comm).trans e
  · refine List.pairwise_append.mpr ⟨List.pairwise_append.mpr ⟨m.srt, hB.sublist (List.drop_sublist _ _), fun x hx y hy => m.leb x hx y hy⟩, hA.sublist (List.drop_sublist _ _), fun x hx y hy => ?_⟩
    rcases List.mem_append.mp hx with hx | hx
    · exact m.lea x hx y hy
    · exact h y hy x hx
noncomputable def mlo : Array Keyed → Array Keyed → StateT SortSt Sem (Array Keyed) := sortPriv% PySem.Builtin.mergeLo
noncomputable def setG : Nat → StateT SortSt Sem Unit := sortPriv% PySem.Builtin.setMinGallop
theorem setG_eq (g : Nat) : setG g = modify fun z => SortSt.mk' (kindOf z) (arrOf z) (pendingOf z) g (failedOf z) := rfl
theorem mlo_eq (xa xb : Array Keyed) : mlo xa xb = (do
  rule "list.sort.merge-lo"
  let tot := xa.size + xb.size
  let dn (ou : Array Keyed) (i j : Nat) := ou ++ xa.extract i xa.size ++ xb.extract j xb.size
  let la (ou : Array Keyed) (i j : Nat) := ou ++ xb.extract j xb.size ++ xa.extract i xa.size
  let mut ou : Array Keyed := #[← elem' xb 0]
  let mut i := 0
  let mut j := 1
  if j == xb.size then return dn ou i j
  if i + 1 == xa.size then return la ou i j
  let mut mg := gallopOf (← get)
  for _ in [0:tot] do
    let mut ac := 0
    let mut bc := 0
    for _ in [0:tot] do
      let some bw ← lt' (← elem' xb j) (← elem' xa i) | return dn ou i j
      if bw then
        ou := ou.push (← elem' xb j); j := j + 1; bc := bc + 1; ac := 0
        if j == xb.size then return dn ou i j
        if bc ≥ mg then break
      else
        ou := ou.push (← elem' xa i); i := i + 1; ac := ac + 1; bc := 0
        if i + 1 == xa.size then return la ou i j
        if ac ≥ mg then break
    rule "list.sort.gallop"
    mg := mg + 1
    for _ in [0:tot] do
      if mg > 1 then mg := mg - 1
      setG mg
      let some k ← gal false (← elem' xb j) xa i (xa.size - i) 0 | return dn ou i j
      ac := k
      if k > 0 then
        ou := ou ++ xa.extract i (i + k); i := i + k
        if i + 1 == xa.size then return la ou i j
        if i == xa.size then return dn ou i j
      ou := ou.push (← elem' xb j); j := j + 1
      if j == xb.size then return dn ou i j
      let some k ← gal true (← elem' xa i) xb j (xb.size - j) 0 | return dn ou i j
      bc := k
      if k > 0 then
        ou := ou ++ xb.extract j (j + k); j := j + k
        if j == xb.size then return dn ou i j
      ou := ou.push (← elem' xa i); i := i + 1
      if i + 1 == xa.size then return la ou i j
      if ac < 7 && bc < 7 then break
    mg := mg + 1
    setG mg
  unsupported "internal:list.sort.merge-bound") := rfl
end SRV
set_option Elab.async false
set_option linter.all false
set_option maxRecDepth 100000
set_option maxHeartbeats 4000000
namespace SRV
open PySem
open PyProof.Rows hiding K SortedTo K_bubble K_mirror K_congr K_mirror_equal
variable [KV]
structure SameSt (a b : SortSt) : Prop where
  kind : kindOf b = kindOf a
  arr : arrOf b = arrOf a
  pend : pendingOf b = pendingOf a
  fail : failedOf b = failedOf a
theorem SameSt.refl (a : SortSt) : SameSt a a := ⟨rfl, rfl, rfl, rfl⟩
theorem SameSt.setG {a b : SortSt} (h : SameSt a b) (g : Nat) : SameSt a (SortSt.mk' (kindOf b) (arrOf b) (pendingOf b) g (failedOf b)) := ⟨h.kind, h.arr, h.pend, h.fail⟩
theorem toL_end (o x y : Array Keyed) (i j : Nat) : (o ++ x.extract i x.size ++ y.extract j y.size).toList = o.toList ++ x.toList.drop i ++ y.toList.drop j := by
  have e : ∀ (z : Array Keyed) (k : Nat), (z.extract k z.size).toList = z.toList.drop k := fun z k => by
    rw [Array.toList_extract, List.extract_eq_drop_take, List.take_of_length_le]
    rw [List.length_drop, Array.length_toList]
    exact Nat.le_refl _
  rw [Array.toList_append, Array.toList_append, e, e]
theorem toL_ext (o x : Array Keyed) (i k : Nat) : (o ++ x.extract i (i + k)).toList = o.toList ++ (x.toList.drop i).take k := by
  rw [Array.toList_append, Array.toList_extract, List.extract_eq_drop_take, Nat.add_sub_cancel_left]
section
variable {A B : List Keyed} {o : List Keyed} {ia ib : Nat}
theorem drop_len {l : List Keyed} {i : Nat} (h : i = l.length) : l.drop i = [] := List.drop_of_length_le (by omega)
theorem one_left {l : List Keyed} {i : Nat} (h : i + 1 = l.length) : ∀ x ∈ l.drop i, kv x = kv (l[l.length - 1]'(by omega)) := fun x hx => by
  have e : l.drop i = l[i] :: l.drop (i + 1) := List.drop_eq_getElem_cons (by omega)
  rw [e, drop_len h] at hx
  have : x = l[i] := by simpa using hx
  subst this
  congr 2
  omega
end
section
variable {prog : Program} {w : World} {A : Around} {E : Value → Shared → Prop}
theorem s_elemL {st : SortSt} {xs : Array Keyed} {i : Nat} {Q : Keyed → SortSt → Prop} (hi : i < xs.toList.length) (h : Q xs.toList[i] st) : wpS (model prog w) A E KV.sh (elem' xs i) Q st :=
  s_elem (by rw [← Array.getElem?_toList, List.getElem?_eq_getElem hi]) h
theorem s_setG {st : SortSt} {g : Nat} {Q : Unit → SortSt → Prop} (h : Q () (SortSt.mk' (kindOf st) (arrOf st) (pendingOf st) g (failedOf st))) : wpS (model prog w) A E KV.sh (setG g) Q st := by
  rw [setG_eq]; exact wpS_modify h
theorem cut_of {xs : Array Keyed} (hs : xs.toList.Pairwise Le) (ky : Keyed) (lf : Bool) (bs n : Nat) (hn : bs + n ≤ xs.size) : ∃ c, c ≤ n ∧ ∀ i, i < n → Byd lf ky xs bs i = decide (i < c) := by
  have mono : ∀ i j, i ≤ j → bs + j < xs.size → K xs (bs + i) ≤ K xs (bs + j) := fun i j hij hj => by
    have e1 : xs[bs + i]? = some (xs.toList[bs + i]'(by rw [Array.length_toList]; omega)) := by rw [← Array.getElem?_toList, List.getElem?_eq_getElem]
    have e2 : xs[bs + j]? = some (xs.toList[bs + j]'(by rw [Array.length_toList]; omega)) := by rw [← Array.getElem?_toList, List.getElem?_eq_getElem]
    rw [K_of e1, K_of e2]
    by_cases h : i = j
    · subst h; exact Int.le_refl _
    · exact List.pairwise_iff_getElem.mp hs _ _ _ _ (by omega)
  have down : ∀ i j, i ≤ j → j < n → Byd lf ky xs bs j = true → Byd lf ky xs bs i = true := fun i j hij hj h => by
    have := mono i j hij (by omega)
    unfold Byd at h ⊢
    cases lf with
    | true => simp only [if_true, decide_eq_true_eq] at h ⊢; omega
    | false => simp only [Bool.false_eq_true, if_false, Bool.not_eq_true', decide_eq_false_iff_not] at h ⊢; omega
  induction n with
  | zero => exact ⟨0, Nat.le_refl _, fun i hi => absurd hi (Nat.not_lt_zero _)⟩
  | succ n ih =>
    obtain ⟨c, hc, hd⟩ := ih (by omega) (fun i j hij hj h => down i j hij (by omega) h)
    by_cases hb : Byd lf ky xs bs n = true
    · refine ⟨n + 1, Nat.le_refl _, fun i hi => ?_⟩
      rw [decide_eq_true hi]
      exact down i n (by omega) (by omega) hb
    · refine ⟨c, by omega, fun i hi => ?_⟩
      by_cases h : i = n
      · subst h
        rw [decide_eq_false (by omega)]
        exact Bool.not_eq_true _ ▸ (by simpa using hb)
      · exact hd i (by omega)
theorem K_at {xs : Array Keyed} {i : Nat} (hi : i < xs.toList.length) : K xs i = kv xs.toList[i] := K_of (by rw [← Array.getElem?_toList, List.getElem?_eq_getElem hi])
end
end SRV
set_option Elab.async false
set_option linter.all false
set_option maxRecDepth 100000
set_option maxHeartbeats 4000000
namespace SRV
open PySem
open PyProof.Rows hiding K SortedTo K_bubble K_mirror K_congr K_mirror_equal
variable [KV]
theorem mem_dropE {l : List Keyed} {k : Nat} {z : Keyed} (h : z ∈ l.drop k) : ∃ u, ∃ h : k + u < l.length, z = l[k + u] := by
  obtain ⟨u, hu, rfl⟩ := List.mem_iff_getElem.mp h
  rw [List.length_drop] at hu
  exact ⟨u, by omega, by rw [List.getElem_drop]⟩
theorem head_le {l : List Keyed} (h : l.Pairwise Le) {i : Nat} (hi : i < l.length) : ∀ z ∈ l.drop i, kv l[i] ≤ kv z := fun z hz => by
  rw [List.drop_eq_getElem_cons hi] at hz
  rcases List.mem_cons.mp hz with rfl | hz
  · exact Int.le_refl _
  · exact pw_drop h hi z hz
theorem gfalse {xs : Array Keyed} {ky : Keyed} {bs n c : Nat} (hn : bs + n = xs.toList.length) (cut : ∀ i, i < n → Byd false ky xs bs i = decide (i < c)) :
    (∀ t (h : bs + t < xs.toList.length), t < c → kv xs.toList[bs + t] ≤ kv ky) ∧ (∀ z ∈ xs.toList.drop (bs + c), kv ky < kv z) := by
  constructor
  · intro t h ht
    have := cut t (by omega)
    rw [decide_eq_true ht] at this
    unfold Byd at this
    rw [K_at h] at this
    simp only [Bool.false_eq_true, if_false, Bool.not_eq_true', decide_eq_false_iff_not] at this
    omega
  · intro z hz
    obtain ⟨u, hu, rfl⟩ := mem_dropE hz
    have := cut (c + u) (by omega)
    rw [decide_eq_false (by omega)] at this
    unfold Byd at this
    have e : bs + (c + u) = bs + c + u := by omega
    rw [e, K_at hu] at this
    simpa using this
theorem gtrue {xs : Array Keyed} {ky : Keyed} {bs n c : Nat} (hn : bs + n = xs.toList.length) (cut : ∀ i, i < n → Byd true ky xs bs i = decide (i < c)) :
    (∀ t (h : bs + t < xs.toList.length), t < c → kv xs.toList[bs + t] < kv ky) ∧ (∀ z ∈ xs.toList.drop (bs + c), kv ky ≤ kv z) := by
  constructor
  · intro t h ht
    have := cut t (by omega)
    rw [decide_eq_true ht] at this
    unfold Byd at this
    rw [K_at h] at this
    simpa using this
  · intro z hz
    obtain ⟨u, hu, rfl⟩ := mem_dropE hz
    have := cut (c + u) (by omega)
    rw [decide_eq_false (by omega)] at this
    unfold Byd at this
    have e : bs + (c + u) = bs + c + u := by omega
    rw [e, K_at hu] at this
    simpa using this
theorem MI.start {A B : List Keyed} (hB : B.Pairwise Le) (hb : 0 < B.length) (h0 : ∀ z ∈ A, kv B[0] ≤ kv z) : MI A B [B[0]] 0 1 := by
  have m : MI A B [] 0 0 := ⟨by simp, List.Pairwise.nil, fun x hx => (nomatch hx), fun x hx => (nomatch hx)⟩
  exact m.pushB hB hb fun z hz => h0 z (by simpa using hz)
theorem MI.doneB {xa xb ou : Array Keyed} {i j : Nat} (m : MI xa.toList xb.toList ou.toList i j) (hA : xa.toList.Pairwise Le) (hB : xb.toList.Pairwise Le) (h : j = xb.toList.length) : Mer xa.toList xb.toList (ou ++ xa.extract i xa.size ++ xb.extract j xb.size).toList := by
  rw [toL_end]
  exact m.finAB hA hB fun x _ y hy => by rw [drop_len h] at hy; cases hy
theorem MI.doneA {xa xb ou : Array Keyed} {i j : Nat} (m : MI xa.toList xb.toList ou.toList i j) (hA : xa.toList.Pairwise Le) (hB : xb.toList.Pairwise Le) (h : i = xa.toList.length) : Mer xa.toList xb.toList (ou ++ xa.extract i xa.size ++ xb.extract j xb.size).toList := by
  rw [toL_end]
  exact m.finAB hA hB fun x hx y _ => by rw [drop_len h] at hx; cases hx
theorem MI.last {xa xb ou : Array Keyed} {i j : Nat} (m : MI xa.toList xb.toList ou.toList i j) (hA : xa.toList.Pairwise Le) (hB : xb.toList.Pairwise Le) (h : i + 1 = xa.toList.length) (hl : ∀ z ∈ xb.toList, kv z ≤ kv (xa.toList[xa.toList.length - 1]'(by omega))) : Mer xa.toList xb.toList (ou ++ xb.extract j xb.size ++ xa.extract i xa.size).toList := by
  rw [toL_end]
  exact m.finBA hA hB fun x hx y hy => by rw [one_left h x hx]; exact hl y (List.mem_of_mem_drop hy)
section
variable {prog : Program} {w : World} {A : Around} {E : Value → Shared → Prop}
theorem s_mlo {st : SortSt} {xa xb : Array Keyed} {Q : Array Keyed → SortSt → Prop} (hk : kindOf st = KV.kind) (hIa : AllI xa) (hIb : AllI xb) (hA : xa.toList.Pairwise Le) (hB : xb.toList.Pairwise Le) (ha : 0 < xa.toList.length) (hb : 0 < xb.toList.length)
    (h0 : ∀ z ∈ xa.toList, kv (xb.toList[0]) ≤ kv z) (hl : ∀ z ∈ xb.toList, kv z ≤ kv (xa.toList[xa.toList.length - 1]'(by omega)))
    (h : ∀ o st', SameSt st st' → Mer xa.toList xb.toList o.toList → Q o st') : wpS (model prog w) A E KV.sh (mlo xa xb) Q st := by
  have hsa : xa.size = xa.toList.length := (Array.length_toList ..).symm
  have hsb : xb.size = xb.toList.length := (Array.length_toList ..).symm
  rw [mlo_eq]
  refine wpS_bind (wpS_lift (wpAny_rule ⟨rfl, ?_⟩))
  dsimp only
  refine wpS_bind (s_elemL hb ?_)
  have m0 : MI xa.toList xb.toList (#[xb.toList[0]] : Array Keyed).toList 0 1 := MI.start hB hb h0
  by_cases c1 : 1 = xb.size
  · rw [if_pos (by simpa using c1)]
    exact wpS_pure (h _ _ (SameSt.refl _) (m0.doneB hA hB (by omega)))
  rw [if_neg (by simpa using c1)]
  by_cases c2 : 0 + 1 = xa.size
  · rw [if_pos (by simpa using c2)]
    exact wpS_pure (h _ _ (SameSt.refl _) (m0.last hA hB (by omega) hl))
  rw [if_neg (by simpa using c2)]
  refine wpS_bind (wpS_get ?_)
  refine wpS_bind (wpS_mono (wpS_forRange (I := fun x c st' => SameSt st st' ∧ ∃ ou i j mg, c = (none, ou, i, j, mg) ∧ MI xa.toList xb.toList ou.toList i j ∧ i + 1 < xa.size ∧ j < xb.toList.length ∧ x + 1 ≤ i + j) (Q := fun c st' => SameSt st st' ∧ ∃ res rest, c = (some res, rest) ∧ Mer xa.toList xb.toList res.toList) ?step ?fin ⟨SameSt.refl _, _, _, _, _, rfl, m0, by omega, by omega, by omega⟩) ?post)
  case post =>
    rintro c st' ⟨sm, res, rest, rfl, me⟩
    exact wpS_pure (h _ _ sm me)
  case fin =>
    rintro c st' ⟨sm, ou, i, j, mg, rfl, m, hi, hj, hx⟩
    exfalso
    omega
  case step =>
    rintro x c st1 _ hx ⟨sm, ou, i, j, mg, rfl, m, hi, hj, hx2⟩
    dsimp only
    refine wpS_bind (wpS_mono (wpS_forRange (I := fun y c st' => SameSt st st' ∧ ∃ ou i j ac bc, c = (none, ou, i, j, ac, bc) ∧ MI xa.toList xb.toList ou.toList i j ∧ i + 1 < xa.size ∧ j < xb.toList.length ∧ x + 1 + min y 1 ≤ i + j)
      (Q := fun c st' => SameSt st st' ∧ ((∃ res rest, c = (some res, rest) ∧ Mer xa.toList xb.toList res.toList) ∨ ∃ ou i j ac bc, c = (none, ou, i, j, ac, bc) ∧ MI xa.toList xb.toList ou.toList i j ∧ i + 1 < xa.size ∧ j < xb.toList.length ∧ x + 2 ≤ i + j)) ?s1 ?f1 ⟨sm, _, _, _, _, _, rfl, m, hi, hj, by omega⟩) ?p1)
    case f1 =>
      rintro c st2 ⟨sm2, ou, i, j, ac, bc, rfl, m, hi, hj, hx3⟩
      exact ⟨sm2, .inr ⟨_, _, _, _, _, rfl, m, hi, hj, by omega⟩⟩
    case s1 =>
      rintro y c st2 _ hy ⟨sm2, ou, i, j, ac, bc, rfl, m, hi, hj, hx3⟩
      dsimp only
      refine wpS_bind (s_elemL hj (wpS_bind (s_elemL (i := i) (by omega) ?_)))
      refine wpS_bind (s_lt (sm2.kind.trans hk) (hIb _ (List.getElem_mem _)) (hIa _ (List.getElem_mem _)) ?_)
      by_cases bw : kv xb.toList[j] < kv (xa.toList[i]'(by omega))
      · simp only [bw, decide_true, if_true]
        refine wpS_bind (s_elemL hj ?_)
        have m2 : MI xa.toList xb.toList (ou.push xb.toList[j]).toList i (j + 1) := by
          rw [Array.toList_push]
          exact m.pushB hB hj fun z hz => Int.le_trans (Int.le_of_lt bw) (head_le hA (by omega) z hz)
        by_cases e1 : j + 1 = xb.size
        · rw [if_pos (by simpa using e1)]
          exact wpS_pure ⟨sm2, .inl ⟨_, _, rfl, m2.doneB hA hB (by omega)⟩⟩
        · rw [if_neg (by simpa using e1)]
          split
          · exact wpS_pure ⟨sm2, .inr ⟨_, _, _, _, _, rfl, m2, hi, by omega, by omega⟩⟩
          · exact wpS_pure ⟨sm2, _, _, _, _, _, rfl, m2, hi, by omega, by omega⟩
      · simp only [bw, decide_false, Bool.false_eq_true, if_false]
        refine wpS_bind (s_elemL (i := i) (by omega) ?_)
        have m2 : MI xa.toList xb.toList (ou.push (xa.toList[i]'(by omega))).toList (i + 1) j := by
          rw [Array.toList_push]
          exact m.pushA hA (by omega) fun z hz => Int.le_trans (Int.not_lt.mp bw) (head_le hB hj z hz)
        by_cases e1 : i + 1 + 1 = xa.size
        · rw [if_pos (by simpa using e1)]
          exact wpS_pure ⟨sm2, .inl ⟨_, _, rfl, m2.last hA hB (by omega) hl⟩⟩
        · rw [if_neg (by simpa using e1)]
          split
          · exact wpS_pure ⟨sm2, .inr ⟨_, _, _, _, _, rfl, m2, by omega, hj, by omega⟩⟩
          · exact wpS_pure ⟨sm2, _, _, _, _, _, rfl, m2, by omega, hj, by omega⟩
    case p1 =>
      rintro c st2 ⟨sm2, ⟨res, rest, rfl, me⟩ | ⟨ou, i, j, ac, bc, rfl, m, hi, hj, hx3⟩⟩
      · exact wpS_pure ⟨sm2, _, _, rfl, me⟩
      dsimp only
      refine wpS_bind (wpS_lift (wpAny_rule ⟨rfl, ?_⟩))
      refine wpS_bind (wpS_mono (wpS_forRange (I := fun y c st' => SameSt st st' ∧ ∃ ou i j mg ac bc, c = (none, ou, i, j, mg, ac, bc) ∧ MI xa.toList xb.toList ou.toList i j ∧ i + 1 < xa.size ∧ j < xb.toList.length ∧ x + 2 ≤ i + j)
        (Q := fun c st' => SameSt st st' ∧ ((∃ res rest, c = (some res, rest) ∧ Mer xa.toList xb.toList res.toList) ∨ ∃ ou i j mg ac bc, c = (none, ou, i, j, mg, ac, bc) ∧ MI xa.toList xb.toList ou.toList i j ∧ i + 1 < xa.size ∧ j < xb.toList.length ∧ x + 2 ≤ i + j)) ?s2 ?f2 ⟨sm2, _, _, _, _, _, _, rfl, m, hi, hj, hx3⟩) ?p2)
      case f2 =>
        rintro c st3 ⟨sm3, ou, i, j, mg, ac, bc, rfl, m, hi, hj, hx4⟩
        exact ⟨sm3, .inr ⟨_, _, _, _, _, _, rfl, m, hi, hj, hx4⟩⟩
      case p2 =>
        rintro c st3 ⟨sm3, ⟨res, rest, rfl, me⟩ | ⟨ou, i, j, mg, ac, bc, rfl, m, hi, hj, hx4⟩⟩
        · exact wpS_pure ⟨sm3, _, _, rfl, me⟩
        · dsimp only
          refine wpS_bind (s_setG ?_)
          exact wpS_pure ⟨sm3.setG _, _, _, _, _, rfl, m, hi, hj, by omega⟩
      case s2 =>
        rintro y c st3 _ hy ⟨sm3', ou, i, j, mg, ac, bc, rfl, m, hi, hj, hx4⟩
        dsimp only
        have sm3 := fun g => sm3'.setG g
        obtain ⟨c1, hc1, cut1⟩ := cut_of hA xb.toList[j] false i (xa.size - i) (by omega)
        obtain ⟨le1, gt1⟩ := gfalse (by omega) cut1
        have m1 : MI xa.toList xb.toList (ou ++ xa.extract i (i + c1)).toList (i + c1) j := by
          rw [toL_ext]
          exact m.extA hA c1 (by omega) fun t ht htc z hz => Int.le_trans (le1 t ht htc) (head_le hB hj z hz)
        by_cases hmg : mg > 1
        · rw [if_pos hmg]
          refine wpS_bind (s_setG (wpS_bind (s_elemL hj ?_)))
          refine wpS_bind (s_gal (c := c1) ((sm3 _).kind.trans hk) hIa (hIb _ (List.getElem_mem _)) (by omega) (by omega) hc1 cut1 ?_)
          dsimp only
          by_cases k0 : c1 > 0
          · rw [if_pos k0]
            by_cases e1 : i + c1 + 1 = xa.size
            · rw [if_pos (by simpa using e1)]
              exact wpS_pure ⟨sm3 _, .inl ⟨_, _, rfl, m1.last hA hB (by omega) hl⟩⟩
            · rw [if_neg (by simpa using e1)]
              by_cases e2 : i + c1 = xa.size
              · rw [if_pos (by simpa using e2)]
                exact wpS_pure ⟨sm3 _, .inl ⟨_, _, rfl, m1.doneA hA hB (by omega)⟩⟩
              · rw [if_neg (by simpa using e2)]
                refine wpS_bind (s_elemL hj ?_)
                have M2 : MI xa.toList xb.toList (Array.push (ou ++ xa.extract i (i + c1)) xb.toList[j]).toList (i + c1) (j + 1) := by rw [Array.toList_push]; exact MI.pushB m1 hB hj (fun z hz => Int.le_of_lt (gt1 z hz))
                by_cases e3 : j + 1 = xb.size
                · rw [if_pos (by simpa using e3)]
                  exact wpS_pure ⟨sm3 _, .inl ⟨_, _, rfl, M2.doneB hA hB (by omega)⟩⟩
                · rw [if_neg (by simpa using e3)]
                  refine wpS_bind (s_elemL (i := (i + c1)) (by omega) ?_)
                  obtain ⟨c2, hc2, cut2⟩ := cut_of hB (xa.toList[(i + c1)]'(by omega)) true (j + 1) (xb.size - (j + 1)) (by omega)
                  obtain ⟨lt2, ge2⟩ := gtrue (by omega) cut2
                  refine wpS_bind (s_gal (c := c2) ((sm3 _).kind.trans hk) hIb (hIa _ (List.getElem_mem _)) (by omega) (by omega) hc2 cut2 ?_)
                  dsimp only
                  by_cases k1 : c2 > 0
                  · rw [if_pos k1]
                    have M3 : MI xa.toList xb.toList (Array.push (ou ++ xa.extract i (i + c1)) xb.toList[j] ++ xb.extract (j + 1) (j + 1 + c2)).toList (i + c1) (j + 1 + c2) := by
                      rw [toL_ext]
                      exact M2.extB hB c2 (by omega) fun t ht htc z hz => Int.le_trans (Int.le_of_lt (lt2 t ht htc)) (head_le hA (by omega) z hz)
                    by_cases e4 : j + 1 + c2 = xb.size
                    · rw [if_pos (by simpa using e4)]
                      exact wpS_pure ⟨sm3 _, .inl ⟨_, _, rfl, M3.doneB hA hB (by omega)⟩⟩
                    · rw [if_neg (by simpa using e4)]
                      refine wpS_bind (s_elemL (i := (i + c1)) (by omega) ?_)
                      have M4 : MI xa.toList xb.toList (Array.push (Array.push (ou ++ xa.extract i (i + c1)) xb.toList[j] ++ xb.extract (j + 1) (j + 1 + c2)) (xa.toList[(i + c1)]'(by omega))).toList ((i + c1) + 1) (j + 1 + c2) := by rw [Array.toList_push]; exact MI.pushA M3 hA (by omega) ge2
                      by_cases e5 : (i + c1) + 1 + 1 = xa.size
                      · rw [if_pos (by simpa using e5)]
                        exact wpS_pure ⟨sm3 _, .inl ⟨_, _, rfl, M4.last hA hB (by omega) hl⟩⟩
                      · rw [if_neg (by simpa using e5)]
                        split
                        · exact wpS_pure ⟨sm3 _, .inr ⟨_, _, _, _, _, _, rfl, M4, by omega, by omega, by omega⟩⟩
                        · exact wpS_pure ⟨sm3 _, _, _, _, _, _, _, rfl, M4, by omega, by omega, by omega⟩
                  · rw [if_neg k1]
                    have c20 : c2 = 0 := by omega
                    refine wpS_bind (s_elemL (i := (i + c1)) (by omega) ?_)
                    have M4 : MI xa.toList xb.toList (Array.push (Array.push (ou ++ xa.extract i (i + c1)) xb.toList[j]) (xa.toList[(i + c1)]'(by omega))).toList ((i + c1) + 1) (j + 1) := by rw [Array.toList_push]; exact MI.pushA M2 hA (by omega) (fun z hz => ge2 z (by rw [c20, Nat.add_zero]; exact hz))
                    by_cases e5 : (i + c1) + 1 + 1 = xa.size
                    · rw [if_pos (by simpa using e5)]
                      exact wpS_pure ⟨sm3 _, .inl ⟨_, _, rfl, M4.last hA hB (by omega) hl⟩⟩
                    · rw [if_neg (by simpa using e5)]
                      split
                      · exact wpS_pure ⟨sm3 _, .inr ⟨_, _, _, _, _, _, rfl, M4, by omega, by omega, by omega⟩⟩
                      · exact wpS_pure ⟨sm3 _, _, _, _, _, _, _, rfl, M4, by omega, by omega, by omega⟩
          · rw [if_neg k0]
            have c10 : c1 = 0 := by omega
            refine wpS_bind (s_elemL hj ?_)
            have M2 : MI xa.toList xb.toList (Array.push ou xb.toList[j]).toList i (j + 1) := by rw [Array.toList_push]; exact MI.pushB m hB hj (fun z hz => Int.le_of_lt (gt1 z (by rw [c10, Nat.add_zero]; exact hz)))
            by_cases e3 : j + 1 = xb.size
            · rw [if_pos (by simpa using e3)]
              exact wpS_pure ⟨sm3 _, .inl ⟨_, _, rfl, M2.doneB hA hB (by omega)⟩⟩
            · rw [if_neg (by simpa using e3)]
              refine wpS_bind (s_elemL (i := i) (by omega) ?_)
              obtain ⟨c2, hc2, cut2⟩ := cut_of hB (xa.toList[i]'(by omega)) true (j + 1) (xb.size - (j + 1)) (by omega)
              obtain ⟨lt2, ge2⟩ := gtrue (by omega) cut2
              refine wpS_bind (s_gal (c := c2) ((sm3 _).kind.trans hk) hIb (hIa _ (List.getElem_mem _)) (by omega) (by omega) hc2 cut2 ?_)
              dsimp only
              by_cases k1 : c2 > 0
              · rw [if_pos k1]
                have M3 : MI xa.toList xb.toList (Array.push ou xb.toList[j] ++ xb.extract (j + 1) (j + 1 + c2)).toList i (j + 1 + c2) := by
                  rw [toL_ext]
                  exact M2.extB hB c2 (by omega) fun t ht htc z hz => Int.le_trans (Int.le_of_lt (lt2 t ht htc)) (head_le hA (by omega) z hz)
                by_cases e4 : j + 1 + c2 = xb.size
                · rw [if_pos (by simpa using e4)]
                  exact wpS_pure ⟨sm3 _, .inl ⟨_, _, rfl, M3.doneB hA hB (by omega)⟩⟩
                · rw [if_neg (by simpa using e4)]
                  refine wpS_bind (s_elemL (i := i) (by omega) ?_)
                  have M4 : MI xa.toList xb.toList (Array.push (Array.push ou xb.toList[j] ++ xb.extract (j + 1) (j + 1 + c2)) (xa.toList[i]'(by omega))).toList (i + 1) (j + 1 + c2) := by rw [Array.toList_push]; exact MI.pushA M3 hA (by omega) ge2
                  by_cases e5 : i + 1 + 1 = xa.size
                  · rw [if_pos (by simpa using e5)]
                    exact wpS_pure ⟨sm3 _, .inl ⟨_, _, rfl, M4.last hA hB (by omega) hl⟩⟩
                  · rw [if_neg (by simpa using e5)]
                    split
                    · exact wpS_pure ⟨sm3 _, .inr ⟨_, _, _, _, _, _, rfl, M4, by omega, by omega, by omega⟩⟩
                    · exact wpS_pure ⟨sm3 _, _, _, _, _, _, _, rfl, M4, by omega, by omega, by omega⟩
              · rw [if_neg k1]
                have c20 : c2 = 0 := by omega
                refine wpS_bind (s_elemL (i := i) (by omega) ?_)
                have M4 : MI xa.toList xb.toList (Array.push (Array.push ou xb.toList[j]) (xa.toList[i]'(by omega))).toList (i + 1) (j + 1) := by rw [Array.toList_push]; exact MI.pushA M2 hA (by omega) (fun z hz => ge2 z (by rw [c20, Nat.add_zero]; exact hz))
                by_cases e5 : i + 1 + 1 = xa.size
                · rw [if_pos (by simpa using e5)]
                  exact wpS_pure ⟨sm3 _, .inl ⟨_, _, rfl, M4.last hA hB (by omega) hl⟩⟩
                · rw [if_neg (by simpa using e5)]
                  split
                  · exact wpS_pure ⟨sm3 _, .inr ⟨_, _, _, _, _, _, rfl, M4, by omega, by omega, by omega⟩⟩
                  · exact wpS_pure ⟨sm3 _, _, _, _, _, _, _, rfl, M4, by omega, by omega, by omega⟩
        · rw [if_neg hmg]
          refine wpS_bind (s_setG (wpS_bind (s_elemL hj ?_)))
          refine wpS_bind (s_gal (c := c1) ((sm3 _).kind.trans hk) hIa (hIb _ (List.getElem_mem _)) (by omega) (by omega) hc1 cut1 ?_)
          dsimp only
          by_cases k0 : c1 > 0
          · rw [if_pos k0]
            by_cases e1 : i + c1 + 1 = xa.size
            · rw [if_pos (by simpa using e1)]
              exact wpS_pure ⟨sm3 _, .inl ⟨_, _, rfl, m1.last hA hB (by omega) hl⟩⟩
            · rw [if_neg (by simpa using e1)]
              by_cases e2 : i + c1 = xa.size
              · rw [if_pos (by simpa using e2)]
                exact wpS_pure ⟨sm3 _, .inl ⟨_, _, rfl, m1.doneA hA hB (by omega)⟩⟩
              · rw [if_neg (by simpa using e2)]
                refine wpS_bind (s_elemL hj ?_)
                have M2 : MI xa.toList xb.toList (Array.push (ou ++ xa.extract i (i + c1)) xb.toList[j]).toList (i + c1) (j + 1) := by rw [Array.toList_push]; exact MI.pushB m1 hB hj (fun z hz => Int.le_of_lt (gt1 z hz))
                by_cases e3 : j + 1 = xb.size
                · rw [if_pos (by simpa using e3)]
                  exact wpS_pure ⟨sm3 _, .inl ⟨_, _, rfl, M2.doneB hA hB (by omega)⟩⟩
                · rw [if_neg (by simpa using e3)]
                  refine wpS_bind (s_elemL (i := (i + c1)) (by omega) ?_)
                  obtain ⟨c2, hc2, cut2⟩ := cut_of hB (xa.toList[(i + c1)]'(by omega)) true (j + 1) (xb.size - (j + 1)) (by omega)
                  obtain ⟨lt2, ge2⟩ := gtrue (by omega) cut2
                  refine wpS_bind (s_gal (c := c2) ((sm3 _).kind.trans hk) hIb (hIa _ (List.getElem_mem _)) (by omega) (by omega) hc2 cut2 ?_)
                  dsimp only
                  by_cases k1 : c2 > 0
                  · rw [if_pos k1]
                    have M3 : MI xa.toList xb.toList (Array.push (ou ++ xa.extract i (i + c1)) xb.toList[j] ++ xb.extract (j + 1) (j + 1 + c2)).toList (i + c1) (j + 1 + c2) := by
                      rw [toL_ext]
                      exact M2.extB hB c2 (by omega) fun t ht htc z hz => Int.le_trans (Int.le_of_lt (lt2 t ht htc)) (head_le hA (by omega) z hz)
                    by_cases e4 : j + 1 + c2 = xb.size
                    · rw [if_pos (by simpa using e4)]
                      exact wpS_pure ⟨sm3 _, .inl ⟨_, _, rfl, M3.doneB hA hB (by omega)⟩⟩
                    · rw [if_neg (by simpa using e4)]
                      refine wpS_bind (s_elemL (i := (i + c1)) (by omega) ?_)
                      have M4 : MI xa.toList xb.toList (Array.push (Array.push (ou ++ xa.extract i (i + c1)) xb.toList[j] ++ xb.extract (j + 1) (j + 1 + c2)) (xa.toList[(i + c1)]'(by omega))).toList ((i + c1) + 1) (j + 1 + c2) := by rw [Array.toList_push]; exact MI.pushA M3 hA (by omega) ge2
                      by_cases e5 : (i + c1) + 1 + 1 = xa.size
                      · rw [if_pos (by simpa using e5)]
                        exact wpS_pure ⟨sm3 _, .inl ⟨_, _, rfl, M4.last hA hB (by omega) hl⟩⟩
                      · rw [if_neg (by simpa using e5)]
                        split
                        · exact wpS_pure ⟨sm3 _, .inr ⟨_, _, _, _, _, _, rfl, M4, by omega, by omega, by omega⟩⟩
                        · exact wpS_pure ⟨sm3 _, _, _, _, _, _, _, rfl, M4, by omega, by omega, by omega⟩
                  · rw [if_neg k1]
                    have c20 : c2 = 0 := by omega
                    refine wpS_bind (s_elemL (i := (i + c1)) (by omega) ?_)
                    have M4 : MI xa.toList xb.toList (Array.push (Array.push (ou ++ xa.extract i (i + c1)) xb.toList[j]) (xa.toList[(i + c1)]'(by omega))).toList ((i + c1) + 1) (j + 1) := by rw [Array.toList_push]; exact MI.pushA M2 hA (by omega) (fun z hz => ge2 z (by rw [c20, Nat.add_zero]; exact hz))
                    by_cases e5 : (i + c1) + 1 + 1 = xa.size
                    · rw [if_pos (by simpa using e5)]
                      exact wpS_pure ⟨sm3 _, .inl ⟨_, _, rfl, M4.last hA hB (by omega) hl⟩⟩
                    · rw [if_neg (by simpa using e5)]
                      split
                      · exact wpS_pure ⟨sm3 _, .inr ⟨_, _, _, _, _, _, rfl, M4, by omega, by omega, by omega⟩⟩
                      · exact wpS_pure ⟨sm3 _, _, _, _, _, _, _, rfl, M4, by omega, by omega, by omega⟩
          · rw [if_neg k0]
            have c10 : c1 = 0 := by omega
            refine wpS_bind (s_elemL hj ?_)
            have M2 : MI xa.toList xb.toList (Array.push ou xb.toList[j]).toList i (j + 1) := by rw [Array.toList_push]; exact MI.pushB m hB hj (fun z hz => Int.le_of_lt (gt1 z (by rw [c10, Nat.add_zero]; exact hz)))
            by_cases e3 : j + 1 = xb.size
            · rw [if_pos (by simpa using e3)]
              exact wpS_pure ⟨sm3 _, .inl ⟨_, _, rfl, M2.doneB hA hB (by omega)⟩⟩
            · rw [if_neg (by simpa using e3)]
              refine wpS_bind (s_elemL (i := i) (by omega) ?_)
              obtain ⟨c2, hc2, cut2⟩ := cut_of hB (xa.toList[i]'(by omega)) true (j + 1) (xb.size - (j + 1)) (by omega)
              obtain ⟨lt2, ge2⟩ := gtrue (by omega) cut2
              refine wpS_bind (s_gal (c := c2) ((sm3 _).kind.trans hk) hIb (hIa _ (List.getElem_mem _)) (by omega) (by omega) hc2 cut2 ?_)
              dsimp only
              by_cases k1 : c2 > 0
              · rw [if_pos k1]
                have M3 : MI xa.toList xb.toList (Array.push ou xb.toList[j] ++ xb.extract (j + 1) (j + 1 + c2)).toList i (j + 1 + c2) := by
                  rw [toL_ext]
                  exact M2.extB hB c2 (by omega) fun t ht htc z hz => Int.le_trans (Int.le_of_lt (lt2 t ht htc)) (head_le hA (by omega) z hz)
                by_cases e4 : j + 1 + c2 = xb.size
                · rw [if_pos (by simpa using e4)]
                  exact wpS_pure ⟨sm3 _, .inl ⟨_, _, rfl, M3.doneB hA hB (by omega)⟩⟩
                · rw [if_neg (by simpa using e4)]
                  refine wpS_bind (s_elemL (i := i) (by omega) ?_)
                  have M4 : MI xa.toList xb.toList (Array.push (Array.push ou xb.toList[j] ++ xb.extract (j + 1) (j + 1 + c2)) (xa.toList[i]'(by omega))).toList (i + 1) (j + 1 + c2) := by rw [Array.toList_push]; exact MI.pushA M3 hA (by omega) ge2
                  by_cases e5 : i + 1 + 1 = xa.size
                  · rw [if_pos (by simpa using e5)]
                    exact wpS_pure ⟨sm3 _, .inl ⟨_, _, rfl, M4.last hA hB (by omega) hl⟩⟩
                  · rw [if_neg (by simpa using e5)]
                    split
                    · exact wpS_pure ⟨sm3 _, .inr ⟨_, _, _, _, _, _, rfl, M4, by omega, by omega, by omega⟩⟩
                    · exact wpS_pure ⟨sm3 _, _, _, _, _, _, _, rfl, M4, by omega, by omega, by omega⟩
              · rw [if_neg k1]
                have c20 : c2 = 0 := by omega
                refine wpS_bind (s_elemL (i := i) (by omega) ?_)
                have M4 : MI xa.toList xb.toList (Array.push (Array.push ou xb.toList[j]) (xa.toList[i]'(by omega))).toList (i + 1) (j + 1) := by rw [Array.toList_push]; exact MI.pushA M2 hA (by omega) (fun z hz => ge2 z (by rw [c20, Nat.add_zero]; exact hz))
                by_cases e5 : i + 1 + 1 = xa.size
                · rw [if_pos (by simpa using e5)]
                  exact wpS_pure ⟨sm3 _, .inl ⟨_, _, rfl, M4.last hA hB (by omega) hl⟩⟩
                · rw [if_neg (by simpa using e5)]
                  split
                  · exact wpS_pure ⟨sm3 _, .inr ⟨_, _, _, _, _, _, rfl, M4, by omega, by omega, by omega⟩⟩
                  · exact wpS_pure ⟨sm3 _, _, _, _, _, _, _, rfl, M4, by omega, by omega, by omega⟩
end
end SRV
set_option Elab.async false
set_option linter.all false
set_option maxRecDepth 100000
set_option maxHeartbeats 4000000
namespace SRV
open PySem
open PyProof.Rows hiding K SortedTo K_bubble K_mirror K_congr K_mirror_equal
variable [KV]
structure MH (A B : List Keyed) (o : List Keyed) (na nb : Nat) : Prop where
  perm : o.Perm (A.drop na ++ B.drop nb)
  srt : o.Pairwise Le
  lea : ∀ x ∈ o, ∀ y ∈ A.take na, kv y ≤ kv x
  leb : ∀ x ∈ o, ∀ y ∈ B.take nb, kv y ≤ kv x
theorem pw_take {l : List Keyed} (h : l.Pairwise Le) {i : Nat} (hi : i < l.length) : ∀ y ∈ l.take i, kv y ≤ kv l[i] := fun y hy => by
  obtain ⟨u, hu, rfl⟩ := List.mem_iff_getElem.mp hy
  rw [List.length_take] at hu
  rw [List.getElem_take]
  exact List.pairwise_iff_getElem.mp h _ _ _ _ (by omega)
theorem mem_take_succ {l : List Keyed} {i : Nat} {y : Keyed} (h : y ∈ l.take i) : y ∈ l.take (i + 1) := (List.take_sublist_take_left (Nat.le_succ i)).mem h
theorem mem_take_at {l : List Keyed} {i : Nat} (hi : i < l.length) : l[i] ∈ l.take (i + 1) := by
  rw [List.take_succ, List.getElem?_eq_getElem hi]
  exact List.mem_append_right _ (List.mem_singleton.mpr rfl)
theorem MH.pushA {A B o : List Keyed} {na nb : Nat} (m : MH A B o (na + 1) nb) (hA : A.Pairwise Le) (hi : na < A.length) (h : ∀ z ∈ B.take nb, kv z ≤ kv A[na]) : MH A B (A[na] :: o) na nb := by
  refine ⟨?_, ?_, fun x hx y hy => ?_, fun x hx y hy => ?_⟩
  · rw [List.drop_eq_getElem_cons hi, List.cons_append]
    exact List.Perm.cons _ m.perm
  · exact List.pairwise_cons.mpr ⟨fun x hx => m.lea x hx _ (mem_take_at hi), m.srt⟩
  · rcases List.mem_cons.mp hx with rfl | hx
    · exact pw_take hA hi y hy
    · exact m.lea x hx y (mem_take_succ hy)
  · rcases List.mem_cons.mp hx with rfl | hx
    · exact h y hy
    · exact m.leb x hx y hy
theorem MH.pushB {A B o : List Keyed} {na nb : Nat} (m : MH A B o na (nb + 1)) (hB : B.Pairwise Le) (hi : nb < B.length) (h : ∀ z ∈ A.take na, kv z ≤ kv B[nb]) : MH A B (B[nb] :: o) na nb := by
  refine ⟨?_, ?_, fun x hx y hy => ?_, fun x hx y hy => ?_⟩
  · rw [List.drop_eq_getElem_cons hi]
    exact (List.Perm.cons _ m.perm).trans List.perm_middle.symm
  · exact List.pairwise_cons.mpr ⟨fun x hx => m.leb x hx _ (mem_take_at hi), m.srt⟩
  · rcases List.mem_cons.mp hx with rfl | hx
    · exact h y hy
    · exact m.lea x hx y hy
  · rcases List.mem_cons.mp hx with rfl | hx
    · exact pw_take hB hi y hy
    · exact m.leb x hx y (mem_take_succ hy)
theorem MH.extA {A B o : List Keyed} {nb : Nat} (hA : A.Pairwise Le) : ∀ (k c : Nat), MH A B o (c + k) nb → c + k ≤ A.length → (∀ i (hi : i < A.length), c ≤ i → i < c + k → ∀ z ∈ B.take nb, kv z ≤ kv A[i]) → MH A B ((A.drop c).take k ++ o) c nb
  | 0, c, m, _, _ => by rw [List.take_zero]; exact m
  | k + 1, c, m, hk, h => by
    have m' : MH A B o (c + 1 + k) nb := by rw [show c + 1 + k = c + (k + 1) by omega]; exact m
    have ih := MH.extA hA k (c + 1) m' (by omega) fun i hi h1 h2 => h i hi (by omega) (by omega)
    have hi : c < A.length := by omega
    rw [List.drop_eq_getElem_cons hi, List.take_succ_cons, List.cons_append]
    exact ih.pushA hA hi (h c hi (Nat.le_refl _) (by omega))
theorem MH.extB {A B o : List Keyed} {na : Nat} (hB : B.Pairwise Le) : ∀ (k c : Nat), MH A B o na (c + k) → c + k ≤ B.length → (∀ i (hi : i < B.length), c ≤ i → i < c + k → ∀ z ∈ A.take na, kv z ≤ kv B[i]) → MH A B ((B.drop c).take k ++ o) na c
  | 0, c, m, _, _ => by rw [List.take_zero]; exact m
  | k + 1, c, m, hk, h => by
    have m' : MH A B o na (c + 1 + k) := by rw [show c + 1 + k = c + (k + 1) by omega]; exact m
    have ih := MH.extB hB k (c + 1) m' (by omega) fun i hi h1 h2 => h i hi (by omega) (by omega)
    have hi : c < B.length := by omega
    rw [List.drop_eq_getElem_cons hi, List.take_succ_cons, List.cons_append]
    exact ih.pushB hB hi (h c hi (Nat.le_refl _) (by omega))
theorem MH.finAB {A B o : List Keyed} {na nb : Nat} (m : MH A B o na nb) (hA : A.Pairwise Le) (hB : B.Pairwise Le) (h : ∀ x ∈ A.take na, ∀ y ∈ B.take nb, kv x ≤ kv y) : Mer A B (A.take na ++ B.take nb ++ o) := by
  refine ⟨?_, ?_⟩
  · have e := (List.Perm.append_left (A.take na ++ B.take nb) m.perm).trans (perm_mid (A.take na) (B.take nb) (A.drop na) (B.drop nb))
    rw [List.take_append_drop, List.take_append_drop] at e
    exact e
  · refine List.pairwise_append.mpr ⟨List.pairwise_append.mpr ⟨hA.sublist (List.take_sublist _ _), hB.sublist (List.take_sublist _ _), fun x hx y hy => h x hx y hy⟩, m.srt, fun x hx y hy => ?_⟩
    rcases List.mem_append.mp hx with hx | hx
    · exact m.lea y hy x hx
    · exact m.leb y hy x hx
theorem MH.finBA {A B o : List Keyed} {na nb : Nat} (m : MH A B o na nb) (hA : A.Pairwise Le) (hB : B.Pairwise Le) (h : ∀ x ∈ A.take na, ∀ y ∈ B.take nb, kv y ≤ kv x) : Mer A B (B.take nb ++ A.take na ++ o) := by
  refine ⟨?_, ?_⟩
  · have e := (List.Perm.append_left (A.take na ++ B.take nb) m.perm).trans (perm_mid (A.take na) (B.take nb) (A.drop na) (B.drop nb))
    rw [List.take_append_drop, List.take_append_drop] at e
    exact (List.Perm.append_right o List.perm_append_comm).trans e
  · refine List.pairwise_append.mpr ⟨List.pairwise_append.mpr ⟨hB.sublist (List.take_sublist _ _), hA.sublist (List.take_sublist _ _), fun x hx y hy => h y hy x hx⟩, m.srt, fun x hx y hy => ?_⟩
    rcases List.mem_append.mp hx with hx | hx
    · exact m.leb y hy x hx
    · exact m.lea y hy x hx
theorem toL_front (o x y : Array Keyed) (i j : Nat) : (x.extract 0 i ++ y.extract 0 j ++ o.reverse).toList = x.toList.take i ++ y.toList.take j ++ o.toList.reverse := by
  have e : ∀ (z : Array Keyed) (k : Nat), (z.extract 0 k).toList = z.toList.take k := fun z k => by
    rw [Array.toList_extract, List.extract_eq_drop_take, List.drop_zero, Nat.sub_zero]
  rw [Array.toList_append, Array.toList_append, e, e, Array.toList_reverse]
theorem toL_pushR (o : Array Keyed) (z : Keyed) : (o.push z).toList.reverse = z :: o.toList.reverse := by
  rw [Array.toList_push, List.reverse_append]; rfl
theorem toL_extR (o x : Array Keyed) (c n : Nat) : (o ++ (x.extract c n).reverse).toList.reverse = (x.toList.drop c).take (n - c) ++ o.toList.reverse := by
  rw [Array.toList_append, List.reverse_append, Array.toList_reverse, List.reverse_reverse, Array.toList_extract, List.extract_eq_drop_take]
noncomputable def MHa (xa xb ou : Array Keyed) (na nb : Nat) : Prop := MH xa.toList xb.toList ou.toList.reverse na nb
section
variable {xa xb ou : Array Keyed} {na nb : Nat}
theorem MHa.done0 (m : MHa xa xb ou na nb) (hA : xa.toList.Pairwise Le) (hB : xb.toList.Pairwise Le) (h : na = 0 ∨ nb = 0) : Mer xa.toList xb.toList (xa.extract 0 na ++ xb.extract 0 nb ++ ou.reverse).toList := by
  rw [toL_front]
  refine MH.finAB m hA hB fun x hx y hy => ?_
  rcases h with h | h
  · rw [h] at hx; simp at hx
  · rw [h] at hy; simp at hy
theorem MHa.first (m : MHa xa xb ou na nb) (hA : xa.toList.Pairwise Le) (hB : xb.toList.Pairwise Le) (hb : 0 < xb.toList.length) (h : nb = 1) (h0 : ∀ z ∈ xa.toList, kv xb.toList[0] ≤ kv z) : Mer xa.toList xb.toList (xb.extract 0 nb ++ xa.extract 0 na ++ ou.reverse).toList := by
  rw [toL_front]
  refine MH.finBA m hA hB fun x hx y hy => ?_
  rw [h, List.take_succ, List.getElem?_eq_getElem hb] at hy
  have : y = xb.toList[0] := by simpa using hy
  rw [this]
  exact h0 x (List.mem_of_mem_take hx)
theorem MHa.pushA (m : MHa xa xb ou (na + 1) nb) (hA : xa.toList.Pairwise Le) (hi : na < xa.toList.length) (h : ∀ z ∈ xb.toList.take nb, kv z ≤ kv xa.toList[na]) : MHa xa xb (ou.push xa.toList[na]) na nb := by
  unfold MHa; rw [toL_pushR]; exact MH.pushA m hA hi h
theorem MHa.pushB (m : MHa xa xb ou na (nb + 1)) (hB : xb.toList.Pairwise Le) (hi : nb < xb.toList.length) (h : ∀ z ∈ xa.toList.take na, kv z ≤ kv xb.toList[nb]) : MHa xa xb (ou.push xb.toList[nb]) na nb := by
  unfold MHa; rw [toL_pushR]; exact MH.pushB m hB hi h
theorem MHa.extA {c : Nat} (m : MHa xa xb ou na nb) (hA : xa.toList.Pairwise Le) (hc : c ≤ na) (hn : na ≤ xa.toList.length) (h : ∀ i (hi : i < xa.toList.length), c ≤ i → i < na → ∀ z ∈ xb.toList.take nb, kv z ≤ kv xa.toList[i]) : MHa xa xb (ou ++ (xa.extract c na).reverse) c nb := by
  unfold MHa; rw [toL_extR]
  exact MH.extA hA (na - c) c (by rw [show c + (na - c) = na by omega]; exact m) (by omega) fun i hi h1 h2 => h i hi h1 (by omega)
theorem MHa.extB {c : Nat} (m : MHa xa xb ou na nb) (hB : xb.toList.Pairwise Le) (hc : c ≤ nb) (hn : nb ≤ xb.toList.length) (h : ∀ i (hi : i < xb.toList.length), c ≤ i → i < nb → ∀ z ∈ xa.toList.take na, kv z ≤ kv xb.toList[i]) : MHa xa xb (ou ++ (xb.extract c nb).reverse) na c := by
  unfold MHa; rw [toL_extR]
  exact MH.extB hB (nb - c) c (by rw [show c + (nb - c) = nb by omega]; exact m) (by omega) fun i hi h1 h2 => h i hi h1 (by omega)
end
theorem ffalse {xs : Array Keyed} {ky : Keyed} {n c : Nat} (hn : n ≤ xs.toList.length) (hc : c ≤ n) (cut : ∀ i, i < n → Byd false ky xs 0 i = decide (i < c)) :
    (∀ z ∈ xs.toList.take c, kv z ≤ kv ky) ∧ (∀ i (h : i < xs.toList.length), c ≤ i → i < n → kv ky < kv xs.toList[i]) := by
  have key : ∀ i (h : i < xs.toList.length), i < n → (!decide (kv ky < kv xs.toList[i])) = decide (i < c) := fun i h hi => by
    have := cut i hi
    unfold Byd at this
    rw [Nat.zero_add, K_at h] at this
    simpa using this
  constructor
  · intro z hz
    obtain ⟨u, hu, rfl⟩ := List.mem_iff_getElem.mp hz
    rw [List.length_take] at hu
    have := key u (by omega) (by omega)
    rw [List.getElem_take]
    rw [decide_eq_true (show u < c by omega)] at this
    simpa using this
  · intro i h h1 h2
    have := key i h h2
    rw [decide_eq_false (show ¬ i < c by omega)] at this
    simpa using this
theorem ftrue {xs : Array Keyed} {ky : Keyed} {n c : Nat} (hn : n ≤ xs.toList.length) (hc : c ≤ n) (cut : ∀ i, i < n → Byd true ky xs 0 i = decide (i < c)) :
    (∀ z ∈ xs.toList.take c, kv z < kv ky) ∧ (∀ i (h : i < xs.toList.length), c ≤ i → i < n → kv ky ≤ kv xs.toList[i]) := by
  have key : ∀ i (h : i < xs.toList.length), i < n → decide (kv xs.toList[i] < kv ky) = decide (i < c) := fun i h hi => by
    have := cut i hi
    unfold Byd at this
    rw [Nat.zero_add, K_at h] at this
    simpa using this
  constructor
  · intro z hz
    obtain ⟨u, hu, rfl⟩ := List.mem_iff_getElem.mp hz
    rw [List.length_take] at hu
    have := key u (by omega) (by omega)
    rw [List.getElem_take]
    rw [decide_eq_true (show u < c by omega)] at this
    simpa using this
  · intro i h h1 h2
    have := key i h h2
    rw [decide_eq_false (show ¬ i < c by omega)] at this
    simpa using this
theorem take_le {l : List Keyed} (h : l.Pairwise Le) {n : Nat} (hn : n < l.length) : ∀ z ∈ l.take (n + 1), kv z ≤ kv l[n] := fun z hz => by
  rw [List.take_succ, List.getElem?_eq_getElem hn] at hz
  rcases List.mem_append.mp hz with hz | hz
  · exact pw_take h hn z hz
  · have : z = l[n] := by simpa using hz
    rw [this]; exact Int.le_refl _
noncomputable def mhi : Array Keyed → Array Keyed → StateT SortSt Sem (Array Keyed) := sortPriv% PySem.Builtin.mergeHi
theorem mhi_eq (xa xb : Array Keyed) : mhi xa xb = (do
  rule "list.sort.merge-hi"
  let tot := xa.size + xb.size
  let dn (ou : Array Keyed) (i j : Nat) := xa.extract 0 i ++ xb.extract 0 j ++ ou.reverse
  let fb (ou : Array Keyed) (i j : Nat) := xb.extract 0 j ++ xa.extract 0 i ++ ou.reverse
  let mut i := xa.size - 1
  let mut j := xb.size
  let mut ou : Array Keyed := #[← elem' xa i]
  if i == 0 then return dn ou i j
  if j == 1 then return fb ou i j
  let mut mg := gallopOf (← get)
  for _ in [0:tot] do
    let mut ac := 0
    let mut bc := 0
    for _ in [0:tot] do
      let some aw ← lt' (← elem' xb (j - 1)) (← elem' xa (i - 1)) | return dn ou i j
      if aw then
        i := i - 1; ou := ou.push (← elem' xa i); ac := ac + 1; bc := 0
        if i == 0 then return dn ou i j
        if ac ≥ mg then break
      else
        j := j - 1; ou := ou.push (← elem' xb j); bc := bc + 1; ac := 0
        if j == 1 then return fb ou i j
        if bc ≥ mg then break
    rule "list.sort.gallop"
    mg := mg + 1
    for _ in [0:tot] do
      if mg > 1 then mg := mg - 1
      setG mg
      let some t ← gal false (← elem' xb (j - 1)) xa 0 i (i - 1) | return dn ou i j
      let k := i - t
      ac := k
      if k > 0 then
        ou := ou ++ (xa.extract t i).reverse; i := t
        if i == 0 then return dn ou i j
      j := j - 1; ou := ou.push (← elem' xb j)
      if j == 1 then return fb ou i j
      let some t ← gal true (← elem' xa (i - 1)) xb 0 j (j - 1) | return dn ou i j
      let k := j - t
      bc := k
      if k > 0 then
        ou := ou ++ (xb.extract t j).reverse; j := t
        if j == 1 then return fb ou i j
        if j == 0 then return dn ou i j
      i := i - 1; ou := ou.push (← elem' xa i)
      if i == 0 then return dn ou i j
      if ac < 7 && bc < 7 then break
    mg := mg + 1
    setG mg
  unsupported "internal:list.sort.merge-bound") := rfl
end SRV
set_option Elab.async false
set_option linter.all false
set_option maxRecDepth 100000
set_option maxHeartbeats 4000000
namespace SRV
open PySem
open PyProof.Rows hiding K SortedTo K_bubble K_mirror K_congr K_mirror_equal
variable [KV]
section
variable {prog : Program} {w : World} {A : Around} {E : Value → Shared → Prop}
theorem s_mhi {st : SortSt} {xa xb : Array Keyed} {Q : Array Keyed → SortSt → Prop} (hk : kindOf st = KV.kind) (hIa : AllI xa) (hIb : AllI xb) (hA : xa.toList.Pairwise Le) (hB : xb.toList.Pairwise Le) (ha : 0 < xa.toList.length) (hb : 0 < xb.toList.length)
    (h0 : ∀ z ∈ xa.toList, kv (xb.toList[0]) ≤ kv z) (hl : ∀ z ∈ xb.toList, kv z ≤ kv (xa.toList[xa.toList.length - 1]'(by omega)))
    (h : ∀ o st', SameSt st st' → Mer xa.toList xb.toList o.toList → Q o st') : wpS (model prog w) A E KV.sh (mhi xa xb) Q st := by
  have hsa : xa.size = xa.toList.length := (Array.length_toList ..).symm
  have hsb : xb.size = xb.toList.length := (Array.length_toList ..).symm
  rw [mhi_eq]
  refine wpS_bind (wpS_lift (wpAny_rule ⟨rfl, ?_⟩))
  dsimp only
  refine wpS_bind (s_elemL (i := xa.size - 1) (by omega) ?_)
  have m0 : MHa xa xb #[xa.toList[xa.size - 1]'(by omega)] (xa.size - 1) xb.size := by
    have mm : MHa xa xb #[] (xa.size - 1 + 1) xb.size := by
      refine ⟨?_, List.Pairwise.nil, fun x hx => (nomatch hx), fun x hx => (nomatch hx)⟩
      rw [drop_len (show xa.size - 1 + 1 = xa.toList.length by omega), drop_len hsb]
      exact List.Perm.refl _
    refine mm.pushA hA (by omega) fun z hz => ?_
    have := hl z (List.mem_of_mem_take hz)
    have e : xa.toList[xa.toList.length - 1]'(by omega) = xa.toList[xa.size - 1]'(by omega) := by congr 1
    rw [← e]; exact this
  by_cases c1 : xa.size - 1 = 0
  · rw [if_pos (by simpa using c1)]
    exact wpS_pure (h _ _ (SameSt.refl _) (m0.done0 hA hB (.inl c1)))
  rw [if_neg (by simpa using c1)]
  by_cases c2 : xb.size = 1
  · rw [if_pos (by simpa using c2)]
    exact wpS_pure (h _ _ (SameSt.refl _) (m0.first hA hB hb c2 h0))
  rw [if_neg (by simpa using c2)]
  refine wpS_bind (wpS_get ?_)
  refine wpS_bind (wpS_mono (wpS_forRange (I := fun x c st' => SameSt st st' ∧ ∃ i j ou mg, c = (none, i, j, ou, mg) ∧ MHa xa xb ou i j ∧ 0 < i ∧ i < xa.size ∧ 1 < j ∧ j ≤ xb.size ∧ i + j + x + 1 ≤ xa.size + xb.size) (Q := fun c st' => SameSt st st' ∧ ∃ res rest, c = (some res, rest) ∧ Mer xa.toList xb.toList res.toList) ?step ?fin ⟨SameSt.refl _, _, _, _, _, rfl, m0, by omega, by omega, by omega, by omega, by omega⟩) ?post)
  case post =>
    rintro c st' ⟨sm, res, rest, rfl, me⟩
    exact wpS_pure (h _ _ sm me)
  case fin =>
    rintro c st' ⟨sm, i, j, ou, mg, rfl, m, hi, hi2, hj, hj2, hx⟩
    exfalso
    omega
  case step =>
    rintro x c st1 _ hx ⟨sm, i, j, ou, mg, rfl, m, hi, hi2, hj, hj2, hx2⟩
    dsimp only
    refine wpS_bind (wpS_mono (wpS_forRange (I := fun y c st' => SameSt st st' ∧ ∃ i j ou ac bc, c = (none, i, j, ou, ac, bc) ∧ MHa xa xb ou i j ∧ 0 < i ∧ i < xa.size ∧ 1 < j ∧ j ≤ xb.size ∧ i + j + x + 1 + min y 1 ≤ xa.size + xb.size)
      (Q := fun c st' => SameSt st st' ∧ ((∃ res rest, c = (some res, rest) ∧ Mer xa.toList xb.toList res.toList) ∨ ∃ i j ou ac bc, c = (none, i, j, ou, ac, bc) ∧ MHa xa xb ou i j ∧ 0 < i ∧ i < xa.size ∧ 1 < j ∧ j ≤ xb.size ∧ i + j + x + 2 ≤ xa.size + xb.size)) ?s1 ?f1 ⟨sm, _, _, _, _, _, rfl, m, hi, hi2, hj, hj2, by omega⟩) ?p1)
    case f1 =>
      rintro c st2 ⟨sm2, i, j, ou, ac, bc, rfl, m, hi, hi2, hj, hj2, hx3⟩
      exact ⟨sm2, .inr ⟨_, _, _, _, _, rfl, m, hi, hi2, hj, hj2, by omega⟩⟩
    case s1 =>
      rintro y c st2 _ hy ⟨sm2, i, j, ou, ac, bc, rfl, m, hi, hi2, hj, hj2, hx3⟩
      dsimp only
      refine wpS_bind (s_elemL (i := j - 1) (by omega) (wpS_bind (s_elemL (i := i - 1) (by omega) ?_)))
      refine wpS_bind (s_lt (sm2.kind.trans hk) (hIb _ (List.getElem_mem _)) (hIa _ (List.getElem_mem _)) ?_)
      by_cases aw : kv (xb.toList[j - 1]'(by omega)) < kv (xa.toList[i - 1]'(by omega))
      · simp only [aw, decide_true, if_true]
        refine wpS_bind (s_elemL (i := i - 1) (by omega) ?_)
        have m2 : MHa xa xb (ou.push (xa.toList[i - 1]'(by omega))) (i - 1) j := MHa.pushA (by rw [show i - 1 + 1 = i by omega]; exact m) hA (by omega) fun z hz => by
          refine Int.le_trans ?_ (Int.le_of_lt aw)
          exact take_le hB (n := j - 1) (by omega) z (by rw [show j - 1 + 1 = j by omega]; exact hz)
        by_cases e1 : i - 1 = 0
        · rw [if_pos (by simpa using e1)]
          exact wpS_pure ⟨sm2, .inl ⟨_, _, rfl, m2.done0 hA hB (.inl e1)⟩⟩
        · rw [if_neg (by simpa using e1)]
          split
          · exact wpS_pure ⟨sm2, .inr ⟨_, _, _, _, _, rfl, m2, by omega, by omega, hj, hj2, by omega⟩⟩
          · exact wpS_pure ⟨sm2, _, _, _, _, _, rfl, m2, by omega, by omega, hj, hj2, by omega⟩
      · simp only [aw, decide_false, Bool.false_eq_true, if_false]
        refine wpS_bind (s_elemL (i := j - 1) (by omega) ?_)
        have m2 : MHa xa xb (ou.push (xb.toList[j - 1]'(by omega))) i (j - 1) := MHa.pushB (by rw [show j - 1 + 1 = j by omega]; exact m) hB (by omega) fun z hz => by
          refine Int.le_trans ?_ (Int.not_lt.mp aw)
          exact take_le hA (n := i - 1) (by omega) z (by rw [show i - 1 + 1 = i by omega]; exact hz)
        by_cases e1 : j - 1 = 1
        · rw [if_pos (by simpa using e1)]
          exact wpS_pure ⟨sm2, .inl ⟨_, _, rfl, m2.first hA hB hb e1 h0⟩⟩
        · rw [if_neg (by simpa using e1)]
          split
          · exact wpS_pure ⟨sm2, .inr ⟨_, _, _, _, _, rfl, m2, hi, hi2, by omega, by omega, by omega⟩⟩
          · exact wpS_pure ⟨sm2, _, _, _, _, _, rfl, m2, hi, hi2, by omega, by omega, by omega⟩
    case p1 =>
      rintro c st2 ⟨sm2, ⟨res, rest, rfl, me⟩ | ⟨i, j, ou, ac, bc, rfl, m, hi, hi2, hj, hj2, hx3⟩⟩
      · exact wpS_pure ⟨sm2, _, _, rfl, me⟩
      dsimp only
      refine wpS_bind (wpS_lift (wpAny_rule ⟨rfl, ?_⟩))
      refine wpS_bind (wpS_mono (wpS_forRange (I := fun y c st' => SameSt st st' ∧ ∃ i j ou mg ac bc, c = (none, i, j, ou, mg, ac, bc) ∧ MHa xa xb ou i j ∧ 0 < i ∧ i < xa.size ∧ 1 < j ∧ j ≤ xb.size ∧ i + j + x + 2 ≤ xa.size + xb.size)
        (Q := fun c st' => SameSt st st' ∧ ((∃ res rest, c = (some res, rest) ∧ Mer xa.toList xb.toList res.toList) ∨ ∃ i j ou mg ac bc, c = (none, i, j, ou, mg, ac, bc) ∧ MHa xa xb ou i j ∧ 0 < i ∧ i < xa.size ∧ 1 < j ∧ j ≤ xb.size ∧ i + j + x + 2 ≤ xa.size + xb.size)) ?s2 ?f2 ⟨sm2, _, _, _, _, _, _, rfl, m, hi, hi2, hj, hj2, hx3⟩) ?p2)
      case f2 =>
        rintro c st3 ⟨sm3, i, j, ou, mg, ac, bc, rfl, m, hi, hi2, hj, hj2, hx4⟩
        exact ⟨sm3, .inr ⟨_, _, _, _, _, _, rfl, m, hi, hi2, hj, hj2, hx4⟩⟩
      case p2 =>
        rintro c st3 ⟨sm3, ⟨res, rest, rfl, me⟩ | ⟨i, j, ou, mg, ac, bc, rfl, m, hi, hi2, hj, hj2, hx4⟩⟩
        · exact wpS_pure ⟨sm3, _, _, rfl, me⟩
        · dsimp only
          refine wpS_bind (s_setG ?_)
          exact wpS_pure ⟨sm3.setG _, _, _, _, _, rfl, m, hi, hi2, hj, hj2, by omega⟩
      case s2 =>
        rintro y c st3 _ hy ⟨sm3', i, j, ou, mg, ac, bc, rfl, m, hi, hi2, hj, hj2, hx4⟩
        dsimp only
        have sm3 := fun g => sm3'.setG g
        obtain ⟨c1, hc1, cut1⟩ := cut_of hA (xb.toList[j - 1]'(by omega)) false 0 i (by omega)
        obtain ⟨le1, gt1⟩ := ffalse (by omega) hc1 cut1
        have m1 : MHa xa xb (ou ++ (xa.extract c1 i).reverse) c1 j := m.extA hA hc1 (by omega) fun t ht h1 h2 z hz => by
          refine Int.le_trans ?_ (Int.le_of_lt (gt1 t ht h1 h2))
          exact take_le hB (n := j - 1) (by omega) z (by rw [show j - 1 + 1 = j by omega]; exact hz)
        by_cases hmg : mg > 1
        · rw [if_pos hmg]
          refine wpS_bind (s_setG (wpS_bind (s_elemL (i := j - 1) (by omega) ?_)))
          refine wpS_bind (s_gal (c := c1) ((sm3 _).kind.trans hk) hIa (hIb _ (List.getElem_mem _)) (by omega) (by omega) hc1 cut1 ?_)
          dsimp only
          by_cases k0 : i - c1 > 0
          · rw [if_pos k0]
            by_cases e1 : c1 = 0
            · rw [if_pos (by simpa using e1)]
              exact wpS_pure ⟨sm3 _, .inl ⟨_, _, rfl, m1.done0 hA hB (.inl e1)⟩⟩
            · rw [if_neg (by simpa using e1)]
              refine wpS_bind (s_elemL (i := j - 1) (by omega) ?_)
              have M2 : MHa xa xb (Array.push (ou ++ (xa.extract c1 i).reverse) (xb.toList[j - 1]'(by omega))) c1 (j - 1) := MHa.pushB (by rw [show j - 1 + 1 = j by omega]; exact m1) hB (by omega) (fun z hz => le1 z hz)
              by_cases e3 : j - 1 = 1
              · rw [if_pos (by simpa using e3)]
                exact wpS_pure ⟨sm3 _, .inl ⟨_, _, rfl, M2.first hA hB hb e3 h0⟩⟩
              · rw [if_neg (by simpa using e3)]
                refine wpS_bind (s_elemL (i := c1 - 1) (by omega) ?_)
                obtain ⟨c2, hc2, cut2⟩ := cut_of hB (xa.toList[c1 - 1]'(by omega)) true 0 (j - 1) (by omega)
                obtain ⟨lt2, ge2⟩ := ftrue (by omega) hc2 cut2
                refine wpS_bind (s_gal (c := c2) ((sm3 _).kind.trans hk) hIb (hIa _ (List.getElem_mem _)) (by omega) (by omega) hc2 cut2 ?_)
                dsimp only
                by_cases k1 : j - 1 - c2 > 0
                · rw [if_pos k1]
                  have M3 : MHa xa xb (Array.push (ou ++ (xa.extract c1 i).reverse) (xb.toList[j - 1]'(by omega)) ++ (xb.extract c2 (j - 1)).reverse) c1 c2 := M2.extB hB hc2 (by omega) fun t ht h1 h2 z hz => by
                    refine Int.le_trans ?_ (ge2 t ht h1 h2)
                    exact take_le hA (n := c1 - 1) (by omega) z (by rw [show c1 - 1 + 1 = c1 by omega]; exact hz)
                  by_cases e4 : c2 = 1
                  · rw [if_pos (by simpa using e4)]
                    exact wpS_pure ⟨sm3 _, .inl ⟨_, _, rfl, M3.first hA hB hb e4 h0⟩⟩
                  · rw [if_neg (by simpa using e4)]
                    by_cases e6 : c2 = 0
                    · rw [if_pos (by simpa using e6)]
                      exact wpS_pure ⟨sm3 _, .inl ⟨_, _, rfl, M3.done0 hA hB (.inr e6)⟩⟩
                    · rw [if_neg (by simpa using e6)]
                      refine wpS_bind (s_elemL (i := c1 - 1) (by omega) ?_)
                      have M4 : MHa xa xb (Array.push (Array.push (ou ++ (xa.extract c1 i).reverse) (xb.toList[j - 1]'(by omega)) ++ (xb.extract c2 (j - 1)).reverse) (xa.toList[c1 - 1]'(by omega))) (c1 - 1) c2 := MHa.pushA (by rw [show c1 - 1 + 1 = c1 by omega]; exact M3) hA (by omega) (fun z hz => Int.le_of_lt (lt2 z hz))
                      by_cases e5 : c1 - 1 = 0
                      · rw [if_pos (by simpa using e5)]
                        exact wpS_pure ⟨sm3 _, .inl ⟨_, _, rfl, M4.done0 hA hB (.inl e5)⟩⟩
                      · rw [if_neg (by simpa using e5)]
                        split
                        · exact wpS_pure ⟨sm3 _, .inr ⟨_, _, _, _, _, _, rfl, M4, by omega, by omega, by omega, by omega, by omega⟩⟩
                        · exact wpS_pure ⟨sm3 _, _, _, _, _, _, _, rfl, M4, by omega, by omega, by omega, by omega, by omega⟩
                · rw [if_neg k1]
                  have c20 : c2 = j - 1 := by omega
                  refine wpS_bind (s_elemL (i := c1 - 1) (by omega) ?_)
                  have M4 : MHa xa xb (Array.push (Array.push (ou ++ (xa.extract c1 i).reverse) (xb.toList[j - 1]'(by omega))) (xa.toList[c1 - 1]'(by omega))) (c1 - 1) (j - 1) := MHa.pushA (by rw [show c1 - 1 + 1 = c1 by omega]; exact M2) hA (by omega) (fun z hz => Int.le_of_lt (lt2 z (by rw [c20]; exact hz)))
                  by_cases e5 : c1 - 1 = 0
                  · rw [if_pos (by simpa using e5)]
                    exact wpS_pure ⟨sm3 _, .inl ⟨_, _, rfl, M4.done0 hA hB (.inl e5)⟩⟩
                  · rw [if_neg (by simpa using e5)]
                    split
                    · exact wpS_pure ⟨sm3 _, .inr ⟨_, _, _, _, _, _, rfl, M4, by omega, by omega, by omega, by omega, by omega⟩⟩
                    · exact wpS_pure ⟨sm3 _, _, _, _, _, _, _, rfl, M4, by omega, by omega, by omega, by omega, by omega⟩
          · rw [if_neg k0]
            have c10 : c1 = i := by omega
            refine wpS_bind (s_elemL (i := j - 1) (by omega) ?_)
            have M2 : MHa xa xb (Array.push ou (xb.toList[j - 1]'(by omega))) i (j - 1) := MHa.pushB (by rw [show j - 1 + 1 = j by omega]; exact m) hB (by omega) (fun z hz => le1 z (by rw [c10]; exact hz))
            by_cases e3 : j - 1 = 1
            · rw [if_pos (by simpa using e3)]
              exact wpS_pure ⟨sm3 _, .inl ⟨_, _, rfl, M2.first hA hB hb e3 h0⟩⟩
            · rw [if_neg (by simpa using e3)]
              refine wpS_bind (s_elemL (i := i - 1) (by omega) ?_)
              obtain ⟨c2, hc2, cut2⟩ := cut_of hB (xa.toList[i - 1]'(by omega)) true 0 (j - 1) (by omega)
              obtain ⟨lt2, ge2⟩ := ftrue (by omega) hc2 cut2
              refine wpS_bind (s_gal (c := c2) ((sm3 _).kind.trans hk) hIb (hIa _ (List.getElem_mem _)) (by omega) (by omega) hc2 cut2 ?_)
              dsimp only
              by_cases k1 : j - 1 - c2 > 0
              · rw [if_pos k1]
                have M3 : MHa xa xb (Array.push ou (xb.toList[j - 1]'(by omega)) ++ (xb.extract c2 (j - 1)).reverse) i c2 := M2.extB hB hc2 (by omega) fun t ht h1 h2 z hz => by
                  refine Int.le_trans ?_ (ge2 t ht h1 h2)
                  exact take_le hA (n := i - 1) (by omega) z (by rw [show i - 1 + 1 = i by omega]; exact hz)
                by_cases e4 : c2 = 1
                · rw [if_pos (by simpa using e4)]
                  exact wpS_pure ⟨sm3 _, .inl ⟨_, _, rfl, M3.first hA hB hb e4 h0⟩⟩
                · rw [if_neg (by simpa using e4)]
                  by_cases e6 : c2 = 0
                  · rw [if_pos (by simpa using e6)]
                    exact wpS_pure ⟨sm3 _, .inl ⟨_, _, rfl, M3.done0 hA hB (.inr e6)⟩⟩
                  · rw [if_neg (by simpa using e6)]
                    refine wpS_bind (s_elemL (i := i - 1) (by omega) ?_)
                    have M4 : MHa xa xb (Array.push (Array.push ou (xb.toList[j - 1]'(by omega)) ++ (xb.extract c2 (j - 1)).reverse) (xa.toList[i - 1]'(by omega))) (i - 1) c2 := MHa.pushA (by rw [show i - 1 + 1 = i by omega]; exact M3) hA (by omega) (fun z hz => Int.le_of_lt (lt2 z hz))
                    by_cases e5 : i - 1 = 0
                    · rw [if_pos (by simpa using e5)]
                      exact wpS_pure ⟨sm3 _, .inl ⟨_, _, rfl, M4.done0 hA hB (.inl e5)⟩⟩
                    · rw [if_neg (by simpa using e5)]
                      split
                      · exact wpS_pure ⟨sm3 _, .inr ⟨_, _, _, _, _, _, rfl, M4, by omega, by omega, by omega, by omega, by omega⟩⟩
                      · exact wpS_pure ⟨sm3 _, _, _, _, _, _, _, rfl, M4, by omega, by omega, by omega, by omega, by omega⟩
              · rw [if_neg k1]
                have c20 : c2 = j - 1 := by omega
                refine wpS_bind (s_elemL (i := i - 1) (by omega) ?_)
                have M4 : MHa xa xb (Array.push (Array.push ou (xb.toList[j - 1]'(by omega))) (xa.toList[i - 1]'(by omega))) (i - 1) (j - 1) := MHa.pushA (by rw [show i - 1 + 1 = i by omega]; exact M2) hA (by omega) (fun z hz => Int.le_of_lt (lt2 z (by rw [c20]; exact hz)))
                by_cases e5 : i - 1 = 0
                · rw [if_pos (by simpa using e5)]
                  exact wpS_pure ⟨sm3 _, .inl ⟨_, _, rfl, M4.done0 hA hB (.inl e5)⟩⟩
                · rw [if_neg (by simpa using e5)]
                  split
                  · exact wpS_pure ⟨sm3 _, .inr ⟨_, _, _, _, _, _, rfl, M4, by omega, by omega, by omega, by omega, by omega⟩⟩
                  · exact wpS_pure ⟨sm3 _, _, _, _, _, _, _, rfl, M4, by omega, by omega, by omega, by omega, by omega⟩
        · rw [if_neg hmg]
          refine wpS_bind (s_setG (wpS_bind (s_elemL (i := j - 1) (by omega) ?_)))
          refine wpS_bind (s_gal (c := c1) ((sm3 _).kind.trans hk) hIa (hIb _ (List.getElem_mem _)) (by omega) (by omega) hc1 cut1 ?_)
          dsimp only
          by_cases k0 : i - c1 > 0
          · rw [if_pos k0]
            by_cases e1 : c1 = 0
            · rw [if_pos (by simpa using e1)]
              exact wpS_pure ⟨sm3 _, .inl ⟨_, _, rfl, m1.done0 hA hB (.inl e1)⟩⟩
            · rw [if_neg (by simpa using e1)]
              refine wpS_bind (s_elemL (i := j - 1) (by omega) ?_)
              have M2 : MHa xa xb (Array.push (ou ++ (xa.extract c1 i).reverse) (xb.toList[j - 1]'(by omega))) c1 (j - 1) := MHa.pushB (by rw [show j - 1 + 1 = j by omega]; exact m1) hB (by omega) (fun z hz => le1 z hz)
              by_cases e3 : j - 1 = 1
              · rw [if_pos (by simpa using e3)]
                exact wpS_pure ⟨sm3 _, .inl ⟨_, _, rfl, M2.first hA hB hb e3 h0⟩⟩
              · rw [if_neg (by simpa using e3)]
                refine wpS_bind (s_elemL (i := c1 - 1) (by omega) ?_)
                obtain ⟨c2, hc2, cut2⟩ := cut_of hB (xa.toList[c1 - 1]'(by omega)) true 0 (j - 1) (by omega)
                obtain ⟨lt2, ge2⟩ := ftrue (by omega) hc2 cut2
                refine wpS_bind (s_gal (c := c2) ((sm3 _).kind.trans hk) hIb (hIa _ (List.getElem_mem _)) (by omega) (by omega) hc2 cut2 ?_)
                dsimp only
                by_cases k1 : j - 1 - c2 > 0
                · rw [if_pos k1]
                  have M3 : MHa xa xb (Array.push (ou ++ (xa.extract c1 i).reverse) (xb.toList[j - 1]'(by omega)) ++ (xb.extract c2 (j - 1)).reverse) c1 c2 := M2.extB hB hc2 (by omega) fun t ht h1 h2 z hz => by
                    refine Int.le_trans ?_ (ge2 t ht h1 h2)
                    exact take_le hA (n := c1 - 1) (by omega) z (by rw [show c1 - 1 + 1 = c1 by omega]; exact hz)
                  by_cases e4 : c2 = 1
                  · rw [if_pos (by simpa using e4)]
                    exact wpS_pure ⟨sm3 _, .inl ⟨_, _, rfl, M3.first hA hB hb e4 h0⟩⟩
                  · rw [if_neg (by simpa using e4)]
                    by_cases e6 : c2 = 0
                    · rw [if_pos (by simpa using e6)]
                      exact wpS_pure ⟨sm3 _, .inl ⟨_, _, rfl, M3.done0 hA hB (.inr e6)⟩⟩
                    · rw [if_neg (by simpa using e6)]
                      refine wpS_bind (s_elemL (i := c1 - 1) (by omega) ?_)
                      have M4 : MHa xa xb (Array.push (Array.push (ou ++ (xa.extract c1 i).reverse) (xb.toList[j - 1]'(by omega)) ++ (xb.extract c2 (j - 1)).reverse) (xa.toList[c1 - 1]'(by omega))) (c1 - 1) c2 := MHa.pushA (by rw [show c1 - 1 + 1 = c1 by omega]; exact M3) hA (by omega) (fun z hz => Int.le_of_lt (lt2 z hz))
                      by_cases e5 : c1 - 1 = 0
                      · rw [if_pos (by simpa using e5)]
                        exact wpS_pure ⟨sm3 _, .inl ⟨_, _, rfl, M4.done0 hA hB (.inl e5)⟩⟩
                      · rw [if_neg (by simpa using e5)]
                        split
                        · exact wpS_pure ⟨sm3 _, .inr ⟨_, _, _, _, _, _, rfl, M4, by omega, by omega, by omega, by omega, by omega⟩⟩
                        · exact wpS_pure ⟨sm3 _, _, _, _, _, _, _, rfl, M4, by omega, by omega, by omega, by omega, by omega⟩
                · rw [if_neg k1]
                  have c20 : c2 = j - 1 := by omega
                  refine wpS_bind (s_elemL (i := c1 - 1) (by omega) ?_)
                  have M4 : MHa xa xb (Array.push (Array.push (ou ++ (xa.extract c1 i).reverse) (xb.toList[j - 1]'(by omega))) (xa.toList[c1 - 1]'(by omega))) (c1 - 1) (j - 1) := MHa.pushA (by rw [show c1 - 1 + 1 = c1 by omega]; exact M2) hA (by omega) (fun z hz => Int.le_of_lt (lt2 z (by rw [c20]; exact hz)))
                  by_cases e5 : c1 - 1 = 0
                  · rw [if_pos (by simpa using e5)]
                    exact wpS_pure ⟨sm3 _, .inl ⟨_, _, rfl, M4.done0 hA hB (.inl e5)⟩⟩
                  · rw [if_neg (by simpa using e5)]
                    split
                    · exact wpS_pure ⟨sm3 _, .inr ⟨_, _, _, _, _, _, rfl, M4, by omega, by omega, by omega, by omega, by omega⟩⟩
                    · exact wpS_pure ⟨sm3 _, _, _, _, _, _, _, rfl, M4, by omega, by omega, by omega, by omega, by omega⟩
          · rw [if_neg k0]
            have c10 : c1 = i := by omega
            refine wpS_bind (s_elemL (i := j - 1) (by omega) ?_)
            have M2 : MHa xa xb (Array.push ou (xb.toList[j - 1]'(by omega))) i (j - 1) := MHa.pushB (by rw [show j - 1 + 1 = j by omega]; exact m) hB (by omega) (fun z hz => le1 z (by rw [c10]; exact hz))
            by_cases e3 : j - 1 = 1
            · rw [if_pos (by simpa using e3)]
              exact wpS_pure ⟨sm3 _, .inl ⟨_, _, rfl, M2.first hA hB hb e3 h0⟩⟩
            · rw [if_neg (by simpa using e3)]
              refine wpS_bind (s_elemL (i := i - 1) (by omega) ?_)
              obtain ⟨c2, hc2, cut2⟩ := cut_of hB (xa.toList[i - 1]'(by omega)) true 0 (j - 1) (by omega)
              obtain ⟨lt2, ge2⟩ := ftrue (by omega) hc2 cut2
              refine wpS_bind (s_gal (c := c2) ((sm3 _).kind.trans hk) hIb (hIa _ (List.getElem_mem _)) (by omega) (by omega) hc2 cut2 ?_)
              dsimp only
              by_cases k1 : j - 1 - c2 > 0
              · rw [if_pos k1]
                have M3 : MHa xa xb (Array.push ou (xb.toList[j - 1]'(by omega)) ++ (xb.extract c2 (j - 1)).reverse) i c2 := M2.extB hB hc2 (by omega) fun t ht h1 h2 z hz => by
                  refine Int.le_trans ?_ (ge2 t ht h1 h2)
                  exact take_le hA (n := i - 1) (by omega) z (by rw [show i - 1 + 1 = i by omega]; exact hz)
                by_cases e4 : c2 = 1
                · rw [if_pos (by simpa using e4)]
                  exact wpS_pure ⟨sm3 _, .inl ⟨_, _, rfl, M3.first hA hB hb e4 h0⟩⟩
                · rw [if_neg (by simpa using e4)]
                  by_cases e6 : c2 = 0
                  · rw [if_pos (by simpa using e6)]
                    exact wpS_pure ⟨sm3 _, .inl ⟨_, _, rfl, M3.done0 hA hB (.inr e6)⟩⟩
                  · rw [if_neg (by simpa using e6)]
                    refine wpS_bind (s_elemL (i := i - 1) (by omega) ?_)
                    have M4 : MHa xa xb (Array.push (Array.push ou (xb.toList[j - 1]'(by omega)) ++ (xb.extract c2 (j - 1)).reverse) (xa.toList[i - 1]'(by omega))) (i - 1) c2 := MHa.pushA (by rw [show i - 1 + 1 = i by omega]; exact M3) hA (by omega) (fun z hz => Int.le_of_lt (lt2 z hz))
                    by_cases e5 : i - 1 = 0
                    · rw [if_pos (by simpa using e5)]
                      exact wpS_pure ⟨sm3 _, .inl ⟨_, _, rfl, M4.done0 hA hB (.inl e5)⟩⟩
                    · rw [if_neg (by simpa using e5)]
                      split
                      · exact wpS_pure ⟨sm3 _, .inr ⟨_, _, _, _, _, _, rfl, M4, by omega, by omega, by omega, by omega, by omega⟩⟩
                      · exact wpS_pure ⟨sm3 _, _, _, _, _, _, _, rfl, M4, by omega, by omega, by omega, by omega, by omega⟩
              · rw [if_neg k1]
                have c20 : c2 = j - 1 := by omega
                refine wpS_bind (s_elemL (i := i - 1) (by omega) ?_)
                have M4 : MHa xa xb (Array.push (Array.push ou (xb.toList[j - 1]'(by omega))) (xa.toList[i - 1]'(by omega))) (i - 1) (j - 1) := MHa.pushA (by rw [show i - 1 + 1 = i by omega]; exact M2) hA (by omega) (fun z hz => Int.le_of_lt (lt2 z (by rw [c20]; exact hz)))
                by_cases e5 : i - 1 = 0
                · rw [if_pos (by simpa using e5)]
                  exact wpS_pure ⟨sm3 _, .inl ⟨_, _, rfl, M4.done0 hA hB (.inl e5)⟩⟩
                · rw [if_neg (by simpa using e5)]
                  split
                  · exact wpS_pure ⟨sm3 _, .inr ⟨_, _, _, _, _, _, rfl, M4, by omega, by omega, by omega, by omega, by omega⟩⟩
                  · exact wpS_pure ⟨sm3 _, _, _, _, _, _, _, rfl, M4, by omega, by omega, by omega, by omega, by omega⟩
end
end SRV
set_option Elab.async false
set_option linter.all false
set_option maxRecDepth 100000
set_option maxHeartbeats 4000000
namespace SRV
open PySem
open PyProof.Rows hiding K SortedTo K_bubble K_mirror K_congr K_mirror_equal
variable [KV]
noncomputable def PM : List (Nat × Nat × Nat) → List (List Keyed) → Nat → Prop
  | [], [], _ => True
  | p :: r, l :: ls, lo => p.1 = lo ∧ p.2.1 = l.length ∧ PM r ls (lo + l.length)
  | _, _, _ => False
theorem PM.len : ∀ {ps : List (Nat × Nat × Nat)} {ls : List (List Keyed)} {lo : Nat}, PM ps ls lo → ps.length = ls.length
  | [], [], _, _ => rfl
  | _ :: r, _ :: ls, lo, h => by rw [List.length_cons, List.length_cons, PM.len h.2.2]
  | [], _ :: _, _, h => h.elim
  | _ :: _, [], _, h => h.elim
theorem PM.at : ∀ {ps : List (Nat × Nat × Nat)} {a : List (List Keyed)} {l : List Keyed} {b : List (List Keyed)} {lo : Nat}, PM ps (a ++ l :: b) lo → ∃ pw, ps[a.length]? = some (lo + a.flatten.length, l.length, pw)
  | (s, n, p) :: r, [], l, b, lo, h => ⟨p, by have h1 := h.1; have h2 := h.2.1; simp only at h1 h2; subst h1 h2; rfl⟩
  | p :: r, x :: a, l, b, lo, h => by
    obtain ⟨pw, e⟩ := PM.at (a := a) h.2.2
    refine ⟨pw, ?_⟩
    rw [List.length_cons, List.getElem?_cons_succ, e, List.flatten_cons, List.length_append, Nat.add_assoc]
  | [], [], _, _, _, h => h.elim
  | [], _ :: _, _, _, _, h => h.elim
theorem PM.merge : ∀ {ps : List (Nat × Nat × Nat)} {a : List (List Keyed)} {l m : List Keyed} {b : List (List Keyed)} {lo : Nat} {x : List Keyed} {pw : Nat}, PM ps (a ++ l :: m :: b) lo → x.length = l.length + m.length →
    PM ((ps.set a.length (lo + a.flatten.length, l.length + m.length, pw)).eraseIdx (a.length + 1)) (a ++ x :: b) lo
  | p :: q :: r, [], l, m, b, lo, x, pw, h, hx => by
    obtain ⟨h1, h2, h3, h4, h5⟩ := h
    show PM ((lo + 0, l.length + m.length, pw) :: r) (x :: b) lo
    refine ⟨rfl, hx.symm, ?_⟩
    rw [hx, ← Nat.add_assoc]
    exact h5
  | p :: r, y :: a, l, m, b, lo, x, pw, h, hx => by
    obtain ⟨h1, h2, h3⟩ := h
    have ih := PM.merge (pw := pw) h3 hx
    show PM (p :: ((r.set a.length _).eraseIdx (a.length + 1))) (y :: (a ++ x :: b)) lo
    refine ⟨h1, h2, ?_⟩
    rw [List.flatten_cons, List.length_append, ← Nat.add_assoc]
    exact ih
  | [], [], _, _, _, _, _, _, h, _ => h.elim
  | [_], [], _, _, _, _, _, _, h, _ => h.2.2.elim
  | [], _ :: _, _, _, _, _, _, _, h, _ => h.elim
theorem seg_at {xs : Array Keyed} {pre R post : List Keyed} (e : xs.toList = pre ++ R ++ post) {t : Nat} (ht : t < R.length) : xs[pre.length + t]? = some R[t] := by
  rw [← Array.getElem?_toList, e, List.append_assoc, List.getElem?_append_right (by omega), Nat.add_sub_cancel_left, List.getElem?_append_left ht, List.getElem?_eq_getElem ht]
theorem cut_seg {xs : Array Keyed} {R : List Keyed} (hs : R.Pairwise Le) (ky : Keyed) (lf : Bool) (bs : Nat) (hK : ∀ t (h : t < R.length), K xs (bs + t) = kv R[t]) : ∃ c, c ≤ R.length ∧ ∀ i, i < R.length → Byd lf ky xs bs i = decide (i < c) := by
  have down : ∀ i j, i ≤ j → j < R.length → Byd lf ky xs bs j = true → Byd lf ky xs bs i = true := fun i j hij hj h => by
    have hm : kv (R[i]'(by omega)) ≤ kv R[j] := by
      by_cases e : i = j
      · subst e; exact Int.le_refl _
      · exact List.pairwise_iff_getElem.mp hs _ _ _ _ (by omega)
    unfold Byd at h ⊢
    rw [hK j hj] at h
    rw [hK i (by omega)]
    cases lf with
    | true => simp only [if_true, decide_eq_true_eq] at h ⊢; omega
    | false => simp only [Bool.false_eq_true, if_false, Bool.not_eq_true', decide_eq_false_iff_not] at h ⊢; omega
  have main : ∀ n, n ≤ R.length → ∃ c, c ≤ n ∧ ∀ i, i < n → Byd lf ky xs bs i = decide (i < c) := by
    intro n
    induction n with
    | zero => exact fun _ => ⟨0, Nat.le_refl _, fun i hi => absurd hi (Nat.not_lt_zero _)⟩
    | succ n ih =>
      intro hn
      obtain ⟨c, hc, hd⟩ := ih (by omega)
      by_cases hb : Byd lf ky xs bs n = true
      · refine ⟨n + 1, Nat.le_refl _, fun i hi => ?_⟩
        rw [decide_eq_true hi]
        exact down i n (by omega) (by omega) hb
      · refine ⟨c, by omega, fun i hi => ?_⟩
        by_cases h : i = n
        · subst h
          rw [decide_eq_false (by omega)]
          exact Bool.not_eq_true _ ▸ (by simpa using hb)
        · exact hd i (by omega)
  exact main _ (Nat.le_refl _)
theorem write_back : ∀ (l : List Keyed) (k off : Nat) (xs : Array Keyed), off + k + l.length ≤ xs.size → ((l.zipIdx k).foldl (fun a (x : Keyed × Nat) => a.setIfInBounds (off + x.2) x.1) xs).toList = xs.toList.take (off + k) ++ l ++ xs.toList.drop (off + k + l.length)
  | [], k, off, xs, _ => by simp
  | p :: l, k, off, xs, h => by
    rw [List.zipIdx_cons, List.foldl_cons]
    rw [List.length_cons] at h
    rw [write_back l (k + 1) off _ (by rw [Array.size_setIfInBounds]; omega)]
    rw [Array.toList_setIfInBounds]
    have hlen : off + k < xs.toList.length := by rw [Array.length_toList]; omega
    rw [List.drop_set_of_lt (by omega), List.length_cons]
    have e1 : (xs.toList.set (off + k) p).take (off + (k + 1)) = xs.toList.take (off + k) ++ [p] := by
      rw [← Nat.add_assoc, List.take_succ, List.take_set_of_le (by omega), List.getElem?_set_self hlen]
      rfl
    have e2 : off + (k + 1) + l.length = off + k + (l.length + 1) := by omega
    rw [e1, e2]
    simp
theorem pw3 {a b c : List Keyed} (ha : a.Pairwise Le) (hb : b.Pairwise Le) (hc : c.Pairwise Le) (hab : ∀ x ∈ a, ∀ y ∈ b, kv x ≤ kv y) (hac : ∀ x ∈ a, ∀ y ∈ c, kv x ≤ kv y) (hbc : ∀ x ∈ b, ∀ y ∈ c, kv x ≤ kv y) : (a ++ b ++ c).Pairwise Le := by
  refine List.pairwise_append.mpr ⟨List.pairwise_append.mpr ⟨ha, hb, hab⟩, hc, fun x hx y hy => ?_⟩
  rcases List.mem_append.mp hx with hx | hx
  · exact hac x hx y hy
  · exact hbc x hx y hy
noncomputable def mat : Nat → StateT SortSt Sem Bool := sortPriv% PySem.Builtin.mergeAt
theorem mat_is : mergeAt' = mat := rfl
theorem mat_eq (i : Nat) : mat i = (do
  let z ← get
  let (some (p, n, pw), some (q, m, _)) := ((pendingOf z)[i]?, (pendingOf z)[i + 1]?) | unsupported "internal:list.sort.pending"
  set (setPending z (((pendingOf z).setIfInBounds i (p, n + m, pw)).eraseIdxIfInBounds (i + 1)))
  let some k ← gal false (← elem' (arrOf z) q) (arrOf z) p n 0 | return false
  let (p, n) := (p + k, n - k)
  if n == 0 then return true
  let some m ← gal true (← elem' (arrOf z) (p + n - 1)) (arrOf z) q m (m - 1) | return false
  if m == 0 then return true
  let x := (arrOf z).extract p q
  let y := (arrOf z).extract q (q + m)
  let mg ← if n ≤ m then mlo x y else mhi x y
  modify fun v => setArr v (mg.toList.zipIdx.foldl (fun a (u, j) => a.setIfInBounds (p + j) u) (arrOf v))
  return (failedOf (← get)).isNone) := rfl
end SRV
set_option Elab.async false
set_option linter.all false
set_option maxRecDepth 100000
set_option maxHeartbeats 4000000
namespace SRV
open PySem
open PyProof.Rows hiding K SortedTo K_bubble K_mirror K_congr K_mirror_equal
variable [KV]
theorem s_set {prog : Program} {w : World} {A : Around} {E : Value → Shared → Prop} {st v : SortSt} {Q : PUnit → SortSt → Prop} (h : Q ⟨⟩ v) : wpS (model prog w) A E KV.sh (set v : StateT SortSt Sem PUnit) Q st := by
  unfold wpS
  rw [StateT.run_set]
  exact wpAny_pure ⟨rfl, h⟩
theorem drop_pre : ∀ (p z : List Keyed) (c : Nat), (p ++ z).drop (p.length + c) = z.drop c
  | [], z, c => by simp
  | x :: p, z, c => by
    rw [List.length_cons, show p.length + 1 + c = p.length + c + 1 by omega, List.cons_append, List.drop_succ_cons]
    exact drop_pre p z c
theorem ext_seg {xs : Array Keyed} {pre R post : List Keyed} (e : xs.toList = pre ++ R ++ post) (c d : Nat) (hd : d ≤ R.length) (hc : c ≤ d) : (xs.extract (pre.length + c) (pre.length + d)).toList = (R.drop c).take (d - c) := by
  rw [Array.toList_extract, List.extract_eq_drop_take, e, List.append_assoc, drop_pre]
  have : (R ++ post).drop c = R.drop c ++ post := List.drop_append_of_le_length (by omega)
  rw [this, show pre.length + d - (pre.length + c) = d - c by omega, List.take_append_of_le_length (by rw [List.length_drop]; omega)]
theorem AllI.sub {xs ys : Array Keyed} (h : AllI xs) (hs : ∀ p ∈ ys.toList, p ∈ xs.toList) : AllI ys := fun p hp => h p (hs p hp)
section
variable {prog : Program} {w : World} {A : Around} {E : Value → Shared → Prop}
structure Kept (a b : SortSt) : Prop where
  kind : kindOf b = kindOf a
  fail : failedOf b = failedOf a
theorem s_mat {st : SortSt} {L1 L2 : List (List Keyed)} {R1 R2 rest : List Keyed} {Q : Bool → SortSt → Prop} (hk : kindOf st = KV.kind) (hf : failedOf st = none) (hI : AllI (arrOf st))
    (ha : (arrOf st).toList = (L1 ++ R1 :: R2 :: L2).flatten ++ rest) (pm : PM (pendingOf st).toList (L1 ++ R1 :: R2 :: L2) 0) (n1 : R1 ≠ []) (n2 : R2 ≠ []) (s1 : R1.Pairwise Le) (s2 : R2.Pairwise Le)
    (h : ∀ st' R, Kept st st' → R.Perm (R1 ++ R2) → R.Pairwise Le → (arrOf st').toList = (L1 ++ R :: L2).flatten ++ rest → PM (pendingOf st').toList (L1 ++ R :: L2) 0 → Q true st') : wpS (model prog w) A E KV.sh (mat L1.length) Q st := by
  have p1 : 0 < R1.length := List.length_pos_iff.mpr n1
  have p2 : 0 < R2.length := List.length_pos_iff.mpr n2
  obtain ⟨pw, e1⟩ := pm.at
  have e2' := (show PM (pendingOf st).toList ((L1 ++ [R1]) ++ R2 :: L2) 0 by rw [List.append_assoc]; exact pm).at
  obtain ⟨pw2, e2⟩ := e2'
  rw [List.length_append, List.length_singleton, List.flatten_append, List.flatten_cons, List.flatten_nil, List.append_nil, List.length_append] at e2
  rw [Array.getElem?_toList] at e1 e2
  have ea : (arrOf st).toList = L1.flatten ++ R1 ++ (R2 ++ L2.flatten ++ rest) := by rw [ha]; simp
  have eb : (arrOf st).toList = (L1.flatten ++ R1) ++ R2 ++ (L2.flatten ++ rest) := by rw [ha]; simp
  have hsz : (arrOf st).size = L1.flatten.length + R1.length + R2.length + L2.flatten.length + rest.length := by
    rw [← Array.length_toList, ha]
    simp only [List.flatten_append, List.flatten_cons, List.length_append]
    omega
  have pmR : ∀ R : List Keyed, R.length = R1.length + R2.length → PM (((pendingOf st).setIfInBounds L1.length (0 + L1.flatten.length, R1.length + R2.length, pw)).eraseIdxIfInBounds (L1.length + 1)).toList (L1 ++ R :: L2) 0 := fun R hR => by
    have := PM.merge (pw := pw) pm hR
    rw [Array.toList_eraseIdxIfInBounds, Array.toList_setIfInBounds]
    exact this
  have join : (L1 ++ (R1 ++ R2) :: L2).flatten ++ rest = (arrOf st).toList := by rw [ha]; simp
  rw [mat_eq]
  refine wpS_bind (wpS_get ?_)
  rw [e1, e2]
  dsimp only
  refine wpS_bind (s_set ?_)
  have g2 : (arrOf st)[0 + (L1.flatten.length + R1.length)]? = some R2[0] := by
    have := seg_at eb p2
    rw [List.length_append, Nat.add_zero] at this
    rw [Nat.zero_add]; exact this
  refine wpS_bind (s_elem g2 ?_)
  have hK1 : ∀ t (ht : t < R1.length), K (arrOf st) (0 + L1.flatten.length + t) = kv R1[t] := fun t ht => by
    rw [Nat.zero_add]; exact K_of (seg_at ea ht)
  have hK2 : ∀ t (ht : t < R2.length), K (arrOf st) (0 + (L1.flatten.length + R1.length) + t) = kv R2[t] := fun t ht => by
    have := K_of (seg_at eb ht)
    rw [List.length_append] at this
    rw [Nat.zero_add]; exact this
  have hI2 : IsI R2[0] := hI _ (by rw [eb]; exact List.mem_append_left _ (List.mem_append_right _ (List.getElem_mem _)))
  obtain ⟨c, hc, cut⟩ := cut_seg s1 R2[0] false (0 + L1.flatten.length) hK1
  have lo : ∀ t (ht : t < R1.length), t < c → kv R1[t] ≤ kv R2[0] := fun t ht htc => by
    have := cut t ht
    unfold Byd at this
    rw [hK1 t ht, decide_eq_true htc] at this
    simp only [Bool.false_eq_true, if_false, Bool.not_eq_true', decide_eq_false_iff_not] at this
    omega
  have up : ∀ t (ht : t < R1.length), c ≤ t → kv R2[0] < kv R1[t] := fun t ht htc => by
    have := cut t ht
    unfold Byd at this
    rw [hK1 t ht, decide_eq_false (show ¬ t < c by omega)] at this
    simpa using this
  refine wpS_bind (s_gal (st := setPending st _) (c := c) hk hI hI2 (by omega) p1 hc cut ?_)
  dsimp only
  have b0 : ∀ y ∈ R2, kv R2[0] ≤ kv y := fun y hy => head_le s2 p2 y (by simpa using hy)
  by_cases c1 : R1.length - c = 0
  · rw [if_pos (by simpa using c1)]
    refine wpS_pure (h _ (R1 ++ R2) ⟨rfl, rfl⟩ (List.Perm.refl _) ?_ join.symm (pmR _ (by rw [List.length_append])))
    refine List.pairwise_append.mpr ⟨s1, s2, fun x hx y hy => ?_⟩
    obtain ⟨t, ht, rfl⟩ := List.mem_iff_getElem.mp hx
    exact Int.le_trans (lo t ht (by omega)) (b0 y hy)
  rw [if_neg (by simpa using c1)]
  have gl : (arrOf st)[0 + L1.flatten.length + c + (R1.length - c) - 1]? = some (R1[R1.length - 1]'(by omega)) := by
    have := seg_at ea (t := R1.length - 1) (by omega)
    rw [show 0 + L1.flatten.length + c + (R1.length - c) - 1 = L1.flatten.length + (R1.length - 1) by omega]; exact this
  refine wpS_bind (s_elem gl ?_)
  have hI1 : IsI (R1[R1.length - 1]'(by omega)) := hI _ (by rw [ea]; exact List.mem_append_left _ (List.mem_append_right _ (List.getElem_mem _)))
  obtain ⟨d, hd, cut2⟩ := cut_seg s2 (R1[R1.length - 1]'(by omega)) true (0 + (L1.flatten.length + R1.length)) hK2
  have lo2 : ∀ t (ht : t < R2.length), t < d → kv R2[t] < kv (R1[R1.length - 1]'(by omega)) := fun t ht htc => by
    have := cut2 t ht
    unfold Byd at this
    rw [hK2 t ht, decide_eq_true htc] at this
    simpa using this
  have up2 : ∀ t (ht : t < R2.length), d ≤ t → kv (R1[R1.length - 1]'(by omega)) ≤ kv R2[t] := fun t ht htc => by
    have := cut2 t ht
    unfold Byd at this
    rw [hK2 t ht, decide_eq_false (show ¬ t < d by omega)] at this
    simpa using this
  refine wpS_bind (s_gal (st := setPending st _) (c := d) hk hI hI1 (by omega) (by omega) hd cut2 ?_)
  dsimp only
  have lastA : ∀ x ∈ R1, kv x ≤ kv (R1[R1.length - 1]'(by omega)) := fun x hx => by
    refine take_le s1 (n := R1.length - 1) (by omega) x ?_
    rw [List.take_of_length_le (by omega)]; exact hx
  by_cases c2 : d = 0
  · rw [if_pos (by simpa using c2)]
    refine wpS_pure (h _ (R1 ++ R2) ⟨rfl, rfl⟩ (List.Perm.refl _) ?_ join.symm (pmR _ (by rw [List.length_append])))
    refine List.pairwise_append.mpr ⟨s1, s2, fun x hx y hy => ?_⟩
    exact Int.le_trans (lastA x hx) (Int.le_trans (up2 0 p2 (by omega)) (b0 y hy))
  rw [if_neg (by simpa using c2)]
  have ex : ((arrOf st).extract (0 + L1.flatten.length + c) (0 + (L1.flatten.length + R1.length))).toList = R1.drop c := by
    have := ext_seg ea c R1.length (Nat.le_refl _) hc
    rw [Nat.zero_add, Nat.zero_add, this, List.take_of_length_le (by rw [List.length_drop]; exact Nat.le_refl _)]
  have ey : ((arrOf st).extract (0 + (L1.flatten.length + R1.length)) (0 + (L1.flatten.length + R1.length) + d)).toList = R2.take d := by
    have := ext_seg eb 0 d hd (Nat.zero_le _)
    rw [List.length_append, Nat.add_zero, List.drop_zero, Nat.sub_zero] at this
    rw [Nat.zero_add]; exact this
  generalize hx : (arrOf st).extract (0 + L1.flatten.length + c) (0 + (L1.flatten.length + R1.length)) = xx at ex ⊢
  generalize hy : (arrOf st).extract (0 + (L1.flatten.length + R1.length)) (0 + (L1.flatten.length + R1.length) + d) = yy at ey ⊢
  have Ix : AllI xx := hI.sub fun p hp => by rw [ex] at hp; rw [ea]; exact List.mem_append_left _ (List.mem_append_right _ (List.mem_of_mem_drop hp))
  have Iy : AllI yy := hI.sub fun p hp => by rw [ey] at hp; rw [eb]; exact List.mem_append_left _ (List.mem_append_right _ (List.mem_of_mem_take hp))
  have Sx : xx.toList.Pairwise Le := by rw [ex]; exact s1.sublist (List.drop_sublist _ _)
  have Sy : yy.toList.Pairwise Le := by rw [ey]; exact s2.sublist (List.take_sublist _ _)
  have lx : xx.toList.length = R1.length - c := by rw [ex, List.length_drop]
  have ly : yy.toList.length = d := by rw [ey, List.length_take]; omega
  have y0 : yy.toList[0]'(by omega) = R2[0] := by simp only [ey, List.getElem_take]
  have xl : xx.toList[xx.toList.length - 1]'(by omega) = R1[R1.length - 1]'(by omega) := by
    simp only [ex, List.getElem_drop, List.length_drop]
    congr 1
    omega
  have h0 : ∀ z ∈ xx.toList, kv (yy.toList[0]'(by omega)) ≤ kv z := fun z hz => by
    rw [y0]
    rw [ex] at hz
    obtain ⟨u, hu, rfl⟩ := mem_dropE hz
    exact Int.le_of_lt (up _ hu (by omega))
  have hl : ∀ z ∈ yy.toList, kv z ≤ kv (xx.toList[xx.toList.length - 1]'(by omega)) := fun z hz => by
    rw [xl]
    rw [ey] at hz
    obtain ⟨u, hu, rfl⟩ := List.mem_iff_getElem.mp hz
    rw [List.length_take] at hu
    rw [List.getElem_take]
    exact Int.le_of_lt (lo2 u (by omega) (by omega))
  have fin : ∀ (o : Array Keyed) (st2 : SortSt), SameSt (setPending st (((pendingOf st).setIfInBounds L1.length (0 + L1.flatten.length, R1.length + R2.length, pw)).eraseIdxIfInBounds (L1.length + 1))) st2 → Mer xx.toList yy.toList o.toList →
      wpS (model prog w) A E KV.sh (do modify fun v => setArr v (o.toList.zipIdx.foldl (fun a (u, j) => a.setIfInBounds (0 + L1.flatten.length + c + j) u) (arrOf v)); return (failedOf (← get)).isNone) Q st2 := by
    intro o st2 sm me
    refine wpS_bind (wpS_modify (wpS_bind (wpS_get ?_)))
    have hf2 : failedOf st2 = none := sm.fail.trans hf
    show wpS _ _ _ _ (pure (failedOf st2).isNone) Q _
    rw [hf2]
    have harr : arrOf st2 = arrOf st := sm.arr
    have lo' : o.toList.length = R1.length - c + d := by rw [me.perm.length_eq, List.length_append, lx, ly]
    have hwb := write_back o.toList 0 (0 + L1.flatten.length + c) (arrOf st) (by rw [lo']; omega)
    refine wpS_pure (h _ (R1.take c ++ o.toList ++ R2.drop d) ⟨sm.kind, sm.fail⟩ ?_ ?_ ?_ ?_)
    · have e := me.perm
      rw [ex, ey] at e
      have e3 : (R1.take c ++ o.toList ++ R2.drop d).Perm (R1.take c ++ (R1.drop c ++ R2.take d) ++ R2.drop d) := List.Perm.append_right _ (List.Perm.append_left _ e)
      have e4 : R1.take c ++ (R1.drop c ++ R2.take d) ++ R2.drop d = R1 ++ R2 := by
        rw [← List.append_assoc, List.take_append_drop, List.append_assoc, List.take_append_drop]
      rw [e4] at e3
      exact e3
    · have om : ∀ z ∈ o.toList, z ∈ R1.drop c ∨ z ∈ R2.take d := fun z hz => by
        have := me.perm.mem_iff.mp hz
        rw [ex, ey] at this
        exact List.mem_append.mp this
      have ta : ∀ x ∈ R1.take c, kv x ≤ kv R2[0] := fun x hx => by
        obtain ⟨u, hu, rfl⟩ := List.mem_iff_getElem.mp hx
        rw [List.length_take] at hu
        rw [List.getElem_take]
        exact lo u (by omega) (by omega)
      have td : ∀ y ∈ R2.drop d, kv (R1[R1.length - 1]'(by omega)) ≤ kv y := fun y hy => by
        obtain ⟨u, hu, rfl⟩ := mem_dropE hy
        exact up2 _ hu (by omega)
      refine pw3 (s1.sublist (List.take_sublist _ _)) me.srt (s2.sublist (List.drop_sublist _ _)) (fun x hx y hy => ?_) (fun x hx y hy => ?_) (fun x hx y hy => ?_)
      · rcases om y hy with hy | hy
        · obtain ⟨u, hu, rfl⟩ := mem_dropE hy
          exact Int.le_trans (ta x hx) (Int.le_of_lt (up _ hu (by omega)))
        · exact Int.le_trans (ta x hx) (b0 y (List.mem_of_mem_take hy))
      · exact Int.le_trans (ta x hx) (b0 y (List.mem_of_mem_drop hy))
      · rcases om x hx with hx | hx
        · exact Int.le_trans (lastA x (List.mem_of_mem_drop hx)) (td y hy)
        · obtain ⟨u, hu, rfl⟩ := List.mem_iff_getElem.mp hx
          rw [List.length_take] at hu
          rw [List.getElem_take]
          exact Int.le_trans (Int.le_of_lt (lo2 u (by omega) (by omega))) (td y hy)
    · show (o.toList.zipIdx.foldl (fun a (x : Keyed × Nat) => a.setIfInBounds (0 + L1.flatten.length + c + x.2) x.1) (arrOf st2)).toList = _
      rw [harr]
      refine hwb.trans ?_
      rw [Nat.add_zero, lo']
      have t1 : (arrOf st).toList.take (0 + L1.flatten.length + c) = L1.flatten ++ R1.take c := by
        rw [ea, List.append_assoc, Nat.zero_add, List.take_append, List.take_of_length_le (by omega), Nat.add_sub_cancel_left, List.take_append_of_le_length (by omega)]
      have t2 : (arrOf st).toList.drop (0 + L1.flatten.length + c + (R1.length - c + d)) = R2.drop d ++ (L2.flatten ++ rest) := by
        rw [eb, List.append_assoc, show 0 + L1.flatten.length + c + (R1.length - c + d) = (L1.flatten ++ R1).length + d by rw [List.length_append]; omega, drop_pre, List.drop_append_of_le_length (by omega)]
      rw [t1, t2]
      simp only [List.flatten_append, List.flatten_cons, List.append_assoc]
    · show PM (pendingOf st2).toList _ _
      rw [sm.pend]
      refine pmR _ ?_
      rw [List.length_append, List.length_append, List.length_take, List.length_drop, lo']
      omega
  by_cases c3 : R1.length - c ≤ d
  · rw [if_pos c3]
    exact wpS_bind (s_mlo hk Ix Iy Sx Sy (by omega) (by omega) h0 hl fun o st2 sm me => fin o st2 sm me)
  · rw [if_neg c3]
    exact wpS_bind (s_mhi hk Ix Iy Sx Sy (by omega) (by omega) h0 hl fun o st2 sm me => fin o st2 sm me)
end
end SRV
set_option Elab.async false
set_option linter.all false
set_option maxRecDepth 100000
set_option maxHeartbeats 4000000
namespace SRV
open PySem
open PyProof.Rows hiding K SortedTo K_bubble K_mirror K_congr K_mirror_equal
variable [KV]
structure SX (a₀ : Array Keyed) (lo : Nat) (st₀ st : SortSt) : Prop where
  perm : (arrOf st).Perm a₀
  kind : kindOf st = KV.kind
  fail : failedOf st = none
  pend : pendingOf st = pendingOf st₀
  pre : ∀ k, k < lo → (arrOf st)[k]? = a₀[k]?
theorem SX.size {a₀ : Array Keyed} {lo : Nat} {st₀ st : SortSt} (h : SX a₀ lo st₀ st) : (arrOf st).size = a₀.size := h.perm.size_eq
theorem SX.setA {a₀ : Array Keyed} {lo : Nat} {st₀ st : SortSt} (h : SX a₀ lo st₀ st) {xs : Array Keyed} (hp : xs.Perm (arrOf st)) (he : ∀ k, k < lo → xs[k]? = (arrOf st)[k]?) : SX a₀ lo st₀ (setArr st xs) :=
  ⟨hp.trans h.perm, h.kind, h.fail, h.pend, fun k hk => (he k hk).trans (h.pre k hk)⟩
noncomputable def SrtL (xs : Array Keyed) (lo n : Nat) : Prop := ∀ i j, i ≤ j → j < n → K xs (lo + i) ≤ K xs (lo + j)
noncomputable def NonL (xs : Array Keyed) (lo n : Nat) : Prop := ∀ i j, i ≤ j → j < n → K xs (lo + j) ≤ K xs (lo + i)
section
variable {prog : Program} {w : World} {A : Around} {E : Value → Shared → Prop} {a₀ : Array Keyed} {lo : Nat} {st₀ : SortSt}
theorem sx_lt {st : SortSt} {i j : Nat} {Q : Option Bool → SortSt → Prop} (hX : SX a₀ lo st₀ st) (h0 : AllI a₀) (hi : i < a₀.size) (hj : j < a₀.size) (h : Q (some (decide (K (arrOf st) i < K (arrOf st) j))) st) : wpS (model prog w) A E KV.sh (ltAt' i j) Q st := by
  have get : ∀ k, k < a₀.size → ∃ p, (arrOf st)[k]? = some p ∧ IsI p := fun k hk => by
    have hk' : k < (arrOf st).size := by rw [hX.size]; exact hk
    have hm : (arrOf st)[k] ∈ a₀.toList := (Array.perm_iff_toList_perm.mp hX.perm).mem_iff.mp (by simp)
    exact ⟨_, getElem?_pos (arrOf st) k hk', h0 _ hm⟩
  obtain ⟨p, e1, g1⟩ := get i hi
  obtain ⟨q, e2, g2⟩ := get j hj
  rw [K_of e1, K_of e2] at h
  rw [ltAt'_eq]
  exact wpS_bind (wpS_get (wpS_bind (s_elem e1 (wpS_bind (s_elem e2 (s_lt hX.kind g1 g2 h))))))
theorem sx_mirror {st : SortSt} {i j : Nat} (hX : SX a₀ lo st₀ st) (hi : lo ≤ i) (hj : j ≤ a₀.size) : SX a₀ lo st₀ (setArr st (mirror (arrOf st) i j ((j - i) / 2))) :=
  hX.setA (mirror_perm _ _ _ _) fun k hk => by
    rw [getElem?_mirror_all (by rw [hX.size]; exact hj), if_neg (by omega)]
theorem s_bin {st : SortSt} {n ok : Nat} {Q : Bool → SortSt → Prop} (h0 : AllI a₀) (hn : lo + n ≤ a₀.size) (hok : ok ≤ n) (hX : SX a₀ lo st₀ st) (hs : SrtL (arrOf st) lo ok)
    (h : ∀ st', SX a₀ lo st₀ st' → SrtL (arrOf st') lo n → Q true st') : wpS (model prog w) A E KV.sh (binarySort' lo n ok) Q st := by
  rw [binarySort'_eq]
  refine wpS_bind (wpS_mono (wpS_forRange (I := fun k c z => c = (none, ()) ∧ SX a₀ lo st₀ z ∧ SrtL (arrOf z) lo (min k n)) (Q := fun c z => c = (none, ()) ∧ SX a₀ lo st₀ z ∧ SrtL (arrOf z) lo n) ?st1 ?fi1 ?in1) ?po1)
  case po1 => rintro c z ⟨rfl, zX, zs⟩; exact wpS_pure (h z zX zs)
  case in1 =>
    refine ⟨rfl, hX, fun i j hij hj => ?_⟩
    by_cases h1 : ok = 0
    · have : i = j := by omega
      subst this; exact Int.le_refl _
    · exact hs i j hij (by omega)
  case fi1 =>
    rintro c z ⟨hc, zX, zs⟩
    refine ⟨hc, zX, ?_⟩
    rwa [show min (max (max ok 1) n) n = n by omega] at zs
  case st1 =>
    rintro k c z hak hkn ⟨rfl, zX, zs⟩
    rw [show min k n = k by omega] at zs
    refine wpS_bind (wpS_mono (wpS_forRange (I := fun x c v => z = v ∧ ∃ l r, c = (none, l, r) ∧ l ≤ r ∧ r ≤ k ∧ r - l ≤ k - x ∧ (∀ i, i < l → K (arrOf z) (lo + i) ≤ K (arrOf z) (lo + k)) ∧ (∀ i, r ≤ i → i < k → K (arrOf z) (lo + k) < K (arrOf z) (lo + i)))
      (Q := fun c v => z = v ∧ ∃ l r, c = (none, l, r) ∧ l ≤ k ∧ (∀ i, i < l → K (arrOf z) (lo + i) ≤ K (arrOf z) (lo + k)) ∧ (∀ i, l ≤ i → i < k → K (arrOf z) (lo + k) < K (arrOf z) (lo + i))) ?ist ?ifi ⟨rfl, 0, k, rfl, by omega, by omega, by omega, fun i hi => by omega, fun i g1 g2 => by omega⟩) ?ipo)
    case ifi =>
      rintro c v ⟨rfl, l, r, rfl, hlr, hrk, hm, hlo, hhi⟩
      have : l = r := by omega
      subst this
      exact ⟨rfl, l, l, rfl, hrk, hlo, hhi⟩
    case ist =>
      rintro x c v _ hxk ⟨rfl, l, r, rfl, hlr, hrk, hm, hlo, hhi⟩
      dsimp only
      by_cases hge : l ≥ r
      · rw [if_pos hge]
        have : l = r := by omega
        subst this
        exact wpS_pure ⟨rfl, l, l, rfl, hrk, hlo, hhi⟩
      · rw [if_neg hge]
        refine wpS_bind (sx_lt zX h0 (by omega) (by omega) ?_)
        by_cases hz : K (arrOf z) (lo + k) < K (arrOf z) (lo + (l + r) / 2)
        · simp only [hz, decide_true, if_true]
          exact wpS_pure ⟨rfl, l, (l + r) / 2, rfl, by omega, by omega, by omega, hlo, fun i g1 g2 => Int.lt_of_lt_of_le hz (zs _ _ g1 g2)⟩
        · simp only [hz, decide_false, Bool.false_eq_true, if_false]
          exact wpS_pure ⟨rfl, (l + r) / 2 + 1, r, rfl, by omega, by omega, by omega, fun i g1 => Int.le_trans (zs i ((l + r) / 2) (by omega) (by omega)) (Int.not_lt.mp hz), hhi⟩
    case ipo =>
      rintro c v ⟨rfl, l, r, rfl, hlk, hlo, hhi⟩
      show wpS _ _ _ _ (do moveDown' (lo + k) (lo + l); pure (ForInStep.yield (none, ()))) _ _
      rw [moveDown'_eq]
      have hks : lo + k < (arrOf z).size := by rw [zX.size]; omega
      have hd : lo + k - (lo + k - (lo + l)) = lo + l := by omega
      refine wpS_bind (wpS_modify (wpS_pure ⟨rfl, zX.setA (bubble_perm _ _ _) fun q hq => ?_, ?_⟩))
      · rw [getElem?_bubble hks _ (by omega), hd, if_neg (by omega), if_neg (by omega)]
      · rw [show min (k + 1) n = k + 1 by omega]
        intro i j hij hj
        show K (bubble (arrOf z) (lo + k) (lo + k - (lo + l))) (lo + i) ≤ K (bubble (arrOf z) (lo + k) (lo + k - (lo + l))) (lo + j)
        rw [K_bubble hks (by omega), K_bubble hks (by omega), hd]
        have back : ∀ q, 0 < q → lo + q - 1 = lo + (q - 1) := fun q hq => by omega
        repeat' split
        all_goals first
          | (exfalso; omega)
          | exact Int.le_refl _
          | exact hlo _ (by omega)
          | (rw [back j (by omega)]; exact Int.le_of_lt (hhi _ (by omega) (by omega)))
          | exact Int.le_of_lt (hhi _ (by omega) (by omega))
          | (rw [back i (by omega), back j (by omega)]; exact zs _ _ (by omega) (by omega))
          | (rw [back i (by omega)]; exact zs _ _ (by omega) (by omega))
          | (rw [back j (by omega)]; exact zs _ _ (by omega) (by omega))
          | exact zs _ _ (by omega) (by omega)
end
end SRV
set_option Elab.async false
set_option linter.all false
set_option maxRecDepth 100000
set_option maxHeartbeats 4000000
namespace SRV
open PySem
open PyProof.Rows hiding K SortedTo K_bubble K_mirror K_congr K_mirror_equal
variable [KV]
noncomputable def upL (lo a m : Nat) : StateT SortSt Sem (Option (Option Nat) × Nat) :=
  forIn [a:m] ((none, a) : Option (Option Nat) × Nat) fun _ c => do
    let t ← ltAt' (lo + c.snd) (lo + c.snd - 1)
    match t with
    | some b => if b = true then pure (.done (none, c.snd)) else pure (.yield (none, c.snd + 1))
    | _ => pure (.done (some none, c.snd))
noncomputable def dnL (lo a m : Nat) : StateT SortSt Sem (Option (Option Nat) × Nat × Nat) :=
  forIn [a:m] ((none, a, 0) : Option (Option Nat) × Nat × Nat) fun _ c => do
    let t ← ltAt' (lo + c.snd.fst) (lo + c.snd.fst - 1)
    match t with
    | some b =>
      if b = true then
        if c.snd.snd > 0 then do
          reverseSlice' (lo + c.snd.fst - (c.snd.snd + 1)) (lo + c.snd.fst)
          pure (.yield (none, c.snd.fst + 1, 0))
        else pure (.yield (none, c.snd.fst + 1, 0))
      else do
        let u ← ltAt' (lo + c.snd.fst - 1) (lo + c.snd.fst)
        match u with
        | some d => if d = true then pure (.done (none, c.snd.fst, c.snd.snd)) else pure (.yield (none, c.snd.fst + 1, c.snd.snd + 1))
        | _ => pure (.done (some none, c.snd.fst, c.snd.snd))
    | _ => pure (.done (some none, c.snd.fst, c.snd.snd))
noncomputable def enL (lo a m : Nat) : StateT SortSt Sem (Option Nat) := do
  reverseSlice' lo (lo + a)
  let c ← upL lo a m
  match c.fst with
  | some r => pure r
  | none => pure (some c.snd)
noncomputable def faL (lo a m : Nat) : StateT SortSt Sem (Option Nat) := do
  liftM (rule "list.sort.descending-run")
  let c ← dnL lo (a + 1) m
  match c.fst with
  | some r => pure r
  | none =>
    if c.snd.snd > 0 then do
      reverseSlice' (lo + c.snd.fst - (c.snd.snd + 1)) (lo + c.snd.fst)
      enL lo c.snd.fst m
    else enL lo c.snd.fst m
theorem run_eq (lo m : Nat) : countRun' lo m = (do
    let c ← upL lo 1 m
    match c.fst with
    | some r => pure r
    | none =>
      if (c.snd == m) = true then pure (some c.snd)
      else if c.snd > 1 then do
        let t ← ltAt' lo (lo + c.snd - 1)
        match t with
        | some b => if b = true then pure (some c.snd) else do
            reverseSlice' lo (lo + c.snd)
            faL lo c.snd m
        | _ => pure none
      else faL lo c.snd m) := by
  rw [countRun'_eq]
  dsimp only
  unfold faL enL dnL upL
  congr 1
  funext c
  obtain ⟨r, k⟩ := c
  cases r with
  | some r => rfl
  | none =>
    dsimp only
    split
    · rfl
    · split
      · congr 1
        funext t
        cases t with
        | none => rfl
        | some b =>
          dsimp only
          split
          · rfl
          · congr 1
            funext _y
            congr 1
            funext _x
            congr 1
            congr 1
            funext y
            obtain ⟨r, k, q⟩ := y
            cases r with
            | some r => rfl
            | none =>
              dsimp only
              split
              · congr 1
                funext _z
                congr 1
                funext _x
                congr 1
                funext y
                obtain ⟨r, k⟩ := y
                cases r <;> rfl
              · congr 1
                funext _x
                congr 1
                funext y
                obtain ⟨r, k⟩ := y
                cases r <;> rfl
      · skip
        congr 1
        funext _x
        congr 1
        congr 1
        funext y
        obtain ⟨r, k, q⟩ := y
        cases r with
        | some r => rfl
        | none =>
          dsimp only
          split
          · congr 1
            funext _z
            congr 1
            funext _x
            congr 1
            funext y
            obtain ⟨r, k⟩ := y
            cases r <;> rfl
          · congr 1
            funext _x
            congr 1
            funext y
            obtain ⟨r, k⟩ := y
            cases r <;> rfl
section
variable {prog : Program} {w : World} {A : Around} {E : Value → Shared → Prop} {a₀ : Array Keyed} {lo : Nat} {st₀ : SortSt}
theorem s_rev {st : SortSt} {i j : Nat} {Q : Unit → SortSt → Prop} (h : Q () (setArr st (mirror (arrOf st) i j ((j - i) / 2)))) : wpS (model prog w) A E KV.sh (reverseSlice' i j) Q st := by
  rw [reverseSlice'_eq]
  exact wpS_modify h
theorem back1 {lo x : Nat} (h : 1 ≤ x) : lo + x - 1 = lo + (x - 1) := by omega
theorem s_up {st : SortSt} {a m : Nat} {Q : Option (Option Nat) × Nat → SortSt → Prop} (h0 : AllI a₀) (hm : lo + m ≤ a₀.size) (ha : 1 ≤ a) (ham : a ≤ m) (hX : SX a₀ lo st₀ st)
    (hs : SrtL (arrOf st) lo a)
    (h : ∀ n, a ≤ n → n ≤ m → SrtL (arrOf st) lo n → (n = m ∨ K (arrOf st) (lo + n) < K (arrOf st) (lo + (n - 1))) → Q (none, n) st) : wpS (model prog w) A E KV.sh (upL lo a m) Q st := by
  unfold upL
  refine wpS_forRange (I := fun x c v => st = v ∧ c = (none, x) ∧ SrtL (arrOf st) lo x) ?s1 ?f1 ⟨rfl, rfl, hs⟩
  case f1 =>
    rintro c v ⟨rfl, rfl, g⟩
    rw [show max a m = m by omega] at g ⊢
    exact h m ham (Nat.le_refl _) g (.inl rfl)
  case s1 =>
    rintro x c v hax hxm ⟨rfl, rfl, g⟩
    dsimp only
    rw [back1 (by omega)]
    refine wpS_bind (sx_lt hX h0 (by omega) (by omega) ?_)
    by_cases hl : K (arrOf st) (lo + x) < K (arrOf st) (lo + (x - 1))
    · simp only [hl, decide_true, if_true]
      exact wpS_pure (h x hax (by omega) g (.inr hl))
    · simp only [hl, decide_false, Bool.false_eq_true, if_false]
      refine wpS_pure ⟨rfl, rfl, fun i j hij hj => ?_⟩
      rcases Nat.lt_or_ge j x with q | q
      · exact g i j hij q
      · obtain rfl : j = x := by omega
        rcases Nat.eq_or_lt_of_le hij with rfl | q2
        · exact Int.le_refl _
        · exact Int.le_trans (g i (j - 1) (by omega) (by omega)) (Int.not_lt.mp hl)
theorem s_en {st : SortSt} {a m : Nat} {Q : Option Nat → SortSt → Prop} (h0 : AllI a₀) (hm : lo + m ≤ a₀.size) (ha : 1 ≤ a) (ham : a ≤ m) (hX : SX a₀ lo st₀ st)
    (hs : NonL (arrOf st) lo a) (h : ∀ n v, SX a₀ lo st₀ v → 1 ≤ n → n ≤ m → SrtL (arrOf v) lo n → Q (some n) v) : wpS (model prog w) A E KV.sh (enL lo a m) Q st := by
  unfold enL
  have hz : lo + a ≤ (arrOf st).size := by rw [hX.size]; omega
  refine wpS_bind (s_rev ?_)
  have hX' := sx_mirror (i := lo) (j := lo + a) hX (Nat.le_refl _) (by omega)
  refine wpS_bind (s_up h0 hm ha ham hX' ?_ fun n g1 g2 g3 _ => wpS_pure (h n _ hX' (by omega) g2 g3))
  intro i j hij hj
  show K (mirror (arrOf st) lo (lo + a) ((lo + a - lo) / 2)) _ ≤ K (mirror (arrOf st) lo (lo + a) ((lo + a - lo) / 2)) _
  rw [K_mirror hz, K_mirror hz, if_pos (by omega), if_pos (by omega), show lo + (lo + a) - 1 - (lo + i) = lo + (a - 1 - i) by omega, show lo + (lo + a) - 1 - (lo + j) = lo + (a - 1 - j) by omega]
  exact hs _ _ (by omega) (by omega)
noncomputable def Alike (xs : Array Keyed) (lo n q : Nat) : Prop := ∀ i, lo + n - (q + 1) ≤ i → i < lo + n → K xs i = K xs (lo + n - 1)
theorem alike0 {xs : Array Keyed} {n : Nat} (h : 1 ≤ n) : Alike xs lo n 0 := fun i a b => by
  obtain rfl : i = lo + n - 1 := by omega
  rfl
theorem s_dn {st : SortSt} {a m : Nat} {Q : Option (Option Nat) × Nat × Nat → SortSt → Prop} (h0 : AllI a₀) (hm : lo + m ≤ a₀.size) (ha : 1 ≤ a) (ham : a ≤ m) (hX : SX a₀ lo st₀ st)
    (hs : NonL (arrOf st) lo a)
    (h : ∀ n q v, SX a₀ lo st₀ v → a ≤ n → n ≤ m → NonL (arrOf v) lo n → q + 1 ≤ n → Alike (arrOf v) lo n q → Q (none, n, q) v) : wpS (model prog w) A E KV.sh (dnL lo a m) Q st := by
  unfold dnL
  refine wpS_forRange (I := fun x c v => ∃ q, c = (none, x, q) ∧ SX a₀ lo st₀ v ∧ NonL (arrOf v) lo x ∧ q + 1 ≤ x ∧ Alike (arrOf v) lo x q) ?s1 ?f1 ⟨0, rfl, hX, hs, by omega, alike0 ha⟩
  case f1 =>
    rintro c v ⟨q, rfl, vX, vs, vq, va⟩
    rw [show max a m = m by omega] at vs vq va ⊢
    exact h m q v vX ham (Nat.le_refl _) vs vq va
  case s1 =>
    rintro x c v hax hxm ⟨q, rfl, vX, vs, vq, va⟩
    dsimp only
    have hz : lo + x ≤ (arrOf v).size := by rw [vX.size]; omega
    have grow : ∀ xs : Array Keyed, (∀ k, K xs k = K (arrOf v) k) → K (arrOf v) (lo + x) ≤ K (arrOf v) (lo + (x - 1)) → NonL xs lo (x + 1) := by
      intro xs hk hl i j hij hj
      rw [hk, hk]
      rcases Nat.lt_or_ge j x with g | g
      · exact vs i j hij g
      · obtain rfl : j = x := by omega
        rcases Nat.eq_or_lt_of_le hij with rfl | g2
        · exact Int.le_refl _
        · exact Int.le_trans hl (vs i (j - 1) (by omega) (by omega))
    rw [back1 (by omega)]
    refine wpS_bind (sx_lt vX h0 (by omega) (by omega) ?_)
    by_cases hl : K (arrOf v) (lo + x) < K (arrOf v) (lo + (x - 1))
    · simp only [hl, decide_true, if_true]
      by_cases hq : q > 0
      · rw [if_pos hq]
        exact wpS_bind (s_rev (wpS_pure ⟨0, rfl, sx_mirror vX (by omega) (by omega), grow _ (K_mirror_equal hz va) (Int.le_of_lt hl), by omega, alike0 (by omega)⟩))
      · rw [if_neg hq]
        exact wpS_pure ⟨0, rfl, vX, grow _ (fun _ => rfl) (Int.le_of_lt hl), by omega, alike0 (by omega)⟩
    · simp only [hl, decide_false, Bool.false_eq_true, if_false]
      refine wpS_bind (sx_lt vX h0 (by omega) (by omega) ?_)
      by_cases hg : K (arrOf v) (lo + (x - 1)) < K (arrOf v) (lo + x)
      · simp only [hg, decide_true, if_true]
        exact wpS_pure (h x q v vX hax (by omega) vs vq va)
      · simp only [hg, decide_false, Bool.false_eq_true, if_false]
        have he : K (arrOf v) (lo + x) = K (arrOf v) (lo + (x - 1)) := by omega
        refine wpS_pure ⟨q + 1, rfl, vX, grow _ (fun _ => rfl) (by omega), by omega, fun i g1 g2 => ?_⟩
        rw [show lo + (x + 1) - 1 = lo + x by omega]
        by_cases hi : i = lo + x
        · rw [hi]
        · rw [he, ← back1 (by omega)]
          exact va i (by omega) (by omega)
theorem s_fa {st : SortSt} {a m : Nat} {Q : Option Nat → SortSt → Prop} (h0 : AllI a₀) (hm : lo + m ≤ a₀.size) (ham : a + 1 ≤ m) (hX : SX a₀ lo st₀ st)
    (hs : NonL (arrOf st) lo (a + 1)) (h : ∀ n v, SX a₀ lo st₀ v → 1 ≤ n → n ≤ m → SrtL (arrOf v) lo n → Q (some n) v) : wpS (model prog w) A E KV.sh (faL lo a m) Q st := by
  unfold faL
  refine wpS_bind (wpS_lift (wpAny_rule ⟨rfl, ?_⟩))
  refine wpS_bind (s_dn h0 hm (by omega) ham hX hs fun n q v vX g1 g2 vs vq va => ?_)
  dsimp only
  have hz : lo + n ≤ (arrOf v).size := by rw [vX.size]; omega
  by_cases hq : q > 0
  · rw [if_pos hq]
    refine wpS_bind (s_rev (s_en h0 hm (by omega) g2 (sx_mirror vX (by omega) (by omega)) ?_ h))
    intro i j hij hj
    show K (mirror (arrOf v) _ _ _) _ ≤ K (mirror (arrOf v) _ _ _) _
    rw [K_mirror_equal hz va, K_mirror_equal hz va]
    exact vs i j hij hj
  · rw [if_neg hq]
    exact s_en h0 hm (by omega) g2 vX vs h
theorem s_run {st : SortSt} {m : Nat} {Q : Option Nat → SortSt → Prop} (h0 : AllI a₀) (hm : lo + m ≤ a₀.size) (h1 : 1 ≤ m) (hX : SX a₀ lo st₀ st)
    (h : ∀ n v, SX a₀ lo st₀ v → 1 ≤ n → n ≤ m → SrtL (arrOf v) lo n → Q (some n) v) : wpS (model prog w) A E KV.sh (countRun' lo m) Q st := by
  rw [run_eq]
  have one : SrtL (arrOf st) lo 1 := fun i j hij hj => by
    obtain rfl : i = j := by omega
    exact Int.le_refl _
  refine wpS_bind (s_up h0 hm (Nat.le_refl 1) h1 hX one fun n g1 g2 gs go => ?_)
  dsimp only
  by_cases hn : n = m
  · rw [if_pos (by simpa using hn)]
    exact wpS_pure (h n st hX g1 g2 gs)
  · rw [if_neg (by simpa using hn)]
    have hl := go.resolve_left hn
    by_cases hg : n > 1
    · rw [if_pos hg]
      rw [back1 (by omega)]
      refine wpS_bind (sx_lt (i := lo) hX h0 (by omega) (by omega) ?_)
      by_cases hr : K (arrOf st) lo < K (arrOf st) (lo + (n - 1))
      · simp only [hr, decide_true, if_true]
        exact wpS_pure (h n st hX g1 g2 gs)
      · simp only [hr, decide_false, Bool.false_eq_true, if_false]
        have hz : lo + n ≤ (arrOf st).size := by rw [hX.size]; omega
        have al : ∀ k, lo ≤ k → k < lo + n → K (arrOf st) k = K (arrOf st) (lo + n - 1) := by
          intro k k1 k2
          obtain ⟨d, rfl⟩ := Nat.exists_eq_add_of_le k1
          have e1 := gs 0 d (by omega) (by omega)
          have e2 := gs d (n - 1) (by omega) (by omega)
          rw [back1 (by omega)]
          rw [Nat.add_zero] at e1
          omega
        refine wpS_bind (s_rev (s_fa h0 hm (by omega) (sx_mirror hX (Nat.le_refl _) (by omega)) ?_ h))
        intro i j hij hj
        show K (mirror (arrOf st) _ _ _) _ ≤ K (mirror (arrOf st) _ _ _) _
        rw [K_mirror_equal hz al, K_mirror_equal hz al]
        rcases Nat.lt_or_ge j n with q | q
        · rw [al (lo + i) (by omega) (by omega), al (lo + j) (by omega) (by omega)]
          exact Int.le_refl _
        · obtain rfl : j = n := by omega
          rcases Nat.eq_or_lt_of_le hij with rfl | q2
          · exact Int.le_refl _
          · rw [al (lo + i) (by omega) (by omega), back1 (by omega)]
            exact Int.le_of_lt hl
    · rw [if_neg hg]
      obtain rfl : n = 1 := by omega
      refine s_fa h0 hm (by omega) hX ?_ h
      intro i j hij hj
      rcases Nat.eq_or_lt_of_le hij with rfl | q2
      · exact Int.le_refl _
      · obtain rfl : i = 0 := by omega
        obtain rfl : j = 1 := by omega
        exact Int.le_of_lt hl
end
end SRV
set_option Elab.async false
set_option linter.all false
set_option maxRecDepth 100000
set_option maxHeartbeats 4000000
namespace SRV
open PySem
open PyProof.Rows hiding K SortedTo K_bubble K_mirror K_congr K_mirror_equal
variable [KV]
structure RS (a₀ : Array Keyed) (st : SortSt) (Ls : List (List Keyed)) (rest : List Keyed) : Prop where
  kind : kindOf st = KV.kind
  fail : failedOf st = none
  perm : (arrOf st).Perm a₀
  arr : (arrOf st).toList = Ls.flatten ++ rest
  pm : PM (pendingOf st).toList Ls 0
  runs : ∀ R ∈ Ls, R ≠ [] ∧ R.Pairwise Le
theorem AllI.perm {xs ys : Array Keyed} (h : AllI xs) (p : ys.Perm xs) : AllI ys := fun q hq => h q ((Array.perm_iff_toList_perm.mp p).mem_iff.mp hq)
theorem PM.alter : ∀ {ps : List (Nat × Nat × Nat)} {ls : List (List Keyed)} {lo : Nat} (k : Nat) {f : Nat × Nat × Nat → Nat × Nat × Nat}, (∀ p, (f p).1 = p.1 ∧ (f p).2.1 = p.2.1) → PM ps ls lo → PM (ps.modify k f) ls lo
  | [], [], _, k, f, _, _ => by cases k <;> trivial
  | p :: r, l :: ls, lo, 0, f, hf, h => by
    show PM (f p :: r) (l :: ls) lo
    exact ⟨(hf p).1.trans h.1, (hf p).2.trans h.2.1, h.2.2⟩
  | p :: r, l :: ls, lo, k + 1, f, hf, h => by
    show PM (p :: r.modify k f) (l :: ls) lo
    exact ⟨h.1, h.2.1, PM.alter k hf h.2.2⟩
  | [], _ :: _, _, _, _, _, h => h.elim
  | _ :: _, [], _, _, _, _, h => h.elim
theorem PM.snoc : ∀ {ps : List (Nat × Nat × Nat)} {ls : List (List Keyed)} {lo : Nat} {R : List Keyed} {k n : Nat}, PM ps ls lo → k = lo + ls.flatten.length → n = R.length → PM (ps ++ [(k, n, 0)]) (ls ++ [R]) lo
  | [], [], lo, R, k, n, _, e, e2 => ⟨by simpa using e, e2, trivial⟩
  | p :: r, l :: ls, lo, R, k, n, h, e, e2 => by
    refine ⟨h.1, h.2.1, PM.snoc h.2.2 ?_ e2⟩
    rw [e, List.flatten_cons, List.length_append, Nat.add_assoc]
  | [], _ :: _, _, _, _, _, h, _, _ => h.elim
  | _ :: _, [], _, _, _, _, h, _, _ => h.elim
section
variable {prog : Program} {w : World} {A : Around} {E : Value → Shared → Prop} {a₀ : Array Keyed}
theorem s_join {st : SortSt} {Ls : List (List Keyed)} {rest : List Keyed} {i : Nat} {Q : Bool → SortSt → Prop} (h0 : AllI a₀) (r : RS a₀ st Ls rest) (hi : i + 1 < Ls.length)
    (h : ∀ v Ms, RS a₀ v Ms rest → Ms.length + 1 = Ls.length → Ms.flatten.length = Ls.flatten.length → Q true v) : wpS (model prog w) A E KV.sh (mergeAt' i) Q st := by
  obtain ⟨L1, R1, R2, L2, rfl, rfl⟩ : ∃ L1 R1 R2 L2, Ls = L1 ++ R1 :: R2 :: L2 ∧ i = L1.length := by
    refine ⟨Ls.take i, Ls[i], Ls[i + 1], Ls.drop (i + 2), ?_, by rw [List.length_take]; omega⟩
    rw [← List.drop_eq_getElem_cons hi, ← List.drop_eq_getElem_cons (by omega), List.take_append_drop]
  have m1 := r.runs R1 (by simp)
  have m2 := r.runs R2 (by simp)
  rw [mat_is]
  refine s_mat r.kind r.fail (h0.perm r.perm) r.arr r.pm m1.1 m2.1 m1.2 m2.2 fun v R hk hp hs ha hpm => ?_
  have hl := hp.length_eq
  rw [List.length_append] at hl
  refine h v (L1 ++ R :: L2) ⟨hk.kind.trans r.kind, hk.fail.trans r.fail, ?_, ha, hpm, ?_⟩ (by simp; omega) ?_
  · refine Array.Perm.trans ?_ r.perm
    rw [Array.perm_iff_toList_perm, ha, r.arr]
    refine List.Perm.append_right _ ?_
    rw [List.flatten_append, List.flatten_append, List.flatten_cons, List.flatten_cons, List.flatten_cons, ← List.append_assoc R1]
    exact List.Perm.append_left _ (List.Perm.append_right _ hp)
  · intro T hT
    rcases List.mem_append.mp hT with g | g
    · exact r.runs T (by simp [g])
    · rcases List.mem_cons.mp g with rfl | g
      · refine ⟨fun e => ?_, hs⟩
        rw [e] at hl
        have := List.length_pos_iff.mpr m1.1
        simp at hl
        omega
      · exact r.runs T (by simp [g])
  · simp only [List.flatten_append, List.flatten_cons, List.length_append]
    omega
theorem many_runs : ∀ {Ls : List (List Keyed)}, (∀ R ∈ Ls, R ≠ [] ∧ R.Pairwise Le) → Ls.length ≤ Ls.flatten.length
  | [], _ => Nat.le_refl _
  | R :: Ls, h => by
    have := many_runs (Ls := Ls) fun T hT => h T (List.mem_cons_of_mem _ hT)
    have := List.length_pos_iff.mpr (h R (by simp)).1
    rw [List.length_cons, List.flatten_cons, List.length_append]
    omega
theorem RS.psize {st : SortSt} {Ls : List (List Keyed)} {rest : List Keyed} (r : RS a₀ st Ls rest) : (pendingOf st).size = Ls.length := by
  rw [← Array.length_toList]; exact r.pm.len
theorem RS.total {st : SortSt} {Ls : List (List Keyed)} {rest : List Keyed} (r : RS a₀ st Ls rest) : Ls.flatten.length + rest.length = a₀.size := by
  rw [← List.length_append, ← r.arr, Array.length_toList, r.perm.size_eq]
theorem RS.cut {st v : SortSt} {Ls : List (List Keyed)} {rest : List Keyed} {n : Nat} (r : RS a₀ st Ls rest) (x : SX (arrOf st) Ls.flatten.length st v) (hn : Ls.flatten.length + n ≤ a₀.size) (hs : SrtL (arrOf v) Ls.flatten.length n) :
    ∃ R rest', R.length = n ∧ R.Pairwise Le ∧ RS a₀ v Ls (R ++ rest') := by
  have hz : (arrOf v).toList.length = a₀.size := by rw [Array.length_toList, x.size, r.perm.size_eq]
  have ht : (arrOf v).toList.take Ls.flatten.length = Ls.flatten := by
    have e : (arrOf v).toList.take Ls.flatten.length = (arrOf st).toList.take Ls.flatten.length := by
      refine List.ext_getElem? fun k => ?_
      rw [List.getElem?_take, List.getElem?_take]
      split
      · rename_i g
        rw [Array.getElem?_toList, Array.getElem?_toList]
        exact x.pre k g
      · rfl
    rw [e, r.arr, List.take_left]
  refine ⟨((arrOf v).toList.drop Ls.flatten.length).take n, ((arrOf v).toList.drop Ls.flatten.length).drop n, ?_, ?_, x.kind, x.fail, x.perm.trans r.perm, ?_, ?_, r.runs⟩
  · rw [List.length_take, List.length_drop, hz]; omega
  · refine List.pairwise_iff_getElem.mpr fun i j hi hj hij => ?_
    rw [List.length_take, List.length_drop, hz] at hi hj
    have := hs i j (Nat.le_of_lt hij) (by omega)
    rw [K_at (by omega), K_at (by omega)] at this
    rw [List.getElem_take, List.getElem_take, List.getElem_drop, List.getElem_drop]
    exact this
  · rw [List.take_append_drop]
    conv => lhs; rw [← List.take_append_drop Ls.flatten.length (arrOf v).toList, ht]
  · rw [x.pend]; exact r.pm
theorem RS.add {st : SortSt} {Ls : List (List Keyed)} {R rest : List Keyed} {k n : Nat} (r : RS a₀ st Ls (R ++ rest)) (hR : R ≠ []) (hs : R.Pairwise Le) (hk : k = Ls.flatten.length) (hn : n = R.length) :
    RS a₀ (setPending st ((pendingOf st).push (k, n, 0))) (Ls ++ [R]) rest where
  kind := r.kind
  fail := r.fail
  perm := r.perm
  arr := by show (arrOf st).toList = _; rw [r.arr]; simp
  pm := by
    show PM ((pendingOf st).push (k, n, 0)).toList _ 0
    rw [Array.toList_push]
    exact r.pm.snoc (by omega) hn
  runs := fun T hT => by
    rcases List.mem_append.mp hT with g | g
    · exact r.runs T g
    · rw [List.mem_singleton.mp g]; exact ⟨hR, hs⟩
theorem RS.alter {st : SortSt} {Ls : List (List Keyed)} {rest : List Keyed} {k : Nat} {f : Nat × Nat × Nat → Nat × Nat × Nat} (hf : ∀ p, (f p).1 = p.1 ∧ (f p).2.1 = p.2.1) (r : RS a₀ st Ls rest) :
    RS a₀ (setPending st ((pendingOf st).modify k f)) Ls rest where
  kind := r.kind
  fail := r.fail
  perm := r.perm
  arr := r.arr
  pm := by
    show PM ((pendingOf st).modify k f).toList _ 0
    rw [Array.toList_modify]
    exact r.pm.alter k hf
  runs := r.runs
theorem RS.sorted {st : SortSt} {Ls : List (List Keyed)} (r : RS a₀ st Ls []) (h1 : Ls.length ≤ 1) : SortedTo (arrOf st) a₀.size := by
  have hz : (arrOf st).toList.length = a₀.size := by rw [Array.length_toList, r.perm.size_eq]
  have hp : (arrOf st).toList.Pairwise Le := by
    rw [r.arr]
    match Ls, h1, r.runs with
    | [], _, _ => simp
    | [R], _, g => simpa using (g R (by simp)).2
  intro i j hij hj
  rw [K_at (by omega), K_at (by omega)]
  rcases Nat.eq_or_lt_of_le hij with e | e
  · subst e; exact Int.le_refl _
  · exact List.pairwise_iff_getElem.mp hp i j (by omega) (by omega) e
end
end SRV
set_option Elab.async false
set_option linter.all false
set_option maxRecDepth 100000
set_option maxHeartbeats 4000000
namespace SRV
open PySem
open PyProof.Rows hiding K SortedTo K_bubble K_mirror K_congr K_mirror_equal
variable [KV]
section
variable {prog : Program} {w : World} {A : Around} {E : Value → Shared → Prop} {a₀ : Array Keyed}
noncomputable def putRun (sz lo n : Nat) : StateT SortSt Sem (ForInStep (Option Unit × Nat)) := do
  let z ← get
  match (pendingOf z).back? with
  | some (p, k, _) => do
    let c ← forIn [0:sz] ((none, ()) : Option Unit × Unit) fun _ _ => do
      let z ← get
      match if (pendingOf z).size > 1 then (pendingOf z)[(pendingOf z).size - 2]? else none with
      | some (_, _, o) =>
        if o ≤ power' sz (2 * p + k) (2 * p + k + k + n) sz then pure (.done (none, ()))
        else do
          let b ← mergeAt' ((pendingOf z).size - 2)
          if (!b) = true then pure (.done (some (), ())) else pure (.yield (none, ()))
      | _ => pure (.done (none, ()))
    match c.fst with
    | some r => pure (.done (some r, lo))
    | none => do
      modify fun s => setPending s ((pendingOf s).modify ((pendingOf s).size - 1) fun x => (x.fst, x.2.fst, power' sz (2 * p + k) (2 * p + k + k + n) sz))
      modify fun s => setPending s ((pendingOf s).push (lo, n, 0))
      pure (.yield (none, lo + n))
  | _ => do
    modify fun s => setPending s ((pendingOf s).push (lo, n, 0))
    pure (.yield (none, lo + n))
theorem s_put {st : SortSt} {Ls : List (List Keyed)} {R rest : List Keyed} {sz lo n : Nat} {Q : ForInStep (Option Unit × Nat) → SortSt → Prop} (h0 : AllI a₀) (r : RS a₀ st Ls (R ++ rest)) (hlo : lo = Ls.flatten.length) (hn : n = R.length) (hR : R ≠ []) (hs : R.Pairwise Le)
    (h : ∀ v Ms, RS a₀ v Ms rest → Ms.flatten.length = lo + n → Q (.yield (none, lo + n)) v) : wpS (model prog w) A E KV.sh (putRun sz lo n) Q st := by
  unfold putRun
  refine wpS_bind (wpS_get ?_)
  have fin : ∀ {v : SortSt} {Ms : List (List Keyed)}, RS a₀ v Ms (R ++ rest) → Ms.flatten.length = lo → Q (.yield (none, lo + n)) (setPending v ((pendingOf v).push (lo, n, 0))) := fun {v Ms} g e =>
    h _ (Ms ++ [R]) (g.add hR hs e.symm hn) (by rw [List.flatten_append, List.length_append, e, List.flatten_cons, List.flatten_nil, List.append_nil, hn])
  split
  · rename_i p k _ _
    generalize power' sz (2 * p + k) (2 * p + k + k + n) sz = pw
    refine wpS_bind (wpS_mono (wpS_forRange (I := fun x c v => c = (none, ()) ∧ ∃ Ms, RS a₀ v Ms (R ++ rest) ∧ Ms.flatten.length = lo) (Q := fun c v => c = (none, ()) ∧ ∃ Ms, RS a₀ v Ms (R ++ rest) ∧ Ms.flatten.length = lo) ?s2 (fun _ _ g => g) ⟨rfl, Ls, r, hlo.symm⟩) ?p2)
    case p2 =>
      rintro c v ⟨rfl, Ms, g, e⟩
      dsimp only
      refine wpS_bind (wpS_modify (wpS_bind (wpS_modify (wpS_pure ?_))))
      exact fin (g.alter (fun _ => ⟨rfl, rfl⟩)) e
    case s2 =>
      rintro x c v _ _ ⟨rfl, Ms, g, e⟩
      refine wpS_bind (wpS_get ?_)
      rw [g.psize]
      split
      · rename_i o ho
        by_cases h1 : Ms.length > 1
        · by_cases h2 : o ≤ pw
          · rw [if_pos h2]
            exact wpS_pure ⟨rfl, Ms, g, e⟩
          · rw [if_neg h2]
            refine wpS_bind (s_join h0 g (by omega) fun u Ns g2 e1 e2 => ?_)
            simp only [Bool.not_true, Bool.false_eq_true, if_false]
            exact wpS_pure ⟨rfl, Ns, g2, e2.trans e⟩
        · rw [if_neg h1] at ho
          cases ho
      · exact wpS_pure ⟨rfl, Ms, g, e⟩
  · exact wpS_bind (wpS_modify (wpS_pure (fin r hlo.symm)))
theorem pick_lt {c : Bool} {m : Nat} (h : ¬ m ≤ 1) : (if c = true then m - 2 - 1 else m - 2) + 1 < m := by
  split <;> omega
theorem s_all {st : SortSt} {Q : Unit → SortSt → Prop} (h0 : AllI a₀) (hk : kindOf st = KV.kind) (hf : failedOf st = none) (hp : arrOf st = a₀) (he : pendingOf st = #[])
    (h : ∀ v, (arrOf v).Perm a₀ → failedOf v = none → SortedTo (arrOf v) a₀.size → Q () v) : wpS (model prog w) A E KV.sh sortRuns' Q st := by
  rw [sortRuns'_eq]
  refine wpS_bind (wpS_get ?_)
  dsimp only
  rw [hp]
  generalize minRun' a₀.size a₀.size 0 = mr
  have r0 : RS a₀ st [] a₀.toList := ⟨hk, hf, by rw [hp], by rw [hp]; rfl, by rw [he]; trivial, fun R hR => by cases hR⟩
  refine wpS_bind (wpS_mono (wpS_forRange (I := fun x c z => ∃ Ls rest, c = (none, Ls.flatten.length) ∧ RS a₀ z Ls rest ∧ x ≤ Ls.flatten.length)
    (Q := fun c z => ∃ Ls k, c = (none, k) ∧ RS a₀ z Ls []) ?s1 ?f1 ⟨[], _, rfl, r0, Nat.le_refl _⟩) ?p1)
  case f1 =>
    rintro c z ⟨Ls, rest, rfl, r, hx⟩
    have := r.total
    have e : rest = [] := List.length_eq_zero_iff.mp (by omega)
    subst e
    exact ⟨Ls, _, rfl, r⟩
  case p1 =>
    rintro c z ⟨Ls, k, rfl, r⟩
    dsimp only
    refine wpS_bind (wpS_mono (wpS_forRange (I := fun x c v => c = (none, ()) ∧ ∃ Ms, RS a₀ v Ms [] ∧ Ms.length + x ≤ a₀.size) (Q := fun c v => c = (none, ()) ∧ ∃ Ms, RS a₀ v Ms [] ∧ Ms.length ≤ 1) ?s2 ?f2 ?i2) ?p2)
    case i2 =>
      have e1 := many_runs r.runs
      have e2 := r.total
      exact ⟨rfl, Ls, r, by simp only [List.length_nil] at e2; omega⟩
    case f2 =>
      rintro c v ⟨rfl, Ms, g, hl⟩
      exact ⟨rfl, Ms, g, by omega⟩
    case p2 =>
      rintro c v ⟨rfl, Ms, g, hl⟩
      exact wpS_pure (h v g.perm g.fail (g.sorted hl))
    case s2 =>
      rintro x c v _ hx ⟨rfl, Ms, g, hl⟩
      refine wpS_bind (wpS_get ?_)
      rw [g.psize]
      by_cases h1 : Ms.length ≤ 1
      · rw [if_pos h1]
        exact wpS_pure ⟨rfl, Ms, g, h1⟩
      · rw [if_neg h1]
        refine wpS_bind (s_join h0 g (pick_lt h1) fun u Ns g2 e1 e2 => ?_)
        simp only [Bool.not_true, Bool.false_eq_true, if_false]
        exact wpS_pure ⟨rfl, Ns, g2, by omega⟩
  case s1 =>
    rintro x c z _ hx ⟨Ls, rest, rfl, r, hxl⟩
    dsimp only
    have tot := r.total
    by_cases hge : Ls.flatten.length ≥ a₀.size
    · rw [if_pos hge]
      have e : rest = [] := List.length_eq_zero_iff.mp (by omega)
      subst e
      exact wpS_pure ⟨Ls, _, rfl, r⟩
    · rw [if_neg hge]
      have hI := h0.perm r.perm
      have hsz := r.perm.size_eq
      have x0 : SX (arrOf z) Ls.flatten.length z z := ⟨Array.Perm.refl _, r.kind, r.fail, rfl, fun _ _ => rfl⟩
      refine wpS_bind (s_run hI (by omega) (by omega) x0 fun n v vX g1 g2 gs => ?_)
      dsimp only
      refine Eq.mp (congrArg (fun p => wpS (model prog w) A E KV.sh p _ v) (?_ : (if n < mr then do
        liftM (rule "list.sort.binary-insertion")
        let b ← binarySort' Ls.flatten.length (min (a₀.size - Ls.flatten.length) mr) n
        if (!b) = true then pure (ForInStep.done (some (), Ls.flatten.length)) else putRun a₀.size Ls.flatten.length (min (a₀.size - Ls.flatten.length) mr)
        else putRun a₀.size Ls.flatten.length n) = _)) ?_
      · unfold putRun
        congr 1
        · congr 1
          funext _y
          congr 1
          funext b
          congr 1
          congr 1
          funext z
          cases (pendingOf z).back? with
          | none => rfl
          | some t =>
            obtain ⟨p, k, o⟩ := t
            dsimp only
            congr 1
            funext c
            obtain ⟨r, _⟩ := c
            cases r <;> rfl
        · congr 1
          funext z
          cases (pendingOf z).back? with
          | none => rfl
          | some t =>
            obtain ⟨p, k, o⟩ := t
            dsimp only
            congr 1
            funext c
            obtain ⟨r, _⟩ := c
            cases r <;> rfl
      have last : ∀ {u : SortSt} {k : Nat}, 1 ≤ k → k ≤ a₀.size - Ls.flatten.length → SX (arrOf z) Ls.flatten.length z u → SrtL (arrOf u) Ls.flatten.length k → wpS (model prog w) A E KV.sh (putRun a₀.size Ls.flatten.length k) (fun t st' => ∃ Ms rs, t = .yield (none, Ms.flatten.length) ∧ RS a₀ st' Ms rs ∧ x + 1 ≤ Ms.flatten.length) u := fun {u k} k1 k2 uX us => by
        obtain ⟨R, rest', e1, e2, e3⟩ := r.cut uX (by omega) us
        refine s_put h0 e3 rfl e1.symm (fun e => by rw [e] at e1; simp at e1; omega) e2 fun v2 Ms g e => ?_
        exact ⟨Ms, rest', by rw [e], g, by omega⟩
      by_cases hm : n < mr
      · rw [if_pos hm]
        refine wpS_bind (wpS_lift (wpAny_rule ⟨rfl, ?_⟩))
        refine wpS_bind (s_bin hI (by omega) (by omega) vX gs fun u uX us => ?_)
        simp only [Bool.not_true, Bool.false_eq_true, if_false]
        refine wpS_mono (last (by omega) (by omega) uX us) ?_
        rintro t u2 ⟨Ms, rs, rfl, g, e⟩
        exact ⟨Ms, rs, rfl, g, e⟩
      · rw [if_neg hm]
        refine wpS_mono (last g1 g2 vX gs) ?_
        rintro t u2 ⟨Ms, rs, rfl, g, e⟩
        exact ⟨Ms, rs, rfl, g, e⟩
end
end SRV
set_option Elab.async false
set_option linter.all false
set_option maxRecDepth 100000
set_option maxHeartbeats 4000000
namespace SRT
open PySem PyProof.Rows
noncomputable abbrev kvI (s : Shared) : SRV.KV where
  sh := s
  kind := oneType'
  kv := fun p => numOf p.1
  good := fun p => ∃ t, p.1 = .int (numOf p.1) t
  lt := fun {prog w A E st x y Q} hk hx hy h => by
    obtain ⟨t, e⟩ := hx; obtain ⟨u, e'⟩ := hy
    rw [lt'_eq]; refine wpS_bind (wpS_get ?_)
    rw [hk, keyLt'_oneType, e, e']; exact wpS_bind (wpS_lift (wpAny_attempt (oneLt_int ⟨rfl, wpS_pure h⟩)))
noncomputable def AllI (xs : Array Keyed) : Prop := ∀ p ∈ xs.toList, ∃ t, p.1 = .int (numOf p.1) t
theorem AllI.perm {xs ys : Array Keyed} (h : AllI xs) (p : ys.Perm xs) : AllI ys := fun q hq => h q ((Array.perm_iff_toList_perm.mp p).mem_iff.mp hq)
noncomputable def core (a : Addr) (e1 : Nat) (ar : Array Value) (b : Bool) : Sem Fin := do
  let knd ← if ar.size < 2 then pure general' else keyKind' ar
  let ((), z) ← (if ar.size < 2 then pure () else sortRuns').run (SortSt.mk' knd (if b then (ar.zip ar).reverse else ar.zip ar) #[] 7 none)
  let srt := (arrOf z).map (·.2)
  let tch := (← seqEpoch a) != e1
  Builtin.List.listUpdate (.ref a) fun _ => if b then srt.reverse else srt
  if let some e := failedOf z then rule "list.sort.comparison-raised"; throw e
  if tch then rule "list.sort.modified"; raiseError "ValueError" "list modified during sort"
  ret .none
theorem plain_core (a : Addr) : Builtin.«list.sort» ⟨[.ref a], []⟩ = (do
    let ar ← Builtin.List.listItems (.ref a)
    Builtin.List.listUpdate (.ref a) fun _ => #[]
    let e1 ← seqEpoch a
    let t ← newTuple ar.toList
    let l ← newList []
    holding [t, l] (core a e1 ar false)) := by rw [list_sort_plain]; rfl
theorem rev_core (a : Addr) : Builtin.«list.sort» ⟨[.ref a], [(Str.ofString "reverse", .bool true)]⟩ = (do
    let ar ← Builtin.List.listItems (.ref a)
    Builtin.List.listUpdate (.ref a) fun _ => #[]
    let e1 ← seqEpoch a
    let t ← newTuple ar.toList
    let l ← newList []
    holding [t, l] (do let _ ← rule "list.sort.reverse"; core a e1 ar true)) := by rw [list_sort_rev]; rfl
theorem allI_of {vs : List Value} {ns : List Int} (hI : IntsAre vs ns) : AllI (pairsOf vs) := fun p hp => by
  obtain ⟨n, t, e⟩ := hI.intKeys p hp
  refine ⟨t, ?_⟩
  show p.1 = .int (numOf p.1) t
  rw [e]
  rfl
section
variable {prog : Program} {w : World} {A : Around} {E : Value → Shared → Prop} {s : Shared}
theorem w_core {a : Addr} {e1 : Nat} {vs : List Value} {ns : List Int} {b : Bool} {P : Fin → Shared → Prop} (hA : s.heap.get? a = some (seqObj "list" #[] e1)) (hI : IntsAre vs ns) (hz : vs.length ≤ sizeLine)
    (h : ∀ (o : Array Value) (ns' : List Int), IntsAre o.toList ns' → ns'.Perm ns → Ordered b ns' → P (.done (.ret .none)) { s with heap := s.heap.update a (Obj.mapSeq fun _ => o) }) : wpAny (model prog w) A (core a e1 vs.toArray b) P E s := by
  unfold core
  have fin : ∀ z : SortSt, (arrOf z).Perm (pairsOf vs) → failedOf z = none → SortedTo (arrOf z) (pairsOf vs).size → wpAny (model prog w) A (do
      let tch := (← seqEpoch a) != e1
      Builtin.List.listUpdate (.ref a) fun _ => if b then ((arrOf z).map (·.2)).reverse else (arrOf z).map (·.2)
      if let some e := failedOf z then rule "list.sort.comparison-raised"; throw e
      if tch then rule "list.sort.modified"; raiseError "ValueError" "list modified during sort"
      ret .none) P E s := fun z hp hf hs => by
    obtain ⟨ns', q1, q2, q3⟩ := sorted_out_rev hI hp hs b
    have hlen : ((arrOf z).map (·.2)).size ≤ sizeLine + 1 := by rw [Array.size_map, hp.size_eq, pairsOf_size]; omega
    refine wpAny_bind (seqEpoch_at hA rfl (wpAny_bind (listUpdate_at hA rfl ?_ (hsz2 := ?sz))))
    case sz =>
      split
      · rw [Array.size_reverse]; exact hlen
      · exact hlen
    rw [hf]
    simp only [bne_self_eq_false, Bool.false_eq_true, if_false]
    exact wpAny_pure (h _ ns' q1 q2 q3)
  have hst : (if b = true then (vs.toArray.zip vs.toArray).reverse else vs.toArray.zip vs.toArray).Perm (pairsOf vs) := by
    cases b
    · exact Array.Perm.refl _
    · rw [if_pos rfl, Array.perm_iff_toList_perm, Array.toList_reverse]
      exact List.reverse_perm _
  by_cases h2 : vs.toArray.size < 2
  · rw [if_pos h2, if_pos h2]
    refine wpAny_bind (wpAny_pure ?_)
    dsimp only
    rw [StateT.run_pure]
    refine wpAny_bind (wpAny_pure (fin (SortSt.mk' general' _ #[] 7 none) hst rfl fun i j hij hj => ?_))
    rw [pairsOf_size] at hj
    rw [List.size_toArray] at h2
    obtain rfl : i = j := by omega
    exact Int.le_refl _
  · rw [if_neg h2, if_neg h2]
    obtain ⟨x, y, r, rfl⟩ : ∃ x y r, vs = x :: y :: r := by
      rw [List.size_toArray] at h2
      match vs, h2 with
      | [], g => simp at g
      | [_], g => simp at g
      | x :: y :: r, _ => exact ⟨x, y, r, rfl⟩
    rw [keyKind_ints hI]
    refine wpAny_bind (wpAny_pure ?_)
    generalize hL : x :: y :: r = L at *
    have ha0 : AllI (if b = true then (L.toArray.zip L.toArray).reverse else L.toArray.zip L.toArray) := (allI_of hI).perm hst
    letI inst : SRV.KV := kvI s
    refine wpAny_bind (wpAny_mono (SRV.s_all (st := SortSt.mk' oneType' (if b = true then (L.toArray.zip L.toArray).reverse else L.toArray.zip L.toArray) #[] 7 none)
      (Q := fun _ z => (arrOf z).Perm (pairsOf L) ∧ failedOf z = none ∧ SortedTo (arrOf z) (pairsOf L).size) ha0 rfl rfl rfl rfl fun z g1 g2 g3 => ⟨g1.trans hst, g2, by rw [← hst.size_eq]; exact g3⟩) ?_ fun _ _ e => e)
    rintro ⟨⟨⟩, z⟩ s' ⟨rfl, g1, g2, g3⟩
    exact fin z g1 g2 g3
theorem w_start {a : Addr} {vs : List Value} {n : Nat} {P : Fin → Shared → Prop} {f : Nat → Array Value → Sem Fin} (hA : s.heap.get? a = some (seqObj "list" vs.toArray n)) (hz : vs.length ≤ sizeLine)
    (h : ∀ (s' : Shared) e1, s' = { s with heap := ((s.heap.update a (Obj.mapSeq fun _ => #[])).push (seqObj "tuple" vs.toArray 0)).push (seqObj "list" #[] 0) } → s'.heap.get? a = some (seqObj "list" #[] e1) → wpAny (model prog w) A (f e1 vs.toArray) P E s') :
    wpAny (model prog w) A (do
      let ar ← Builtin.List.listItems (.ref a)
      Builtin.List.listUpdate (.ref a) fun _ => #[]
      let e1 ← seqEpoch a
      let t ← newTuple ar.toList
      let l ← newList []
      holding [t, l] (f e1 ar)) P E s := by
  have ha : a < s.heap.objs.size := Heap.lt_size hA
  refine wpAny_bind (listItems_at hA rfl (wpAny_bind (listUpdate_at hA rfl ?_ (hsz := by rw [List.size_toArray]; exact hz))))
  obtain ⟨e1, hE⟩ : ∃ e1, (s.heap.update a (Obj.mapSeq fun _ => #[])).get? a = some (seqObj "list" #[] e1) := ⟨_, get?_update_seq hA fun _ => #[]⟩
  refine wpAny_bind (seqEpoch_at hE rfl (wpAny_bind (wpAny_newTuple (wpAny_bind (wpAny_newList (wpAny_holding ?_)) ) ?hs)))
  case hs => exact hz
  refine h _ e1 rfl ?_
  show (((s.heap.update a (Obj.mapSeq fun _ => #[])).push (seqObj "tuple" vs.toArray 0)).push (seqObj "list" #[] 0)).get? a = _
  rw [Heap.get?_push_ne _ _ _ (by rw [size_push', Heap.size_update]; exact fun e => absurd ha (by rw [e]; exact Nat.not_lt.mpr (Nat.le_succ _))), Heap.get?_push_ne _ _ _ (by rw [Heap.size_update]; exact fun e => absurd ha (by rw [e]; exact Nat.lt_irrefl _))]
  exact hE
noncomputable def kwOf (b : Bool) : List (Str × Value) := if b then [(Str.ofString "reverse", .bool true)] else []
theorem w_sort {a : Addr} {vs : List Value} {ns : List Int} {n : Nat} {b : Bool} {P : Fin → Shared → Prop} (hA : s.heap.get? a = some (seqObj "list" vs.toArray n)) (hI : IntsAre vs ns) (hz : vs.length ≤ sizeLine)
    (h : ∀ (o : Array Value) (ns' : List Int), IntsAre o.toList ns' → ns'.Perm ns → Ordered b ns' → P (.done (.ret .none)) { s with heap := sortedHeap s.heap a vs o }) : wpAny (model prog w) A (Builtin.«list.sort» ⟨[.ref a], kwOf b⟩) P E s := by
  cases b with
  | false =>
    show wpAny _ _ (Builtin.«list.sort» ⟨[.ref a], []⟩) _ _ _
    rw [plain_core]
    refine w_start hA hz fun s' e1 e hA' => w_core hA' hI hz fun o ns' g1 g2 g3 => ?_
    subst e
    exact h o ns' g1 g2 g3
  | true =>
    show wpAny _ _ (Builtin.«list.sort» ⟨[.ref a], [(Str.ofString "reverse", .bool true)]⟩) _ _ _
    rw [rev_core]
    refine w_start hA hz fun s' e1 e hA' => wpAny_bind (wpAny_rule (w_core hA' hI hz fun o ns' g1 g2 g3 => ?_))
    subst e
    exact h o ns' g1 g2 g3
theorem w_collect {l : Addr} {vs : List Value} {o : Obj} {T : String} {n : Nat} {Q : List Value → Shared → Prop} (ho : s.heap.get? l = some o) (hc : o.cls = .type T) (hd : o.data = .seq vs.toArray n) (hT : T = "list" ∨ T = "tuple") (hz : vs.length ≤ sizeLine)
    (h : Q vs { s with heap := (s.heap.push (seqObj "list" #[] 0)).update s.heap.objs.size (Obj.mapSeq (· ++ vs.toArray)) }) : wpAny (model prog w) A (collect (.ref l)) Q E s := by
  unfold collect
  refine wpAny_bind (wpAny_runValue (codeAny_builtin entry_proto_collect' ?mk))
  case mk =>
  show wpAny _ _ (do again (.builtin "list.__iadd__" ⟨[← newList [], .ref l], []⟩)) _ _ _
  refine wpAny_bind (wpAny_newList (wpAny_pure (And.intro (Code.quiet_builtin _ (by decide +kernel)) (codeAny_builtin entry_list_iadd' ?_))))
  show wpAny (model prog w) _ (Builtin.List.listExtendWith (.ref s.heap.objs.size) (.ref l) (.ref s.heap.objs.size)) _ _ { s with heap := s.heap.push (seqObj "list" #[] 0) }
  unfold Builtin.List.listExtendWith
  have hO' : (s.heap.push (seqObj "list" #[] 0)).get? l = some o := Heap.get?_push_of_some _ ho
  have hN : (s.heap.push (seqObj "list" #[] 0)).get? s.heap.objs.size = some (seqObj "list" #[] 0) := Heap.get?_push_size _ rfl
  refine wpAny_bind (wpAny_typeOf (T := T) ⟨o, hO', hc⟩ ?_)
  have e1 : (Value.type "list" == Value.type "list") = true := by rfl
  have e2 : (Value.type "tuple" == Value.type "tuple") = true := by rfl
  rw [if_pos (by rcases hT with rfl | rfl <;> simp [e1, e2])]
  refine wpAny_bind (listItems_at hO' hd (wpAny_bind (listItems_at hN rfl ?_)))
  rw [if_neg (by simp)]
  refine wpAny_bind (listUpdate_at hN rfl (wpAny_pure ?_) (Nat.zero_le _) (by rw [Array.size_append, List.size_toArray]; show 0 + vs.length ≤ _; omega))
  show wpAny (model prog w) A (do
      let z ← load s.heap.objs.size
      match z.data with
      | .seq xs _ => pure xs.toList
      | _ => unsupported "internal:collect") Q E ⟨(s.heap.push (seqObj "list" #[] 0)).update s.heap.objs.size (Obj.mapSeq (· ++ vs.toArray)), s.gens, s.drawn, s.toks, s.os⟩
  refine wpAny_bind (wpAny_load (get?_update_seq hN _) ?_)
  show wpAny (model prog w) _ (pure ((#[] : Array Value) ++ vs.toArray).toList) Q E _
  have e3 : ((#[] : Array Value) ++ vs.toArray).toList = vs := by simp
  rw [e3]
  exact wpAny_pure h
theorem w_sorted {l : Addr} {vs : List Value} {ns : List Int} {o : Obj} {T : String} {n : Nat} {b : Bool} {Q : Value → Shared → Prop} (ho : s.heap.get? l = some o) (hc : o.cls = .type T) (hd : o.data = .seq vs.toArray n) (hT : T = "list" ∨ T = "tuple") (hI : IntsAre vs ns) (hz : vs.length ≤ sizeLine)
    (h : ∀ (r : Array Value) (ns' : List Int), IntsAre r.toList ns' → ns'.Perm ns → Ordered b ns' → Q (.ref (s.heap.objs.size + 1)) { s with heap := sortedAll s.heap vs r }) : wpAny (model prog w) A (call (.builtin "sorted") [.ref l] (kwOf b)) Q E s := by
  have ha : argsOk "sorted" ⟨[.ref l], kwOf b⟩ := by cases b; exact args_sorted1 _; exact args_sorted_rev _ _
  refine call_function_entry_kw kind_sorted plain_sorted entry_sorted ha ?_
  unfold Builtin.«sorted»
  refine wpAny_bind (m := checkCount "sorted" 1 1 _) (wpAny_pure (wpAny_bind (w_collect ho hc hd hT hz (wpAny_bind (wpAny_newList ?_ ?hs)))))
  case hs => exact hz
  generalize hG : (s.heap.push (seqObj "list" #[] 0)).update s.heap.objs.size (Obj.mapSeq (· ++ vs.toArray)) = G
  have sG : G.objs.size = s.heap.objs.size + 1 := by rw [← hG, Heap.size_update, size_push']
  have hL : (G.push (seqObj "list" vs.toArray 0)).get? (s.heap.objs.size + 1) = some (seqObj "list" vs.toArray 0) := by rw [← sG]; exact Heap.get?_push_size _ rfl
  show wpAny _ _ _ _ _ { s with heap := G.push (seqObj "list" vs.toArray 0) }
  rw [show ({ s with heap := G } : Shared).heap.objs.size = s.heap.objs.size + 1 from sG]
  have hs : argsOk "list.sort" ⟨[.ref (s.heap.objs.size + 1)], kwOf b⟩ := by cases b; exact args_list_sort _; exact args_list_sort_rev _ _
  refine wpAny_bind (wpAny_holding (wpAny_call_entry_kw slot_list_sort ⟨_, hL, rfl⟩ entry_list_sort (w_sort hL hI hz fun r ns' g1 g2 g3 => ⟨_, rfl, wpAny_pure ⟨_, rfl, ?_⟩⟩) hs))
  have := h r ns' g1 g2 g3
  unfold sortedAll at this
  rw [hG] at this
  exact this
end
end SRT
set_option Elab.async false
set_option linter.all false
set_option maxRecDepth 100000
set_option maxHeartbeats 4000000
namespace L2
open PySem PySem.Spec PyProof.Rows
section
variable {X : Cx}
noncomputable def rSortB (K : PySem.W.Frag) (b : Bool) : List V → Hp → VK → Prop := fun xs H Q => match xs with
  | [.ref p] => ∃ ns : List Int, (SqL K H p (ns.map V.int) ∨ SqT K H p (ns.map V.int)) ∧ ∀ l ns', H l = none → List.Perm ns' ns → Ordered b ns' → Q (.ref l) (upd H l (.lst (ns'.map V.int)))
  | _ => False
theorem sort_any {b : Bool} (pins : List (Addr × Obj)) (s : Shared) (σ : St) (H : Hp) (xs : List V) (us : List Value) (Q : VK) (I : Inv X pins σ H s) (r : Vals xs us) (h : rSortB X.K b xs H Q) :
    wpAny (model X.prog X.w) X.A (call (.builtin "sorted") us (SRT.kwOf b)) (EP X pins σ Q) X.xe s := by
  unfold rSortB at h
  split at h
  · rename_i p
    obtain ⟨ns, hq, q⟩ := h
    obtain ⟨u, rfl, rx⟩ := vals1 r
    cases rx
    obtain ⟨its, T, o, n, hI, hz, hz2, ho, hc, hd, hT⟩ : ∃ (its : List Value) (T : String) (o : Obj) (n : Nat), IntsAre its ns ∧ its.length ≤ sizeLine ∧ ns.length ≤ sizeLine ∧ s.heap.get? p = some o ∧ o.cls = .type T ∧ o.data = .seq its.toArray n ∧ (T = "list" ∨ T = "tuple") := by
      rcases hq with hq | hq
      · obtain ⟨its, rv, pl, hz⟩ := I.list hq
        obtain ⟨o, ho, hc, n, hd⟩ := id pl.isList
        exact ⟨its, "list", o, n, intsAre_of rv, by rw [← rv.length]; exact hz, by rw [List.length_map] at hz; exact hz, ho, hc, hd, .inl rfl⟩
      · obtain ⟨its, rv, pl, hz⟩ := I.tuple hq
        obtain ⟨o, ho, hc, n, hd⟩ := id pl
        exact ⟨its, "tuple", o, n, intsAre_of rv, by rw [← rv.length]; exact hz, by rw [List.length_map] at hz; exact hz, ho, hc, hd, .inr rfl⟩
    refine SRT.w_sorted ho hc hd hT hI hz fun out ns' a1 a2 a3 => ?_
    obtain ⟨e, he⟩ := sortedAll_at s.heap its out
    refine ⟨.ref (s.heap.objs.size + 1), _, I.laid (t' := s.toks) (a := s.heap.objs.size + 1) (o := .lst (ns'.map V.int)) (fun c ob q => sortedAll_old q) (Nat.le_succ _) ?_, rfl, q _ ns' (I.hok.fresh (Nat.le_succ _)) a2 a3⟩
    refine ⟨?_, out.toList, e, vals_ints a1, he⟩
    rw [List.length_map, a2.length_eq]
    exact hz2
  · exact h.elim
theorem call_sortB : CallR X (.builtin "sorted") (rSortB X.K false) := fun pins s σ H xs us Q I r h => sort_any (b := false) pins s σ H xs us Q I r h
variable {e : Expr} {es : List Expr} {t : TA} {p pos : Pos}
theorem pcb_sortB (hg : Gl X "sorted") (hm : X.mg "sorted" = none) (ha : PA X (e :: es) t) (he : starEach (e :: es) X.env = (false, eval e X.env) :: starEach es X.env) (hpl : (backTo pos (starEach es X.env)).any (·.1) = false) :
    PE X (.Call (.Name "sorted" p) (e :: es) [] pos) (tCB (rSortB X.K false) t) := pe_callB call_sortB hg hm boot_sorted' ha (by decide) (by decide) he hpl
theorem zcb_sortB (hg : Gl X "sorted") (hm : X.mg "sorted" = none) (ha : ZA X (e :: es) t) (he : starEach (e :: es) X.env = (false, eval e X.env) :: starEach es X.env) (hpl : (backTo pos (starEach es X.env)).any (·.1) = false) :
    ZE X (.Call (.Name "sorted" p) (e :: es) [] pos) (tCB (rSortB X.K false) t) := by with_unfolding_all exact pcb_sortB hg hm ha he hpl
variable {o : Expr} {to : TE} {apos cpos : Pos}
end
end L2
set_option Elab.async false
set_option linter.all false
set_option maxRecDepth 100000
set_option maxHeartbeats 4000000
namespace MXD
open PySem
section
variable {prog : Program} {w : World} {A : Around} {R : Result → Shared → Prop} {I : Addr} {fp wr : List Addr} {n : Nat} {P : Nat → Value → Prop} {St : Nat → Heap → Prop}
end
section
variable {prog : Program} {w : World} {A : Around} {E : Value → Shared → Prop} {s : Shared}
end
end MXD
namespace L2
open PySem PySem.Spec PyProof.Rows
section
variable {X : Cx}
variable {e : Expr} {es : List Expr} {t : TA} {p pos : Pos}
noncomputable def strMul (x : Str) (n : Nat) : Str := ⟨(List.replicate n x.cps).foldl (· ++ ·) #[]⟩
theorem cat_size : ∀ (l : List (Array Nat)) (a : Array Nat), (l.foldl (· ++ ·) a).size = a.size + (l.map (·.size)).sum
  | [], a => by simp
  | x :: l, a => by
    rw [List.foldl_cons, cat_size l, Array.size_append, List.map_cons, List.sum_cons]
    omega
theorem strMul_len (z : Str) (n : Nat) : (strMul z n).length = z.length * n := by
  show ((List.replicate n z.cps).foldl (· ++ ·) #[]).size = _
  rw [cat_size, List.map_replicate, List.sum_replicate_nat]
  show 0 + n * z.length = _
  rw [Nat.zero_add, Nat.mul_comm]
noncomputable def rMulS : R2 := fun x y H Q => match x, y with
  | .str z, .int k => (2 ≤ k ∧ 1 ≤ z.length ∧ z.length * k.toNat ≤ sizeLine) ∧ Q (.str (strMul z k.toNat)) H
  | _, _ => False
theorem op_mulS : OpR X (binaryOp .Mult) rMulS := by
  intro pins s σ H x y v u Q I rx ry h
  unfold rMulS at h
  split at h
  · rename_i z k
    obtain ⟨⟨h1, h2, h3⟩, q⟩ := h
    obtain ⟨t, rfl⟩ := rx
    obtain ⟨t', rfl⟩ := ry
    have hz : (z.length == 0) = false := by
      have : z.length ≠ 0 := by omega
      simpa using this
    have hk1 : (k == 1) = false := by
      have : k ≠ 1 := by omega
      simpa using this
    have hs := sizeLine_eq
    have hkk : k.toNat ≤ z.length * k.toNat := Nat.le_mul_of_pos_left _ (by omega)
    have hzz : z.length ≤ z.length * k.toNat := Nat.le_mul_of_pos_right _ (by omega)
    refine P.mul_str ?_ (fun _ _ => ?_) (fun _ _ => ?_) ?_
    · rw [decide_eq_false (by omega), decide_eq_false (by omega)]; rfl
    · have : (z.length : Int) ≤ (2 ^ 63 - 1) / k := by
        rw [Int.le_ediv_iff_mul_le (by omega)]
        have : (z.length : Int) * k = ((z.length * k.toNat : Nat) : Int) := by
          rw [Int.natCast_mul, Int.toNat_of_nonneg (by omega)]
        omega
      omega
    · unfold Builtin.Str.tooLong
      exact decide_eq_false (by omega)
    · rw [if_neg (by omega), hk1, hz]
      exact ⟨Nat.le_trans (Nat.le_of_eq (strMul_len z k.toNat)) h3, ⟨.str _, H, I.tok _, ⟨_, rfl⟩, q⟩⟩
  · exact h.elim
variable {o : Expr} {to : TE} {apos cpos : Pos}
end
end L2
set_option Elab.async false
set_option linter.all false
set_option maxRecDepth 100000
set_option maxHeartbeats 4000000
namespace L2
open PySem PySem.Spec PyProof.Rows
section
variable {X : Cx} {e : Expr} {es : List Expr} {t : TA} {p pos : Pos}
end
theorem rep_snoc (j : Nat) : (List.replicate j true).map V.bl ++ [V.bl true] = (List.replicate (j + 1) true).map V.bl := by
  rw [List.replicate_succ', List.map_append]; rfl
theorem rep_all (n : Nat) : (List.replicate n true).all id = true := by
  rw [List.all_eq_true]; intro x hx; exact List.eq_of_mem_replicate hx
end L2
set_option Elab.async false
set_option linter.all false
set_option maxRecDepth 100000
set_option maxHeartbeats 4000000
namespace L2
open PySem PySem.Spec PyProof.Rows
section
variable {X : Cx} {e : Expr} {es : List Expr} {t : TA} {p pos : Pos} {o : Expr} {to : TE} {apos cpos : Pos}
noncomputable def rPopK : V → List V → Hp → VK → Prop := fun x vs H Q => match x, vs with
  | .ref l, [.int i] => ∃ xs k y, H l = some (.lst xs) ∧ (-(2 ^ 63) ≤ i ∧ i < 2 ^ 63) ∧ seqIndex? i xs.length = some k ∧ xs[k]? = some y ∧ Q y (upd H l (.lst (xs.eraseIdx k)))
  | _, _ => False
theorem mt_popK : MtM X "list.pop" rPopK := fun pins s σ H x vs v us Q I rx rv h => by
  unfold rPopK at h
  split at h
  · obtain ⟨xs, k, y, h1, ⟨h2, h3⟩, h4, h5, q⟩ := h
    exact mt_popAt pins s σ H _ _ v us Q I rx rv ⟨_, xs, _, k, y, rfl, rfl, h1, h2, h3, h4, h5, q⟩
  · exact h.elim
theorem pm_popK (ho : PE X o to) (ha : PA X (e :: es) t) (hbase : attributeBase o "pop" X.env (eval o X.env) = eval o X.env := by rfl)
    (hfew : ((backTo cpos (starEach (e :: es) X.env)).all (fun x => !x.1) && (backToKw cpos (keywordEach [] X.env)).all (fun x => x.1.isSome)
      && decide ((e :: es).length + ([] : List Keyword).length + (if ([] : List Keyword).isEmpty then 0 else 1) < 30)) = true := by rfl)
    (hline : (apos.endLine == cpos.line) = true := by rfl) (hs : starEach (e :: es) X.env = (false, eval e X.env) :: starEach es X.env := by rfl) (hplain : (backTo cpos (starEach es X.env)).any (·.1) = false := by rfl) :
    PE X (.Call (.Attribute o "pop" apos) (e :: es) [] cpos) (fun σ H Q => to σ H fun x H1 => tyV X.K "list" x H1 ∧ t σ H1 fun xs H2 => rPopK x xs H2 Q) :=
  pe_bm PySem.F.plainAttrs_list PySem.F.slot_list_pop PySem.F.type_list_pop mt_popK ho ha hbase hfew hline hs hplain
theorem zm_popK (ho : ZE X o to) (ha : ZA X (e :: es) t) (hbase : attributeBase o "pop" X.env (eval o X.env) = eval o X.env := by rfl)
    (hfew : ((backTo cpos (starEach (e :: es) X.env)).all (fun x => !x.1) && (backToKw cpos (keywordEach [] X.env)).all (fun x => x.1.isSome)
      && decide ((e :: es).length + ([] : List Keyword).length + (if ([] : List Keyword).isEmpty then 0 else 1) < 30)) = true := by rfl)
    (hline : (apos.endLine == cpos.line) = true := by rfl) (hs : starEach (e :: es) X.env = (false, eval e X.env) :: starEach es X.env := by rfl) (hplain : (backTo cpos (starEach es X.env)).any (·.1) = false := by rfl) :
    ZE X (.Call (.Attribute o "pop" apos) (e :: es) [] cpos) (fun σ H Q => to σ H fun x H1 => tyV X.K "list" x H1 ∧ t σ H1 fun xs H2 => rPopK x xs H2 Q) := by with_unfolding_all exact pm_popK ho ha hbase hfew hline hs hplain
end
end L2
set_option Elab.async false
set_option linter.all false
set_option maxRecDepth 100000
set_option maxHeartbeats 4000000
namespace L2
open PySem PySem.Spec PyProof.Rows
section
variable {prog : Program} {w : World} {A : Around} {E : Value → Shared → Prop} {R : Result → Shared → Prop} {s : Shared}
theorem two_inner (elt t1 i1 t2 i2 : Expr) (c1 c2 : List Expr) (scope : Scope) (pos : Pos) (it acc : Value) (env : Env) :
    compTurn (.ListComp elt [⟨t1, i1, c1, 0⟩, ⟨t2, i2, c2, 0⟩] scope pos) 1 it acc env = (do
      standAt i2.pos
      match ← pyNext it with
      | none => pure (.done .next)
      | some v =>
        letOwnedTupleGo t2 it v
        assign t2 env v
        let mut ok := true
        for c in c2 do
          if ok then ok ← isTrue c env (eval c env)
        if ok then
          (do let _ ← call (.builtin "list.append") [acc, ← eval elt env])
        again (.compLoop (.ListComp elt [⟨t1, i1, c1, 0⟩, ⟨t2, i2, c2, 0⟩] scope pos) 1 it acc env)) := by rfl
theorem two_outer (elt t1 i1 t2 i2 : Expr) (c1 c2 : List Expr) (scope : Scope) (pos : Pos) (it acc : Value) (env : Env) :
    compTurn (.ListComp elt [⟨t1, i1, c1, 0⟩, ⟨t2, i2, c2, 0⟩] scope pos) 0 it acc env = (do
      standAt i1.pos
      match ← pyNext it with
      | none => pure (.done .next)
      | some v =>
        letOwnedTupleGo t1 it v
        assign t1 env v
        let mut ok := true
        for c in c1 do
          if ok then ok ← isTrue c env (eval c env)
        if ok then
          let x ← eval i2 env
          standAt i2.pos
          let x ← (if ((0 : Nat) != 0) = true then foldedIterable i2 x else foldedSetIterable i2 env x)
          let _ ← runOwn (.compStart (.ListComp elt [⟨t1, i1, c1, 0⟩, ⟨t2, i2, c2, 0⟩] scope pos) 1 (← holding [x] (if ((0 : Nat) != 0) = true then asyncIter x else pyIter x)) acc env) env
        again (.compLoop (.ListComp elt [⟨t1, i1, c1, 0⟩, ⟨t2, i2, c2, 0⟩] scope pos) 0 it acc env)) := by rfl
theorem loop_inner {elt t1 i1 t2 i2 : Expr} {c1 c2 : List Expr} {scope : Scope} {pos : Pos} {it acc : Value} {env : Env} (I : Nat → Shared → Prop)
    (turn : ∀ n s, I n s → wpAny (model prog w) A (pyNext it) (fun r s₁ => match r with
      | none => R (.ok .next) s₁
      | some v => wpAny (model prog w) A (letOwnedTupleGo t2 it v) (fun _ s₁' => wpAny (model prog w) A (assign t2 env v) (fun _ s₂ =>
          wpAny (model prog w) A (forIn c2 true fun c r => if r = true then do let ok ← isTrue c env (eval c env); pure (ForInStep.yield ok) else pure (ForInStep.yield r)) (fun ok s₃ =>
            if ok = true then wpAny (model prog w) A (eval elt env) (fun x s₄ =>
              wpAny (model prog w) A (call (.builtin "list.append") [acc, x]) (fun _ s₅ => ∃ m, m < n ∧ I m s₅) (fun _ _ => False) s₄) (fun _ _ => False) s₃
            else ∃ m, m < n ∧ I m s₃) (fun _ _ => False) s₂) (fun _ _ => False) s₁') (fun _ _ => False) s₁) (fun _ _ => False) s)
    (n : Nat) (h : I n s) :
    codeAny (model prog w) A (.compLoop (.ListComp elt [⟨t1, i1, c1, 0⟩, ⟨t2, i2, c2, 0⟩] scope pos) 1 it acc env) R s := by
  refine codeAny_loop rfl I (fun n s hI => ?_) n h
  show wpAny _ A ((compTurn (.ListComp elt [⟨t1, i1, c1, 0⟩, ⟨t2, i2, c2, 0⟩] scope pos) 1 it acc env).onRaise (fun x => do noteFrame x env; theTreesLotGoes x)) _ _ s
  refine wpAny_noted ?_
  rw [two_inner]
  refine wpAny_bind (wpAny_standAt (wpAny_bind (wpAny_mono (turn n s hI) (fun r s₁ h₁ => ?_) fun _ _ h' => h'.elim)))
  cases r with
  | none => exact wpAny_pure h₁
  | some v =>
    refine wpAny_bind (wpAny_mono h₁ (fun _ s₁' h₁' => ?_) fun _ _ h' => h'.elim)
    refine wpAny_bind (wpAny_mono h₁' (fun _ s₂ h₂ => wpAny_bind (wpAny_mono h₂ (fun ok s₃ h₃ => ?_) fun _ _ h' => h'.elim)) fun _ _ h' => h'.elim)
    cases ok with
    | false => exact wpAny_pure ⟨rfl, h₃⟩
    | true =>
      exact wpAny_bind (wpAny_bind (wpAny_mono h₃ (fun x s₄ h₄ => wpAny_bind (wpAny_mono h₄ (fun _ s₅ h₅ => wpAny_pure (wpAny_pure ⟨rfl, h₅⟩)) fun _ _ h' => h'.elim)) fun _ _ h' => h'.elim))
theorem start_inner {elt t1 i1 t2 i2 : Expr} {c1 c2 : List Expr} {scope : Scope} {pos : Pos} {it acc : Value} {env : Env}
    (h0 : codeAny (model prog w) A (.compLoop (.ListComp elt [⟨t1, i1, c1, 0⟩, ⟨t2, i2, c2, 0⟩] scope pos) 1 it acc env) R s)
    (h : wpAny (model prog w) A (pyIter it) (fun it' s' => codeAny (model prog w) A (.compLoop (.ListComp elt [⟨t1, i1, c1, 0⟩, ⟨t2, i2, c2, 0⟩] scope pos) 1 it' acc env) R s')
      (notedBy (model prog w) A env fun x s' => R (.error x) s') s) :
    codeAny (model prog w) A (.compStart (.ListComp elt [⟨t1, i1, c1, 0⟩, ⟨t2, i2, c2, 0⟩] scope pos) 1 it acc env) R s := by
  refine codeAny_of_tree ?_
  show wpAny _ _ ((compStart (.ListComp elt [⟨t1, i1, c1, 0⟩, ⟨t2, i2, c2, 0⟩] scope pos) 1 it acc env).onRaise (fun x => do noteFrame x env; standAt theWindowsPlace)) _ _ s
  refine wpAny_notedAt ?_
  unfold compStart
  show wpAny _ _ (ask >>= _) _ _ s
  refine wpAny_bind (wpAny_askSetting (wpAny_ite ?_))
  split
  · first
      | exact wpAny_bind (wpAny_pure (wpAny_pure (And.intro rfl h0)))
      | exact wpAny_pure (And.intro rfl h0)
  · first
      | exact wpAny_bind (wpAny_rule (wpAny_bind (wpAny_standAt (wpAny_bind (wpAny_mono h (fun it' s' h' => wpAny_pure (And.intro rfl h')) fun _ _ x => x)))))
      | (refine wpAny_bind (wpAny_rule ?_); show wpAny _ _ (standAt i2.pos >>= _) _ _ s; exact wpAny_bind (wpAny_standAt (wpAny_bind (wpAny_mono h (fun it' s' h' => wpAny_pure (And.intro rfl h')) fun _ _ x => x))))
theorem loop_outer {elt t1 i1 t2 i2 : Expr} {c1 c2 : List Expr} {scope : Scope} {pos : Pos} {it acc : Value} {env : Env} (I : Nat → Shared → Prop)
    (hs : ∀ x, foldedSetIterable i2 env x = pure x)
    (turn : ∀ n s, I n s → wpAny (model prog w) A (pyNext it) (fun r s₁ => match r with
      | none => R (.ok .next) s₁
      | some v => wpAny (model prog w) A (letOwnedTupleGo t1 it v) (fun _ s₁' => wpAny (model prog w) A (assign t1 env v) (fun _ s₂ =>
          wpAny (model prog w) A (forIn c1 true fun c r => if r = true then do let ok ← isTrue c env (eval c env); pure (ForInStep.yield ok) else pure (ForInStep.yield r)) (fun ok s₃ =>
            if ok = true then wpAny (model prog w) A (eval i2 env) (fun x s₄ => wpAny (model prog w) A (pyIter x) (fun it2 s₅ =>
              codeAny (model prog w) A (.compStart (.ListComp elt [⟨t1, i1, c1, 0⟩, ⟨t2, i2, c2, 0⟩] scope pos) 1 it2 acc env) (fun r s₆ => r = .ok .next ∧ ∃ m, m < n ∧ I m s₆) s₅) (fun _ _ => False) s₄) (fun _ _ => False) s₃
            else ∃ m, m < n ∧ I m s₃) (fun _ _ => False) s₂) (fun _ _ => False) s₁') (fun _ _ => False) s₁) (fun _ _ => False) s)
    (n : Nat) (h : I n s) :
    codeAny (model prog w) A (.compLoop (.ListComp elt [⟨t1, i1, c1, 0⟩, ⟨t2, i2, c2, 0⟩] scope pos) 0 it acc env) R s := by
  refine codeAny_loop rfl I (fun n s hI => ?_) n h
  show wpAny _ A ((compTurn (.ListComp elt [⟨t1, i1, c1, 0⟩, ⟨t2, i2, c2, 0⟩] scope pos) 0 it acc env).onRaise (fun x => do noteFrame x env; theTreesLotGoes x)) _ _ s
  refine wpAny_noted ?_
  rw [two_outer]
  refine wpAny_bind (wpAny_standAt (wpAny_bind (wpAny_mono (turn n s hI) (fun r s₁ h₁ => ?_) fun _ _ h' => h'.elim)))
  cases r with
  | none => exact wpAny_pure h₁
  | some v =>
    refine wpAny_bind (wpAny_mono h₁ (fun _ s₁' h₁' => ?_) fun _ _ h' => h'.elim)
    refine wpAny_bind (wpAny_mono h₁' (fun _ s₂ h₂ => wpAny_bind (wpAny_mono h₂ (fun ok s₃ h₃ => ?_) fun _ _ h' => h'.elim)) fun _ _ h' => h'.elim)
    cases ok with
    | false => exact wpAny_pure ⟨rfl, h₃⟩
    | true =>
      refine wpAny_bind (wpAny_mono h₃ (fun x s₄ h₄ => wpAny_bind (wpAny_standAt ?_)) fun _ _ h' => h'.elim)
      refine wpAny_bind (wpAny_of_eq (t := foldedSetIterable i2 env x) (hs x) ?_)
      refine wpAny_bind (wpAny_holding (wpAny_mono (t := pyIter x) h₄ (fun it2 s₅ h₅ => ?_) fun _ _ h' => h'.elim))
      refine wpAny_bind (wpAny_runOwn (codeAny_mono h₅ (fun r s₆ h₆ => ?_)))
      obtain ⟨rfl, h₆⟩ := h₆
      exact wpAny_pure ⟨rfl, h₆⟩
end
section
variable {X : Cx} {nv : List Str} {ix : List (Str × Nat)} {scope : Scope} {pins : List (Addr × Obj)} {σ : St} {H : Hp} {s : Shared} {elt t1 i1 t2 i2 : Expr} {c1 c2 : List Expr} {pos : Pos}
noncomputable def CmpI (g : TG) (ti : TT) (te : TE) (σ : St) (J : It) (ys0 : List V) (Fin : List V → Hp → Prop) (H1 : Hp) : Prop :=
  ∃ W : Nat → Nat → List V → Hp → Prop, (∃ m, W 0 m ys0 H1) ∧ ∀ i m ys H, W i m ys H →
    (J.stop i H ∧ Fin ys H) ∨ (J.go i H ∧ ys.length < sizeLine ∧ ∃ N : List V → Hp → Prop, (∀ ys' H', N ys' H' → ∃ m', m' < m ∧ W (i + 1) m' ys' H') ∧
      ∀ x H', J.yld i H x H' → g x σ H' fun σ2 H2 => ti σ2 H2 fun b H3 => if b = true then te σ2 H3 fun y H4 => N (ys ++ [y]) H4 else N ys H3)
noncomputable def CmpW2 (nv : List Str) (ix : List (Str × Nat)) (g1 : TG) (ti1 : TT) (wi2 : TI) (g2 : TG) (ti2 : TT) (te : TE) (σ : St) (J : It) (Fin : List V → Hp → Prop) (H1 : Hp) : Prop :=
  ∃ W : Nat → Nat → List V → Hp → Prop, (∃ m, W 0 m [] H1) ∧ ∀ i m ys H, W i m ys H →
    (J.stop i H ∧ Fin ys H) ∨ (J.go i H ∧ ∃ N : List V → Hp → Prop, (∀ ys' H', N ys' H' → ∃ m', m' < m ∧ W (i + 1) m' ys' H') ∧
      ∀ x H', J.yld i H x H' → g1 x (st0 nv ix σ) H' fun σ1 H2 => ti1 σ1 H2 fun b H3 => if b = true then wi2 σ1 H3 fun J2 H4 => CmpI g2 ti2 te σ1 J2 ys N H4 else N ys H3)
noncomputable def KpT (g2 : TG) (σ1 : St) : Prop := ∀ (v : V) (H : Hp) (Q : St → Hp → Prop), g2 v σ1 H Q → g2 v σ1 H fun σ2 H2 => Kp σ1 σ2 ∧ Q σ2 H2
noncomputable def KpG2 (nv : List Str) (g1 g2 : TG) : Prop := ∀ (fr : St) (v : V) (H : Hp) (Q : St → Hp → Prop), g1 v (nv.map (fun _ => none) ++ fr) H Q → g1 v (nv.map (fun _ => none) ++ fr) H fun σ1 H1 => (Kp (nv.map (fun _ => none) ++ fr) σ1 ∧ KpT g2 σ1) ∧ Q σ1 H1
theorem inner_run {D : Addr} {J : It} {fp : List Addr} {it : Addr} {tn : Nat → Heap → Prop} {g : TG} {ti : TT} {te : TE} {N : List V → Hp → Prop} {pl : List (Addr × Obj)} {ys : List V} {its : List Value} {k : Nat}
    (hc : X.calm = true) (hp0 : X.pn = []) (I : Inv X ([(D, lobj its k)] ++ pl) σ H s) (rv : Vals ys its) (hz : ys.length ≤ sizeLine) (T : Turn X.prog X.w X.K t2 J fp it tn) (st : tn 0 s.heap) (hf : ∀ b ∈ fp, FpOk X ([(D, lobj its k)] ++ pl) H b)
    (hD1 : D ∈ X.ex ∨ X.s₀.heap.objs.size ≤ D) (hD2 : ∀ x c, X.env.cells.lookup x = some c → c ≠ D) (hD3 : ∀ p ∈ pl, p.1 ≠ D)
    (kg : KpT g σ) (hg : PG X t2 g) (hi : PIf X c2 ti) (he : PE X elt te) (hx : X.xe = fun _ _ => False) (q : CmpI g ti te σ J ys N H) :
    codeAny (model X.prog X.w) X.A (.compStart (.ListComp elt [⟨t1, i1, c1, 0⟩, ⟨t2, i2, c2, 0⟩] scope pos) 1 (.ref it) (.ref D) X.env)
      (fun r s' => r = .ok .next ∧ ∃ H' ys' its' k', Inv X ([(D, lobj its' k')] ++ pl) σ H' s' ∧ Vals ys' its' ∧ ys'.length ≤ sizeLine ∧ N ys' H') s := by
  obtain ⟨W, ⟨m0, w0⟩, turn⟩ := q
  have fpD : ∀ b ∈ fp, b ≠ D := fun b hb z => by
    have := (hf b hb).2.2.2.2.2 (D, lobj its k) (by rw [hp0]; simp)
    exact this z.symm
  have fpc : ∀ {H' : Hp} {its' : List Value} {k' : Nat}, (∀ b ∈ fp, H' b = none) → ∀ b ∈ fp, FpOk X ([(D, lobj its' k')] ++ pl) H' b := fun {H' its' k'} hn b hb => by
    obtain ⟨_, f1, f2, f3, f4, f5⟩ := hf b hb
    refine ⟨hn b hb, f1, f2, f3, f4, fun p hp z => ?_⟩
    rw [hp0, List.nil_append] at hp
    rcases List.mem_append.mp hp with hp | hp
    · have e : p = (D, lobj its' k') := by simpa using hp
      subst e
      exact fpD b hb z.symm
    · exact f5 p (by rw [hp0, List.nil_append]; exact List.mem_append_right _ hp) z
  have loop : codeAny (model X.prog X.w) X.A (.compLoop (.ListComp elt [⟨t1, i1, c1, 0⟩, ⟨t2, i2, c2, 0⟩] scope pos) 1 (.ref it) (.ref D) X.env)
      (fun r s' => r = .ok .next ∧ ∃ H' ys' its' k', Inv X ([(D, lobj its' k')] ++ pl) σ H' s' ∧ Vals ys' its' ∧ ys'.length ≤ sizeLine ∧ N ys' H') s := by
    refine loop_inner (fun n s' => ∃ i H' ys its k, Inv X ([(D, lobj its k)] ++ pl) σ H' s' ∧ Vals ys its ∧ ys.length ≤ sizeLine ∧ tn i s'.heap ∧ (∀ b ∈ fp, H' b = none) ∧ W i n ys H')
      ?_ m0 ⟨0, H, ys, its, k, I, rv, hz, st, fun b hb => (hf b hb).1, w0⟩
    rintro n s3 ⟨i, H3, ys, its, k, I3, rv, hz, st3, fr3, w3⟩
    rcases turn i n ys H3 w3 with ⟨stop, fin0⟩ | ⟨go, hlt', N', hN, step⟩
    · refine thn (T.done X rfl rfl rfl hc i _ s3 _ H3 _ I3 (fpc fr3) st3 stop) fun r s4 ⟨hr, I4⟩ => ?_
      subst hr
      exact ⟨rfl, H3, ys, its, k, I4, rv, hz, fin0⟩
    · refine thn (T.item X rfl rfl rfl hc i _ s3 _ H3 _ I3 (fpc fr3) st3 go) fun r s4 ⟨u, hr, h4⟩ => ?_
      subst hr
      refine thn h4 fun _ s5 ⟨x, H5, I5, r5, y5, st5, fr5⟩ => ?_
      have I5' := I5.pinned (fpc fr5) (T.obj _ _ st5)
      have hg' := hg _ s5 _ H5 x u _ I5' r5 (kg _ _ _ (step x H5 y5))
      rw [hx] at hg'
      refine thn hg' fun _ s6 ⟨σ6, H6, I6, kp, q6⟩ => ?_
      have hi' := hi _ s6 σ6 H6 _ I6 q6
      rw [hx] at hi'
      refine thn hi' fun b s7 ⟨H7, I7, q7⟩ => ?_
      have again : ∀ {s7 : Shared} {H7 : Hp} {ys' its' : List _} {k' : Nat}, Inv X (([(D, lobj its' k')] ++ pl) ++ pinsAt fp s5.heap) σ6 H7 s7 → Vals ys' its' → ys'.length ≤ sizeLine → N' ys' H7 →
          ∃ m, m < n ∧ ∃ i H' ys its k, Inv X ([(D, lobj its k)] ++ pl) σ H' s7 ∧ Vals ys its ∧ ys.length ≤ sizeLine ∧ tn i s7.heap ∧ (∀ b ∈ fp, H' b = none) ∧ W i m ys H' := fun {s7 H7 ys' its' k'} I8 rv' hz' n8 => by
        obtain ⟨m', hm, w8⟩ := hN _ _ n8
        have pn := fun (b : Addr) (o : Obj) (hb : b ∈ fp) (e : s5.heap.get? b = some o) => I8.pin (b, o) (List.mem_append_right _ (List.mem_append_right _ (mem_pinsAt hb e)))
        refine ⟨m', hm, i + 1, H7, ys', its', k', (I8.unpinned).weak kp.1 kp.2, rv', hz', T.keep _ _ _ st5 fun b hb o e => (pn b o hb e).1, fun b hb => ?_, w8⟩
        obtain ⟨o, e, d⟩ := T.obj _ _ st5 b hb
        exact (pn b o hb e).2.1
      cases b with
      | false =>
        rw [if_neg Bool.false_ne_true] at q7 ⊢
        exact again I7 rv hz q7
      | true =>
        rw [if_pos rfl] at q7 ⊢
        have he' := he _ s7 σ6 H7 _ I7 q7
        rw [hx] at he'
        refine thn he' fun u8 s8 ⟨y, H8, I8, r8, q8⟩ => ?_
        obtain ⟨p1, p2, p3, p4, p5⟩ := I8.pin (D, lobj its k) (List.mem_append_right _ List.mem_cons_self)
        refine append_at (hsz := by rw [List.size_toArray, ← rv.length]; exact Nat.le_of_lt hlt') p1 fun h9 hs9 hD9 => ?_
        have I9 : Inv X (pl ++ pinsAt fp s5.heap) σ6 H8 { s8 with heap := h9 } := by
          have Iu : Inv X (pl ++ pinsAt fp s5.heap) σ6 H8 s8 := I8.pins_of fun p hp => I8.pin p (List.mem_append_right _ (by rw [List.append_assoc]; exact List.mem_append_right _ hp))
          refine Iu.turned (t' := s8.toks) (it := D) (fun b o hb e => (hs9.2 b hb).trans e) p2 p3 hD1 hD2 fun p hp z => ?_
          rw [hp0, List.nil_append] at hp
          rcases List.mem_append.mp hp with hp | hp
          · exact hD3 p hp z
          · obtain ⟨hb, _⟩ := of_pinsAt hp
            exact fpD _ hb z
        have I10 : Inv X (([(D, lobj (its ++ [u8]) (k + 1))] ++ pl) ++ pinsAt fp s5.heap) σ6 H8 { s8 with heap := h9 } :=
          I9.pins_of fun p hp => by
            rw [List.append_assoc] at hp
            rcases List.mem_append.mp hp with hp | hp
            · have e : p = (D, lobj (its ++ [u8]) (k + 1)) := by simpa using hp
              subst e
              refine ⟨?_, p2, p3, p4, fun v z => by cases z⟩
              rw [List.push_toArray] at hD9
              exact hD9
            · exact I9.pin p (List.mem_append_right _ hp)
        exact again I10 (rv.append (.cons r8 .nil)) (by rw [List.length_append, List.length_singleton]; exact hlt') q8
  exact start_inner loop (T.self _ 0 _ _ _ st loop)
theorem comp_run2 {J : It} {fp : List Addr} {it : Addr} {tn : Nat → Heap → Prop} {g1 g2 : TG} {ti1 ti2 : TT} {wi2 : TI} {te : TE} {Fin : List V → Hp → Prop} {E : Value → Shared → Prop} {RR : Value → Addr → Result → Shared → Prop}
    (co : CompOk X nv ix scope) (hc : X.calm = true) (I : Inv X pins σ H s) (T : Turn X.prog X.w X.K t1 J fp it tn) (st : tn 0 s.heap) (hf : ∀ b ∈ fp, FpOk X pins H b)
    (kg : KpG2 nv g1 g2) (hg : ∀ C s₀ H₀ fp, PG (cmpX X nv ix scope C s₀ H₀ fp) t1 g1) (hi : ∀ C s₀ H₀ fp, PIf (cmpX X nv ix scope C s₀ H₀ fp) c1 ti1)
    (hw2 : ∀ C s₀ H₀ fp, PI (cmpX X nv ix scope C s₀ H₀ fp) t2 i2 wi2) (hg2 : ∀ C s₀ H₀ fp, PG (cmpX X nv ix scope C s₀ H₀ fp) t2 g2) (hi2 : ∀ C s₀ H₀ fp, PIf (cmpX X nv ix scope C s₀ H₀ fp) c2 ti2) (he : ∀ C s₀ H₀ fp, PE (cmpX X nv ix scope C s₀ H₀ fp) elt te)
    (hs2 : ∀ C s₀ H₀ fp x, foldedSetIterable i2 (cmpX X nv ix scope C s₀ H₀ fp).env x = pure x)
    (q : CmpW2 nv ix g1 ti1 wi2 g2 ti2 te σ J Fin H)
    (fin : ∀ D C s' H' ys, Inv X pins σ (upd H' D (.lst ys)) s' → H' D = none → Fin ys H' → (∃ m, s'.heap.Ns C m) → FpOk X pins (upd H' D (.lst ys)) C → RR (.ref D) C (.ok .next) s') :
    wpAny (model X.prog X.w) X.A (newList []) (fun acc s₃ => wpAny (model X.prog X.w) X.A (newFunctionEnv scope X.env.globals (clsOf X.env scope.names []) [] X.env.qual none .none (some X.env)) (fun cenv s₄ =>
      codeAny (model X.prog X.w) X.A (.compStart (.ListComp elt [⟨t1, i1, c1, 0⟩, ⟨t2, i2, c2, 0⟩] scope pos) 0 (.ref it) acc { cenv with scope := relabel scope X.env }) (RR acc cenv.locals) s₄) E s₃) E s := by
  obtain ⟨W, ⟨m0, w0⟩, turn⟩ := q
  refine wpAny_newObj_type (wpAny_newFunctionEnv co.nocell (by intro y hy; simp at hy) (fun h₁ hns₁ hsb₁ => ?_) co.kind)
  dsimp only at hns₁ hsb₁ ⊢
  generalize hH2 : s.heap.push { cls := .type "list", dict := none, data := .seq ([] : List Value).toArray } = H2 at hns₁ hsb₁ ⊢
  have hC : H2.objs.size = s.heap.objs.size + 1 := by rw [← hH2, Heap.size_push]
  rw [hC] at hns₁ hsb₁ ⊢
  have hDC : s.heap.objs.size ≠ s.heap.objs.size + 1 := Nat.ne_of_lt (Nat.lt_succ_self _)
  have below : ∀ b, b < s.heap.objs.size → b ≠ s.heap.objs.size + 1 ∧ b ≠ s.heap.objs.size := fun b hb => ⟨Nat.ne_of_lt (Nat.lt_succ_of_lt hb), Nat.ne_of_lt hb⟩
  have old : ∀ b o, s.heap.get? b = some o → h₁.get? b = some o := fun b o e => hsb₁.extBut b o (below b (Heap.lt_size e)).1 (Heap.get?_push_of_some _ (hH2 ▸ Heap.get?_push_of_some _ e))
  have hacc : h₁.get? s.heap.objs.size = some (lobj [] 0) := hsb₁.extBut _ _ hDC (Heap.get?_push_of_some _ (hH2 ▸ Heap.get?_push_size _ rfl))
  have hlt : ∀ b ∈ fp, b < s.heap.objs.size := fun b hb => by
    obtain ⟨o, e, _⟩ := T.obj 0 _ st b hb
    exact Heap.lt_size e
  have I₁ := fun tk => cmp_start (tk := tk) co I hf hlt hns₁ old hacc
  have st₁ : tn 0 h₁ := T.keep 0 _ _ st fun b _ o e => old b o e
  have fpD : ∀ {H' : Hp}, H' s.heap.objs.size = none → FpOk X pins H' s.heap.objs.size := fun hn => I.fpOk (Nat.le_refl _) hn
  have loop : ∀ tk : Nat, codeAny (model X.prog X.w) X.A (.compLoop (.ListComp elt [⟨t1, i1, c1, 0⟩, ⟨t2, i2, c2, 0⟩] scope pos) 0 (.ref it) (.ref s.heap.objs.size) (compEnvC scope (clsOf X.env scope.names []) (s.heap.objs.size + 1) X.env))
      (RR (.ref s.heap.objs.size) (s.heap.objs.size + 1)) { s with heap := h₁, toks := tk } := by
    intro tk
    refine loop_outer (fun n s' => ∃ i H' ys its k, Inv (cmpX X nv ix scope (s.heap.objs.size + 1) s H fp) [(s.heap.objs.size, lobj its k)] (st0 nv ix σ) H' s' ∧ Vals ys its ∧ ys.length ≤ sizeLine ∧ tn i s'.heap ∧ (∀ b ∈ fp, H' b = none) ∧ W i n ys H')
      (hs2 (s.heap.objs.size + 1) s H fp) ?_ m0 ⟨0, H, [], [], 0, I₁ tk, .nil, Nat.zero_le _, st₁, fun b hb => (hf b hb).1, w0⟩
    rintro n s3 ⟨i, H3, ys, its, k, I3, rv, hz, st3, fr3, w3⟩
    have fpc : ∀ {H' : Hp} {its : List Value} {k : Nat}, (∀ b ∈ fp, H' b = none) → ∀ b ∈ fp, FpOk (cmpX X nv ix scope (s.heap.objs.size + 1) s H fp) [(s.heap.objs.size, lobj its k)] H' b := fun {H' its k} hn b hb => by
      refine ⟨hn b hb, (below b (hlt b hb)).1, fun hs => ?_, .inl hb, fun x c e => (hf b hb).2.2.2.2.1 x c (co.look I.ok e), fun p hp z => ?_⟩
      · rcases List.mem_cons.mp (I.stkSub b hs) with e | h
        · exact (hf b hb).2.1 e
        · exact (hf b hb).2.2.1 h
      · have e : p = (s.heap.objs.size, lobj its k) := by simpa [cmpX] using hp
        subst e
        exact (below b (hlt b hb)).2 z.symm
    have pD := fun {ps : List (Addr × Obj)} {σ' : St} {H' : Hp} {s' : Shared} (I' : Inv (cmpX X nv ix scope (s.heap.objs.size + 1) s H fp) ((s.heap.objs.size, lobj its k) :: ps) σ' H' s') =>
      I'.pin (s.heap.objs.size, lobj its k) (List.mem_append_right _ List.mem_cons_self)
    rcases turn i n ys H3 w3 with ⟨stop, fin0⟩ | ⟨go, N, hN, step⟩
    · refine thn (T.done (cmpX X nv ix scope (s.heap.objs.size + 1) s H fp) rfl rfl rfl hc i _ s3 _ H3 _ I3 (fpc fr3) st3 stop) fun r s4 ⟨hr, I4⟩ => ?_
      subst hr
      obtain ⟨p1, p2, _⟩ := pD I4
      have I5 := (cmp_end I hf I4).track rv hz p1 p2 (fpD p2)
      obtain ⟨mC, hmC, _⟩ := I4.loc
      exact fin _ _ s4 H3 ys I5 p2 fin0 ⟨mC, hmC⟩ (I.fpOk (Nat.le_succ _) (by rw [upd_ne (Ne.symm hDC)]; exact I4.free))
    · refine thn (T.item (cmpX X nv ix scope (s.heap.objs.size + 1) s H fp) rfl rfl rfl hc i _ s3 _ H3 _ I3 (fpc fr3) st3 go) fun r s4 ⟨u, hr, h4⟩ => ?_
      subst hr
      refine thn h4 fun _ s5 ⟨x, H5, I5, r5, y5, st5, fr5⟩ => ?_
      have I5' := I5.pinned (fpc fr5) (T.obj _ _ st5)
      refine thn (hg _ _ _ _ _ s5 _ H5 x u _ I5' r5 (kg _ _ _ _ (step x H5 y5))) fun _ s6 ⟨σ6, H6, I6, ⟨kp, kt⟩, q6⟩ => ?_
      refine thn (hi _ _ _ _ _ s6 σ6 H6 _ I6 q6) fun b s7 ⟨H7, I7, q7⟩ => ?_
      have again : ∀ {s7 : Shared} {H7 : Hp} {ys' its' : List _} {k' : Nat}, Inv (cmpX X nv ix scope (s.heap.objs.size + 1) s H fp) ([(s.heap.objs.size, lobj its' k')] ++ pinsAt fp s5.heap) σ6 H7 s7 → Vals ys' its' → ys'.length ≤ sizeLine → N ys' H7 →
          ∃ m, m < n ∧ ∃ i H' ys its k, Inv (cmpX X nv ix scope (s.heap.objs.size + 1) s H fp) [(s.heap.objs.size, lobj its k)] (st0 nv ix σ) H' s7 ∧ Vals ys its ∧ ys.length ≤ sizeLine ∧ tn i s7.heap ∧ (∀ b ∈ fp, H' b = none) ∧ W i m ys H' := fun {s7 H7 ys' its' k'} I8 rv' hz' n8 => by
        obtain ⟨m', hm, w8⟩ := hN _ _ n8
        have pn := fun (b : Addr) (o : Obj) (hb : b ∈ fp) (e : s5.heap.get? b = some o) => I8.pin (b, o) (List.mem_append_right _ (List.mem_append_right _ (mem_pinsAt hb e)))
        refine ⟨m', hm, i + 1, H7, ys', its', k', (I8.unpinned).weak kp.1 kp.2, rv', hz', T.keep _ _ _ st5 fun b hb o e => (pn b o hb e).1, fun b hb => ?_, w8⟩
        obtain ⟨o, e, d⟩ := T.obj _ _ st5 b hb
        exact (pn b o hb e).2.1
      cases b with
      | false =>
        rw [if_neg Bool.false_ne_true] at q7 ⊢
        exact again I7 rv hz q7
      | true =>
        rw [if_pos rfl] at q7 ⊢
        refine thn (hw2 _ _ _ _ _ s7 σ6 H7 _ I7 q7) fun v8 s8 h8 => thn h8 fun itv s9 h9 => ?_
        obtain ⟨it2, fp2, tn2, J2, H9, e9, I9, T2, st9, f9, q9⟩ := h9
        subst e9
        refine codeAny_mono (inner_run (X := cmpX X nv ix scope (s.heap.objs.size + 1) s H fp) (elt := elt) (t1 := t1) (i1 := i1) (c1 := c1) (i2 := i2) hc rfl I9 rv hz T2 st9 f9 (.inr (Nat.le_refl _)) (fun x c e z => ?_) (fun p hp z => ?_) kt (hg2 _ _ _ _) (hi2 _ _ _ _) (he _ _ _ _) rfl q9) fun r s10 h10 => ?_
        · obtain ⟨v, o, e1, _⟩ := I.cell x c (co.look I.ok e)
          exact absurd (Heap.lt_size e1) (by rw [z]; exact Nat.lt_irrefl _)
        · obtain ⟨hb, _⟩ := of_pinsAt hp
          exact (below _ (hlt _ hb)).2 z
        · obtain ⟨rfl, H10, ys', its', k', I10, rv10, hz10, n10⟩ := h10
          exact ⟨rfl, again I10 rv10 hz10 n10⟩
  exact codeAny_compStart_list (loop _) (T.self _ 0 _ _ _ st₁ (loop _))

noncomputable def tComp2 (nv : List Str) (ix : List (Str × Nat)) (wi : TI) (g1 : TG) (ti1 : TT) (wi2 : TI) (g2 : TG) (ti2 : TT) (te : TE) : TE := fun σ H Q => wi σ H fun J H1 => CmpW2 nv ix g1 ti1 wi2 g2 ti2 te σ J (fun ys H2 => ∀ D, H2 D = none → Q (.ref D) (upd H2 D (.lst ys))) H1
end
end L2
set_option Elab.async false
set_option linter.all false
set_option maxRecDepth 100000
set_option maxHeartbeats 4000000
namespace L2
open PySem PySem.Spec PyProof.Rows
section
variable {X : Cx} {e v₁ v₂ : Expr} {es : List Expr} {te : TE} {pos : Pos}
end
end L2
set_option Elab.async false
set_option linter.all false
set_option maxRecDepth 100000
set_option maxHeartbeats 4000000
namespace L2
open PySem PySem.Spec PyProof.Rows
section
variable {κ : Type} [DecidableEq κ]
end
section
variable {P : Program} {w : World} {H : Hp} {h : Heap} {a : Addr}
end
section
variable {X : Cx} {pins : List (Addr × Obj)} {σ : St} {H : Hp} {s : Shared} {a : Addr} {y v : V} {u r : Value} {o : Option V} {A : Around} {E : Value → Shared → Prop}
end
section
variable {X : Cx} {pins : List (Addr × Obj)} {σ : St} {H : Hp} {s : Shared} {a : Addr} {kvs : List (Key × V)} {k : Key} {u : Value} {A : Around} {E : Value → Shared → Prop}
end
section
variable {X : Cx} {o i e value : Expr} {pos pos' tpos : Pos} {td ty tv : TE}
end
section
variable {X : Cx} {pos : Pos}
end
end L2
set_option Elab.async false
set_option linter.all false
set_option maxRecDepth 100000
set_option maxHeartbeats 4000000
namespace DCT
open PySem PyProof.Rows SRT L2
section
variable {prog : Program} {w : World} {A : Around} {E : Value → Shared → Prop} {s : Shared} {K : Type} [DecidableEq K] {knd : KeyKind prog w K}
end
end DCT
namespace L2
open PySem PySem.Spec PyProof.Rows
section
variable {X : Cx}
variable {e : Expr} {es : List Expr} {t : TA} {p pos : Pos}
end
end L2
set_option Elab.async false
set_option linter.all false
set_option maxRecDepth 100000
set_option maxHeartbeats 4000000
namespace PySem
open Sem (wp)
section
variable {prog : Program} {w : World} {A : Around} {E : Value → Shared → Prop} {K : Type} [DecidableEq K] {knd : KeyKind prog w K}
end
end PySem
namespace L2
open PySem PySem.Spec PyProof.Rows
section
variable {X : Cx}
variable {e : Expr} {es : List Expr} {t : TA} {p pos : Pos}
end
end L2
set_option Elab.async false
set_option linter.all false
set_option maxRecDepth 100000
set_option maxHeartbeats 4000000
namespace L2
open PySem PySem.Spec PyProof.Rows
section
variable {X : Cx} {pins : List (Addr × Obj)} {σ : St} {H : Hp} {s : Shared} {a : Addr} {y d : V} {u r : Value} {o : Option V} {A : Around} {E : Value → Shared → Prop}
end
section
variable {X : Cx} {o e f : Expr} {apos cpos : Pos} {td ty tx : TE}
end
end L2
set_option Elab.async false
set_option linter.all false
set_option maxRecDepth 100000
set_option maxHeartbeats 4000000
namespace L2
open PySem PySem.Spec PyProof.Rows
section
variable {X : Cx}
end
end L2
set_option Elab.async false
set_option linter.all false
set_option maxRecDepth 100000
set_option maxHeartbeats 4000000
namespace L2
open PySem PySem.Spec PyProof.Rows
section
variable {X : Cx}
variable {e : Expr} {es : List Expr} {t : TA} {p pos : Pos}
end
end L2
set_option Elab.async false
set_option linter.all false
set_option maxRecDepth 100000
set_option maxHeartbeats 4000000
namespace L2
open PySem PySem.Spec PyProof.Rows
section
variable {X : Cx}
variable {e : Expr} {es : List Expr} {t : TA} {p pos : Pos}
end
end L2
set_option Elab.async false
set_option linter.all false
set_option maxRecDepth 100000
set_option maxHeartbeats 4000000
namespace L2
open PySem PySem.Spec PyProof.Rows
section
variable {prog : Program} {w : World} {A : Around} {E : Value → Shared → Prop} {s : Shared}
variable {z TI TO i1 i2 i3 l1 l2 l3 : Addr} {k1 k2 k3 : Nat} {xs ys zs : Array Value}
end
section
variable {prog : Program} {w : World} {A : Around} {E : Value → Shared → Prop} {s : Shared}
end
section
variable {X : Cx} {pins : List (Addr × Obj)} {σ : St} {H : Hp} {s : Shared}
end
end L2
set_option Elab.async false
set_option linter.all false
set_option maxRecDepth 100000
set_option maxHeartbeats 4000000
namespace L2
open PySem PySem.Spec PyProof.Rows
theorem ns_none_at {K : PySem.W.Frag} {h : Heap} {ns : Addr} {mg : Str → Option Value} {n : Str} (X : K.In h) (G : h.Ns ns mg) (e : PySem.W.nsIn K ns n = some none) : mg n = none := by
  obtain ⟨o, es, ep, ho, hd, _, hf⟩ := G
  unfold PySem.W.nsIn at e
  split at e
  · rename_i c d es' n' sl q
    have := X _ _ q
    rw [ho] at this
    cases this
    cases hd
    split at e
    · cases e
    · rename_i he
      rw [← hf]
      unfold nsFind findBy
      rw [← Array.find?_toList, he]
      rfl
  · cases e
noncomputable def DigK (K : PySem.W.Frag) : Prop := PySem.W.nsIn K cStatics "sys.int_max_str_digits" = some none
theorem wp_textL {M : Model} {A : Around} {E : Value → Shared → Prop} {s : Shared} {Q : Value → Shared → Prop} {v : Value} {text : List Nat} {n : Int} {mc : Str → Option Value}
    (hns : s.heap.Ns cStatics mc) (hmc : mc "sys.int_max_str_digits" = none)
    (hs : ¬ (text.takeWhile (· != 0)).length ≤ 640) (hr : (int_private% "readNumeral") 4300 10 (text.takeWhile (· != 0)) = (int_private% "Numeral.value") n)
    (ha : ((text.takeWhile (· != 0)).length == text.length) = true) (h : Q (.int n s.toks) { s with toks := s.toks + 1 }) :
    wpAny M A ((int_private% "intFromText") v text 10) Q E s := by
  obtain ⟨hp, g, d, tk, os⟩ := s
  have lim : ∀ (Q : Nat → Shared → Prop) (E : Value → Shared → Prop), Q 4300 ⟨hp, g, d, tk, os⟩ → wpAny M A Builtin.intMaxStrDigits Q E ⟨hp, g, d, tk, os⟩ := fun Q E q => by
    unfold Builtin.intMaxStrDigits
    refine wpAny_bind (wpAny_nsGet hns ?_)
    rw [hmc]
    exact wpAny_pure q
  repeat (any_goals (first
    | assumption
    | (with_reducible refine lim _ _ ?_)
    | (with_reducible refine wpAny_ite_false (decide_eq_false hs) ?_)
    | (with_reducible refine wpAny_ite_true (decide_eq_true ha) ?_)
    | wp_step))
  all_goals (try rw [hr])
  all_goals (try dsimp only)
  repeat (any_goals (first
    | assumption
    | (with_reducible refine lim _ _ ?_)
    | (with_reducible refine wpAny_ite_false (decide_eq_false hs) ?_)
    | (with_reducible refine wpAny_ite_true (decide_eq_true ha) ?_)
    | wp_step))
noncomputable def NoDig (h : Heap) : Prop := ∃ mc, h.Ns cStatics mc ∧ mc "sys.int_max_str_digits" = none
theorem meets_textL {x : PySem.Str} {u : Tok} {n : Int} (hx : x.length ≤ sizeLine) (hbig : ¬ (numSeenOf x).length ≤ 640) (hn : PySem.intText? x = some n) :
    Meets (Builtin.«int.__new__» ⟨[.type "int", .str x u], []⟩) (fun _ R s => NoDig s.heap ∧ R (.ok (.ret (.int n s.toks))) { s with toks := s.toks + 1 }) :=
  .of_wp fun prog w A R s h => by
    obtain ⟨⟨mc, hns, hmc⟩, h⟩ := h
    obtain ⟨hp, g, d, tk, os⟩ := s
    have f1 := PySem.F.conv_sub_int
    have f2 := PySem.F.madeHere_int
    have f3 := PySem.W.KIN.str_int
    have f4 := PySem.W.KIN.str_idx
    have f5 := PySem.W.KIN.str_trunc
    have f6 : typeOf (.str x u) = pure (.type "str") := rfl
    have hr : (int_private% "readNumeral") 4300 10 (numSeenOf x) = (int_private% "Numeral.value") n ∧ ((numSeenOf x).length == (numTextOf x).length) = true := by
      rcases read4300 x hx with ⟨m, h1, h2, h3⟩ | ⟨h1, _⟩
      · rw [hn] at h1
        injection h1 with h1
        subst h1
        exact ⟨h3, h2⟩
      · rw [hn] at h1
        cases h1
    have hk := PySem.W.KIN.Hid.mk (And.intro hbig hr)
    have hm := PySem.W.KIN.Hid.mk (And.intro hns hmc)
    clear hbig hr hn hns hmc
    repeat (any_goals (first
      | assumption
      | ((with_reducible show wpAny _ _ ((int_private% "intFromText") _ _ _) _ _ _); refine wp_textL hm.out.1 hm.out.2 hk.out.1 hk.out.2.1 hk.out.2.2 ?_)
      | wp_step))
    all_goals first | exact ⟨_, rfl, h⟩ | skip
section
variable {X : Cx}
noncomputable def rIntL : List V → Hp → VK → Prop := fun xs H Q => match xs with
  | [.str x] => ∃ n, intText? x = some n ∧ x.length ≤ sizeLine ∧ (¬ (numSeenOf x).length ≤ 640) ∧ Q (.int n) H
  | _ => False
theorem Inv.noDig {pins : List (Addr × Obj)} {σ : St} {H : Hp} {s : Shared} (I : Inv X pins σ H s) (hD : DigK X.K) : NoDig s.heap := by
  obtain ⟨mc, hns, _⟩ := I.nolimit
  exact ⟨mc, hns, ns_none_at I.kIn hns hD⟩
theorem call_intL (hD : DigK X.K) : CallR X (.type "int") rIntL := by
  intro pins s σ H xs us Q I r h
  unfold rIntL at h
  split at h
  · obtain ⟨n, h1, h2, hb, q⟩ := h
    obtain ⟨u, rfl, r1⟩ := vals1 r
    obtain ⟨t, rfl⟩ := r1
    exact call_int_1 (meets_textL h2 hb h1) ⟨I.noDig hD, ⟨rfl, ⟨.int n, H, I.tok _, ⟨_, rfl⟩, q⟩⟩⟩
  · exact h.elim
variable {e : Expr} {es : List Expr} {t : TA} {p pos : Pos}
theorem pcb_intL (hD : DigK X.K) (hg : Gl X "int") (hm : X.mg "int" = none) (ha : PA X (e :: es) t) (he : starEach (e :: es) X.env = (false, eval e X.env) :: starEach es X.env) (hpl : (backTo pos (starEach es X.env)).any (·.1) = false) :
    PE X (.Call (.Name "int" p) (e :: es) [] pos) (tCB rIntL t) := pe_callTy (call_intL hD) hg hm boot_int' ha (by decide) (by decide) he hpl
theorem zcb_intL (hD : DigK X.K) (hg : Gl X "int") (hm : X.mg "int" = none) (ha : ZA X (e :: es) t) (he : starEach (e :: es) X.env = (false, eval e X.env) :: starEach es X.env) (hpl : (backTo pos (starEach es X.env)).any (·.1) = false) :
    ZE X (.Call (.Name "int" p) (e :: es) [] pos) (tCB rIntL t) := by with_unfolding_all exact pcb_intL hD hg hm ha he hpl
end
end L2
set_option Elab.async false
set_option linter.all false
set_option maxRecDepth 100000
set_option maxHeartbeats 4000000
namespace L2
open PySem PySem.Spec PyProof.Rows
theorem boot_any' : bootBuiltins "any" = some (.builtin "any") := by decide +kernel
noncomputable def rAnyP (K : PySem.W.Frag) : List V → Hp → VK → Prop := fun xs H Q => match xs with
  | [.ref p] => ∃ bs : List Bool, SqL K H p (bs.map V.bl) ∧ Q (.bl (bs.any id)) H
  | _ => False
theorem call_anyP {X : Cx} (hc : X.calm = true) : CallR X (.builtin "any") (rAnyP X.K) := by
  intro pins s σ H xs us Q I r h
  unfold rAnyP at h
  split at h
  · rename_i p
    obtain ⟨bs, hq, q⟩ := h
    obtain ⟨u, rfl, rx⟩ := vals1 r
    cases rx
    obtain ⟨its, rv, pl, hz⟩ := I.list hq
    have hlen : its.length = bs.length := by rw [← rv.length, List.length_map]
    have hlt : p < s.heap.objs.size := by
      obtain ⟨_, e, _⟩ := pl.isList
      exact Heap.lt_size e
    refine call_any_walk (wpAny_pyIter_list pl.isList ?_)
    have W : Walks X.prog X.w X.A.in1 s.heap.objs.size [s.heap.objs.size, p] [s.heap.objs.size] its.toArray.size _ _ := Walks.list (show X.A.in1.handled = none from I.ok.hd hc) s.heap.objs.size p (Nat.ne_of_lt hlt) its.toArray
    refine ⟨s.heap.objs.size, _, _, _, _, _, fun i => bs.getD i false, rfl, W, ⟨⟨_, Heap.get?_push_size _ rfl, rfl, rfl⟩, pl.isList.push _⟩, ?_, fun h' tk hk => ?_⟩
    · intro i v s' Q' E' hP hQ
      have hP' : its[i]? = some v := by simpa using hP
      have hi : i < bs.length := by rw [← hlen]; exact (List.getElem?_eq_some_iff.mp hP').1
      obtain ⟨w', e1, e2⟩ := rv.get (i := i) (x := .bl bs[i]) (by rw [List.getElem?_map, List.getElem?_eq_getElem hi]; rfl)
      rw [hP'] at e1
      cases e1
      cases e2
      refine wpAny_truthy_bool ?_
      have e : bs.getD i false = bs[i] := by rw [List.getD_eq_getElem?_getD, List.getElem?_eq_getElem hi]; rfl
      have hQ' : Q' (bs.getD i false) s' := hQ
      rw [e] at hQ'
      exact hQ'
    · have I1 : Inv X pins σ H { s with heap := h', toks := tk } := I.kept fun b o e => hk b o (by simpa using Nat.ne_of_lt (Heap.lt_size e)) (Heap.get?_push_of_some _ e)
      refine ⟨.bl _, H, I1, rfl, ?_⟩
      have e : (List.range its.toArray.size).any (fun i => bs.getD i false) = bs.any id := by
        rw [List.size_toArray, hlen, Bool.eq_iff_iff, List.any_eq_true, List.any_eq_true]
        constructor
        · rintro ⟨i, hi, h⟩
          have hi' := List.mem_range.mp hi
          rw [List.getD_eq_getElem?_getD, List.getElem?_eq_getElem hi'] at h
          exact ⟨_, List.getElem_mem hi', h⟩
        · rintro ⟨x, hx, h⟩
          obtain ⟨i, hi, rfl⟩ := List.mem_iff_getElem.mp hx
          exact ⟨i, List.mem_range.mpr hi, by rw [List.getD_eq_getElem?_getD, List.getElem?_eq_getElem hi]; exact h⟩
      rw [e]
      exact q
  · exact h.elim
section
variable {X : Cx} {e : Expr} {es : List Expr} {t : TA} {p pos : Pos}
theorem pcb_any (hc : X.calm = true) (hg : Gl X "any") (hm : X.mg "any" = none) (ha : PA X (e :: es) t) (he : starEach (e :: es) X.env = (false, eval e X.env) :: starEach es X.env) (hpl : (backTo pos (starEach es X.env)).any (·.1) = false) :
    PE X (.Call (.Name "any" p) (e :: es) [] pos) (tCB (rAnyP X.K) t) := pe_callB (call_anyP hc) hg hm boot_any' ha (by decide) (by decide) he hpl
theorem zcb_any (hc : X.calm = true) (hg : Gl X "any") (hm : X.mg "any" = none) (ha : ZA X (e :: es) t) (he : starEach (e :: es) X.env = (false, eval e X.env) :: starEach es X.env) (hpl : (backTo pos (starEach es X.env)).any (·.1) = false) :
    ZE X (.Call (.Name "any" p) (e :: es) [] pos) (tCB (rAnyP X.K) t) := by with_unfolding_all exact pcb_any hc hg hm ha he hpl
end
end L2
set_option Elab.async false
set_option linter.all false
set_option maxRecDepth 100000
set_option maxHeartbeats 4000000
namespace L2
open PySem PySem.Spec PyProof.Rows
theorem eqv_tuple_nil (ds : List PyData) : PyData.eqv (.tuple ds) (.tuple []) = ds.isEmpty := by cases ds <;> simp [PyData.eqv, PyData.eqvAll]
end L2
set_option Elab.async false
set_option linter.all false
set_option maxRecDepth 100000
set_option maxHeartbeats 4000000
namespace L2
open PySem PySem.Spec PyProof.Rows
section
variable {X : Cx}
variable {e : Expr} {es : List Expr} {t : TA} {p pos : Pos}
end
end L2
set_option Elab.async false
set_option linter.all false
set_option maxRecDepth 100000
set_option maxHeartbeats 4000000
namespace HT
open PySem PyProof.Rows PySem.SeqAt
variable {prog : Program} {w : World} {A : Around} {E : Value → Shared → Prop} {s : Shared}
end HT
namespace L2
open PySem PySem.Spec PyProof.Rows
section
variable {X : Cx} {e lo hi : Expr} {te tl tk : TE} {pos p2 : Pos}
end
end L2
set_option Elab.async false
set_option linter.all false
set_option maxRecDepth 100000
set_option maxHeartbeats 4000000
namespace EN1
open PySem PyProof.Rows
section
variable {prog : Program} {w : World} {A : Around} {E : Value → Shared → Prop} {s : Shared}
end
end EN1
set_option Elab.async false
set_option linter.all false
set_option maxRecDepth 100000
set_option maxHeartbeats 4000000
namespace EN1
open PySem PyProof.Rows
section
end
end EN1
namespace L2
open PySem PySem.Spec PyProof.Rows
section
variable {X : Cx}
end
end L2
set_option Elab.async false
set_option linter.all false
set_option maxRecDepth 100000
set_option maxHeartbeats 4000000
namespace PySem
open PyProof.Rows
section
variable {prog : Program} {w : World} {A : Around} {E : Value → Shared → Prop} {s : Shared}
end
end PySem
namespace L2
open PySem PySem.Spec PyProof.Rows
section
variable {X : Cx}
theorem op_in_seq' {K : PySem.W.Frag} (h : X.K = K) : OpR X (compareOp .In) (rIn K false) := by subst h; exact op_in_seq
variable {e : Expr} {es : List Expr} {t : TA} {p pos : Pos}
end
end L2
set_option Elab.async false
set_option linter.all false
set_option maxRecDepth 100000
set_option maxHeartbeats 4000000
namespace L2
open PySem PySem.Spec PyProof.Rows
section
variable {X : Cx}
end
end L2
set_option Elab.async false
set_option linter.all false
set_option maxRecDepth 100000
set_option maxHeartbeats 4000000
namespace B9
open PySem L2
theorem fold_app : ∀ (l : List (Array Nat)) (a : Array Nat), (l.foldl (· ++ ·) a).toList = a.toList ++ (l.map Array.toList).flatten
  | [], a => by simp
  | x :: l, a => by rw [List.foldl_cons, fold_app l (a ++ x)]; simp
theorem mul_cps (x : Str) (n : Nat) : (strMul x n).cps.toList = (List.replicate n x.cps.toList).flatten := by
  unfold strMul
  rw [fold_app, List.map_replicate]
  simp
theorem nought : (Str.ofString "0").cps.toList = [48] := by decide +kernel
theorem rep_one (n : Nat) : (List.replicate n [48]).flatten = List.replicate n (48 : Nat) := by
  induction n with
  | zero => rfl
  | succ n ih => rw [List.replicate_succ, List.flatten_cons, ih, List.replicate_succ]; rfl
theorem app_cps (x y : Str) : (x ++ y).cps.toList = x.cps.toList ++ y.cps.toList := by
  show (x.cps ++ y.cps).toList = _
  simp
theorem one_cps : (Str.ofString "1").cps.toList = [49] := by decide +kernel
theorem cpsN (n : Nat) : ((Str.ofString "1") ++ strMul (Str.ofString "0") n).cps.toList = 49 :: List.replicate n 48 := by
  rw [app_cps, mul_cps, nought, rep_one, one_cps]
  rfl
theorem lenN (n : Nat) : ((Str.ofString "1") ++ strMul (Str.ofString "0") n).length = n + 1 := by
  show ((Str.ofString "1") ++ strMul (Str.ofString "0") n).cps.size = n + 1
  rw [← Array.length_toList, cpsN]
  simp
theorem digN (n : Nat) : NumText.AllDigits (49 :: List.replicate n 48) := by
  intro c hc
  rcases List.mem_cons.mp hc with rfl | hc
  · decide
  · rw [List.eq_of_mem_replicate hc]; decide
theorem exN {n : Nat} (h : n < 4300) : ∃ B : Int, intText? ((Str.ofString "1") ++ strMul (Str.ofString "0") n) = some B ∧ 0 < B := by
  refine ⟨_, intText_digits (by rw [cpsN]; exact digN n) (by rw [cpsN]; exact List.cons_ne_nil _ _) (by rw [lenN]; omega), ?_⟩
  have : 0 < NumText.digitsVal (49 :: List.replicate n 48) := NumText.digitsVal_pos (Nat.le_refl _)
  rw [cpsN]
  exact Int.natCast_pos.mpr this
theorem lenM (n : Nat) : (Str.ofString "1").length + (strMul (Str.ofString "0") n).length = n + 1 := by
  show (Str.ofString "1").cps.size + (strMul (Str.ofString "0") n).cps.size = n + 1
  rw [← Array.length_toList, ← Array.length_toList, mul_cps, nought, rep_one, one_cps]
  simp
  omega
theorem seenN {n : Nat} (h : 640 ≤ n) : ¬ (numSeenOf ((Str.ofString "1") ++ strMul (Str.ofString "0") n)).length ≤ 640 := by
  have e := (numText_signs (x := (Str.ofString "1") ++ strMul (Str.ofString "0") n) (fun c hc => by
    rw [cpsN] at hc
    rcases List.mem_cons.mp hc with rfl | hc
    · exact .inr (by decide)
    · rw [List.eq_of_mem_replicate hc]; exact .inr (by decide))).2
  have e2 := congrArg List.length e
  rw [cpsN, List.length_cons, List.length_replicate] at e2
  omega
end B9
set_option Elab.async false
set_option linter.all false
set_option maxRecDepth 100000
set_option maxHeartbeats 4000000
namespace K53
open PySem L2
noncomputable def top (i : Nat) : Stmt := PySem.Challenge.pw_partrests_k53_what_are_events.main.body.getD i (.Pass ⟨0, 0, 0, 0⟩)
noncomputable def Hand (H : Hp) (a : Addr) (n : Nat) : Prop := ∃ g s c : Int, H a = some (.lst [.int g, .int s, .int c]) ∧ 0 ≤ g ∧ 0 ≤ s ∧ s < 2305843009213693951 ∧ 0 ≤ c ∧ c ≤ n
noncomputable def Step (a : Addr) (n : Nat) (H H' : Hp) : Prop := (∀ b o, b ≠ a → H b = some o → H' b = some o) ∧ Hand H' a n
theorem Hand.mono {H : Hp} {a : Addr} {n m : Nat} (h : Hand H a n) (k : n ≤ m) : Hand H a m := let ⟨g, s, c, e, h1, h2, h3, h4, h5⟩ := h; ⟨g, s, c, e, h1, h2, h3, h4, by omega⟩
theorem Hand.same {H H' : Hp} {a : Addr} {n : Nat} (h : Hand H a n) (y : Same H H') : Hand H' a n := let ⟨g, s, c, e, r⟩ := h; ⟨g, s, c, y _ _ e, r⟩
theorem Hand.at {H : Hp} {a : Addr} {n : Nat} (h : Hand H a n) : ∃ xs, H a = some (.lst xs) := let ⟨_, _, _, e, _⟩ := h; ⟨_, e⟩
theorem Hand.ne {H : Hp} {a b : Addr} {n : Nat} (h : Hand H a n) (hb : H b = none) : b ≠ a := fun z => by
  obtain ⟨xs, e⟩ := h.at
  rw [z, e] at hb
  cases hb
theorem Step.trans {a : Addr} {n m : Nat} {H H1 H2 : Hp} (x : Step a n H H1) (y : Step a m H1 H2) : Step a m H H2 := ⟨fun b o k e => y.1 b o k (x.1 b o k e), y.2⟩
theorem Step.same {a : Addr} {n : Nat} {H H1 H2 : Hp} (x : Step a n H H1) (y : Same H1 H2) : Step a n H H2 := ⟨fun b o k e => y b o (x.1 b o k e), x.2.same y⟩
theorem Step.refl {a : Addr} {n : Nat} {H : Hp} (h : Hand H a n) : Step a n H H := ⟨fun _ _ _ e => e, h⟩
theorem Step.of_same {a : Addr} {n : Nat} {H H1 : Hp} (h : Hand H a n) (y : Same H H1) : Step a n H H1 := (Step.refl h).same y
theorem Step.mono {a : Addr} {n m : Nat} {H H' : Hp} (x : Step a n H H') (k : n ≤ m) : Step a m H H' := ⟨x.1, x.2.mono k⟩
theorem Step.tup {a b : Addr} {n m : Nat} {H H1 : Hp} {xs : List V} (h : Hand H a m) (x : Step a n H H1) (e : H b = some (.tup xs)) : H1 b = some (.tup xs) := by
  obtain ⟨ys, e'⟩ := h.at
  exact x.1 b _ (ne_of e e' (by intro z; cases z)) e
theorem atI_of {xs : List V} {k : Int} {j : Nat} {v : V} (h : k = (j : Int)) (hx : xs[j]? = some v) : atI xs k = some v := by subst h; exact atI_nat hx
theorem getI {ns : List Int} {j : Nat} (h : j < ns.length) : (ns.map V.int)[j]? = some (.int ns[j]) := by rw [List.getElem?_map, List.getElem?_eq_getElem h]; rfl
theorem mulR {a b : Int} (h1 : -(2 ^ 64) < b) (h2 : b < 2 ^ 64) : IntMulOk a b := IntMulOk.of_right (intBits_le_64 h1 h2)
theorem mulL {a b : Int} (h1 : -(2 ^ 64) < a) (h2 : a < 2 ^ 64) : IntMulOk a b := IntMulOk.of_left (intBits_le_64 h1 h2)
section
variable {P : Program} {w : World} {K : PySem.W.Frag} {mg : Str → Option Value} {base : Heap} {f : Addr} {fd : FuncData}
theorem sc_take : FnScope ["_law_hand_here", "_law_many", "_law_digit", "_law_mixed"] ["_law_hand_here", "_law_many"] (defScope (top 11)) := ⟨rfl, rfl, rfl, by decide +kernel, rfl, by decide +kernel, by decide +kernel⟩
noncomputable def sp_take : Sp := fun vs H Q _ => ∃ (a : Addr) (m : Int) (n : Nat), vs = [.ref a, .int m] ∧ Hand H a n ∧ n < 1000000000 ∧ 0 < m ∧ m < 1073741824 ∧ ∀ r H', 0 ≤ r → r < m → Step a (n + 1) H H' → Q (.int r) H'
theorem ok_take (F : Fun K "_law_take" "_law_take" (top 11) f fd) : FnOk P w K mg base CX0 1 f fd ["_law_hand_here", "_law_many"] sp_take := by
  refine F.okz sc_take (fun vs H Q E h => ?_) (fun cdv A outer s H vs Q E hr h => ?_)
  · obtain ⟨a, m, n, rfl, _⟩ := h; rfl
  obtain ⟨a, m, n, rfl, ⟨g, z, c, hl, g0, z0, z1, c0, c1⟩, n1, m0, m1, q⟩ := h
  have nd := sc_take.nd
  refine ⟨_, (zss_cons (zs_if (zt_cmpP op_gtP (ze_ix ix_P (zn 0) ze_int (fun _ _ => rfl)) ze_int (nomark _)) (zss_cons (zs_set (i := 2) nd rfl (Or.inl rfl) (ze_op op_modP (ze_ix ix_P (zn 0) ze_int (fun _ _ => rfl)) (zn 1)))
      (zss_cons (zs_asg (ze_op op_fdivP (ze_ix ix_P (zn 0) ze_int (fun _ _ => rfl)) (zn 1)) (zg_sub (zn 0) ze_int set_list))
      (zss_one (zs_ret (zn 2))))) zss_nil)
      (zss_cons (zs_asg (ze_op op_addP (ze_ix ix_P (zn 0) ze_int (fun _ _ => rfl)) ze_int) (zg_sub (zn 0) ze_int set_list))
      (zss_cons (zs_set (i := 3) nd rfl (Or.inl rfl) (ze_op op_modP (ze_op op_mulQ (ze_op op_addP (ze_op op_addP (ze_ix ix_P (zn 0) ze_int (fun _ _ => rfl)) (ze_op op_mulQ (ze_op op_mulQ ze_int (ze_ix ix_P (zn 0) ze_int (fun _ _ => rfl))) (ze_ix ix_P (zn 0) ze_int (fun _ _ => rfl)))) ze_int) ze_int) ze_int))
      (zss_cons (zs_set (i := 3) nd rfl (Or.inl rfl) (ze_op op_modP (ze_op op_mulQ (zn 3) (ze_op op_addP (ze_op op_modP (zn 3) ze_int) (ze_op op_mulQ ze_int (ze_ix ix_P (zn 0) ze_int (fun _ _ => rfl))))) ze_int))
      (zss_one (zs_ret (ze_op op_modP (ze_op op_addP (ze_op op_fdivP (zn 3) ze_int) (ze_op op_fdivP (zn 3) ze_int)) (zn 1)))))))), ?_⟩
  refine ⟨_, .inl (SqL.of hl), .int g, rfl, ?_⟩
  refine iteD (fun hg => ?_) (fun hg => ?_)
  · refine ⟨_, .inl (SqL.of hl), .int g, rfl, m0, ?_⟩
    refine ⟨_, .inl (SqL.of hl), .int g, rfl, ⟨m0, m1⟩, ?_⟩
    refine ⟨a, _, _, _, rfl, rfl, hl, rfl, ?_⟩
    refine q _ _ (Int.emod_nonneg _ (by omega)) (Int.emod_lt_of_pos _ m0) ⟨fun b o n e => ?_, g / m, z, c, upd_same, Int.ediv_nonneg g0 (by omega), z0, z1, c0, by omega⟩
    rw [upd_ne n]; exact e
  · refine ⟨_, .inl (SqL.of hl), .int c, rfl, ?_⟩
    refine ⟨a, _, _, _, rfl, rfl, hl, rfl, ?_⟩
    refine ⟨_, .inl (SqL.of upd_same), .int z, rfl, ?_⟩
    refine ⟨_, .inl (SqL.of upd_same), .int (c + 1), rfl, mulL (by decide) (by decide), ?_⟩
    refine ⟨_, .inl (SqL.of upd_same), .int (c + 1), rfl, mulR (by omega) (by omega), mulR (by decide) (by decide), (show (0 : Int) < 2305843009213693921 by decide), ?_⟩
    generalize hb1 : (z + 65537 * (c + 1) * (c + 1) + 11) * 48271 % 2305843009213693921 = b1
    have e1 : 0 ≤ b1 := by rw [← hb1]; exact Int.emod_nonneg _ (by decide)
    have e2 : b1 < 2305843009213693921 := by rw [← hb1]; exact Int.emod_lt_of_pos _ (by decide)
    refine ⟨(show (0 : Int) < 1000003 by decide), ?_⟩
    refine ⟨_, .inl (SqL.of upd_same), .int (c + 1), rfl, mulL (by decide) (by decide), mulL (by omega) (by omega), (show (0 : Int) < 2305843009213693907 by decide), ?_⟩
    refine ⟨⟨by decide, by decide⟩, ⟨by decide, by decide⟩, m0, ?_⟩
    refine q _ _ (Int.emod_nonneg _ (by omega)) (Int.emod_lt_of_pos _ m0) ⟨fun b o n e => ?_, g, z, c + 1, upd_same, g0, z0, z1, by omega, by omega⟩
    rw [upd_ne n]; exact e
theorem sc_hand : FnScope ["_law_script", "_law_k", "_law_cell", "_law_great"] ["_law_script", "_law_k"] (defScope (top 10)) := ⟨rfl, rfl, rfl, by decide +kernel, rfl, by decide +kernel, by decide +kernel⟩
noncomputable def sp_hand (K : PySem.W.Frag) : Sp := fun vs H Q _ => ∃ (a : Addr) (k : Int) (ns : List Int), vs = [.ref a, .int k] ∧ SqL K H a (ns.map V.int) ∧ 0 ≤ k ∧ k ≤ 100 ∧ ∀ p H', H p = none → Same H H' → Hand H' p 0 → Q (.ref p) H'
theorem ok_hand (F : Fun K "_law_hand" "_law_hand" (top 10) f fd) (m_int : mg "int" = none) (m_len : mg "len" = none) (g_DIG : DigK K) : FnOk P w K mg base CX0 1 f fd ["_law_script", "_law_k"] (sp_hand K) := by
  refine F.okz sc_hand (fun vs H Q E h => ?_) (fun cdv A outer s H vs Q E hr h => ?_)
  · obtain ⟨a, k, ns, rfl, _⟩ := h; rfl
  obtain ⟨a, k, ns, rfl, hS, k0, k1, q⟩ := h
  have nd := sc_hand.nd
  have fin : ∀ (g v : Int) (L : Addr), 0 ≤ g → H L = none → Q (.ref L) (upd H L (.lst [.int g, .int ((v % 2305843009213693951 + 7919 * k + 3) % 2305843009213693951), .int 0])) := fun g v L hg hL =>
    q L _ hL (Same.new hL _) ⟨g, _, 0, upd_same, hg, Int.emod_nonneg _ (by decide), Int.emod_lt_of_pos _ (by decide), by decide, by decide⟩
  have rest : ∃ t, ZSs (cxOf CX0 P w K mg base ["_law_script", "_law_k", "_law_cell", "_law_great"] "_law_hand" (defScope (top 10)) f cdv A outer s H E).nox ((defBody (top 10)).drop 2) t ∧
      ∀ (v : Int), t { nx := fun _ H' => Q .non H', rt := Q } [some (.ref a), some (.int k), some (.int v), none] H := by
    refine ⟨_, (zss_cons (zs_set (i := 3) nd rfl (Or.inl rfl) ze_int)
      (zss_cons (zs_if (zt_cmpP op_geP (zn 2) (ze_op op_powP ze_int ze_int) (nomark _)) (zss_one (zs_set (i := 3) nd rfl (Or.inl rfl) (ze_op op_modP (zn 2) (zcb_intL g_DIG rfl m_int (za_cons (ze_op op_addP ze_str (ze_op op_mulS ze_str ze_int)) za_nil) rfl rfl)))) zss_nil)
      (zss_one (zs_ret (ze_lst (za_cons (zn 3) (za_cons (ze_op op_modP (ze_op op_addP (ze_op op_addP (ze_op op_modP (zn 2) ze_int) (ze_op op_mulQ ze_int (zn 1))) ze_int) ze_int) (za_cons ze_int za_nil)))))))), ?_⟩
    intro v
    obtain ⟨B, hB, B0⟩ := B9.exN (n := Int.toNat 900) (by decide)
    have hlen : ((Str.ofString "1") ++ strMul (Str.ofString "0") (Int.toNat 900)).length ≤ sizeLine := by rw [B9.lenN, sizeLine_eq]; decide
    have hseen := B9.seenN (n := Int.toNat 900) (by decide)
    refine ⟨⟨by decide, by decide, by decide⟩, ?_⟩
    refine iteD (fun c => ?_) (fun c => ?_)
    · refine ⟨by decide, by rw [B9.lenM, sizeLine_eq]; decide, B, hB, hlen, hseen, B0, ?_⟩
      refine ⟨(show (0 : Int) < 2305843009213693951 by decide), mulL (by decide) (by decide), (show (0 : Int) < 2305843009213693951 by decide), by show 3 ≤ sizeLine; decide, fun L hL => ?_⟩
      exact fin _ _ L (Int.emod_nonneg _ (by omega)) hL
    · refine ⟨(show (0 : Int) < 2305843009213693951 by decide), mulL (by decide) (by decide), (show (0 : Int) < 2305843009213693951 by decide), by show 3 ≤ sizeLine; decide, fun L hL => ?_⟩
      exact fin _ _ L (by decide) hL
  obtain ⟨t2, ht2, rest⟩ := rest
  refine ⟨_, (zss_cons (zs_set (i := 2) nd rfl (Or.inl rfl) ze_int)
      (zss_cons (zs_if (zt_cmpP op_ltP (zn 1) (zcb_len rfl m_len (za_cons (zn 0) za_nil) rfl rfl) (nomark _)) (zss_one (zs_set (i := 2) nd rfl (Or.inl rfl) (ze_ix ix_P (zn 0) (zn 1) (fun _ _ => rfl)))) zss_nil)
      ht2)), ?_⟩
  refine ⟨_, .inl hS, ?_⟩
  refine iteD (fun hk => ?_) (fun hk => ?_)
  · rw [List.length_map] at hk
    refine ⟨_, .inl hS, .int ns[k.toNat], atI_of (by omega) (getI (by omega)), ?_⟩
    exact rest _
  · exact rest _
end
end K53
set_option Elab.async false
set_option linter.all false
set_option maxRecDepth 100000
set_option maxHeartbeats 4000000
namespace L2
open PySem PySem.Spec PyProof.Rows
theorem fresh_back {H H' : Hp} {p : Addr} (y : Same H H') (h : H' p = none) : H p = none := by
  cases e : H p with
  | none => rfl
  | some o =>
    have := y _ _ e
    rw [h] at this
    cases this
theorem ixN_nat {n j : Nat} (h : j < n) : ixN n (j : Int) = some j := by
  unfold ixN
  rw [if_pos (by omega), if_pos (by omega), Int.toNat_natCast]
end L2
set_option Elab.async false
set_option linter.all false
set_option maxRecDepth 100000
set_option maxHeartbeats 4000000
namespace M04
end M04
set_option linter.all false
set_option maxRecDepth 100000
set_option maxHeartbeats 4000000
namespace M54
open M04 PySem L2
end M54
set_option Elab.async false
set_option linter.all false
set_option maxRecDepth 100000
set_option maxHeartbeats 4000000
namespace K53
open PySem L2 M04 M54
theorem in_ints (p : Int) (ns : List Int) : inV (.int p) (ns.map V.int) = decide (p ∈ ns) := by
  unfold inV
  rw [List.any_map]
  induction ns with
  | nil => rfl
  | cons n r ih =>
    rw [List.any_cons, ih]
    show (n == p || decide (p ∈ r)) = _
    by_cases h : n = p
    · subst h; simp
    · have : (n == p) = false := by simpa using h
      rw [this, Bool.false_or]
      have h' : ¬ p = n := fun e => h e.symm
      simp [h']
theorem flat_ints (ns : List Int) : (ns.map V.int).all flatV = true := by
  rw [List.all_map]
  exact List.all_eq_true.mpr fun _ _ => rfl
theorem Tps.keep {H H' : Hp} {p : Addr} {xs : List V} (hp : H p = some (.lst xs)) (k : ∀ b o, b ≠ p → H b = some o → H' b = some o) : ∀ {us T}, Tps H us T → Tps H' us T
  | _, _, .nil => .nil
  | _, _, .cons h r => .cons (k _ _ (ne_of h hp (by intro z; cases z)) h) (Tps.keep hp k r)
theorem Tps.step {H H' : Hp} {p : Addr} {n m : Nat} (h : Hand H p n) (st : Step p m H H') {us T} (r : Tps H us T) : Tps H' us T := by
  obtain ⟨xs, e⟩ := h.at
  exact Tps.keep e st.1 r
section
variable {P : Program} {w : World} {K : PySem.W.Frag} {mg : Str → Option Value} {base : Heap} {f : Addr} {fd : FuncData}
theorem sc_pick : FnScope ["_law_hand_here", "_law_some"] ["_law_hand_here", "_law_some"] (defScope (top 12)) := ⟨rfl, rfl, rfl, by decide +kernel, rfl, by decide +kernel, by decide +kernel⟩
noncomputable def sp_pick : Sp := fun vs H Q _ => ∃ (p l : Addr) (xs : List V) (n : Nat), vs = [.ref p, .ref l] ∧ Hand H p n ∧ n < 100000000 ∧ H l = some (.lst xs) ∧ l ≠ p ∧ 0 < xs.length ∧ xs.length ≤ 1000 ∧ ∀ v H', v ∈ xs → Step p (n + 1) H H' → Q v H'
theorem ok_pick (F : Fun K "_law_pick" "_law_pick" (top 12) f fd) (m_len : mg "len" = none) (F_law_take : FnA P w K mg base "_law_take" 1 ["_law_hand_here", "_law_many"] sp_take) : FnOk P w K mg base CX0 2 f fd ["_law_hand_here", "_law_some"] sp_pick := by
  refine F.okz sc_pick (fun vs H Q E h => ?_) (fun cdv A outer s H vs Q E hr h => ?_)
  · obtain ⟨p, l, xs, n, rfl, _⟩ := h; rfl
  obtain ⟨p, l, xs, n, rfl, hh, hn, hl, lp, l0, l1, q⟩ := h
  have nd := sc_pick.nd
  refine ⟨_, (zss_one (zs_ret (ze_ix ix_P (zn 1) (ze_fn F_law_take hr (by decide) rfl (za_cons (zn 0) (za_cons (zcb_len rfl m_len (za_cons (zn 1) za_nil) rfl rfl) za_nil))) (fun _ _ => rfl)))), ?_⟩
  refine ⟨_, .inl (SqL.of hl), ?_⟩
  refine ⟨p, (xs.length : Int), n, rfl, hh, by omega, by omega, by omega, fun r H' r0 r1 st => ?_⟩
  have hr : r.toNat < xs.length := by omega
  refine ⟨_, .inl (SqL.of (st.1 _ _ lp hl)), xs[r.toNat], atI_of (j := r.toNat) (by omega) (List.getElem?_eq_getElem hr), ?_⟩
  exact q _ _ (List.getElem_mem hr) st
theorem sc_fall : FnScope ["_law_parts"] ["_law_parts"] (defScope (top 13)) := ⟨rfl, rfl, rfl, by decide +kernel, rfl, by decide +kernel, by decide +kernel⟩
noncomputable def sp_fall : Sp := fun vs H Q _ => ∃ (a : Addr) (ns : List Int), vs = [.ref a] ∧ (H a = some (.lst (ns.map V.int)) ∨ H a = some (.tup (ns.map V.int))) ∧ ∀ r (ms : List Int) H', Same H H' → ms.Perm ns → ms.Pairwise (· ≥ ·) → H' r = some (.tup (ms.map V.int)) → Q (.ref r) H'
theorem ok_fall (F : Fun K "_law_falling" "_law_falling" (top 13) f fd) (m_sorted : mg "sorted" = none) (m_tuple : mg "tuple" = none) : FnOk P w K mg base CX0 1 f fd ["_law_parts"] sp_fall := by
  refine F.okz sc_fall (fun vs H Q E h => ?_) (fun cdv A outer s H vs Q E hr h => ?_)
  · obtain ⟨a, ns, rfl, _⟩ := h; rfl
  obtain ⟨a, ns, rfl, ha, q⟩ := h
  have nd := sc_fall.nd
  refine ⟨_, (zss_one (zs_ret (zcb_tuple rfl m_tuple (za_cons (ze_rev rv_P (zcb_sortB rfl m_sorted (za_cons (zn 0) za_nil) rfl rfl)) za_nil) rfl rfl))), ?_⟩
  refine ⟨ns, ha.elim (fun h => .inl (SqL.of h)) (fun h => .inr (SqT.of h)), fun l ms hl perm ord => ?_⟩
  have yl := Same.new hl (.lst (ms.map V.int))
  have gl : upd H l (.lst (ms.map V.int)) l = some (.lst (ms.map V.int)) := upd_same
  generalize upd H l (.lst (ms.map V.int)) = H1 at yl gl
  refine ⟨l, rfl, .inr ⟨_, SqL.of gl, fun d hd => ?_⟩⟩
  have yd := Same.new hd (.lst (ms.map V.int).reverse)
  refine ⟨_, .inl (SqL.of upd_same), fun r H' y' hr' => ?_⟩
  refine q r ms.reverse H' (yl.trans (yd.trans y')) ((List.reverse_perm ms).trans perm) (List.pairwise_reverse.mpr (ord.imp fun h => h)) ?_
  rw [hr', List.map_reverse]
end
end K53
namespace M02
noncomputable def rstep (acc : List (Int × Int)) (p : Int) : List (Int × Int) := match acc.getLast? with
  | some q => if q.1 = p then acc.set (acc.length - 1) (p, q.2 + 1) else acc ++ [(p, 1)]
  | none => acc ++ [(p, 1)]
noncomputable def runs (ns : List Int) : List (Int × Int) := ns.foldl rstep []
theorem runs_snoc (ns : List Int) (p : Int) : runs (ns ++ [p]) = rstep (runs ns) p := by unfold runs; rw [List.foldl_append]; rfl
theorem last_split {α : Type} {l : List α} {q : α} (h : l.getLast? = some q) : ∃ i, l = i ++ [q] := by
  refine ⟨l.dropLast, ?_⟩
  have hne : l ≠ [] := by intro e; subst e; cases h
  have e := List.dropLast_concat_getLast hne
  rw [List.getLast?_eq_some_getLast hne] at h
  cases h
  exact e.symm
theorem set_last {α : Type} (i : List α) (q x : α) : (i ++ [q]).set ((i ++ [q]).length - 1) x = i ++ [x] := by
  rw [List.length_append, List.length_singleton, Nat.add_sub_cancel, List.set_append_right _ _ (Nat.le_refl _), Nat.sub_self]
  rfl
noncomputable def rep (q : Int × Int) : List Int := List.replicate q.2.toNat q.1
structure Ok (ns : List Int) (ps : List (Int × Int)) : Prop where
  pw : ps.Pairwise fun a b => a.1 > b.1
  mem : ∀ s c, (s, c) ∈ ps ↔ c = (ns.count s : Int) ∧ 0 < ns.count s
  flat : (ps.map rep).flatten = ns
  last : ns.getLast? = ps.getLast?.map (·.1)
theorem ok_runs : ∀ rs : List Int, rs.reverse.Pairwise (· ≥ ·) → Ok rs.reverse (runs rs.reverse)
  | [], _ => ⟨.nil, fun s c => by simp [runs], rfl, rfl⟩
  | p :: rs, h => by
    rw [List.reverse_cons] at h ⊢
    obtain ⟨h1, _, h3⟩ := List.pairwise_append.mp h
    have ih := ok_runs rs h1
    have hp : ∀ x ∈ rs.reverse, x ≥ p := fun x hx => h3 x hx p (by simp)
    generalize rs.reverse = ns at *
    rw [runs_snoc]
    generalize runs ns = ps at ih
    unfold rstep
    cases e : ps.getLast? with
    | none =>
      have e0 : ps = [] := List.getLast?_eq_none_iff.mp e
      subst e0
      have en : ns = [] := by have := ih.flat; simpa using this.symm
      subst en
      refine ⟨by simp, fun s c => ?_, rfl, rfl⟩
      simp only [List.nil_append, List.mem_singleton, Prod.mk.injEq, List.count_singleton, beq_iff_eq]
      by_cases hs : p = s
      · subst hs; simp
      · simp [hs]; intro z; exact absurd z.symm hs
    | some q =>
      obtain ⟨i, rfl⟩ := last_split e
      have hl : ns.getLast? = some q.1 := by rw [ih.last, e]; rfl
      have hpw := List.pairwise_append.mp ih.pw
      dsimp only
      by_cases hq : q.1 = p
      · rw [if_pos hq, set_last]
        have hc := (ih.mem q.1 q.2).mp (by simp)
        refine ⟨?_, fun s c => ?_, ?_, ?_⟩
        · rw [List.pairwise_append]
          refine ⟨hpw.1, by simp, fun a ha b hb => ?_⟩
          have : b = (p, q.2 + 1) := by simpa using hb
          subst this
          have := hpw.2.2 a ha q (by simp)
          show a.1 > p
          omega
        · rw [List.count_append, List.count_singleton]
          by_cases hs : p = s
          · subst hs
            simp only [beq_self_eq_true, if_true]
            constructor
            · intro z
              rcases List.mem_append.mp z with z | z
              · have := hpw.2.2 _ z q (by simp)
                simp only at this
                omega
              · have : c = q.2 + 1 := by simpa using z
                rw [hq] at hc
                omega
            · intro z
              refine List.mem_append.mpr (.inr ?_)
              rw [hq] at hc
              have : c = q.2 + 1 := by omega
              simp [this]
          · have e1 : (p == s) = false := by simpa using hs
            simp only [e1, Bool.false_eq_true, if_false, Nat.add_zero]
            rw [← ih.mem s c]
            constructor
            · intro z
              rcases List.mem_append.mp z with z | z
              · exact List.mem_append.mpr (.inl z)
              · have : s = p := by have := List.mem_singleton.mp z; exact congrArg Prod.fst this
                exact absurd this.symm hs
            · intro z
              rcases List.mem_append.mp z with z | z
              · exact List.mem_append.mpr (.inl z)
              · have : s = q.1 := by have := List.mem_singleton.mp z; exact congrArg Prod.fst this
                exact absurd (hq.symm.trans this.symm) hs
        · have := ih.flat
          rw [List.map_append, List.flatten_append] at this ⊢
          rw [← this]
          simp only [List.map_cons, List.map_nil, List.flatten_cons, List.flatten_nil, List.append_nil, List.append_assoc]
          congr 1
          show List.replicate (q.2 + 1).toNat p = List.replicate q.2.toNat q.1 ++ [p]
          have e2 : (q.2 + 1).toNat = q.2.toNat + 1 := by omega
          rw [e2, hq, List.replicate_succ']
        · simp
      · rw [if_neg hq]
        have hlt : ∀ a ∈ i ++ [q], a.1 > p := fun a ha => by
          have h0 : p < q.1 := by
            have : q.1 ∈ ns := List.mem_of_getLast? hl
            have := hp _ this
            omega
          rcases List.mem_append.mp ha with ha | ha
          · have := hpw.2.2 a ha q (by simp); omega
          · have : a = q := by simpa using ha
            subst this; exact h0
        have hz : ns.count p = 0 := by
          cases hc : ns.count p with
          | zero => rfl
          | succ k =>
            have := (ih.mem p (ns.count p)).mpr ⟨rfl, by omega⟩
            have := hlt _ this
            simp only at this
            omega
        refine ⟨?_, fun s c => ?_, ?_, ?_⟩
        · rw [List.pairwise_append]
          refine ⟨ih.pw, by simp, fun a ha b hb => ?_⟩
          have : b = (p, 1) := by simpa using hb
          subst this
          exact hlt a ha
        · rw [List.count_append, List.count_singleton]
          by_cases hs : p = s
          · subst hs
            simp only [beq_self_eq_true, if_true, hz]
            constructor
            · intro z
              rcases List.mem_append.mp z with z | z
              · have := hlt _ z; simp only at this; omega
              · have : c = 1 := by simpa using z
                omega
            · intro z
              have : c = 1 := by omega
              simp [this]
          · have e1 : (p == s) = false := by simpa using hs
            simp only [e1, Bool.false_eq_true, if_false, Nat.add_zero]
            rw [← ih.mem s c]
            constructor
            · intro z
              rcases List.mem_append.mp z with z | z
              · exact z
              · have : s = p := by have := List.mem_singleton.mp z; exact congrArg Prod.fst this
                exact absurd this.symm hs
            · intro z
              exact List.mem_append.mpr (.inl z)
        · rw [List.map_append, List.flatten_append, ih.flat]; rfl
        · simp
theorem ok_of {ns : List Int} (h : ns.Pairwise (· ≥ ·)) : Ok ns (runs ns) := by
  have := ok_runs ns.reverse (by rw [List.reverse_reverse]; exact h)
  rw [List.reverse_reverse] at this
  exact this
theorem runs_len : ∀ rs : List Int, (runs rs.reverse).length ≤ rs.length
  | [] => Nat.le_refl _
  | p :: rs => by
    rw [List.reverse_cons, runs_snoc]
    have := runs_len rs
    unfold rstep
    split
    · split
      · rw [List.length_set, List.length_cons]; omega
      · rw [List.length_append, List.length_cons]; simp; omega
    · rw [List.length_append, List.length_cons]; simp; omega
theorem runs_len' (ns : List Int) : (runs ns).length ≤ ns.length := by
  have := runs_len ns.reverse
  rw [List.reverse_reverse, List.length_reverse] at this
  exact this
end M02
namespace MRow
end MRow
set_option linter.all false
set_option maxRecDepth 100000
set_option maxHeartbeats 4000000
namespace M80
open MRow
end M80
set_option Elab.async false
set_option linter.all false
set_option maxRecDepth 100000
set_option maxHeartbeats 4000000
namespace M17
open MRow M80
end M17
set_option Elab.async false
set_option linter.all false
set_option maxRecDepth 100000
set_option maxHeartbeats 4000000
namespace M12
open MRow M80 M17
end M12
set_option Elab.async false
set_option linter.all false
set_option maxRecDepth 100000
set_option maxHeartbeats 4000000
namespace M17
open MRow M80
end M17
set_option Elab.async false
set_option linter.all false
set_option maxRecDepth 100000
set_option maxHeartbeats 4000000
namespace M21
open MRow
end M21
set_option Elab.async false
set_option linter.all false
set_option maxRecDepth 100000
set_option maxHeartbeats 4000000
namespace M12
open MRow M80 M17
end M12
set_option Elab.async false
set_option linter.all false
set_option maxRecDepth 100000
set_option maxHeartbeats 4000000
namespace M12
open MRow M80 M17
end M12
set_option Elab.async false
set_option linter.all false
set_option maxRecDepth 100000
set_option maxHeartbeats 4000000
namespace M17
open MRow M80
end M17
set_option Elab.async false
set_option linter.all false
set_option maxRecDepth 100000
set_option maxHeartbeats 4000000
namespace M24
open MRow M80 M17 M12
end M24
set_option Elab.async false
set_option linter.all false
set_option maxRecDepth 100000
set_option maxHeartbeats 4000000
namespace M11
open MRow M80 M17 M12 M24
end M11
set_option Elab.async false
set_option linter.all false
set_option maxRecDepth 100000
set_option maxHeartbeats 4000000
namespace M66
open MRow M80 M17 M12 M24 M11
end M66
set_option Elab.async false
set_option linter.all false
set_option maxRecDepth 100000
set_option maxHeartbeats 4000000
namespace SRV
open PySem PySem.W PySem.Calls
open PyProof.Rows hiding K SortedTo K_bubble K_mirror K_congr K_mirror_equal
section
variable {prog : Program} {w : World} {A : Around} {E : Value → Shared → Prop} {s : Shared}
end
end SRV
set_option Elab.async false
set_option linter.all false
set_option maxRecDepth 100000
set_option maxHeartbeats 4000000
namespace M63
open M11 M66 SRV
end M63
set_option linter.all false
set_option maxRecDepth 100000
set_option maxHeartbeats 4000000
namespace MP
end MP
set_option Elab.async false
set_option linter.all false
set_option maxRecDepth 100000
set_option maxHeartbeats 4000000
namespace M05
open MRow M80 M17 M12 M11 M66 M63 MP
end M05
set_option Elab.async false
set_option linter.all false
set_option maxRecDepth 100000
set_option maxHeartbeats 4000000
namespace M09
open MRow M80 M17 M12 M24 M11 M66 M63
end M09
namespace M03
end M03
set_option Elab.async false
set_option linter.all false
set_option maxRecDepth 100000
set_option maxHeartbeats 4000000
namespace M10
open M66 M63
end M10
set_option Elab.async false
set_option linter.all false
set_option maxRecDepth 100000
set_option maxHeartbeats 4000000
namespace M55
open MRow M80 M12 M11 M66 M63 M10 M04 M54 MP
noncomputable def Apart : List (List Int) → Prop
  | [] => True
  | e :: r => (∀ f ∈ r, ∀ x ∈ e, x ∉ f) ∧ Apart r
theorem Apart.snoc : ∀ {evs : List (List Int)} {e : List Int}, Apart evs → (∀ f ∈ evs, ∀ x ∈ e, x ∉ f) → Apart (evs ++ [e])
  | [], e, _, _ => ⟨(fun _ z => nomatch z), trivial⟩
  | a :: r, e, h, k => ⟨fun f hf x hx => by
      rcases List.mem_append.mp hf with z | z
      · exact h.1 f z x hx
      · rw [List.mem_singleton.mp z]
        exact fun z2 => k a List.mem_cons_self x z2 hx, Apart.snoc h.2 fun f hf => k f (List.mem_cons_of_mem _ hf)⟩
end M55
set_option Elab.async false
set_option linter.all false
set_option maxRecDepth 100000
set_option maxHeartbeats 4000000
namespace L2
open PySem PySem.Spec PyProof.Rows
noncomputable def dst (ns : List Int) : List Int := ns.foldl step_dedup []
theorem rng_getD (ns : List Int) : (List.range ns.length).map (fun i => ns.getD i 0) = ns := by
  refine List.ext_getElem (by rw [List.length_map, List.length_range]) fun i h1 h2 => ?_
  rw [List.getElem_map, List.getElem_range, List.getD_eq_getElem?_getD, List.getElem?_eq_getElem h2]
  rfl
theorem firstMet_dst (ns : List Int) : firstMet (fun i => ns.getD i 0) ns.length = dst ns := by
  unfold firstMet dst
  rw [rng_getD]
section
variable {X : Cx}
noncomputable def rSetI : List V → Hp → VK → Prop := fun vs H Q => match vs with
  | [.ref l] => ∃ ns : List Int, H l = some (.lst (ns.map V.int)) ∧ ns.length < 4000 ∧ ∀ p, H p = none → Q (.ref p) (upd H p (.set (fun k => (dst ns).any (· == k)) (dst ns).length))
  | _ => False
theorem call_setI (hc : X.calm = true) : CallR X (.type "set") rSetI := by
  intro pins s σ H xs us Q I r h
  unfold rSetI at h
  split at h
  · rename_i l
    obtain ⟨ns, hl, hn, q⟩ := h
    obtain ⟨u, rfl, rx⟩ := vals1 r
    cases rx
    obtain ⟨its, n, r', ho, hz⟩ := I.lst hl
    have il := intsAre_of r'
    have hlen : its.length = ns.length := by have := r'.length; rw [List.length_map] at this; exact this.symm
    refine call_set_list (items := its.toArray) (ns := ns) (I.ok.hd hc) ⟨_, ho, rfl, n, rfl⟩ (by simpa using il) (by rw [List.size_toArray, hlen]; unfold scanBound; omega) fun h' tk hS hk => ?_
    have es : its.toArray.size = ns.length := by rw [List.size_toArray]; exact hlen
    rw [es, firstMet_dst] at hS
    have I2 : Inv X pins σ (upd H s.heap.objs.size (.set (fun k => (dst ns).any (· == k)) (dst ns).length)) { s with heap := h', toks := tk } :=
      I.laid (t' := tk) (fun b o e => hk b o (Heap.lt_size e) e) (Nat.le_refl _) (show ObjOk X.prog X.w _ _ _ (.set (fun k => (dst ns).any (· == k)) (dst ns).length) from hS)
    exact ⟨.ref s.heap.objs.size, _, I2, rfl, q _ (I.hok.fresh (Nat.le_refl _))⟩
  · exact h.elim
noncomputable def rLenS : List V → Hp → VK → Prop := fun vs H Q => match vs with
  | [.ref p] => ∃ S n, H p = some (.set S n) ∧ n < 10000 ∧ Q (.int n) H
  | _ => False
theorem call_lenS : CallR X (.builtin "len") rLenS := by
  intro pins s σ H xs us Q I r h
  unfold rLenS at h
  split at h
  · rename_i p
    obtain ⟨S, n, hp, hn, q⟩ := h
    obtain ⟨u, rfl, rx⟩ := vals1 r
    cases rx
    obtain ⟨o, es, ep, t, ho, hex, hd, _, _, hb, hf, hes⟩ := I.hok p _ hp
    subst hes
    exact call_len_set ho hex hd hf (by omega) ⟨.int es.size, H, I.tok _, ⟨_, rfl⟩, q⟩
  · exact h.elim
variable {e : Expr} {es : List Expr} {t : TA} {p pos : Pos}
theorem boot_set : bootBuiltins "set" = some (.type "set") := by decide +kernel
theorem pcb_setI (hc : X.calm = true) (hg : Gl X "set") (hm : X.mg "set" = none) (ha : PA X (e :: es) t) (he : starEach (e :: es) X.env = (false, eval e X.env) :: starEach es X.env) (hpl : (backTo pos (starEach es X.env)).any (·.1) = false) :
    PE X (.Call (.Name "set" p) (e :: es) [] pos) (tCB rSetI t) := pe_callTy (call_setI hc) hg hm boot_set ha (by decide) (by decide) he hpl
theorem zcb_setI (hc : X.calm = true) (hg : Gl X "set") (hm : X.mg "set" = none) (ha : ZA X (e :: es) t) (he : starEach (e :: es) X.env = (false, eval e X.env) :: starEach es X.env) (hpl : (backTo pos (starEach es X.env)).any (·.1) = false) :
    ZE X (.Call (.Name "set" p) (e :: es) [] pos) (tCB rSetI t) := by with_unfolding_all exact pcb_setI hc hg hm ha he hpl
theorem pcb_lenS (hg : Gl X "len") (hm : X.mg "len" = none) (ha : PA X (e :: es) t) (he : starEach (e :: es) X.env = (false, eval e X.env) :: starEach es X.env) (hpl : (backTo pos (starEach es X.env)).any (·.1) = false) :
    PE X (.Call (.Name "len" p) (e :: es) [] pos) (tCB rLenS t) := pe_callB call_lenS hg hm PySem.boot_len ha (by decide) (by decide) he hpl
theorem zcb_lenS (hg : Gl X "len") (hm : X.mg "len" = none) (ha : ZA X (e :: es) t) (he : starEach (e :: es) X.env = (false, eval e X.env) :: starEach es X.env) (hpl : (backTo pos (starEach es X.env)).any (·.1) = false) :
    ZE X (.Call (.Name "len" p) (e :: es) [] pos) (tCB rLenS t) := by with_unfolding_all exact pcb_lenS hg hm ha he hpl
end
theorem mem_step (σ : List Int) (v k : Int) : k ∈ step_dedup σ v ↔ k ∈ σ ∨ k = v := by
  have h := step_any σ v k
  have e : ∀ l : List Int, l.any (· == k) = true ↔ k ∈ l := fun l => by simp
  rw [← e, h, Bool.or_eq_true, e, decide_eq_true_iff]
theorem dst_gen : ∀ (ns σ : List Int), (ns.foldl step_dedup σ).length ≤ σ.length + ns.length ∧ ((ns.foldl step_dedup σ).length = σ.length + ns.length ↔ ns.Nodup ∧ ∀ x ∈ ns, x ∉ σ)
  | [], σ => ⟨Nat.le_refl _, ⟨fun _ => ⟨.nil, fun x hx => nomatch hx⟩, fun _ => rfl⟩⟩
  | a :: r, σ => by
    obtain ⟨h1, h2⟩ := dst_gen r (step_dedup σ a)
    rw [List.foldl_cons, List.length_cons]
    have hs := step_length σ a
    have e : (σ.any (· == a)) = true ↔ a ∈ σ := by simp
    by_cases c : a ∈ σ
    · rw [if_pos (e.mpr c)] at hs
      refine ⟨by omega, ⟨fun z => by omega, fun ⟨_, z⟩ => absurd c (z a List.mem_cons_self)⟩⟩
    · rw [if_neg (fun z => c (e.mp z))] at hs
      refine ⟨by omega, ?_⟩
      rw [hs] at h2
      rw [show σ.length + (r.length + 1) = σ.length + 1 + r.length by omega, h2, List.nodup_cons]
      constructor
      · rintro ⟨k1, k2⟩
        refine ⟨⟨fun z => k2 a z ((mem_step σ a a).mpr (.inr rfl)), k1⟩, fun x hx => ?_⟩
        rcases List.mem_cons.mp hx with z | z
        · rw [z]; exact c
        · exact fun z2 => k2 x z ((mem_step σ a x).mpr (.inl z2))
      · rintro ⟨⟨k1, k2⟩, k3⟩
        refine ⟨k2, fun x hx z => ?_⟩
        rcases (mem_step σ a x).mp z with z | z
        · exact k3 x (List.mem_cons_of_mem _ hx) z
        · rw [z] at hx; exact k1 hx
theorem dst_le (ns : List Int) : (dst ns).length ≤ ns.length := by have := (dst_gen ns []).1; simpa [dst] using this
theorem dst_all (ns : List Int) : (dst ns).length = ns.length ↔ ns.Nodup := by
  have := (dst_gen ns []).2
  simpa [dst] using this
end L2
set_option Elab.async false
set_option linter.all false
set_option maxRecDepth 100000
set_option maxHeartbeats 4000000
namespace L2
open PySem PySem.Spec PyProof.Rows
theorem kpg2_in {K : PySem.W.Frag} {x y z : Str} : KpG2 [x, y, z] (gName 0) (gTup K 2 (gCons (gName 1) (gCons (gName 2) gNil))) := fun fr v H Q h => by
  refine ⟨⟨⟨by simp, fun i w e => ?_⟩, fun v2 H2 Q2 h2 => ?_⟩, h⟩
  · match i, e with
    | 0, e => cases e
    | i + 1, e => exact e
  · obtain ⟨a, xs, e, hq, hl, v1, r1, e1, v3, r2, e2, e3, q⟩ := h2
    refine ⟨a, xs, e, hq, hl, v1, r1, e1, v3, r2, e2, e3, ⟨by simp, fun i w e => ?_⟩, q⟩
    match i, e with
    | 0, e => exact e
    | 1, e => cases e
    | 2, e => cases e
    | i + 3, e => exact e
theorem cmp2_tup {K : PySem.W.Frag} {nv : List Str} {ix : List (Str × Nat)} {σ : L2.St} {H : Hp} {g1 g2 : TG} {ti1 ti2 : TT} {wi2 : TI} {te : TE} {Fin : List V → Hp → Prop} {a : Addr} {xs : List V} (Pv : Nat → List V → Hp → Prop) (h0 : Pv 0 [] H) (hl : ∀ i zs H, i ≤ xs.length → Pv i zs H → SqT K H a xs)
    (hs : ∀ i x zs H, xs[i]? = some x → Pv i zs H → g1 x (st0 nv ix σ) H fun σ1 H2 => ti1 σ1 H2 fun b H3 => if b = true then wi2 σ1 H3 fun J2 H4 => CmpI g2 ti2 te σ1 J2 zs (Pv (i + 1)) H4 else Pv (i + 1) zs H3)
    (hd : ∀ zs H, Pv xs.length zs H → Fin zs H) : CmpW2 nv ix g1 ti1 wi2 g2 ti2 te σ (Itt K a) Fin H := by
  refine ⟨fun i m zs H => m = xs.length - i ∧ i ≤ xs.length ∧ Pv i zs H, ⟨_, rfl, Nat.zero_le _, h0⟩, ?_⟩
  rintro i m zs H ⟨rfl, hi, p⟩
  have q := hl i zs H hi p
  by_cases hlt : i < xs.length
  · refine .inr ⟨⟨xs, xs[i], q, by simp [hlt]⟩, Pv (i + 1), fun σ' H' p' => ⟨_, by omega, rfl, hlt, p'⟩, fun x H' y => ?_⟩
    obtain ⟨e', y⟩ := y
    subst e'
    exact hs i x zs _ (y xs q) p
  · have e : i = xs.length := by omega
    subst e
    exact .inl ⟨⟨xs, q, Nat.le_refl _⟩, hd zs H p⟩
theorem cmpi_tup {K : PySem.W.Frag} {σ : L2.St} {H : Hp} {g : TG} {ti : TT} {te : TE} {ys : List V} {Fin : List V → Hp → Prop} {a : Addr} {xs : List V} (Pv : Nat → List V → Hp → Prop) (h0 : Pv 0 ys H) (hl : ∀ i zs H, i ≤ xs.length → Pv i zs H → SqT K H a xs)
    (hs : ∀ i x zs H, xs[i]? = some x → Pv i zs H → zs.length < sizeLine ∧ g x σ H fun σ2 H2 => ti σ2 H2 fun b H3 => if b = true then te σ2 H3 fun y H4 => Pv (i + 1) (zs ++ [y]) H4 else Pv (i + 1) zs H3)
    (hd : ∀ zs H, Pv xs.length zs H → Fin zs H) : CmpI g ti te σ (Itt K a) ys Fin H := by
  refine ⟨fun i m zs H => m = xs.length - i ∧ i ≤ xs.length ∧ Pv i zs H, ⟨_, rfl, Nat.zero_le _, h0⟩, ?_⟩
  rintro i m zs H ⟨rfl, hi, p⟩
  have q := hl i zs H hi p
  by_cases hlt : i < xs.length
  · refine .inr ⟨⟨xs, xs[i], q, by simp [hlt]⟩, (hs i xs[i] zs H (by simp [hlt]) p).1, Pv (i + 1), fun σ' H' p' => ⟨_, by omega, rfl, hlt, p'⟩, fun x H' y => ?_⟩
    obtain ⟨e', y⟩ := y
    subst e'
    exact (hs i x zs _ (y xs q) p).2
  · have e : i = xs.length := by omega
    subst e
    exact .inl ⟨⟨xs, q, Nat.le_refl _⟩, hd zs H p⟩
theorem ps_settwo {X : Cx} {elt t1 i1 t2 i2 : Expr} {c1 c2 : List Expr} {scope : Scope} {pos : Pos} {wi wi2 : TI} {g1 g2 : TG} {ti1 ti2 : TT} {te : TE} {i : Nat} {y : Str} {py spos : Pos} (nv : List Str) (ix : List (Str × Nat)) (hc : X.calm = true) (hN : X.N.Nodup) (hi' : X.N[i]? = some y) (hy : Loc X.env.scope y) (co : CompOk X nv ix scope) (hit : PI X t1 i1 wi) (kg : KpG2 nv g1 g2) (hg : ∀ C s₀ H₀ fp, PG (cmpX X nv ix scope C s₀ H₀ fp) t1 g1)
    (hi : ∀ C s₀ H₀ fp, PIf (cmpX X nv ix scope C s₀ H₀ fp) c1 ti1) (hw2 : ∀ C s₀ H₀ fp, PI (cmpX X nv ix scope C s₀ H₀ fp) t2 i2 wi2) (hg2 : ∀ C s₀ H₀ fp, PG (cmpX X nv ix scope C s₀ H₀ fp) t2 g2) (hi2 : ∀ C s₀ H₀ fp, PIf (cmpX X nv ix scope C s₀ H₀ fp) c2 ti2) (he : ∀ C s₀ H₀ fp, PE (cmpX X nv ix scope C s₀ H₀ fp) elt te)
    (hsw : swapsWith (.ListComp elt [⟨t1, i1, c1, 0⟩, ⟨t2, i2, c2, 0⟩] scope pos) (some (.Name y py)) spos.line X.env = pure true := by rfl)
    (hs : ∀ x, foldedSetIterable i1 X.env x = pure x := by intro _; rfl) (hs2 : ∀ C s₀ H₀ fp x, foldedSetIterable i2 (cmpX X nv ix scope C s₀ H₀ fp).env x = pure x := by intro _ _ _ _ _; rfl) (hfn : X.fn y = true ∨ X.env.scope.names.lookup y = some .local := by first | exact .inl rfl | exact .inr rfl | assumption) :
    PS X (.Assign [.Name y py] (.ListComp elt [⟨t1, i1, c1, 0⟩, ⟨t2, i2, c2, 0⟩] scope pos) spos) (tAsg (tComp2 nv ix wi g1 ti1 wi2 g2 ti2 te) (gName i)) := by
  intro pins s σ H D I h
  rw [exec_Assign_Name_used _ _ _ _ hsw]
  refine wpAny_bind (wpAny_standAt (wpAny_bind ?_))
  show wpAny _ X.A (do let _ ← comprehension (.ListComp elt [⟨t1, i1, c1, 0⟩, ⟨t2, i2, c2, 0⟩] scope pos) scope X.env _ (newList []) false (eval i1 X.env) (some (assign (.Name y py) X.env))) _ _ s
  refine wpAny_bind (wpAny_mono (wpAny_comprehension_free (use := some (assign (.Name y py) X.env)) (Q := fun _ s' => SP X pins D .next s') rfl hs (closure_ok (co.cells I.ok)) co.kind co.names
    (thn (hit pins s σ H _ I h) fun v s1 h1 => thn h1 fun itv s2 h2 => ?_)) (fun _ s' hq => wpAny_pure (wpAny_pure hq)) fun _ _ e => e)
  obtain ⟨it, fp, tn, J, H2, e, I2, T, st2, f2, q⟩ := h2
  subst e
  refine comp_run2 co hc I2 T st2 f2 kg hg hi hw2 hg2 hi2 he hs2 q fun DD C s' H' ys I' hD fin ⟨m, hm⟩ hC => ?_
  obtain ⟨c0, c1, c2, c3, c4, c5⟩ := hC
  show wpAny _ X.A (assign (.Name y py) X.env (.ref DD)) _ _ s'
  refine wpAny_assign_Name (store_ok2 I' hN hi' hy (show RelV (.ref DD) (.ref DD) from rfl) (fun s'' I'' ⟨a, sb, ha⟩ => ?_) hfn)
  have hCa : C ≠ a := by
    rcases ha with rfl | ha
    · exact c1
    · exact fun z => c4 y a ha z.symm
  refine ⟨m, hm.sameBut sb hCa, fun h' hs' => ⟨_, _, I''.turned (t' := s''.toks) (fun b o hb e => (hs'.2 b hb).trans e) c0 c1 c3 c4 c5, fin DD hD⟩⟩
theorem zs_settwo {X : Cx} {elt t1 i1 t2 i2 : Expr} {c1 c2 : List Expr} {scope : Scope} {pos : Pos} {wi wi2 : TI} {g1 g2 : TG} {ti1 ti2 : TT} {te : TE} {i : Nat} {y : Str} {py spos : Pos} (nv : List Str) (ix : List (Str × Nat)) (hc : X.calm = true) (hN : X.N.Nodup) (hi' : X.N[i]? = some y) (hy : Loc X.env.scope y) (co : CompOk X nv ix scope) (hit : ZI X t1 i1 wi) (kg : KpG2 nv g1 g2) (hg : ∀ C s₀ H₀ fp, ZG (cmpX X nv ix scope C s₀ H₀ fp) t1 g1)
    (hi : ∀ C s₀ H₀ fp, ZIf (cmpX X nv ix scope C s₀ H₀ fp) c1 ti1) (hw2 : ∀ C s₀ H₀ fp, ZI (cmpX X nv ix scope C s₀ H₀ fp) t2 i2 wi2) (hg2 : ∀ C s₀ H₀ fp, ZG (cmpX X nv ix scope C s₀ H₀ fp) t2 g2) (hi2 : ∀ C s₀ H₀ fp, ZIf (cmpX X nv ix scope C s₀ H₀ fp) c2 ti2) (he : ∀ C s₀ H₀ fp, ZE (cmpX X nv ix scope C s₀ H₀ fp) elt te)
    (hsw : swapsWith (.ListComp elt [⟨t1, i1, c1, 0⟩, ⟨t2, i2, c2, 0⟩] scope pos) (some (.Name y py)) spos.line X.env = pure true := by rfl)
    (hs : ∀ x, foldedSetIterable i1 X.env x = pure x := by intro _; rfl) (hs2 : ∀ C s₀ H₀ fp x, foldedSetIterable i2 (cmpX X nv ix scope C s₀ H₀ fp).env x = pure x := by intro _ _ _ _ _; rfl) (hfn : X.fn y = true ∨ X.env.scope.names.lookup y = some .local := by first | exact .inl rfl | exact .inr rfl | assumption) :
    ZS X (.Assign [.Name y py] (.ListComp elt [⟨t1, i1, c1, 0⟩, ⟨t2, i2, c2, 0⟩] scope pos) spos) (tAsg (tComp2 nv ix wi g1 ti1 wi2 g2 ti2 te) (gName i)) := by with_unfolding_all exact ps_settwo nv ix hc hN hi' hy co hit kg hg hi hw2 hg2 hi2 he hsw hs hs2 hfn
end L2
set_option Elab.async false
set_option linter.all false
set_option maxRecDepth 100000
set_option maxHeartbeats 4000000
namespace L2
open PySem PySem.Spec PyProof.Rows
section
variable {X : Cx}
noncomputable def rInD (neg : Bool) : R2 := fun x y H Q => ∃ (ds : List PyData) (d : PyData), DatV H y (.tuple ds) ∧ DatV H x d ∧ PyData.canLayAll0 ds = true ∧ d.canLay0 = true ∧ min (PyData.depthAll ds) d.depth ≤ 30 ∧ Q (.bl (if neg then !(ds.any fun z => PyData.eqv z d) else ds.any fun z => PyData.eqv z d)) H
theorem op_notInD (hu : X.A.units + 64 < cLine) : OpR X (compareOp .NotIn) (rInD true) := by
  intro pins s σ H x y v u Q I rx ry h
  obtain ⟨ds, d, h1, h2, h3, h4, h5, q⟩ := h
  obtain ⟨as, r1⟩ := h1.reads I ry
  obtain ⟨bs, r2⟩ := h2.reads I rx
  exact SeqAt.notIn_tuple_reads r1 r2 h3 h4 (by omega) ⟨.bl _, H, I, rfl, by rw [if_pos rfl] at q; exact q⟩
end
end L2
set_option Elab.async false
set_option linter.all false
set_option maxRecDepth 100000
set_option maxHeartbeats 4000000
namespace K53
open PySem L2 M04 M54 M55
noncomputable def Prt (ns : List Int) : Prop := (∀ n ∈ ns, (1 : Int) ≤ n) ∧ ns.Pairwise (· ≥ ·)
theorem int_bool {t : String} (c : subTy t "int" = true) : (!subTy t "bool") = (t == "int") := by
  unfold subTy at c ⊢
  by_cases h1 : t = "int"
  · subst h1; rfl
  · have h2 : t = "bool" := by simpa [h1] using c
    subst h2; rfl
theorem int_no {t : String} (c : subTy t "int" = false) : false = (t == "int") := by
  unfold subTy at c
  by_cases h1 : t = "int"
  · subst h1; cases c
  · simp [h1]
noncomputable def mt (evs : List (List Int)) : List Int := evs.flatMap fun e => (M02.runs e).map (·.1)
theorem mt_snoc (evs : List (List Int)) (e : List Int) : mt (evs ++ [e]) = mt evs ++ (M02.runs e).map (·.1) := by unfold mt; rw [List.flatMap_append]; simp
theorem runs_mem {e : List Int} (h : e.Pairwise (· ≥ ·)) {x : Int} (hx : x ∈ (M02.runs e).map (·.1)) : x ∈ e := by
  obtain ⟨⟨s, c⟩, hp, rfl⟩ := List.mem_map.mp hx
  have := ((M02.ok_of h).mem s c).mp hp
  exact List.count_pos_iff.mp this.2
theorem runs_nd {e : List Int} (h : e.Pairwise (· ≥ ·)) : ((M02.runs e).map (·.1)).Nodup := by
  unfold List.Nodup
  rw [List.pairwise_map]
  exact (M02.ok_of h).pw.imp fun {a b} k z => by omega
theorem mt_nd : ∀ {evs : List (List Int)}, (∀ e ∈ evs, e.Pairwise (· ≥ ·)) → Apart evs → (mt evs).Nodup
  | [], _, _ => .nil
  | e :: r, h, a => by
    show ((M02.runs e).map (·.1) ++ mt r).Nodup
    refine List.nodup_append.mpr ⟨runs_nd (h e List.mem_cons_self), mt_nd (fun f hf => h f (List.mem_cons_of_mem _ hf)) a.2, fun x hx y hy z => ?_⟩
    subst z
    unfold mt at hy
    obtain ⟨f, hf, hy⟩ := List.mem_flatMap.mp hy
    exact a.1 f hf x (runs_mem (h e List.mem_cons_self) hx) (runs_mem (h f (List.mem_cons_of_mem _ hf)) hy)
theorem mt_len (evs : List (List Int)) {B : Nat} (h : ∀ e ∈ evs, e.length ≤ B) : (mt evs).length ≤ evs.length * B := by
  induction evs with
  | nil => exact Nat.zero_le _
  | cons e r ih =>
    show ((M02.runs e).map (·.1) ++ mt r).length ≤ _
    have h1 := M02.runs_len' e
    have h2 := h e List.mem_cons_self
    have h3 := ih fun f hf => h f (List.mem_cons_of_mem _ hf)
    rw [List.length_append, List.length_map, List.length_cons, Nat.succ_mul]
    omega
theorem take_len (evs : List (List Int)) (i : Nat) {B : Nat} (h : ∀ e ∈ evs, e.length ≤ B) : ∀ e ∈ evs.take i, e.length ≤ B := fun e he => h e (List.mem_of_mem_take he)
theorem dall_tps {H : Hp} : ∀ {us lss}, Tps H us lss → DatAll H us (lss.map fun ls => .tuple (ls.map PyData.int))
  | _, _, .nil => .nil
  | _, _, .cons h r => .cons (.ints h) (dall_tps r)
theorem can_tps : ∀ lss : List (List Int), PyData.canLayAll0 (lss.map fun ls => PyData.tuple (ls.map PyData.int)) = true ∧ PyData.depthAll (lss.map fun ls => PyData.tuple (ls.map PyData.int)) ≤ 2
  | [] => ⟨by simp [PyData.canLayAll0], by simp [PyData.depthAll]⟩
  | ls :: r => by
    obtain ⟨h1, h2⟩ := can_tps r
    obtain ⟨k1, k2⟩ := canInts ls
    refine ⟨by simp only [List.map_cons, PyData.canLayAll0, PyData.canLay0, k1, h1, Bool.and_self], ?_⟩
    simp only [List.map_cons, PyData.depthAll, PyData.depth]
    omega
structure EvT (evs : List (List Int)) : Prop where
  few : evs.length ≤ 12
  short : ∀ x ∈ evs, x.length ≤ 300
  prt : ∀ x ∈ evs, Prt x
  some : ∀ x ∈ evs, x ≠ []
  apart : Apart evs
theorem no_nil {evs : List (List Int)} (h : ∀ x ∈ evs, x ≠ []) : ((evs.map fun ls => PyData.tuple (ls.map PyData.int)).any fun z => PyData.eqv z (.tuple [])) = false := by
  rw [List.any_eq_false]
  intro d hd
  obtain ⟨ls, hl, rfl⟩ := List.mem_map.mp hd
  rw [eqv_tuple_nil]
  have := h ls hl
  cases ls with
  | nil => exact absurd rfl this
  | cons a r => simp
theorem mt_apart : ∀ {evs : List (List Int)}, (∀ e ∈ evs, e.Pairwise (· ≥ ·)) → (mt evs).Nodup → Apart evs
  | [], _, _ => trivial
  | e :: r, h, nn => by
    have nn : ((M02.runs e).map (·.1) ++ mt r).Nodup := nn
    obtain ⟨_, n2, n3⟩ := List.nodup_append.mp nn
    have inr : ∀ {f : List Int}, f.Pairwise (· ≥ ·) → ∀ x ∈ f, x ∈ (M02.runs f).map (·.1) := fun {f} hf x hx => List.mem_map.mpr ⟨(x, (f.count x : Int)), ((M02.ok_of hf).mem _ _).mpr ⟨rfl, List.count_pos_iff.mpr hx⟩, rfl⟩
    refine ⟨fun f hf x hx hxf => ?_, mt_apart (fun f hf => h f (List.mem_cons_of_mem _ hf)) n2⟩
    exact n3 x (inr (h e List.mem_cons_self) x hx) x (List.mem_flatMap.mpr ⟨f, hf, inr (h f (List.mem_cons_of_mem _ hf)) x hxf⟩) rfl
section
variable {P : Program} {w : World} {K : PySem.W.Frag} {mg : Str → Option Value} {base : Heap} {f : Addr} {fd : FuncData}
theorem sc_sizes : FnScope ["parting", "told", "part"] ["parting"] (defScope (top 4)) := ⟨rfl, rfl, rfl, by decide +kernel, rfl, by decide +kernel, by decide +kernel⟩
noncomputable def sp_sizes : Sp := fun vs H Q _ => ∃ (a : Addr) (ns : List Int), vs = [.ref a] ∧ H a = some (.tup (ns.map V.int)) ∧ ns.length ≤ 1000 ∧ ∀ r H' us, Same H H' → H' r = some (.tup us) → Prs H' us (M02.runs ns) → Q (.ref r) H'
theorem ok_sizes (F : Fun K "sizes" "sizes" (top 4) f fd) (m_tuple : mg "tuple" = none) : FnOk P w K mg base CX0 1 f fd ["parting"] sp_sizes := by
  refine F.okz sc_sizes (fun vs H Q E h => ?_) (fun cdv A outer s H vs Q E hr h => ?_)
  · obtain ⟨a, ns, rfl, _⟩ := h; rfl
  obtain ⟨a, ns, rfl, ha, hl, q⟩ := h
  have nd := sc_sizes.nd
  have hu := hr.units
  refine ⟨_, (zss_cons (zs_set (i := 1) nd rfl (Or.inl rfl) (ze_lst za_nil))
      (zss_cons (zs_for PassesOwn.never rfl (zi_tup (zn 0)) (zg_name (i := 2) nd rfl (Or.inl rfl)) (zss_one (zs_if (ZW.zt (zw_and (zt_truP (zn 1)) (zw_and1 (zt_cmpP (op_eqD hu) (ze_ix ix_P (ze_ix ix_P (zn 1) (ze_un un_neg ze_int) (fun _ _ => rfl)) ze_int (fun _ _ => rfl)) (zn 2) (nomark _))))) (zss_one (zs_asg (ze_tup (za_cons (zn 2) (za_cons (ze_op op_addP (ze_ix ix_P (ze_ix ix_P (zn 1) (ze_un un_neg ze_int) (fun _ _ => rfl)) ze_int (fun _ _ => rfl)) ze_int) za_nil))) (zg_sub (zn 1) (ze_un un_neg ze_int) set_list))) (zss_one (zs_expr (zm_append (zn 1) (za_cons (ze_tup (za_cons (zn 2) (za_cons ze_int za_nil))) za_nil)))))))
      (zss_one (zs_ret (zcb_tuple rfl m_tuple (za_cons (zn 1) za_nil) rfl rfl))))), ?_⟩
  refine ⟨Nat.zero_le _, fun t ht => ?_⟩
  have g0 : Same H (upd H t (.lst [])) := Same.new ht _
  refine ⟨a, rfl, ⟨_, SqT.of (g0 _ _ ha)⟩, for_tup (xs := ns.map V.int) (fun i σ H' => Same H H' ∧ ∃ us pp, σ = [some (.ref a), some (.ref t), pp] ∧ H' t = some (.lst us) ∧ Prs H' us (M02.runs (ns.take i)))
    ⟨g0, [], none, rfl, upd_same, by rw [List.take_zero]; exact .nil⟩ ?_ ?_ ?_⟩
  · rintro i σ H' _ ⟨y, _⟩
    exact SqT.of (y _ _ ha)
  · rintro i x σ H' hx ⟨y, us, pp, rfl, hus, hp⟩
    have hi : i < ns.length := by
      have := (List.getElem?_eq_some_iff.mp hx).1
      rw [List.length_map] at this
      exact this
    have ex : x = .int ns[i] := by rw [getI hi] at hx; exact (Option.some.inj hx).symm
    subst ex
    have etake : ns.take (i + 1) = ns.take i ++ [ns[i]] := by rw [List.take_succ, List.getElem?_eq_getElem hi]; rfl
    have hlen : us.length ≤ 1000 := by
      rw [hp.length]
      have := M02.runs_len' (ns.take i)
      rw [List.length_take] at this
      omega
    have app : M02.rstep (M02.runs (ns.take i)) ns[i] = M02.runs (ns.take i) ++ [(ns[i], 1)] →
        1 + 1 ≤ sizeLine ∧ ∀ b, H' b = none → us.length < sizeLine ∧ True := fun _ => ⟨by decide, fun _ _ => ⟨small1000 hlen, trivial⟩⟩
    have more : ∀ b, H' b = none → M02.rstep (M02.runs (ns.take i)) ns[i] = M02.runs (ns.take i) ++ [(ns[i], 1)] →
        Same H (upd (upd H' b (.tup [.int ns[i], .int 1])) t (.lst (us ++ [.ref b]))) ∧ ∃ us' pp', [some (V.ref a), some (.ref t), some (.int ns[i])] = [some (.ref a), some (.ref t), pp'] ∧ (upd (upd H' b (.tup [.int ns[i], .int 1])) t (.lst (us ++ [.ref b]))) t = some (.lst us') ∧ Prs (upd (upd H' b (.tup [.int ns[i], .int 1])) t (.lst (us ++ [.ref b]))) us' (M02.runs (ns.take (i + 1))) := fun b hb e => by
      have g1 := Same.new hb (.tup [.int ns[i], .int 1])
      refine ⟨Same.updN (y.trans g1) ht, _, _, rfl, upd_same, ?_⟩
      rw [etake, M02.runs_snoc, e]
      refine Prs.updL (g1 _ _ hus) ((hp.same g1).snoc (p := (ns[i], 1)) ⟨b, rfl, upd_same⟩)
    refine ⟨us, .inl (SqL.of hus), ?_⟩
    refine iteB (fun c => ?_) (fun c => ?_)
    · have hne : M02.runs (ns.take i) ≠ [] := by
        intro e
        rw [hp.nilOf, e] at c
        cases c
      cases el : (M02.runs (ns.take i)).getLast? with
      | none => exact absurd (List.getLast?_eq_none_iff.mp el) hne
      | some z =>
        obtain ⟨ini, eini⟩ := M02.last_split el
        have hp0 := hp
        rw [eini] at hp
        obtain ⟨vs, b, rfl, hvl, hb⟩ := hp.split
        refine ⟨_, rfl, _, .inl (SqL.of hus), .ref b, atI_last vs _, ?_⟩
        refine ⟨_, .inr hb, .int z.1, rfl, ?_⟩
        refine iteD (fun c2 => ?_) (fun c2 => ?_)
        · have c3 : z.1 = ns[i] := V.int.inj c2
          refine ⟨_, rfl, _, .inl (SqL.of hus), .ref b, atI_last vs _, ?_⟩
          refine ⟨_, .inr hb, .int z.2, rfl, ?_⟩
          refine ⟨by show 2 ≤ sizeLine; decide, fun d hd => ?_⟩
          have g1 := Same.new hd (.tup [.int ns[i], .int (z.2 + 1)])
          refine ⟨_, rfl, t, _, _, vs.length, rfl, rfl, g1 _ _ hus, ?_, ?_⟩
          · unfold ixN
            rw [if_neg (by decide), List.length_append, List.length_singleton, if_pos (by omega)]
            congr 1
            omega
          · refine ⟨Same.updN (y.trans g1) ht, _, _, rfl, upd_same, ?_⟩
            rw [etake, M02.runs_snoc]
            have e1 : M02.rstep (M02.runs (ns.take i)) ns[i] = (ini ++ [z]).set (vs.length) (ns[i], z.2 + 1) := by
              unfold M02.rstep
              rw [el]
              dsimp only
              rw [if_pos c3, eini, List.length_append, List.length_singleton, Nat.add_sub_cancel, hvl]
            rw [e1]
            exact Prs.updL (g1 _ _ hus) ((hp.same g1).set (p := (ns[i], z.2 + 1)) ⟨d, rfl, upd_same⟩ _)
        · have c3 : z.1 ≠ ns[i] := fun e => c2 (by rw [e])
          refine ⟨tyL hus, by show 2 ≤ sizeLine; decide, fun d hd => ?_⟩
          refine ⟨_, (Same.new hd _) _ _ hus, small1000 hlen, ?_⟩
          refine more d hd ?_
          unfold M02.rstep
          rw [el]
          dsimp only
          rw [if_neg c3]
    · have e0 : M02.runs (ns.take i) = [] := by
        have := hp.nilOf
        rw [Bool.not_eq_false'] at c
        rw [c] at this
        exact List.isEmpty_iff.mp this.symm
      refine iteF ?_
      refine ⟨tyL hus, by show 2 ≤ sizeLine; decide, fun d hd => ?_⟩
      refine ⟨_, (Same.new hd _) _ _ hus, small1000 hlen, ?_⟩
      refine more d hd ?_
      rw [e0]
      rfl
  · rintro σ H' ⟨y, us, pp, rfl, hus, hp⟩
    refine ⟨us, .inl (SqL.of hus), fun r H2 y2 hr2 => ?_⟩
    rw [List.take_of_length_le (by rw [List.length_map]; exact Nat.le_refl _)] at hp
    exact q r H2 us (y.trans y2) hr2 (hp.same y2)
theorem sc_sns : FnScope ["events", "met"] ["events"] (defScope (top 7)) := ⟨rfl, rfl, rfl, by decide +kernel, rfl, by decide +kernel, by decide +kernel⟩
noncomputable def sp_sns : Sp := fun vs H Q _ => ∃ (e : Addr) (us : List V) (evs : List (List Int)), vs = [.ref e] ∧ H e = some (.tup us) ∧ Tps H us evs ∧ evs.length ≤ 12 ∧ (∀ x ∈ evs, x.length ≤ 300) ∧ ∀ H', Same H H' → Q (.bl (decide (V.int ((dst (mt evs)).length : Int) = V.int ((mt evs).length : Int)))) H'
theorem ok_sns (F : Fun K "share_no_size" "share_no_size" (top 7) f fd) (m_len : mg "len" = none) (m_set : mg "set" = none) (F_sizes : FnA P w K mg base "sizes" 1 ["parting"] sp_sizes) : FnOk P w K mg base CX0 2 f fd ["events"] sp_sns := by
  refine F.okz sc_sns (fun vs H Q E h => ?_) (fun cdv A outer s H vs Q E hr h => ?_)
  · obtain ⟨e, us, evs, rfl, _⟩ := h; rfl
  obtain ⟨e, us, evs, rfl, he, tp, l1, l2, q⟩ := h
  have nd := sc_sns.nd
  have hu := hr.units
  have lus := tp.length
  refine ⟨_, (zss_cons (zs_settwo (i := 1) ["event", "size", "often"] [] rfl nd rfl (Or.inl rfl) ⟨rfl, by decide +kernel, by decide +kernel, rfl, rfl⟩ (zi_tup (zn 0)) kpg2_in (fun _ _ _ _ => zg_name (i := 0) (show List.Nodup (["event", "size", "often"] : List Str) by decide +kernel) rfl (Or.inl rfl)) (fun _ _ _ _ => zif_nil) (fun _ _ _ _ => (zi_tup' (ze_fn F_sizes hr (by decide) rfl (za_cons (zn 0) za_nil)) rfl)) (fun _ _ _ _ => zg_tup rfl (zgs_cons (zg_name (i := 1) (show List.Nodup (["event", "size", "often"] : List Str) by decide +kernel) rfl (Or.inl rfl)) (zgs_cons (zg_name (i := 2) (show List.Nodup (["event", "size", "often"] : List Str) by decide +kernel) rfl (Or.inl rfl)) zgs_nil))) (fun _ _ _ _ => zif_nil) (fun _ _ _ _ => (zn 1)))
      (zss_one (zs_ret (ze_cmpR (op_eqD hu) (zcb_lenS rfl m_len (za_cons (zcb_setI rfl rfl m_set (za_cons (zn 1) za_nil) rfl rfl) za_nil) rfl rfl) (zcb_len rfl m_len (za_cons (zn 1) za_nil) rfl rfl) (nomark _))))), ?_⟩
  refine ⟨e, rfl, ⟨_, SqT.of he⟩, cmp2_tup (xs := us) (fun i zs H' => Same H H' ∧ zs = (mt (evs.take i)).map V.int) ⟨Same.refl _, by rw [List.take_zero]; rfl⟩ ?_ ?_ ?_⟩
  · rintro i zs H' _ ⟨y, _⟩
    exact SqT.of (y _ _ he)
  · rintro i x zs H1 hx ⟨y1, rfl⟩
    obtain ⟨ls', b, hls, rfl, hb⟩ := tp.get hx
    have h300 := l2 ls' (List.mem_of_getElem? hls)
    have hi : i < evs.length := (List.getElem?_eq_some_iff.mp hls).1
    refine ⟨b, ls', rfl, y1 _ _ hb, by omega, fun r H2 us2 y2 hr2 prs => ?_⟩
    have lp := prs.length
    have lr := M02.runs_len' ls'
    have lm := mt_len (evs.take i) (take_len evs i l2)
    rw [List.length_take] at lm
    have lm2 : (mt (evs.take i)).length ≤ 3600 := Nat.le_trans lm (Nat.mul_le_mul_right 300 (show min i evs.length ≤ 12 by omega))
    refine ⟨r, rfl, ⟨_, SqT.of hr2⟩, cmpi_tup (xs := us2) (fun j zs H' => Same H2 H' ∧ zs = (mt (evs.take i) ++ ((M02.runs ls').take j).map (·.1)).map V.int) ⟨Same.refl _, by rw [List.take_zero, List.map_nil, List.append_nil]⟩ ?_ ?_ ?_⟩
    · rintro j zs H' _ ⟨y, _⟩
      exact SqT.of (y _ _ hr2)
    · rintro j z zs H3 hz ⟨y3, rfl⟩
      obtain ⟨pr, hpr, ⟨c, rfl, hc⟩⟩ := prs.get hz
      have hj : j < us2.length := (List.getElem?_eq_some_iff.mp hz).1
      refine ⟨Nat.lt_of_le_of_lt (show _ ≤ 5000 by rw [List.length_map, List.length_append, List.length_map, List.length_take]; omega) (by rw [sizeLine_eq]; decide), ?_⟩
      refine ⟨c, _, rfl, SqT.of (y3 _ _ hc), rfl, _, _, rfl, _, _, rfl, rfl, y3, ?_⟩
      rw [List.take_succ, hpr, List.map_append, List.map_append, List.map_append, List.map_append, List.append_assoc]
      rfl
    · rintro zs H3 ⟨y3, rfl⟩
      refine ⟨(y1.trans y2).trans y3, ?_⟩
      rw [lp, List.take_of_length_le (Nat.le_refl _), List.take_succ, hls]
      exact congrArg _ (mt_snoc _ _).symm
  · rintro zs H1 ⟨y1, rfl⟩ D hD
    rw [lus, List.take_of_length_le (Nat.le_refl _)]
    have yD := Same.new hD (.lst ((mt evs).map V.int))
    have lm := mt_len evs l2
    have lm2 : (mt evs).length ≤ 3600 := Nat.le_trans lm (Nat.mul_le_mul_right 300 l1)
    have dl := dst_le (mt evs)
    refine ⟨mt evs, upd_same, by omega, fun S hS => ?_⟩
    refine ⟨_, _, upd_same, by omega, ?_⟩
    have yS := Same.new hS (.set (fun k => (dst (mt evs)).any (· == k)) (dst (mt evs)).length)
    refine ⟨_, .inl (SqL.of (yS _ _ upd_same)), ?_⟩
    rw [List.length_map]
    exact q _ ((y1.trans yD).trans yS)
end
end K53
set_option Elab.async false
set_option linter.all false
set_option maxRecDepth 100000
set_option maxHeartbeats 4000000
namespace K53
open PySem L2 M04 M54 M55
noncomputable def T0 (H : Hp) (z : V) : Prop := ∃ t, tyName H z = some t
noncomputable def T1 (H : Hp) (y : V) : Prop := T0 H y ∧ ∀ c xs, y = .ref c → H c = some (.tup xs) → xs.length ≤ 200 ∧ ∀ z ∈ xs, T0 H z
noncomputable def T2 (H : Hp) (x : V) : Prop := T0 H x ∧ ∀ c xs, x = .ref c → H c = some (.tup xs) → xs.length ≤ 200 ∧ ∀ y ∈ xs, T1 H y
theorem ty_tup {H : Hp} {x : V} (h : tyName H x = some "tuple") : ∃ c xs, x = .ref c ∧ H c = some (.tup xs) := by
  unfold tyName at h
  cases x with
  | ref c =>
    dsimp only at h
    cases e : H c with
    | none => rw [e] at h; cases h
    | some o =>
      rw [e] at h
      cases o with
      | tup xs => exact ⟨c, xs, rfl, e⟩
      | lst xs => exact absurd (Option.some.inj h) (by decide)
      | dK xs => exact absurd (Option.some.inj h) (by decide)
      | _ => cases h
  | non => exact absurd (Option.some.inj h) (by decide)
  | bl b => exact absurd (Option.some.inj h) (by decide)
  | int i => exact absurd (Option.some.inj h) (by decide)
  | str s => exact absurd (Option.some.inj h) (by decide)
  | _ => cases h
theorem ty_of {H : Hp} {c : Addr} {xs : List V} (h : H c = some (.tup xs)) : tyName H (.ref c) = some "tuple" := by unfold tyName; dsimp only; rw [h]
theorem ty_int {H : Hp} {x : V} (h : tyName H x = some "int") : ∃ i, x = .int i := by
  unfold tyName at h
  cases x with
  | int i => exact ⟨i, rfl⟩
  | ref c =>
    dsimp only at h
    cases e : H c with
    | none => rw [e] at h; cases h
    | some o =>
      rw [e] at h
      cases o with
      | tup xs => exact absurd (Option.some.inj h) (by decide)
      | lst xs => exact absurd (Option.some.inj h) (by decide)
      | dK xs => exact absurd (Option.some.inj h) (by decide)
      | _ => cases h
  | non => exact absurd (Option.some.inj h) (by decide)
  | bl b => exact absurd (Option.some.inj h) (by decide)
  | str s => exact absurd (Option.some.inj h) (by decide)
  | _ => cases h
structure Kp (H H' : Hp) : Prop where
  tup : ∀ c xs, H c = some (.tup xs) → H' c = some (.tup xs)
  ty : ∀ z t, tyName H z = some t → tyName H' z = some t
theorem ty_same {H H' : Hp} (y : Same H H') (z : V) (t : String) (h : tyName H z = some t) : tyName H' z = some t := by
  unfold tyName at h ⊢
  cases z with
  | ref c =>
    dsimp only at h ⊢
    cases e : H c with
    | none => rw [e] at h; cases h
    | some o => rw [e] at h; rw [y _ _ e]; exact h
  | _ => exact h
theorem Kp.same {H H' : Hp} (y : Same H H') : Kp H H' := ⟨fun c xs h => y _ _ h, ty_same y⟩
theorem Kp.step {H H' : Hp} {p : Addr} {n m : Nat} (hh : Hand H p n) (st : Step p m H H') : Kp H H' := by
  refine ⟨fun c xs h => st.tup hh h, fun z t h => ?_⟩
  unfold tyName at h ⊢
  cases z with
  | ref c =>
    dsimp only at h ⊢
    by_cases e : c = p
    · subst e
      obtain ⟨xs, e1⟩ := hh.at
      obtain ⟨ys, e2⟩ := st.2.at
      rw [e1] at h
      rw [e2]
      exact h
    · cases e1 : H c with
      | none => rw [e1] at h; cases h
      | some o => rw [e1] at h; rw [st.1 c o e e1]; exact h
  | _ => exact h
theorem Kp.trans {H H1 H2 : Hp} (a : Kp H H1) (b : Kp H1 H2) : Kp H H2 := ⟨fun c xs h => b.tup _ _ (a.tup _ _ h), fun z t h => b.ty z t (a.ty z t h)⟩
theorem Kp.back {H H' : Hp} (k : Kp H H') {x : V} (h : T0 H x) {c : Addr} {xs : List V} (e : x = .ref c) (h' : H' c = some (.tup xs)) : H c = some (.tup xs) := by
  subst e
  obtain ⟨t, ht⟩ := h
  have h1 := k.ty _ _ ht
  rw [ty_of h'] at h1
  obtain rfl := Option.some.inj h1
  obtain ⟨c', xs', e, h2⟩ := ty_tup ht
  cases e
  have h3 := k.tup _ _ h2
  rw [h'] at h3
  cases h3
  exact h2
theorem T0.kp {H H' : Hp} {z : V} (k : Kp H H') (h : T0 H z) : T0 H' z := let ⟨t, ht⟩ := h; ⟨t, k.ty _ _ ht⟩
theorem T1.kp {H H' : Hp} {z : V} (k : Kp H H') (h : T1 H z) : T1 H' z := ⟨h.1.kp k, fun c xs e h' => by
  obtain ⟨a, b⟩ := h.2 c xs e (k.back h.1 e h')
  exact ⟨a, fun z hz => (b z hz).kp k⟩⟩
theorem T2.kp {H H' : Hp} {z : V} (k : Kp H H') (h : T2 H z) : T2 H' z := ⟨h.1.kp k, fun c xs e h' => by
  obtain ⟨a, b⟩ := h.2 c xs e (k.back h.1 e h')
  exact ⟨a, fun z hz => (b z hz).kp k⟩⟩
theorem T2.one {H : Hp} {x : V} (h : T2 H x) : T1 H x := ⟨h.1, fun c xs e h' => ⟨(h.2 c xs e h').1, fun z hz => ((h.2 c xs e h').2 z hz).1⟩⟩
noncomputable def PtV (H : Hp) (y : V) (ns : List Int) : Prop := ∃ c, y = .ref c ∧ H c = some (.tup (ns.map V.int)) ∧ Prt ns
noncomputable def EvP (H : Hp) (x : V) : Prop := ∃ c us evs, x = .ref c ∧ H c = some (.tup us) ∧ Tps H us evs ∧ EvT evs
theorem pt_all {H : Hp} : ∀ {us : List V}, (∀ y ∈ us, ∃ ns, PtV H y ns) → ∃ evs, Tps H us evs ∧ ∀ e ∈ evs, Prt e
  | [], _ => ⟨[], .nil, (fun e he => nomatch he)⟩
  | y :: us, h => by
    obtain ⟨ns, c, rfl, hc, pr⟩ := h y List.mem_cons_self
    obtain ⟨evs, t, p⟩ := pt_all fun z hz => h z (List.mem_cons_of_mem _ hz)
    refine ⟨ns :: evs, .cons hc t, fun e he => ?_⟩
    rcases List.mem_cons.mp he with z | z
    · rw [z]; exact pr
    · exact p e z
theorem tps_one {H : Hp} : ∀ {us : List V} {a b : List (List Int)}, Tps H us a → Tps H us b → a = b
  | _, _, _, .nil, .nil => rfl
  | _, _, _, .cons h t, .cons h' t' => by
    rw [h] at h'
    have e : _ = _ := HO.tup.inj (Option.some.inj h')
    have : ∀ {x y : List Int}, x.map V.int = y.map V.int → x = y := fun {x y} e => by
      have := congrArg (List.map fun v : V => match v with | .int i => i | _ => 0) e
      rw [List.map_map, List.map_map] at this
      simpa [Function.comp_def] using this
    rw [this e, tps_one t t']
theorem at_get {ns : List Int} {i : Nat} (h : i < ns.length) : (ns.map V.int)[i]? = some (.int (ns.getD i 0)) := by
  rw [List.getElem?_map, List.getElem?_eq_getElem h, List.getD_eq_getElem?_getD, List.getElem?_eq_getElem h]; rfl
theorem ge_all : ∀ {ns : List Int}, (∀ j, j < ns.length - 1 → ns.getD (j + 1) 0 ≤ ns.getD j 0) → ns.Pairwise (· ≥ ·)
  | [], _ => .nil
  | a :: r, h => by
    have ih : r.Pairwise (· ≥ ·) := ge_all fun j hj => h (j + 1) (by rw [List.length_cons]; omega)
    refine List.pairwise_cons.mpr ⟨fun b hb => ?_, ih⟩
    cases r with
    | nil => cases hb
    | cons d r =>
      have h0 : d ≤ a := h 0 (by simp)
      rcases List.mem_cons.mp hb with z | z
      · rw [z]; exact h0
      · have := (List.pairwise_cons.mp ih).1 b z
        show b ≤ a
        have : d ≥ b := this
        omega
section
variable {P : Program} {w : World} {K : PySem.W.Frag} {mg : Str → Option Value} {base : Heap} {f : Addr} {fd : FuncData}
theorem sc_whole : FnScope ["thing"] ["thing"] (defScope (top 1)) := ⟨rfl, rfl, rfl, by decide +kernel, rfl, by decide +kernel, by decide +kernel⟩
noncomputable def sp_whole : Sp := fun vs H Q _ => ∃ x t, vs = [x] ∧ tyName H x = some t ∧ Q (.bl (t == "int")) H
theorem ok_whole (F : Fun K "is_whole" "is_whole" (top 1) f fd) (m_bool : mg "bool" = none) (m_int : mg "int" = none) (m_isinstance : mg "isinstance" = none) : FnOk P w K mg base CX0 1 f fd ["thing"] sp_whole := by
  refine F.okz sc_whole (fun vs H Q E h => ?_) (fun cdv A outer s H vs Q E hr h => ?_)
  · obtain ⟨x, t, rfl, _⟩ := h; rfl
  obtain ⟨x, t, rfl, ht, q⟩ := h
  have nd := sc_whole.nd
  refine ⟨_, (zss_one (zs_ret (ze_andP (zcb_isinstance rfl m_isinstance (za_cons (zn 0) (za_cons (zty_int rfl m_int) za_nil)) rfl rfl) (ze_one (ze_notP (zcb_isinstance rfl m_isinstance (za_cons (zn 0) (za_cons (zty_bool rfl m_bool) za_nil)) rfl rfl)))))), ?_⟩
  refine ⟨t, ht, rfl, ?_⟩
  refine iteB (fun c => ?_) (fun c => ?_)
  · refine ⟨t, ht, rfl, ?_⟩
    show Q (.bl (!subTy t "bool")) H
    rw [int_bool c]; exact q
  · show Q (.bl false) H
    rw [int_no c]; exact q
theorem sub_tup {t : String} : subTy t "tuple" = decide (t = "tuple") := by
  unfold subTy
  by_cases h : t = "tuple"
  · subst h; rfl
  · rw [decide_eq_false h]; simp [h]
theorem sc_is : FnScope ["thing", "part", "at"] ["thing"] (defScope (top 3)) := ⟨rfl, rfl, rfl, by decide +kernel, rfl, by decide +kernel, by decide +kernel⟩
noncomputable def sp_is : Sp := fun vs H Q _ => ∃ x, vs = [x] ∧ T1 H x ∧ ∀ b H', Same H H' → (b = true ↔ ∃ ns, PtV H x ns) → Q (.bl b) H'
theorem ok_is (F : Fun K "is_parting" "is_parting" (top 3) f fd) (m_isinstance : mg "isinstance" = none) (m_len : mg "len" = none) (m_range : mg "range" = none) (m_tuple : mg "tuple" = none) (F_is_whole : FnA P w K mg base "is_whole" 1 ["thing"] sp_whole) : FnOk P w K mg base CX0 2 f fd ["thing"] sp_is := by
  refine F.okz sc_is (fun vs H Q E h => ?_) (fun cdv A outer s H vs Q E hr h => ?_)
  · obtain ⟨x, rfl, _⟩ := h; rfl
  obtain ⟨x, rfl, ⟨⟨t, ht⟩, tx⟩, q⟩ := h
  have nd := sc_is.nd
  refine ⟨_, (zss_cons (zs_if (zt_not (zt_valP (zcb_isinstance rfl m_isinstance (za_cons (zn 0) (za_cons (zty_tuple rfl m_tuple) za_nil)) rfl rfl))) (zss_one (zs_ret ze_bl)) zss_nil)
      (zss_cons (zs_for PassesOwn.never rfl (zi_tup (zn 0)) (zg_name (i := 1) nd rfl (Or.inl rfl)) (zss_one (zs_if (ZW.zt (zw_or (zt_not (zt_valP (ze_fn F_is_whole hr (by decide) rfl (za_cons (zn 1) za_nil)))) (zw_or1 (zt_cmpP op_ltP (zn 1) ze_int (nomark _))))) (zss_one (zs_ret ze_bl)) zss_nil)))
      (zss_cons (zs_for PassesOwn.never rfl (zi_range2 rfl m_range (za_cons ze_int (za_cons (zcb_len rfl m_len (za_cons (zn 0) za_nil) rfl rfl) za_nil))) (zg_name (i := 2) nd rfl (Or.inl rfl)) (zss_one (zs_if (zt_cmpP op_ltP (ze_ix ix_P (zn 0) (ze_op op_subP (zn 2) ze_int) (fun _ _ => rfl)) (ze_ix ix_P (zn 0) (zn 2) (fun _ _ => rfl)) (nomark _)) (zss_one (zs_ret ze_bl)) zss_nil)))
      (zss_one (zs_ret ze_bl))))), ?_⟩
  refine ⟨t, ht, rfl, ?_⟩
  rw [sub_tup]
  by_cases et : t = "tuple"
  rotate_left
  · rw [decide_eq_false et]
    exact q false H (Same.refl _) ⟨fun z => (by cases z), fun ⟨ns, c, e, hc, _⟩ => absurd (Option.some.inj (ht.symm.trans (by rw [e]; exact ty_of hc))) et⟩
  subst et
  rw [decide_eq_true rfl]
  obtain ⟨c, xs, rfl, hc⟩ := ty_tup ht
  obtain ⟨lx, tz⟩ := tx c xs rfl hc
  have no : ∀ {ns : List Int}, PtV H (.ref c) ns → xs = ns.map V.int ∧ Prt ns := fun {ns} ⟨c', e, h', pr⟩ => by
    cases e
    rw [hc] at h'
    exact ⟨HO.tup.inj (Option.some.inj h'), pr⟩
  refine ⟨c, rfl, ⟨_, SqT.of hc⟩, for_tup (xs := xs) (fun i σ H' => H' = H ∧ (∃ ns : List Int, xs.take i = ns.map V.int ∧ ∀ n ∈ ns, (1 : Int) ≤ n) ∧ ∃ x1 x2, σ = [some (.ref c), x1, x2]) ⟨rfl, ⟨[], rfl, (fun n hn => nomatch hn)⟩, _, _, rfl⟩ ?_ ?_ ?_⟩
  · rintro i σ H' _ ⟨rfl, _⟩
    exact SqT.of hc
  · rintro i z σ H' hz ⟨rfl, ⟨ns, en, h1⟩, x1, x2, rfl⟩
    have zm := List.mem_of_getElem? hz
    obtain ⟨tt, htt⟩ := tz z zm
    refine ⟨z, tt, rfl, htt, ?_⟩
    by_cases ei : tt = "int"
    · subst ei
      obtain ⟨k, rfl⟩ := ty_int htt
      refine iteD (fun c2 => ?_) (fun c2 => ?_)
      · have c2 : k < 1 := c2
        refine q false H' (Same.refl _) ⟨fun z => (by cases z), fun ⟨ms, hm⟩ => ?_⟩
        obtain ⟨e1, pr⟩ := no hm
        rw [e1] at zm
        obtain ⟨k', hk', e2⟩ := List.mem_map.mp zm
        cases e2
        have := pr.1 k hk'
        omega
      · have c2 : ¬ k < 1 := c2
        refine ⟨rfl, ⟨ns ++ [k], ?_, fun n hn => ?_⟩, _, _, rfl⟩
        · rw [List.take_succ, hz, en, List.map_append]; rfl
        · rcases List.mem_append.mp hn with h | h
          · exact h1 n h
          · have := List.mem_singleton.mp h; omega
    · have e3 : (tt == "int") = false := by simpa using ei
      rw [e3]
      refine q false H' (Same.refl _) ⟨fun z => (by cases z), fun ⟨ms, hm⟩ => ?_⟩
      obtain ⟨e1, pr⟩ := no hm
      rw [e1] at zm
      obtain ⟨k', hk', e2⟩ := List.mem_map.mp zm
      subst e2
      exact absurd (Option.some.inj htt).symm ei
  · rintro σ H' ⟨rfl, ⟨ns, en, h1⟩, x1, x2, rfl⟩
    rw [List.take_of_length_le (Nat.le_refl _)] at en
    subst en
    rw [List.length_map] at lx
    refine ⟨_, .inr hc, ?_⟩
    rw [List.length_map]
    refine ⟨1, ns.length, rfl, ⟨by decide, by decide, by omega, by omega⟩, for_range (fun i σ Hx => Hx = H' ∧ (∀ j, j < i → ns.getD (j + 1) 0 ≤ ns.getD j 0) ∧ ∃ x1 x2, σ = [some (.ref c), x1, x2]) ⟨rfl, (fun j hj => absurd hj (Nat.not_lt_zero _)), _, _, rfl⟩ ?_ ?_⟩
    · rintro i σ Hx hi ⟨rfl, up, x1, x2, rfl⟩
      have hi1 : i + 1 < ns.length := by omega
      refine ⟨_, .inr hc, _, atI_of (j := i) (by omega) (at_get (show i < ns.length by omega)), ?_⟩
      refine ⟨_, .inr hc, _, atI_of (j := i + 1) (by omega) (at_get hi1), ?_⟩
      refine iteD (fun c2 => ?_) (fun c2 => ?_)
      · have c2 : ns.getD i 0 < ns.getD (i + 1) 0 := c2
        refine q false Hx (Same.refl _) ⟨fun z => (by cases z), fun ⟨ms, hm⟩ => ?_⟩
        obtain ⟨e1, pr⟩ := no hm
        have e1 : ns = ms := by
          have := congrArg (List.map fun v : V => match v with | .int i => i | _ => 0) e1
          rw [List.map_map, List.map_map] at this
          simpa [Function.comp_def] using this
        subst e1
        have := List.pairwise_iff_getElem.mp pr.2 i (i + 1) (by omega) hi1 (by omega)
        rw [List.getD_eq_getElem?_getD, List.getD_eq_getElem?_getD, List.getElem?_eq_getElem hi1, List.getElem?_eq_getElem (show i < ns.length by omega)] at c2
        simp only [Option.getD_some] at c2
        omega
      · have c2 : ¬ ns.getD i 0 < ns.getD (i + 1) 0 := c2
        refine ⟨rfl, fun j hj => ?_, _, _, rfl⟩
        by_cases e : j = i
        · subst e; omega
        · exact up j (by omega)
    · rintro σ Hx ⟨rfl, up, x1, x2, rfl⟩
      refine q true Hx (Same.refl _) ⟨fun _ => ⟨ns, c, rfl, hc, h1, ge_all fun j hj => up j (by omega)⟩, fun _ => rfl⟩
end
end K53
set_option Elab.async false
set_option linter.all false
set_option maxRecDepth 100000
set_option maxHeartbeats 4000000
namespace K53
open PySem L2 M04 M54 M55
theorem not_ev {H : Hp} {x : V} (h : ∀ c us, x = .ref c → H c = some (.tup us) → 12 < us.length ∨ ∃ y ∈ us, ¬ ∃ ns, PtV H y ns ∧ ns ≠ []) : ¬ EvP H x := by
  rintro ⟨c, us, evs, rfl, hc, tp, ev⟩
  have lu := tp.length
  rcases h c us rfl hc with z | ⟨y, hy, z⟩
  · have := ev.few; omega
  · obtain ⟨i, hi, e⟩ := List.getElem_of_mem hy
    obtain ⟨ls, b, e1, e2, hb⟩ := tp.get (List.getElem?_eq_getElem hi)
    have m := List.mem_of_getElem? e1
    exact z ⟨ls, ⟨b, e.symm.trans e2, hb, ev.prt ls m⟩, ev.some ls m⟩
theorem ev_one {H : Hp} {c : Addr} {us : List V} {evs : List (List Int)} (hc : H c = some (.tup us)) (tp : Tps H us evs) : EvP H (.ref c) ↔ EvT evs := by
  constructor
  · rintro ⟨c', us', evs', e, hc', tp', ev⟩
    cases e
    rw [hc] at hc'
    cases hc'
    rw [tps_one tp tp']
    exact ev
  · exact fun h => ⟨c, us, evs, rfl, hc, tp, h⟩
theorem any_nil {evs : List (List Int)} : ((evs.map fun ls => PyData.tuple (ls.map PyData.int)).any fun z => PyData.eqv z (.tuple [])) = decide (∃ x ∈ evs, x = []) := by
  by_cases h : ∃ x ∈ evs, x = []
  · rw [decide_eq_true h]
    obtain ⟨x, hx, rfl⟩ := h
    rw [List.any_eq_true]
    exact ⟨_, List.mem_map.mpr ⟨[], hx, rfl⟩, by rw [List.map_nil, eqv_tuple_nil]; rfl⟩
  · rw [decide_eq_false h]
    exact no_nil fun x hx e => h ⟨x, hx, e⟩
theorem all_bs {bs : List Bool} : bs.all id = true ↔ ∀ j, j < bs.length → bs[j]? = some true := by
  rw [List.all_eq_true]
  constructor
  · intro h j hj
    rw [List.getElem?_eq_getElem hj]
    exact congrArg some (h _ (List.getElem_mem hj))
  · intro h b hb
    obtain ⟨j, hj, rfl⟩ := List.getElem_of_mem hb
    have := h j hj
    rw [List.getElem?_eq_getElem hj] at this
    exact Option.some.inj this
section
variable {P : Program} {w : World} {K : PySem.W.Frag} {mg : Str → Option Value} {base : Heap} {f : Addr} {fd : FuncData}
theorem sc_ae : FnScope ["thing"] ["thing"] (defScope (top 8)) := ⟨rfl, rfl, rfl, by decide +kernel, rfl, by decide +kernel, by decide +kernel⟩
noncomputable def sp_ae : Sp := fun vs H Q _ => ∃ x, vs = [x] ∧ T2 H x ∧ ∀ b H', Same H H' → (b = true ↔ EvP H x) → Q (.bl b) H'
theorem ok_ae (F : Fun K "are_events" "are_events" (top 8) f fd) (m_all : mg "all" = none) (m_isinstance : mg "isinstance" = none) (m_len : mg "len" = none) (m_tuple : mg "tuple" = none) (g_MOST_EVENTS : IntG mg "MOST_EVENTS" 12) (F_is_parting : FnA P w K mg base "is_parting" 2 ["thing"] sp_is) (F_share_no_size : FnA P w K mg base "share_no_size" 2 ["events"] sp_sns) : FnOk P w K mg base CX0 3 f fd ["thing"] sp_ae := by
  refine F.okz sc_ae (fun vs H Q E h => ?_) (fun cdv A outer s H vs Q E hr h => ?_)
  · obtain ⟨x, rfl, _⟩ := h; rfl
  obtain ⟨x, rfl, ⟨⟨t, ht⟩, tx⟩, q⟩ := h
  have nd := sc_ae.nd
  have hu := hr.units
  refine ⟨_, (zss_cons (zs_if (ZW.zt (zw_or (zt_not (zt_valP (zcb_isinstance rfl m_isinstance (za_cons (zn 0) (za_cons (zty_tuple rfl m_tuple) za_nil)) rfl rfl))) (zw_or1 (zt_cmpP op_gtP (zcb_len rfl m_len (za_cons (zn 0) za_nil) rfl rfl) (ze_ig rfl g_MOST_EVENTS) (nomark _))))) (zss_one (zs_ret ze_bl)) zss_nil)
      (zss_cons (zs_if (zt_not (zt_valP (zcb_all rfl rfl m_all (za_cons (ze_comp ["event"] [] rfl ⟨rfl, by decide +kernel, by decide +kernel, rfl, rfl⟩ (zi_tup (zn 0)) kpg_name (fun _ _ _ _ => zg_name (i := 0) (show List.Nodup (["event"] : List Str) by decide +kernel) rfl (Or.inl rfl)) (fun _ _ _ _ => zif_nil) (fun _ _ _ _ => (ze_fn F_is_parting hr (by decide) rfl (za_cons (zn 0) za_nil)))) za_nil) rfl rfl))) (zss_one (zs_ret ze_bl)) zss_nil)
      (zss_one (zs_ret (ze_andP (ze_cmpR (op_notInD hu) (ze_tup za_nil) (zn 0) (by with_unfolding_all rfl)) (ze_one (ze_fn F_share_no_size hr (by decide) rfl (za_cons (zn 0) za_nil)))))))), ?_⟩
  refine ⟨t, ht, rfl, ?_⟩
  rw [sub_tup]
  by_cases et : t = "tuple"
  rotate_left
  · rw [decide_eq_false et]
    exact q false H (Same.refl _) ⟨fun z => (by cases z), fun ⟨c, us, evs, e, hc, _⟩ => absurd (Option.some.inj (ht.symm.trans (by rw [e]; exact ty_of hc))) et⟩
  subst et
  rw [decide_eq_true rfl]
  obtain ⟨c, us, rfl, hc⟩ := ty_tup ht
  obtain ⟨lx, ty⟩ := tx c us rfl hc
  refine ⟨_, .inr hc, ?_⟩
  refine iteD (fun c2 => ?_) (fun c2 => ?_)
  · have c2 : (12 : Int) < (us.length : Int) := c2
    refine q false H (Same.refl _) ⟨fun z => (by cases z), fun z => absurd z (not_ev fun c' us' e h => .inl ?_)⟩
    cases e
    rw [hc] at h
    cases h
    omega
  have few : ¬ (12 : Int) < (us.length : Int) := c2
  refine ⟨c, rfl, ⟨_, SqT.of hc⟩, cmp_tup (xs := us) (fun i zs H' => Same H H' ∧ ∃ bs : List Bool, zs = bs.map V.bl ∧ bs.length = i ∧ ∀ j y, j < i → us[j]? = some y → (bs[j]? = some true ↔ ∃ ns, PtV H y ns)) ⟨Same.refl _, [], rfl, rfl, (fun j y hj => absurd hj (Nat.not_lt_zero _))⟩ ?_ ?_ ?_⟩
  · rintro i zs H' _ ⟨y, _⟩
    exact SqT.of (y _ _ hc)
  · rintro i x zs H' hx ⟨y', bs, rfl, lb, hb⟩
    have hi : i < us.length := (List.getElem?_eq_some_iff.mp hx).1
    refine ⟨by rw [List.length_map]; exact small1000 (by omega), ?_⟩
    refine ⟨x, rfl, (ty x (List.mem_of_getElem? hx)).kp (Kp.same y'), fun b H2 y2 iff => ?_⟩
    refine ⟨y'.trans y2, bs ++ [b], by rw [List.map_append]; rfl, by rw [List.length_append, lb]; rfl, fun j y hj hy => ?_⟩
    by_cases e : j = i
    · subst e
      rw [hx] at hy
      cases hy
      rw [List.getElem?_append_right (by omega), lb, Nat.sub_self]
      show some b = some true ↔ _
      have k := Kp.same y'
      constructor
      · intro z
        obtain ⟨ns, c', e, h', pr⟩ := iff.mp (Option.some.inj z)
        exact ⟨ns, c', e, k.back (ty x (List.mem_of_getElem? hx)).1 e h', pr⟩
      · rintro ⟨ns, c', e, h', pr⟩
        exact congrArg some (iff.mpr ⟨ns, c', e, y' _ _ h', pr⟩)
    · rw [List.getElem?_append_left (by omega)]
      exact hb j y (by omega) hy
  · rintro zs H1 ⟨y1, bs, rfl, lb, hb⟩ D hD
    refine ⟨_, SqL.of upd_same, ?_⟩
    have yD := y1.trans (Same.new hD (.lst (bs.map V.bl)))
    generalize upd H1 D (.lst (bs.map V.bl)) = H2 at yD
    by_cases call : bs.all id = true
    rotate_left
    · rw [show bs.all id = false by simpa using call]
      refine q false H2 yD ⟨fun z => (by cases z), fun z => absurd z (not_ev fun c' us' e h => .inr ?_)⟩
      cases e
      rw [hc] at h
      cases h
      rw [all_bs] at call
      have : ∃ j, j < bs.length ∧ bs[j]? ≠ some true := Classical.byContradiction fun g => call fun j hj => Classical.byContradiction fun g2 => g ⟨j, hj, g2⟩
      obtain ⟨j, hj, g⟩ := this
      have hju : j < us.length := by omega
      refine ⟨us[j], List.getElem_mem hju, fun ⟨ns, hp, _⟩ => g ?_⟩
      exact (hb j us[j] (by omega) (List.getElem?_eq_getElem hju)).mpr ⟨ns, hp⟩
    rw [call]
    have ap : ∀ y ∈ us, ∃ ns, PtV H y ns := fun y hy => by
      obtain ⟨j, hj, rfl⟩ := List.getElem_of_mem hy
      exact (hb j _ (by omega) (List.getElem?_eq_getElem hj)).mp (all_bs.mp call j (by omega))
    obtain ⟨evs, tp, prt⟩ := pt_all ap
    have lu := tp.length
    have short : ∀ x ∈ evs, x.length ≤ 300 := fun e he => by
      obtain ⟨j, hj, rfl⟩ := List.getElem_of_mem he
      obtain ⟨ls, b, e1, e2, hb2⟩ := tp.get (List.getElem?_eq_getElem (show j < us.length by omega))
      rw [List.getElem?_eq_getElem hj] at e1
      obtain rfl := Option.some.inj e1
      have := ((ty us[j] (List.getElem_mem _)).2 b _ e2 hb2).1
      rw [List.length_map] at this
      omega
    refine ⟨Nat.zero_le _, fun d hd => ?_⟩
    have yc := yD.trans (Same.new hd (.tup []))
    have gc : upd H2 d (.tup []) d = some (.tup []) := upd_same
    generalize upd H2 d (.tup []) = H3 at yc gc
    obtain ⟨k1, k2⟩ := can_tps evs
    refine ⟨_, _, .tup (yc _ _ hc) (dall_tps (tp.same yc)), .tup gc .nil, k1, rfl, by omega, ?_⟩
    rw [if_pos rfl, any_nil]
    have iffe := ev_one hc tp
    by_cases nn : ∃ x ∈ evs, x = []
    · rw [decide_eq_true nn]
      refine q false H3 yc ⟨fun z => (by cases z), fun z => ?_⟩
      obtain ⟨x, hx, rfl⟩ := nn
      exact absurd rfl ((iffe.mp z).some [] hx)
    · rw [decide_eq_false nn]
      refine ⟨c, us, evs, rfl, yc _ _ hc, tp.same yc, by omega, short, fun H4 y4 => ?_⟩
      refine q _ H4 (yc.trans y4) ?_
      rw [decide_eq_true_iff, iffe]
      constructor
      · intro z
        have z : ((dst (mt evs)).length : Int) = ((mt evs).length : Int) := V.int.inj z
        have := (dst_all (mt evs)).mp (by omega)
        exact ⟨by omega, short, prt, fun x hx e => nn ⟨x, hx, e⟩, mt_apart (fun e he => (prt e he).2) this⟩
      · intro ev
        rw [(dst_all (mt evs)).mpr (mt_nd (fun x hx => (ev.prt x hx).2) ev.apart)]
end
end K53
set_option Elab.async false
set_option linter.all false
set_option maxRecDepth 100000
set_option maxHeartbeats 4000000
namespace K53
open PySem L2 M04 M54 M55
theorem eqv_ints : ∀ (as bs : List Int), PyData.eqvAll (as.map PyData.int) (bs.map PyData.int) = decide (as = bs)
  | [], [] => by simp [PyData.eqvAll]
  | [], b :: bs => by simp [PyData.eqvAll]
  | a :: as, [] => by simp [PyData.eqvAll]
  | a :: as, b :: bs => by
    have ih := eqv_ints as bs
    simp only [List.map_cons, PyData.eqvAll, ih, PyData.eqv]
    by_cases h : a = b
    · subst h
      simp
    · simp [h]
theorem eqv_tup (as bs : List Int) : PyData.eqv (.tuple (as.map PyData.int)) (.tuple (bs.map PyData.int)) = decide (as = bs) := by
  show PyData.eqvAll _ _ = _
  exact eqv_ints as bs
theorem apart_pw : ∀ {evs : List (List Int)}, Apart evs ↔ evs.Pairwise (fun e f => ∀ x ∈ e, x ∉ f)
  | [] => ⟨fun _ => .nil, fun _ => trivial⟩
  | e :: r => by
    rw [List.pairwise_cons, ← apart_pw]
    exact Iff.rfl
theorem apart_ix {evs : List (List Int)} (h : ∀ a b : Nat, b < a → ∀ (e f : List Int), evs[a]? = some e → evs[b]? = some f → ∀ x ∈ e, x ∉ f) : Apart evs := by
  rw [apart_pw, List.pairwise_iff_getElem]
  intro i j hi hj hij x hx hxj
  exact h j i hij _ _ (List.getElem?_eq_getElem hj) (List.getElem?_eq_getElem hi) x hxj hx
theorem apart_no {evs : List (List Int)} (h : Apart evs) {a b : Nat} (hab : b < a) {e f : List Int} (ha : evs[a]? = some e) (hb : evs[b]? = some f) : ∀ x ∈ e, x ∉ f := by
  intro x hx hxf
  rw [apart_pw, List.pairwise_iff_getElem] at h
  obtain ⟨la, ea⟩ := List.getElem?_eq_some_iff.mp ha
  obtain ⟨lb, eb⟩ := List.getElem?_eq_some_iff.mp hb
  have := h b a lb la hab x (by rw [eb]; exact hxf)
  rw [ea] at this
  exact this hx
theorem cut_tk (us : List V) (k : Nat) (h : k ≤ us.length) : cutV us none (some (k : Int)) = us.take k := by
  unfold cutV
  rw [HT.sIx_none, HT.sIx_nat, Nat.min_eq_left h]
  simp
section
variable {P : Program} {w : World} {K : PySem.W.Frag} {mg : Str → Option Value} {base : Heap} {f : Addr} {fd : FuncData}
theorem sc_lp : FnScope ["_law_thing", "_law_nth", "_law_part"] ["_law_thing"] (defScope (top 15)) := ⟨rfl, rfl, rfl, by decide +kernel, rfl, by decide +kernel, by decide +kernel⟩
theorem ok_lp (F : Fun K "_law_is_parting" "_law_is_parting" (top 15) f fd) (m_bool : mg "bool" = none) (m_enumerate : mg "enumerate" = none) (m_int : mg "int" = none) (m_isinstance : mg "isinstance" = none) (m_tuple : mg "tuple" = none) : FnOk P w K mg base CX0 1 f fd ["_law_thing"] sp_is := by
  refine F.okz sc_lp (fun vs H Q E h => ?_) (fun cdv A outer s H vs Q E hr h => ?_)
  · obtain ⟨x, rfl, _⟩ := h; rfl
  obtain ⟨x, rfl, ⟨⟨t, ht⟩, tx⟩, q⟩ := h
  have nd := sc_lp.nd
  refine ⟨_, (zss_cons (zs_if (zt_not (zt_valP (zcb_isinstance rfl m_isinstance (za_cons (zn 0) (za_cons (zty_tuple rfl m_tuple) za_nil)) rfl rfl))) (zss_one (zs_ret ze_bl)) zss_nil)
      (zss_cons (zs_for PassesOwn.never rfl (zi_enumK rfl m_enumerate (za_cons (zn 0) za_nil)) (zg_tup rfl (zgs_cons (zg_name (i := 1) nd rfl (Or.inl rfl)) (zgs_cons (zg_name (i := 2) nd rfl (Or.inl rfl)) zgs_nil))) (zss_one (zs_if (ZW.zt (zw_or (zt_not (zt_valP (zcb_isinstance rfl m_isinstance (za_cons (zn 2) (za_cons (zty_int rfl m_int) za_nil)) rfl rfl))) (zw_or (zt_valP (zcb_isinstance rfl m_isinstance (za_cons (zn 2) (za_cons (zty_bool rfl m_bool) za_nil)) rfl rfl)) (zw_or (zt_cmpP op_ltP (zn 2) ze_int (nomark _)) (zw_or1 (ZW.zt (zw_and (zt_cmpP op_gtP (zn 1) ze_int (nomark _)) (zw_and1 (zt_cmpP op_ltP (ze_ix ix_P (zn 0) (ze_op op_subP (zn 1) ze_int) (fun _ _ => rfl)) (zn 2) (nomark _)))))))))) (zss_one (zs_ret ze_bl)) zss_nil)))
      (zss_one (zs_ret ze_bl)))), ?_⟩
  refine ⟨t, ht, rfl, ?_⟩
  rw [sub_tup]
  by_cases et : t = "tuple"
  rotate_left
  · rw [decide_eq_false et]
    exact q false H (Same.refl _) ⟨fun z => (by cases z), fun ⟨ns, c, e, hc, _⟩ => absurd (Option.some.inj (ht.symm.trans (by rw [e]; exact ty_of hc))) et⟩
  subst et
  rw [decide_eq_true rfl]
  obtain ⟨c, xs, rfl, hc⟩ := ty_tup ht
  obtain ⟨lx, tz⟩ := tx c xs rfl hc
  have no : ∀ {ns : List Int}, PtV H (.ref c) ns → xs = ns.map V.int ∧ Prt ns := fun {ns} ⟨c', e, h', pr⟩ => by
    cases e
    rw [hc] at h'
    exact ⟨HO.tup.inj (Option.some.inj h'), pr⟩
  refine ⟨true, _, SqK.tup hc, for_enumK (xs := xs) (fun i σ H' => Same H H' ∧ (∃ ns : List Int, xs.take i = ns.map V.int ∧ (∀ n ∈ ns, (1 : Int) ≤ n) ∧ ∀ j, j + 1 < i → ns.getD (j + 1) 0 ≤ ns.getD j 0) ∧ ∃ x1 x2, σ = [some (.ref c), x1, x2]) ⟨Same.refl _, ⟨[], rfl, (fun n hn => nomatch hn), (fun j hj => absurd hj (Nat.not_lt_zero _))⟩, _, _, rfl⟩ ?_ ?_ ?_⟩
  · rintro i σ H' _ ⟨y, _⟩
    exact SqK.tup (y _ _ hc)
  · rintro i z σ H' p hz ⟨y, ⟨ns, en, h1, up⟩, x1, x2, rfl⟩ hp
    have hi : i < xs.length := (List.getElem?_eq_some_iff.mp hz).1
    have zm := List.mem_of_getElem? hz
    obtain ⟨tt, htt⟩ := tz z zm
    have ln : ns.length = i := by
      have := congrArg List.length en
      rw [List.length_take, List.length_map] at this
      omega
    have y2 := y.trans (Same.new hp (.tup [.int (i : Int), z]))
    have gp : upd H' p (.tup [.int (i : Int), z]) p = some (.tup [.int (i : Int), z]) := upd_same
    generalize upd H' p (.tup [.int (i : Int), z]) = H2 at y2 gp
    have htt2 := ty_same y2 _ _ htt
    have hc2 := y2 _ _ hc
    refine ⟨p, _, rfl, SqT.of gp, rfl, _, _, rfl, _, _, rfl, rfl, ?_⟩
    refine ⟨tt, htt2, rfl, ?_⟩
    by_cases ei : tt = "int"
    · subst ei
      obtain ⟨k, rfl⟩ := ty_int htt
      refine iteB (fun c => absurd c (by decide)) (fun _ => ?_)
      refine ⟨"int", rfl, rfl, ?_⟩
      refine iteB (fun c => absurd c (by decide)) (fun _ => ?_)
      refine iteD (fun c2 => ?_) (fun c2 => ?_)
      · have c2 : k < 1 := c2
        refine q false H2 y2 ⟨fun z => (by cases z), fun ⟨ms, hm⟩ => ?_⟩
        obtain ⟨e1, pr⟩ := no hm
        rw [e1] at zm
        obtain ⟨k', hk', e2⟩ := List.mem_map.mp zm
        cases e2
        have := pr.1 k hk'
        omega
      · have c2 : ¬ k < 1 := c2
        have nxt : (∀ j, j + 1 = i → k ≤ ns.getD j 0) → (∃ ms : List Int, xs.take (i + 1) = ms.map V.int ∧ (∀ n ∈ ms, (1 : Int) ≤ n) ∧ ∀ j, j + 1 < i + 1 → ms.getD (j + 1) 0 ≤ ms.getD j 0) := fun g => by
          refine ⟨ns ++ [k], by rw [List.take_succ, hz, en, List.map_append]; rfl, fun n hn => ?_, fun j hj => ?_⟩
          · rcases List.mem_append.mp hn with h | h
            · exact h1 n h
            · have := List.mem_singleton.mp h; omega
          · by_cases e : j + 1 = i
            · rw [List.getD_eq_getElem?_getD, List.getD_eq_getElem?_getD, List.getElem?_append_right (by omega), List.getElem?_append_left (by omega), show j + 1 - ns.length = 0 by omega]
              have := g j e
              rw [List.getD_eq_getElem?_getD] at this
              exact this
            · rw [List.getD_eq_getElem?_getD, List.getD_eq_getElem?_getD, List.getElem?_append_left (by omega), List.getElem?_append_left (by omega)]
              have := up j (by omega)
              rw [List.getD_eq_getElem?_getD, List.getD_eq_getElem?_getD] at this
              exact this
        refine iteD (fun c3 => ?_) (fun c3 => ?_)
        · have c3 : (i : Int) > 0 := c3
          have at1 : xs[i - 1]? = some (.int (ns.getD (i - 1) 0)) := by
            have : (xs.take i)[i - 1]? = xs[i - 1]? := by rw [List.getElem?_take, if_pos (by omega)]
            rw [← this, en]
            exact at_get (by omega)
          refine ⟨_, .inr hc2, _, atI_of (j := i - 1) (by omega) at1, ?_⟩
          refine iteD (fun c4 => ?_) (fun c4 => ?_)
          · have c4 : ns.getD (i - 1) 0 < k := c4
            refine q false H2 y2 ⟨fun z => (by cases z), fun ⟨ms, hm⟩ => ?_⟩
            obtain ⟨e1, pr⟩ := no hm
            subst e1
            rw [List.length_map] at hi
            have := List.pairwise_iff_getElem.mp pr.2 (i - 1) i (by omega) hi (by omega)
            rw [at_get (by omega)] at at1
            have e5 := V.int.inj (Option.some.inj at1)
            rw [at_get hi] at hz
            have e6 := V.int.inj (Option.some.inj hz)
            rw [List.getD_eq_getElem?_getD, List.getElem?_eq_getElem (show i - 1 < ms.length by omega)] at e5
            rw [List.getD_eq_getElem?_getD, List.getElem?_eq_getElem hi] at e6
            simp only [Option.getD_some] at e5 e6
            omega
          · have c4 : ¬ ns.getD (i - 1) 0 < k := c4
            exact ⟨y2, nxt (fun j e => by rw [show j = i - 1 by omega]; omega), _, _, rfl⟩
        · have c3 : ¬ (i : Int) > 0 := c3
          exact ⟨y2, nxt (fun j e => by omega), _, _, rfl⟩
    · have noo : ¬ ∃ ms, PtV H (.ref c) ms := fun ⟨ms, hm⟩ => by
        obtain ⟨e1, pr⟩ := no hm
        rw [e1] at zm
        obtain ⟨k', hk', e2⟩ := List.mem_map.mp zm
        subst e2
        exact ei (Option.some.inj htt).symm
      have fin := q false H2 y2 ⟨fun z => (by cases z), fun z => absurd z noo⟩
      refine iteB (fun _ => fin) (fun c2 => ?_)
      refine ⟨tt, htt2, rfl, ?_⟩
      refine iteB (fun _ => fin) (fun c3 => ?_)
      exfalso
      unfold subTy at c2 c3
      simp [ei] at c2 c3
      exact c3 c2
  · rintro σ H' ⟨y, ⟨ns, en, h1, up⟩, x1, x2, rfl⟩
    rw [List.take_of_length_le (Nat.le_refl _)] at en
    subst en
    rw [List.length_map] at up
    exact q true H' y ⟨fun _ => ⟨ns, c, rfl, hc, h1, ge_all fun j hj => up j (by omega)⟩, fun _ => rfl⟩
theorem sc_du : FnScope ["_law_thing", "_law_nth", "_law_event", "_law_other"] ["_law_thing"] (defScope (top 16)) := ⟨rfl, rfl, rfl, by decide +kernel, rfl, by decide +kernel, by decide +kernel⟩
theorem ok_du (F : Fun K "_law_due" "_law_due" (top 16) f fd) (m_all : mg "all" = none) (m_any : mg "any" = none) (m_enumerate : mg "enumerate" = none) (m_isinstance : mg "isinstance" = none) (m_len : mg "len" = none) (m_tuple : mg "tuple" = none) (F_law_is_parting : FnA P w K mg base "_law_is_parting" 1 ["_law_thing"] sp_is) : FnOk P w K mg base CX0 2 f fd ["_law_thing"] sp_ae := by
  refine F.okz sc_du (fun vs H Q E h => ?_) (fun cdv A outer s H vs Q E hr h => ?_)
  · obtain ⟨x, rfl, _⟩ := h; rfl
  obtain ⟨x, rfl, ⟨⟨t, ht⟩, tx⟩, q⟩ := h
  have nd := sc_du.nd
  have hu := hr.units
  refine ⟨_, (zss_cons (zs_if (ZW.zt (zw_or (zt_not (zt_valP (zcb_isinstance rfl m_isinstance (za_cons (zn 0) (za_cons (zty_tuple rfl m_tuple) za_nil)) rfl rfl))) (zw_or1 (zt_cmpP op_gtP (zcb_len rfl m_len (za_cons (zn 0) za_nil) rfl rfl) ze_int (nomark _))))) (zss_one (zs_ret ze_bl)) zss_nil)
      (zss_cons (zs_if (zt_not (zt_valP (zcb_all rfl rfl m_all (za_cons (ze_comp ["_law_event"] [] rfl ⟨rfl, by decide +kernel, by decide +kernel, rfl, rfl⟩ (zi_tup (zn 0)) kpg_name (fun _ _ _ _ => zg_name (i := 0) (show List.Nodup (["_law_event"] : List Str) by decide +kernel) rfl (Or.inl rfl)) (fun _ _ _ _ => zif_nil) (fun _ _ _ _ => (ze_andP (ze_fn F_law_is_parting hr (by decide) rfl (za_cons (zn 0) za_nil)) (ze_one (ze_cmpR (op_neD hu) (zn 0) (ze_tup za_nil) (nomark _)))))) za_nil) rfl rfl))) (zss_one (zs_ret ze_bl)) zss_nil)
      (zss_cons (zs_for PassesOwn.never rfl (zi_enumK rfl m_enumerate (za_cons (zn 0) za_nil)) (zg_tup rfl (zgs_cons (zg_name (i := 1) nd rfl (Or.inl rfl)) (zgs_cons (zg_name (i := 2) nd rfl (Or.inl rfl)) zgs_nil))) (zss_one (zs_for PassesOwn.never rfl (zi_tup (ze_slice sl_P (zn 0) zo_none (zo_some (zn 1)))) (zg_name (i := 3) nd rfl (Or.inr rfl)) (zss_one (zs_if (zt_valP (zcb_any rfl rfl m_any (za_cons (ze_comp ["_law_part"] [("_law_other", 3)] rfl ⟨rfl, by decide +kernel, by decide +kernel, rfl, rfl⟩ (zi_tup (zn 2)) kpg_name (fun _ _ _ _ => zg_name (i := 0) (show List.Nodup (["_law_part", "_law_other"] : List Str) by decide +kernel) rfl (Or.inl rfl)) (fun _ _ _ _ => zif_nil) (fun _ _ _ _ => (ze_cmpR (op_in_seq' rfl) (zn 0) (zn 1) (by with_unfolding_all rfl)))) za_nil) rfl rfl)) (zss_one (zs_ret ze_bl)) zss_nil)))))
      (zss_one (zs_ret ze_bl))))), ?_⟩
  refine ⟨t, ht, rfl, ?_⟩
  rw [sub_tup]
  by_cases et : t = "tuple"
  rotate_left
  · rw [decide_eq_false et]
    exact q false H (Same.refl _) ⟨fun z => (by cases z), fun ⟨c, us, evs, e, hc, _⟩ => absurd (Option.some.inj (ht.symm.trans (by rw [e]; exact ty_of hc))) et⟩
  subst et
  rw [decide_eq_true rfl]
  obtain ⟨c, us, rfl, hc⟩ := ty_tup ht
  obtain ⟨lx, ty⟩ := tx c us rfl hc
  refine ⟨_, .inr hc, ?_⟩
  refine iteD (fun c2 => ?_) (fun c2 => ?_)
  · have c2 : (us.length : Int) > (12 : Int) := c2
    refine q false H (Same.refl _) ⟨fun z => (by cases z), fun z => absurd z (not_ev fun c' us' e h => .inl ?_)⟩
    cases e
    rw [hc] at h
    cases h
    omega
  have few : ¬ (us.length : Int) > (12 : Int) := c2
  refine ⟨c, rfl, ⟨_, SqT.of hc⟩, cmp_tup (xs := us) (fun i zs H' => Same H H' ∧ ∃ bs : List Bool, zs = bs.map V.bl ∧ bs.length = i ∧ ∀ j y, j < i → us[j]? = some y → (bs[j]? = some true ↔ ∃ ns, PtV H y ns ∧ ns ≠ [])) ⟨Same.refl _, [], rfl, rfl, (fun j y hj => absurd hj (Nat.not_lt_zero _))⟩ ?_ ?_ ?_⟩
  · rintro i zs H' _ ⟨y, _⟩
    exact SqT.of (y _ _ hc)
  · rintro i x zs H' hx ⟨y', bs, rfl, lb, hb⟩
    have hi : i < us.length := (List.getElem?_eq_some_iff.mp hx).1
    refine ⟨by rw [List.length_map]; exact small1000 (by omega), ?_⟩
    have k := Kp.same y'
    have tx1 := ty x (List.mem_of_getElem? hx)
    refine ⟨x, rfl, tx1.kp k, fun b H2 y2 iff => ?_⟩
    have nxt : ∀ (b2 : Bool) (H3 : Hp), Same H H3 → (b2 = true ↔ ∃ ns, PtV H x ns ∧ ns ≠ []) → Same H H3 ∧ ∃ bs' : List Bool, bs.map V.bl ++ [V.bl b2] = bs'.map V.bl ∧ bs'.length = i + 1 ∧ ∀ j y, j < i + 1 → us[j]? = some y → (bs'[j]? = some true ↔ ∃ ns, PtV H y ns ∧ ns ≠ []) := fun b2 H3 y3 iff2 => by
      refine ⟨y3, bs ++ [b2], by rw [List.map_append]; rfl, by rw [List.length_append, lb]; rfl, fun j y hj hy => ?_⟩
      by_cases e : j = i
      · subst e
        rw [hx] at hy
        cases hy
        rw [List.getElem?_append_right (by omega), lb, Nat.sub_self]
        show some b2 = some true ↔ _
        exact ⟨fun z => iff2.mp (Option.some.inj z), fun z => congrArg some (iff2.mpr z)⟩
      · rw [List.getElem?_append_left (by omega)]
        exact hb j y (by omega) hy
    cases b with
    | false =>
      refine nxt false H2 (y'.trans y2) ⟨fun z => (by cases z), fun ⟨ns, ⟨c', e, h', pr⟩, _⟩ => ?_⟩
      exact iff.mpr ⟨ns, c', e, y' _ _ h', pr⟩
    | true =>
      obtain ⟨ns, c', e, h', pr⟩ := iff.mp rfl
      have h0 := k.back tx1.1 e h'
      refine ⟨Nat.zero_le _, fun d hd => ?_⟩
      have yd := Same.new hd (.tup [])
      have gd : upd H2 d (.tup []) d = some (.tup (([] : List Int).map V.int)) := upd_same
      generalize upd H2 d (.tup []) = H3 at yd gd
      subst e
      refine ⟨_, _, .ints (yd _ _ (y2 _ _ h')), .ints gd, shaped_ints _, shaped_ints _, ?_⟩
      rw [if_pos rfl, eqv_tup]
      refine nxt _ H3 ((y'.trans y2).trans yd) ?_
      constructor
      · intro z
        exact ⟨ns, ⟨c', rfl, h0, pr⟩, fun e => by subst e; simp at z⟩
      · rintro ⟨ms, ⟨c'', e, h'', _⟩, ne⟩
        cases e
        rw [h0] at h''
        have e1 : ns = ms := by
          have := congrArg (List.map fun v : V => match v with | .int i => i | _ => 0) (HO.tup.inj (Option.some.inj h''))
          rw [List.map_map, List.map_map] at this
          simpa [Function.comp_def] using this
        subst e1
        simpa using ne
  · rintro zs H1 ⟨y1, bs, rfl, lb, hb⟩ D hD
    refine ⟨_, SqL.of upd_same, ?_⟩
    have yD := y1.trans (Same.new hD (.lst (bs.map V.bl)))
    generalize upd H1 D (.lst (bs.map V.bl)) = H2 at yD
    by_cases call : bs.all id = true
    rotate_left
    · rw [show bs.all id = false by simpa using call]
      refine q false H2 yD ⟨fun z => (by cases z), fun z => absurd z (not_ev fun c' us' e h => .inr ?_)⟩
      cases e
      rw [hc] at h
      cases h
      rw [all_bs] at call
      have : ∃ j, j < bs.length ∧ bs[j]? ≠ some true := Classical.byContradiction fun g => call fun j hj => Classical.byContradiction fun g2 => g ⟨j, hj, g2⟩
      obtain ⟨j, hj, g⟩ := this
      have hju : j < us.length := by omega
      refine ⟨us[j], List.getElem_mem hju, fun z => g ?_⟩
      exact (hb j us[j] (by omega) (List.getElem?_eq_getElem hju)).mpr z
    rw [call]
    have ap2 : ∀ y ∈ us, ∃ ns, PtV H y ns ∧ ns ≠ [] := fun y hy => by
      obtain ⟨j, hj, rfl⟩ := List.getElem_of_mem hy
      exact (hb j _ (by omega) (List.getElem?_eq_getElem hj)).mp (all_bs.mp call j (by omega))
    obtain ⟨evs, tp, prt⟩ := pt_all fun y hy => let ⟨ns, h, _⟩ := ap2 y hy; ⟨ns, h⟩
    have lu := tp.length
    have iffe := ev_one hc tp
    have one : ∀ j e, evs[j]? = some e → e.length ≤ 200 ∧ e ≠ [] := fun j e he => by
      have hj := (List.getElem?_eq_some_iff.mp he).1
      obtain ⟨ls, b, e1, e2, hb2⟩ := tp.get (List.getElem?_eq_getElem (show j < us.length by omega))
      rw [he] at e1
      obtain rfl := Option.some.inj e1
      refine ⟨?_, fun z => ?_⟩
      · have := ((ty us[j] (List.getElem_mem _)).2 b _ e2 hb2).1
        rw [List.length_map] at this
        exact this
      · obtain ⟨ns, ⟨c', e3, h3, _⟩, ne⟩ := ap2 us[j] (List.getElem_mem _)
        rw [e2] at e3
        cases e3
        rw [hb2] at h3
        have := HO.tup.inj (Option.some.inj h3)
        rw [z] at this
        exact ne (List.map_eq_nil_iff.mp this.symm)
    refine ⟨true, _, SqK.tup (yD _ _ hc), for_enumK (xs := us) (fun i σ H' => Same H H' ∧ (∀ a b : Nat, b < a → a < i → ∀ (e f : List Int), evs[a]? = some e → evs[b]? = some f → ∀ x ∈ e, x ∉ f) ∧ ∃ x1 x2 x3, σ = [some (.ref c), x1, x2, x3]) ⟨yD, (fun a b _ h => absurd h (Nat.not_lt_zero _)), _, _, _, rfl⟩ ?_ ?_ ?_⟩
    · rintro i σ H' _ ⟨y, _⟩
      exact SqK.tup (y _ _ hc)
    · rintro i x σ H' p hx ⟨y, dis, x1, x2, x3, rfl⟩ hp
      have hi : i < us.length := (List.getElem?_eq_some_iff.mp hx).1
      obtain ⟨e, b, he, rfl, hb2⟩ := tp.get hx
      have y2 := y.trans (Same.new hp (.tup [.int (i : Int), .ref b]))
      have gp : upd H' p (.tup [.int (i : Int), .ref b]) p = some (.tup [.int (i : Int), .ref b]) := upd_same
      generalize upd H' p (.tup [.int (i : Int), .ref b]) = H3 at y2 gp
      refine ⟨p, _, rfl, SqT.of gp, rfl, _, _, rfl, _, _, rfl, rfl, ?_⟩
      refine ⟨(i : Int), rfl, c, rfl, .inl ⟨_, y2 _ _ hc, fun r H4 y4 hr4 => ?_⟩⟩
      rw [cut_tk us i (by omega)] at hr4
      have y24 := y2.trans y4
      refine ⟨r, rfl, ⟨_, SqT.of hr4⟩, for_tup (xs := us.take i) (fun j σ H' => Same H4 H' ∧ (∀ b : Nat, b < j → ∀ f, evs[b]? = some f → ∀ x ∈ e, x ∉ f) ∧ ∃ x3, σ = [some (.ref c), some (.int (i : Int)), some (.ref b), x3]) ⟨Same.refl _, (fun b h => absurd h (Nat.not_lt_zero _)), _, rfl⟩ ?_ ?_ ?_⟩
      · rintro j σ H5 _ ⟨y5, _⟩
        exact SqT.of (y5 _ _ hr4)
      · rintro j z σ H5 hz ⟨y5, dj, x3', rfl⟩
        have hji : j < i := by
          have := (List.getElem?_eq_some_iff.mp hz).1
          rw [List.length_take] at this
          omega
        rw [List.getElem?_take, if_pos hji] at hz
        obtain ⟨fe, b3, hf, rfl, hb3⟩ := tp.get hz
        have y6 := y24.trans y5
        have le := (one i e he).1
        refine ⟨b, rfl, ⟨_, SqT.of (y6 _ _ hb2)⟩, cmp_tup (xs := e.map V.int) (fun k zs H6 => H6 = H5 ∧ k ≤ e.length ∧ zs = ((e.take k).map fun n => decide (n ∈ fe)).map V.bl) ⟨rfl, Nat.zero_le _, rfl⟩ ?_ ?_ ?_⟩
        · rintro k zs H6 _ ⟨rfl, _⟩
          exact SqT.of (y6 _ _ hb2)
        · rintro k v zs H6 hv ⟨rfl, hk, rfl⟩
          rw [List.getElem?_map] at hv
          cases hxx : e[k]? with
          | none => rw [hxx] at hv; cases hv
          | some n =>
            rw [hxx] at hv
            obtain rfl := Option.some.inj hv
            have hk' := (List.getElem?_eq_some_iff.mp hxx).1
            refine ⟨by rw [List.length_map, List.length_map, List.length_take]; exact small1000 (by omega), ?_⟩
            refine ⟨b3, _, rfl, .inr (SqT.of (y6 _ _ hb3)), rfl, flat_ints fe, ?_⟩
            rw [in_ints]
            refine ⟨rfl, hk', ?_⟩
            rw [List.take_succ, hxx, List.map_append, List.map_append]
            rfl
        · rintro zs H6 ⟨rfl, _, rfl⟩ D2 hD2
          rw [List.length_map, List.take_of_length_le (Nat.le_refl _)]
          refine ⟨_, SqL.of upd_same, ?_⟩
          have yD2 := Same.new hD2 (.lst ((e.map fun n => decide (n ∈ fe)).map V.bl))
          generalize upd H6 D2 (.lst ((e.map fun n => decide (n ∈ fe)).map V.bl)) = H7 at yD2
          by_cases cany : (e.map fun n => decide (n ∈ fe)).any id = true
          · rw [cany]
            refine q false H7 (y6.trans yD2) ⟨fun z => (by cases z), fun z => ?_⟩
            rw [List.any_map, List.any_eq_true] at cany
            obtain ⟨n, hn, hnf⟩ := cany
            exact absurd (of_decide_eq_true hnf) (apart_no (iffe.mp z).apart hji he hf n hn)
          · rw [show (e.map fun n => decide (n ∈ fe)).any id = false by simpa using cany]
            refine ⟨y5.trans yD2, fun b' hb' f' hf' x hx' => ?_, _, rfl⟩
            by_cases eb : b' = j
            · subst eb
              rw [hf] at hf'
              cases hf'
              intro hxf
              exact cany (List.any_eq_true.mpr ⟨true, List.mem_map.mpr ⟨x, hx', decide_eq_true hxf⟩, rfl⟩)
            · exact dj b' (by omega) f' hf' x hx'
      · rintro σ H5 ⟨y5, dj, x3', rfl⟩
        refine ⟨y24.trans y5, fun a b' hab ha e' f' he' hf' => ?_, _, _, _, rfl⟩
        by_cases ea : a = i
        · subst ea
          rw [he] at he'
          cases he'
          exact dj b' (by rw [List.length_take]; omega) f' hf'
        · exact dis a b' hab (by omega) e' f' he' hf'
    · rintro σ H' ⟨y, dis, x1, x2, x3, rfl⟩
      refine q true H' y ⟨fun _ => iffe.mpr ⟨by omega, fun x hx => ?_, prt, fun x hx => ?_, apart_ix fun a b hab e' f' he' hf' => dis a b hab (by have := (List.getElem?_eq_some_iff.mp he').1; omega) e' f' he' hf'⟩, fun _ => rfl⟩
      · obtain ⟨j, hj, rfl⟩ := List.getElem_of_mem hx
        have := (one j _ (List.getElem?_eq_getElem hj)).1
        omega
      · obtain ⟨j, hj, rfl⟩ := List.getElem_of_mem hx
        exact (one j _ (List.getElem?_eq_getElem hj)).2
end
end K53
set_option Elab.async false
set_option linter.all false
set_option maxRecDepth 100000
set_option maxHeartbeats 4000000
namespace K53
open PySem L2 M04 M54 M55
theorem t2_tup {H : Hp} {c : Addr} {xs : List V} (h : H c = some (.tup xs)) (l : xs.length ≤ 200) (f : ∀ y ∈ xs, T1 H y) : T2 H (.ref c) := ⟨⟨_, ty_of h⟩, fun c' xs' e h' => by
  cases e
  rw [h] at h'
  cases h'
  exact ⟨l, f⟩⟩
theorem t2_no {H : Hp} {c : Addr} {o : HO} {t : String} (h : H c = some o) (n : ∀ xs, o ≠ .tup xs) (ht : tyName H (.ref c) = some t) : T2 H (.ref c) := ⟨⟨_, ht⟩, fun c' xs' e h' => by
  cases e
  rw [h] at h'
  exact absurd (Option.some.inj h') (n xs')⟩
theorem t2_lst {H : Hp} {c : Addr} {xs : List V} (h : H c = some (.lst xs)) : T2 H (.ref c) := t2_no h (fun _ z => by cases z) (t := "list") (by unfold tyName; dsimp only; rw [h])
theorem t2_dk {H : Hp} {c : Addr} (h : H c = some (.dK [])) : T2 H (.ref c) := t2_no h (fun _ z => by cases z) (t := "dict") (by unfold tyName; dsimp only; rw [h])
theorem t2_sc {H : Hp} {x : V} (n : ∀ c, x ≠ .ref c) (h : T0 H x) : T2 H x := ⟨h, fun c xs e => absurd e (n c)⟩
theorem f1 {H : Hp} {a : V} (h : T1 H a) : ∀ y ∈ [a], T1 H y := fun y hy => by rw [List.mem_singleton.mp hy]; exact h
theorem f2 {H : Hp} {a b : V} (h : T1 H a) (h2 : T1 H b) : ∀ y ∈ [a, b], T1 H y := fun y hy => by
  rcases List.mem_cons.mp hy with z | z
  · rw [z]; exact h
  · rw [List.mem_singleton.mp z]; exact h2
noncomputable def AllT (H : Hp) (vs : List V) : Prop := ∀ v ∈ vs, T2 H v
theorem AllT.nil {H : Hp} : AllT H [] := fun v hv => nomatch hv
theorem AllT.kp {H H' : Hp} {vs : List V} (a : AllT H vs) (k : Kp H H') : AllT H' vs := fun v hv => (a v hv).kp k
theorem AllT.snoc {H : Hp} {vs : List V} {v : V} (a : AllT H vs) (t : T2 H v) : AllT H (vs ++ [v]) := fun u hu => by
  rcases List.mem_append.mp hu with z | z
  · exact a u z
  · rw [List.mem_singleton.mp z]; exact t
theorem AllT.app {H : Hp} {vs us : List V} (a : AllT H vs) (b : AllT H us) : AllT H (vs ++ us) := fun u hu => by
  rcases List.mem_append.mp hu with z | z
  · exact a u z
  · exact b u z
section
variable {P : Program} {w : World} {K : PySem.W.Frag} {mg : Str → Option Value} {base : Heap} {f : Addr} {fd : FuncData}
theorem sc_de : FnScope ["_law_thing", "_law_turn"] ["_law_thing"] (defScope (top 17)) := ⟨rfl, rfl, rfl, by decide +kernel, rfl, by decide +kernel, by decide +kernel⟩
noncomputable def sp_de : Sp := fun vs H Q _ => ∃ x, vs = [x] ∧ T2 H x ∧ ∀ y H', Same H H' → T2 H' y → Q y H'
theorem ok_de (F : Fun K "_law_deep" "_law_deep" (top 17) f fd) (m_range : mg "range" = none) : FnOk P w K mg base CX0 1 f fd ["_law_thing"] sp_de := by
  refine F.okz sc_de (fun vs H Q E h => ?_) (fun cdv A outer s H vs Q E hr h => ?_)
  · obtain ⟨x, rfl, _⟩ := h; rfl
  obtain ⟨x, rfl, tx, q⟩ := h
  have nd := sc_de.nd
  refine ⟨_, (zss_cons (zs_for PassesOwn.never rfl (zi_range1 rfl m_range (za_cons ze_int za_nil)) (zg_name (i := 1) nd rfl (Or.inl rfl)) (zss_one (zs_set (i := 0) nd rfl (Or.inl rfl) (ze_tup (za_cons (zn 0) za_nil)))))
      (zss_one (zs_ret (zn 0)))), ?_⟩
  refine ⟨24, rfl, by decide, by decide, ?_⟩
  refine for_range (fun i σ H' => Same H H' ∧ ∃ v x1, T2 H' v ∧ σ = [some v, x1]) ⟨Same.refl _, x, _, tx, rfl⟩ ?_ ?_
  · rintro i σ H' hi ⟨y, v, x1, tv, rfl⟩
    refine ⟨by show 1 ≤ sizeLine; decide, fun d hd => ?_⟩
    have yd := Same.new hd (.tup [v])
    exact ⟨y.trans yd, .ref d, _, t2_tup upd_same (show 1 ≤ 200 by decide) (f1 (tv.one.kp (Kp.same yd))), rfl⟩
  · rintro σ H' ⟨y, v, x1, tv, rfl⟩
    exact q v H' y tv
theorem sc_od : FnScope ["_law_hand_here", "_law_odd_here"] ["_law_hand_here"] (defScope (top 18)) := ⟨rfl, rfl, rfl, by decide +kernel, rfl, by decide +kernel, by decide +kernel⟩
noncomputable def sp_od : Sp := fun vs H Q _ => ∃ (p : Addr) (n : Nat), vs = [.ref p] ∧ Hand H p n ∧ n < 10000000 ∧ ∀ v H', Step p (n + 1) H H' → T2 H' v → Q v H'
theorem ok_od (F : Fun K "_law_odd" "_law_odd" (top 18) f fd)  (F_law_deep : FnA P w K mg base "_law_deep" 1 ["_law_thing"] sp_de) (F_law_pick : FnA P w K mg base "_law_pick" 2 ["_law_hand_here", "_law_some"] sp_pick) : FnOk P w K mg base CX0 3 f fd ["_law_hand_here"] sp_od := by
  refine F.okz sc_od (fun vs H Q E h => ?_) (fun cdv A outer s H vs Q E hr h => ?_)
  · obtain ⟨p, n, rfl, _⟩ := h; rfl
  obtain ⟨p, n, rfl, hh, hn, q⟩ := h
  have nd := sc_od.nd
  have z : Same H H := Same.refl _
  have al : AllT H [] := AllT.nil
  refine ⟨_, (zss_cons (zs_set (i := 1) nd rfl (Or.inl rfl) (ze_lst (za_cons ze_non (za_cons ze_bl (za_cons ze_bl (za_cons ze_int (za_cons ze_int (za_cons (ze_un un_neg ze_int) (za_cons ze_int (za_cons ze_str (za_cons ze_str (za_cons (ze_tup za_nil) (za_cons (ze_tup (za_cons ze_int za_nil)) (za_cons (ze_lst za_nil) (za_cons (ze_lst (za_cons ze_int za_nil)) (za_cons (ze_lst (za_cons (ze_tup (za_cons ze_int za_nil)) za_nil)) (za_cons (ze_tup (za_cons (ze_tup (za_cons ze_int za_nil)) za_nil)) (za_cons ze_dnewK (za_cons (ze_tup (za_cons (ze_tup za_nil) za_nil)) (za_cons (ze_tup (za_cons (ze_tup (za_cons ze_int za_nil)) (za_cons (ze_tup (za_cons ze_int za_nil)) za_nil))) za_nil))))))))))))))))))))
      (zss_one (zs_ret (ze_fn F_law_pick hr (by decide) rfl (za_cons (zn 0) (za_cons (ze_op op_addP (zn 1) (ze_lst (za_cons (ze_tup (za_cons ze_int za_nil)) (za_cons (ze_tup (za_cons ze_bl za_nil)) (za_cons (ze_tup (za_cons (ze_tup (za_cons ze_bl za_nil)) za_nil)) (za_cons (ze_tup (za_cons (ze_tup (za_cons ze_int (za_cons ze_int za_nil))) (za_cons (ze_tup (za_cons ze_int za_nil)) za_nil))) (za_cons (ze_tup (za_cons (ze_tup (za_cons ze_int (za_cons ze_int za_nil))) za_nil)) (za_cons (ze_fn F_law_deep hr (by decide) rfl (za_cons (ze_tup (za_cons ze_int za_nil)) za_nil)) (za_cons (ze_tup (za_cons (ze_lst (za_cons ze_int za_nil)) za_nil)) za_nil))))))))) za_nil)))))), ?_⟩
  have al := al.snoc (t2_sc (x := V.non) (by intro c e; cases e) ⟨_, rfl⟩)
  have al := al.snoc (t2_sc (x := V.bl true) (by intro c e; cases e) ⟨_, rfl⟩)
  have al := al.snoc (t2_sc (x := V.bl false) (by intro c e; cases e) ⟨_, rfl⟩)
  have al := al.snoc (t2_sc (x := V.int 0) (by intro c e; cases e) ⟨_, rfl⟩)
  have al := al.snoc (t2_sc (x := V.int 1) (by intro c e; cases e) ⟨_, rfl⟩)
  refine ⟨1, rfl, ?_⟩
  have al := al.snoc (t2_sc (x := V.int (-1)) (by intro c e; cases e) ⟨_, rfl⟩)
  have al := al.snoc (t2_sc (x := V.int 5) (by intro c e; cases e) ⟨_, rfl⟩)
  have al := al.snoc (t2_sc (x := V.str "") (by intro c e; cases e) ⟨_, rfl⟩)
  have al := al.snoc (t2_sc (x := V.str "1") (by intro c e; cases e) ⟨_, rfl⟩)
  refine ⟨Nat.zero_le _, fun a1 h1 => ?_⟩
  have y1 := Same.new h1 (.tup [])
  have t1 : T2 (upd H a1 (.tup [])) (.ref a1) := t2_tup upd_same (show 0 ≤ 200 by decide) (fun y hy => nomatch hy)
  have z := z.trans y1
  have al := al.kp (Kp.same y1)
  generalize upd H a1 (.tup []) = H1 at y1 z al t1
  have al := al.snoc (t1)
  refine ⟨by show 1 ≤ sizeLine; decide, fun a2 h2 => ?_⟩
  have y2 := Same.new h2 (.tup [V.int 1])
  have t2 : T2 (upd H1 a2 (.tup [V.int 1])) (.ref a2) := t2_tup upd_same (show 1 ≤ 200 by decide) (f1 ((t2_sc (x := (V.int (1))) (by intro c e; cases e) ⟨_, rfl⟩).one))
  have z := z.trans y2
  have al := al.kp (Kp.same y2)
  generalize upd H1 a2 (.tup [V.int 1]) = H2 at y2 z al t2
  have al := al.snoc (t2)
  refine ⟨Nat.zero_le _, fun a3 h3 => ?_⟩
  have y3 := Same.new h3 (.lst [])
  have t3 : T2 (upd H2 a3 (.lst [])) (.ref a3) := t2_lst upd_same
  have z := z.trans y3
  have al := al.kp (Kp.same y3)
  generalize upd H2 a3 (.lst []) = H3 at y3 z al t3
  have al := al.snoc (t3)
  refine ⟨by show 1 ≤ sizeLine; decide, fun a4 h4 => ?_⟩
  have y4 := Same.new h4 (.lst [V.int 1])
  have t4 : T2 (upd H3 a4 (.lst [V.int 1])) (.ref a4) := t2_lst upd_same
  have z := z.trans y4
  have al := al.kp (Kp.same y4)
  generalize upd H3 a4 (.lst [V.int 1]) = H4 at y4 z al t4
  have al := al.snoc (t4)
  refine ⟨by show 1 ≤ sizeLine; decide, fun a5 h5 => ?_⟩
  have y5 := Same.new h5 (.tup [V.int 1])
  have t5 : T2 (upd H4 a5 (.tup [V.int 1])) (.ref a5) := t2_tup upd_same (show 1 ≤ 200 by decide) (f1 ((t2_sc (x := (V.int (1))) (by intro c e; cases e) ⟨_, rfl⟩).one))
  have z := z.trans y5
  have al := al.kp (Kp.same y5)
  generalize upd H4 a5 (.tup [V.int 1]) = H5 at y5 z al t5
  refine ⟨by show 1 ≤ sizeLine; decide, fun a6 h6 => ?_⟩
  have y6 := Same.new h6 (.lst [V.ref a5])
  have t6 : T2 (upd H5 a6 (.lst [V.ref a5])) (.ref a6) := t2_lst upd_same
  have z := z.trans y6
  have al := al.kp (Kp.same y6)
  generalize upd H5 a6 (.lst [V.ref a5]) = H6 at y6 z al t6
  have al := al.snoc (t6)
  refine ⟨by show 1 ≤ sizeLine; decide, fun a7 h7 => ?_⟩
  have y7 := Same.new h7 (.tup [V.int 1])
  have t7 : T2 (upd H6 a7 (.tup [V.int 1])) (.ref a7) := t2_tup upd_same (show 1 ≤ 200 by decide) (f1 ((t2_sc (x := (V.int (1))) (by intro c e; cases e) ⟨_, rfl⟩).one))
  have z := z.trans y7
  have al := al.kp (Kp.same y7)
  generalize upd H6 a7 (.tup [V.int 1]) = H7 at y7 z al t7
  refine ⟨by show 1 ≤ sizeLine; decide, fun a8 h8 => ?_⟩
  have y8 := Same.new h8 (.tup [V.ref a7])
  have t8 : T2 (upd H7 a8 (.tup [V.ref a7])) (.ref a8) := t2_tup upd_same (show 1 ≤ 200 by decide) (f1 ((t7.one).kp (Kp.same y8)))
  have z := z.trans y8
  have al := al.kp (Kp.same y8)
  generalize upd H7 a8 (.tup [V.ref a7]) = H8 at y8 z al t8
  have al := al.snoc (t8)
  intro a9 h9
  have y9 := Same.new h9 (.dK [])
  have t9 : T2 (upd H8 a9 (.dK [])) (.ref a9) := t2_dk upd_same
  have z := z.trans y9
  have al := al.kp (Kp.same y9)
  generalize upd H8 a9 (.dK []) = H9 at y9 z al t9
  have al := al.snoc (t9)
  refine ⟨Nat.zero_le _, fun a10 h10 => ?_⟩
  have y10 := Same.new h10 (.tup [])
  have t10 : T2 (upd H9 a10 (.tup [])) (.ref a10) := t2_tup upd_same (show 0 ≤ 200 by decide) (fun y hy => nomatch hy)
  have z := z.trans y10
  have al := al.kp (Kp.same y10)
  generalize upd H9 a10 (.tup []) = H10 at y10 z al t10
  refine ⟨by show 1 ≤ sizeLine; decide, fun a11 h11 => ?_⟩
  have y11 := Same.new h11 (.tup [V.ref a10])
  have t11 : T2 (upd H10 a11 (.tup [V.ref a10])) (.ref a11) := t2_tup upd_same (show 1 ≤ 200 by decide) (f1 ((t10.one).kp (Kp.same y11)))
  have z := z.trans y11
  have al := al.kp (Kp.same y11)
  generalize upd H10 a11 (.tup [V.ref a10]) = H11 at y11 z al t11
  have al := al.snoc (t11)
  refine ⟨by show 1 ≤ sizeLine; decide, fun a12 h12 => ?_⟩
  have y12 := Same.new h12 (.tup [V.int 1])
  have t12 : T2 (upd H11 a12 (.tup [V.int 1])) (.ref a12) := t2_tup upd_same (show 1 ≤ 200 by decide) (f1 ((t2_sc (x := (V.int (1))) (by intro c e; cases e) ⟨_, rfl⟩).one))
  have z := z.trans y12
  have al := al.kp (Kp.same y12)
  generalize upd H11 a12 (.tup [V.int 1]) = H12 at y12 z al t12
  refine ⟨by show 1 ≤ sizeLine; decide, fun a13 h13 => ?_⟩
  have y13 := Same.new h13 (.tup [V.int 1])
  have t13 : T2 (upd H12 a13 (.tup [V.int 1])) (.ref a13) := t2_tup upd_same (show 1 ≤ 200 by decide) (f1 ((t2_sc (x := (V.int (1))) (by intro c e; cases e) ⟨_, rfl⟩).one))
  have z := z.trans y13
  have al := al.kp (Kp.same y13)
  generalize upd H12 a13 (.tup [V.int 1]) = H13 at y13 z al t13
  refine ⟨by show 2 ≤ sizeLine; decide, fun a14 h14 => ?_⟩
  have y14 := Same.new h14 (.tup [V.ref a12, V.ref a13])
  have t14 : T2 (upd H13 a14 (.tup [V.ref a12, V.ref a13])) (.ref a14) := t2_tup upd_same (show 2 ≤ 200 by decide) (f2 ((((t12.one).kp (Kp.same y13))).kp (Kp.same y14)) ((t13.one).kp (Kp.same y14)))
  have z := z.trans y14
  have al := al.kp (Kp.same y14)
  generalize upd H13 a14 (.tup [V.ref a12, V.ref a13]) = H14 at y14 z al t14
  have al := al.snoc (t14)
  refine ⟨by show 18 ≤ sizeLine; decide, fun a15 h15 => ?_⟩
  have y15 := Same.new h15 (.lst [V.non, V.bl true, V.bl false, V.int 0, V.int 1, V.int (-1), V.int 5, V.str "", V.str "1", V.ref a1, V.ref a2, V.ref a3, V.ref a4, V.ref a6, V.ref a8, V.ref a9, V.ref a11, V.ref a14])
  have g1 : upd H14 a15 (.lst [V.non, V.bl true, V.bl false, V.int 0, V.int 1, V.int (-1), V.int 5, V.str "", V.str "1", V.ref a1, V.ref a2, V.ref a3, V.ref a4, V.ref a6, V.ref a8, V.ref a9, V.ref a11, V.ref a14]) a15 = some (.lst [V.non, V.bl true, V.bl false, V.int 0, V.int 1, V.int (-1), V.int 5, V.str "", V.str "1", V.ref a1, V.ref a2, V.ref a3, V.ref a4, V.ref a6, V.ref a8, V.ref a9, V.ref a11, V.ref a14]) := upd_same
  have z := z.trans y15
  have al : AllT _ [V.non, V.bl true, V.bl false, V.int 0, V.int 1, V.int (-1), V.int 5, V.str "", V.str "1", V.ref a1, V.ref a2, V.ref a3, V.ref a4, V.ref a6, V.ref a8, V.ref a9, V.ref a11, V.ref a14] := al.kp (Kp.same y15)
  generalize upd H14 a15 (.lst [V.non, V.bl true, V.bl false, V.int 0, V.int 1, V.int (-1), V.int 5, V.str "", V.str "1", V.ref a1, V.ref a2, V.ref a3, V.ref a4, V.ref a6, V.ref a8, V.ref a9, V.ref a11, V.ref a14]) = H15 at z al g1 y15
  have al1 := al
  have zk : Same H15 H15 := Same.refl _
  have al : AllT H15 [] := AllT.nil
  refine ⟨by show 1 ≤ sizeLine; decide, fun a16 h16 => ?_⟩
  have y16 := Same.new h16 (.tup [V.int 0])
  have t16 : T2 (upd H15 a16 (.tup [V.int 0])) (.ref a16) := t2_tup upd_same (show 1 ≤ 200 by decide) (f1 ((t2_sc (x := (V.int (0))) (by intro c e; cases e) ⟨_, rfl⟩).one))
  have z := z.trans y16
  have al := al.kp (Kp.same y16)
  generalize upd H15 a16 (.tup [V.int 0]) = H16 at y16 z al t16
  have al := al.snoc (t16)
  refine ⟨by show 1 ≤ sizeLine; decide, fun a17 h17 => ?_⟩
  have y17 := Same.new h17 (.tup [V.bl true])
  have t17 : T2 (upd H16 a17 (.tup [V.bl true])) (.ref a17) := t2_tup upd_same (show 1 ≤ 200 by decide) (f1 ((t2_sc (x := V.bl true) (by intro c e; cases e) ⟨_, rfl⟩).one))
  have z := z.trans y17
  have al := al.kp (Kp.same y17)
  generalize upd H16 a17 (.tup [V.bl true]) = H17 at y17 z al t17
  have al := al.snoc (t17)
  refine ⟨by show 1 ≤ sizeLine; decide, fun a18 h18 => ?_⟩
  have y18 := Same.new h18 (.tup [V.bl true])
  have t18 : T2 (upd H17 a18 (.tup [V.bl true])) (.ref a18) := t2_tup upd_same (show 1 ≤ 200 by decide) (f1 ((t2_sc (x := V.bl true) (by intro c e; cases e) ⟨_, rfl⟩).one))
  have z := z.trans y18
  have al := al.kp (Kp.same y18)
  generalize upd H17 a18 (.tup [V.bl true]) = H18 at y18 z al t18
  refine ⟨by show 1 ≤ sizeLine; decide, fun a19 h19 => ?_⟩
  have y19 := Same.new h19 (.tup [V.ref a18])
  have t19 : T2 (upd H18 a19 (.tup [V.ref a18])) (.ref a19) := t2_tup upd_same (show 1 ≤ 200 by decide) (f1 ((t18.one).kp (Kp.same y19)))
  have z := z.trans y19
  have al := al.kp (Kp.same y19)
  generalize upd H18 a19 (.tup [V.ref a18]) = H19 at y19 z al t19
  have al := al.snoc (t19)
  refine ⟨by show 2 ≤ sizeLine; decide, fun a20 h20 => ?_⟩
  have y20 := Same.new h20 (.tup [V.int 2, V.int 1])
  have t20 : T2 (upd H19 a20 (.tup [V.int 2, V.int 1])) (.ref a20) := t2_tup upd_same (show 2 ≤ 200 by decide) (f2 ((t2_sc (x := (V.int (2))) (by intro c e; cases e) ⟨_, rfl⟩).one) ((t2_sc (x := (V.int (1))) (by intro c e; cases e) ⟨_, rfl⟩).one))
  have z := z.trans y20
  have al := al.kp (Kp.same y20)
  generalize upd H19 a20 (.tup [V.int 2, V.int 1]) = H20 at y20 z al t20
  refine ⟨by show 1 ≤ sizeLine; decide, fun a21 h21 => ?_⟩
  have y21 := Same.new h21 (.tup [V.int 1])
  have t21 : T2 (upd H20 a21 (.tup [V.int 1])) (.ref a21) := t2_tup upd_same (show 1 ≤ 200 by decide) (f1 ((t2_sc (x := (V.int (1))) (by intro c e; cases e) ⟨_, rfl⟩).one))
  have z := z.trans y21
  have al := al.kp (Kp.same y21)
  generalize upd H20 a21 (.tup [V.int 1]) = H21 at y21 z al t21
  refine ⟨by show 2 ≤ sizeLine; decide, fun a22 h22 => ?_⟩
  have y22 := Same.new h22 (.tup [V.ref a20, V.ref a21])
  have t22 : T2 (upd H21 a22 (.tup [V.ref a20, V.ref a21])) (.ref a22) := t2_tup upd_same (show 2 ≤ 200 by decide) (f2 ((((t20.one).kp (Kp.same y21))).kp (Kp.same y22)) ((t21.one).kp (Kp.same y22)))
  have z := z.trans y22
  have al := al.kp (Kp.same y22)
  generalize upd H21 a22 (.tup [V.ref a20, V.ref a21]) = H22 at y22 z al t22
  have al := al.snoc (t22)
  refine ⟨by show 2 ≤ sizeLine; decide, fun a23 h23 => ?_⟩
  have y23 := Same.new h23 (.tup [V.int 1, V.int 2])
  have t23 : T2 (upd H22 a23 (.tup [V.int 1, V.int 2])) (.ref a23) := t2_tup upd_same (show 2 ≤ 200 by decide) (f2 ((t2_sc (x := (V.int (1))) (by intro c e; cases e) ⟨_, rfl⟩).one) ((t2_sc (x := (V.int (2))) (by intro c e; cases e) ⟨_, rfl⟩).one))
  have z := z.trans y23
  have al := al.kp (Kp.same y23)
  generalize upd H22 a23 (.tup [V.int 1, V.int 2]) = H23 at y23 z al t23
  refine ⟨by show 1 ≤ sizeLine; decide, fun a24 h24 => ?_⟩
  have y24 := Same.new h24 (.tup [V.ref a23])
  have t24 : T2 (upd H23 a24 (.tup [V.ref a23])) (.ref a24) := t2_tup upd_same (show 1 ≤ 200 by decide) (f1 ((t23.one).kp (Kp.same y24)))
  have z := z.trans y24
  have al := al.kp (Kp.same y24)
  generalize upd H23 a24 (.tup [V.ref a23]) = H24 at y24 z al t24
  have al := al.snoc (t24)
  refine ⟨by show 1 ≤ sizeLine; decide, fun a25 h25 => ?_⟩
  have y25 := Same.new h25 (.tup [V.int 1])
  have t25 : T2 (upd H24 a25 (.tup [V.int 1])) (.ref a25) := t2_tup upd_same (show 1 ≤ 200 by decide) (f1 ((t2_sc (x := (V.int (1))) (by intro c e; cases e) ⟨_, rfl⟩).one))
  have z := z.trans y25
  have al := al.kp (Kp.same y25)
  generalize upd H24 a25 (.tup [V.int 1]) = H25 at y25 z al t25
  refine ⟨_, rfl, t25, fun vd H26 y26 td => ?_⟩
  have z := z.trans y26
  have al := al.kp (Kp.same y26)
  have al := al.snoc td
  refine ⟨by show 1 ≤ sizeLine; decide, fun a27 h27 => ?_⟩
  have y27 := Same.new h27 (.lst [V.int 1])
  have t27 : T2 (upd H26 a27 (.lst [V.int 1])) (.ref a27) := t2_lst upd_same
  have z := z.trans y27
  have al := al.kp (Kp.same y27)
  generalize upd H26 a27 (.lst [V.int 1]) = H27 at y27 z al t27
  refine ⟨by show 1 ≤ sizeLine; decide, fun a28 h28 => ?_⟩
  have y28 := Same.new h28 (.tup [V.ref a27])
  have t28 : T2 (upd H27 a28 (.tup [V.ref a27])) (.ref a28) := t2_tup upd_same (show 1 ≤ 200 by decide) (f1 ((t27.one).kp (Kp.same y28)))
  have z := z.trans y28
  have al := al.kp (Kp.same y28)
  generalize upd H27 a28 (.tup [V.ref a27]) = H28 at y28 z al t28
  have al := al.snoc (t28)
  refine ⟨by show 7 ≤ sizeLine; decide, fun a29 h29 => ?_⟩
  have y29 := Same.new h29 (.lst [V.ref a16, V.ref a17, V.ref a19, V.ref a22, V.ref a24, vd, V.ref a28])
  have g2 : upd H28 a29 (.lst [V.ref a16, V.ref a17, V.ref a19, V.ref a22, V.ref a24, vd, V.ref a28]) a29 = some (.lst [V.ref a16, V.ref a17, V.ref a19, V.ref a22, V.ref a24, vd, V.ref a28]) := upd_same
  have z := z.trans y29
  have al : AllT _ [V.ref a16, V.ref a17, V.ref a19, V.ref a22, V.ref a24, vd, V.ref a28] := al.kp (Kp.same y29)
  generalize upd H28 a29 (.lst [V.ref a16, V.ref a17, V.ref a19, V.ref a22, V.ref a24, vd, V.ref a28]) = H29 at z al g2 y29
  have zk : Same H15 H29 := (((((((((((((y16).trans y17).trans y18).trans y19).trans y20).trans y21).trans y22).trans y23).trans y24).trans y25).trans y26).trans y27).trans y28).trans y29
  have g1 := zk _ _ g1
  have al1 := al1.kp (Kp.same zk)
  refine .inl ⟨_, _, g1, g2, by show 18 + 7 ≤ sizeLine; decide, fun N hN => ?_⟩
  have pN0 : N ≠ p := (hh.same z).ne hN
  have yN := Same.new hN (.lst ([V.non, V.bl true, V.bl false, V.int 0, V.int 1, V.int (-1), V.int 5, V.str "", V.str "1", V.ref a1, V.ref a2, V.ref a3, V.ref a4, V.ref a6, V.ref a8, V.ref a9, V.ref a11, V.ref a14] ++ [V.ref a16, V.ref a17, V.ref a19, V.ref a22, V.ref a24, vd, V.ref a28]))
  have gN : upd H29 N (.lst ([V.non, V.bl true, V.bl false, V.int 0, V.int 1, V.int (-1), V.int 5, V.str "", V.str "1", V.ref a1, V.ref a2, V.ref a3, V.ref a4, V.ref a6, V.ref a8, V.ref a9, V.ref a11, V.ref a14] ++ [V.ref a16, V.ref a17, V.ref a19, V.ref a22, V.ref a24, vd, V.ref a28])) N = some (.lst ([V.non, V.bl true, V.bl false, V.int 0, V.int 1, V.int (-1), V.int 5, V.str "", V.str "1", V.ref a1, V.ref a2, V.ref a3, V.ref a4, V.ref a6, V.ref a8, V.ref a9, V.ref a11, V.ref a14] ++ [V.ref a16, V.ref a17, V.ref a19, V.ref a22, V.ref a24, vd, V.ref a28])) := upd_same
  have al := (al1.app al).kp (Kp.same yN)
  have z := z.trans yN
  generalize upd H29 N (.lst ([V.non, V.bl true, V.bl false, V.int 0, V.int 1, V.int (-1), V.int 5, V.str "", V.str "1", V.ref a1, V.ref a2, V.ref a3, V.ref a4, V.ref a6, V.ref a8, V.ref a9, V.ref a11, V.ref a14] ++ [V.ref a16, V.ref a17, V.ref a19, V.ref a22, V.ref a24, vd, V.ref a28])) = HN at al gN z
  have hhN := hh.same z
  have pN : N ≠ p := pN0
  refine ⟨p, N, _, n, rfl, hhN, by omega, gN, pN, by show 0 < 25; decide, by show 25 ≤ 1000; decide, fun v HL hv st => ?_⟩
  exact q v HL ((Step.of_same hh z).trans st) ((al v hv).kp (Kp.step hhN st))
end
end K53
set_option Elab.async false
set_option linter.all false
set_option maxRecDepth 100000
set_option exponentiation.threshold 3000
set_option maxHeartbeats 4000000
namespace M27
open PySem L2 MRow
theorem size_up {a b m : Int} (hm : 1 ≤ m) : Builtin.Range.rangeSize a b m = if a < b then (b - a - 1) / m + 1 else 0 := by
  unfold Builtin.Range.rangeSize
  rw [if_pos (by omega)]
theorem small_up {a b m : Int} (hm : 1 ≤ m) (hm' : m ≤ 1000000) (ha : 0 ≤ a) (ha' : a ≤ 1000000) (hb : 0 ≤ b) (hb' : b ≤ 1000000) : Builtin.Range.small a b m = true := by
  have e := size_up (a := a) (b := b) hm
  unfold Builtin.Range.small
  rw [e]
  by_cases hab : a < b
  · rw [if_pos hab]
    have h0 : 0 ≤ (b - a - 1) / m := Int.ediv_nonneg (by omega) (by omega)
    have h1 : (b - a - 1) / m ≤ b - a - 1 := Int.ediv_le_self _ (by omega)
    simp only [Builtin.Range.rangeFitsLong, Bool.and_eq_true, Bool.or_eq_true, decide_eq_true_eq, beq_iff_eq, show m > 0 by omega, if_true]
    generalize (b - a - 1) / m = k at h0 h1
    omega
  · rw [if_neg hab]
    simp only [Builtin.Range.rangeFitsLong, Bool.and_eq_true, Bool.or_eq_true, decide_eq_true_eq, beq_iff_eq, show m > 0 by omega, if_true]
    omega
end M27
set_option Elab.async false
set_option linter.all false
set_option maxRecDepth 100000
set_option maxHeartbeats 4000000
namespace K53
open PySem L2 M04 M54 M55
noncomputable def nums : List Int := ((List.range 60).map fun (j : Nat) => (1 : Int) + (j : Int) * 1) ++ [10 ^ 6, 10 ^ 30]
theorem nums_nd : nums.Nodup := by decide +kernel
theorem nums_pos : ∀ x ∈ nums, (1 : Int) ≤ x := by decide +kernel
theorem nums_len : nums.length = 62 := by decide +kernel
structure EvG (evs : List (List Int)) : Prop where
  prt : ∀ x ∈ evs, Prt x
  some : ∀ x ∈ evs, x ≠ []
  short : ∀ x ∈ evs, x.length ≤ 16
  apart : Apart evs
theorem EvG.nil : EvG [] := ⟨(fun x hx => nomatch hx), (fun x hx => nomatch hx), (fun x hx => nomatch hx), trivial⟩
theorem EvG.snoc {evs : List (List Int)} {e : List Int} (g : EvG evs) (pr : Prt e) (ne : e ≠ []) (l : e.length ≤ 16) (ap : ∀ f ∈ evs, ∀ x ∈ e, x ∉ f) : EvG (evs ++ [e]) := by
  refine ⟨fun x hx => ?_, fun x hx => ?_, fun x hx => ?_, g.apart.snoc ap⟩
  all_goals
    rcases List.mem_append.mp hx with z | z
    · first | exact g.prt x z | exact g.some x z | exact g.short x z
    · rw [List.mem_singleton.mp z]; first | exact pr | exact ne | exact l
theorem cons_er {α : Type} : ∀ (l : List α) (i : Nat) (h : i < l.length), (l[i] :: l.eraseIdx i).Perm l
  | a :: l, 0, _ => .refl _
  | a :: l, i + 1, h => (List.Perm.swap a _ _).trans (.cons a (cons_er l i (Nat.lt_of_succ_lt_succ h)))
theorem er_map : ∀ (l : List Int) (i : Nat), (l.map V.int).eraseIdx i = (l.eraseIdx i).map V.int
  | [], _ => rfl
  | a :: l, 0 => rfl
  | a :: l, i + 1 => by show V.int a :: (l.map V.int).eraseIdx i = _; rw [er_map l i]; rfl
theorem Step.upd {p L : Addr} {k : Nat} {H H1 : Hp} {o : HO} (st : Step p k H H1) (hL : H L = none) (ne : L ≠ p) : Step p k H (upd H1 L o) :=
  ⟨fun b o' kb e => by rw [upd_ne (fun z => by rw [z, hL] at e; cases e)]; exact st.1 b o' kb e, by
    obtain ⟨g, s, c, e, r⟩ := st.2
    exact ⟨g, s, c, by rw [upd_ne (fun z => ne z.symm)]; exact e, r⟩⟩
section
variable {P : Program} {w : World} {K : PySem.W.Frag} {mg : Str → Option Value} {base : Heap} {f : Addr} {fd : FuncData}
theorem sc_se : FnScope ["_law_hand_here", "_law_many", "_law_left", "_law_found", "_law_k", "_law_parts", "_law_turn"] ["_law_hand_here", "_law_many"] (defScope (top 14)) := ⟨rfl, rfl, rfl, by decide +kernel, rfl, by decide +kernel, by decide +kernel⟩
noncomputable def sp_se : Sp := fun vs H Q _ => ∃ (p : Addr) (n m : Nat), vs = [.ref p, .int m] ∧ Hand H p n ∧ n < 1000000 ∧ m ≤ 13 ∧ ∀ r us evs H', Step p (n + 200) H H' → H' r = some (.tup us) → Tps H' us evs → evs.length = m → EvG evs → Q (.ref r) H'
theorem ok_se (F : Fun K "_law_some_events" "_law_some_events" (top 14) f fd) (m_len : mg "len" = none) (m_list : mg "list" = none) (m_range : mg "range" = none) (m_tuple : mg "tuple" = none) (F_law_falling : FnA P w K mg base "_law_falling" 1 ["_law_parts"] sp_fall) (F_law_take : FnA P w K mg base "_law_take" 1 ["_law_hand_here", "_law_many"] sp_take) : FnOk P w K mg base CX0 2 f fd ["_law_hand_here", "_law_many"] sp_se := by
  refine F.okz sc_se (fun vs H Q E h => ?_) (fun cdv A outer s H vs Q E hr h => ?_)
  · obtain ⟨p, n, m, rfl, _⟩ := h; rfl
  obtain ⟨p, n, m, rfl, hh, hn, hm, q⟩ := h
  have nd := sc_se.nd
  have hu := hr.units
  refine ⟨_, (zss_cons (zs_par (i := 2) (j := 3) rfl nd rfl rfl (by decide) rfl rfl (za_cons (ze_op op_addP (zcb_lrange rfl rfl m_list (za_cons (zcb_range rfl m_range (za_cons ze_int (za_cons ze_int za_nil)) rfl rfl) za_nil) rfl rfl) (ze_lst (za_cons (ze_op op_powP ze_int ze_int) (za_cons (ze_op op_powP ze_int ze_int) za_nil)))) (za_cons (ze_lst za_nil) za_nil)) rfl)
      (zss_cons (zs_for PassesOwn.never rfl (zi_range1 rfl m_range (za_cons (zn 1) za_nil)) (zg_name (i := 4) nd rfl (Or.inl rfl)) (zss_cons (zs_set (i := 5) nd rfl (Or.inl rfl) (ze_lst za_nil))
      (zss_cons (zs_for PassesOwn.never rfl (zi_range1 rfl m_range (za_cons (ze_op op_addP ze_int (ze_fn F_law_take hr (by decide) rfl (za_cons (zn 0) (za_cons ze_int za_nil)))) za_nil)) (zg_name (i := 6) nd rfl (Or.inl rfl)) (zss_one (zs_set (i := 5) nd rfl (Or.inl rfl) (ze_op op_addP (zn 5) (ze_op op_mulQ (ze_lst (za_cons (zm_popK (zn 2) (za_cons (ze_fn F_law_take hr (by decide) rfl (za_cons (zn 0) (za_cons (zcb_len rfl m_len (za_cons (zn 2) za_nil) rfl rfl) za_nil))) za_nil)) za_nil)) (ze_op op_addP ze_int (ze_fn F_law_take hr (by decide) rfl (za_cons (zn 0) (za_cons ze_int za_nil)))))))))
      (zss_one (zs_expr (zm_append (zn 3) (za_cons (ze_fn F_law_falling hr (by decide) rfl (za_cons (zn 5) za_nil)) za_nil)))))))
      (zss_one (zs_ret (zcb_tuple rfl m_tuple (za_cons (zn 3) za_nil) rfl rfl))))), ?_⟩
  refine fun rp hrp => ?_
  have y1 := Same.new hrp (rngO rp 1 61 1)
  have es : Builtin.Range.rangeSize 1 61 1 = 60 := by decide +kernel
  have g1 : upd H rp (rngO rp 1 61 1) rp = some (rngO rp 1 61 1) := upd_same
  generalize upd H rp (rngO rp 1 61 1) = H1 at y1 g1
  refine ⟨1, 61, 1, g1, M27.small_up (by decide) (by decide) (by decide) (by decide) (by decide) (by decide), by decide, by rw [es]; decide, fun l0 hl0 => ?_⟩
  rw [es]
  have y2 := Same.new hl0 (.lst (((List.range (Int.toNat 60)).map fun (k : Nat) => (1 : Int) + (k : Int) * 1).map V.int))
  have g2 : upd H1 l0 (.lst (((List.range (Int.toNat 60)).map fun (k : Nat) => (1 : Int) + (k : Int) * 1).map V.int)) l0 = some (.lst (((List.range (Int.toNat 60)).map fun (k : Nat) => (1 : Int) + (k : Int) * 1).map V.int)) := upd_same
  have z2 := y1.trans y2
  generalize upd H1 l0 (.lst (((List.range (Int.toNat 60)).map fun (k : Nat) => (1 : Int) + (k : Int) * 1).map V.int)) = H2 at g2 z2
  refine ⟨⟨by decide, by decide, by decide⟩, ?_⟩
  refine ⟨⟨by decide, by decide, by decide⟩, ?_⟩
  refine ⟨by show 2 ≤ sizeLine; decide, fun l1 hl1 => ?_⟩
  have y3 := Same.new hl1 (.lst [V.int (10 ^ Int.toNat 6), .int (10 ^ Int.toNat 30)])
  have g3 : upd H2 l1 (.lst [V.int (10 ^ Int.toNat 6), .int (10 ^ Int.toNat 30)]) l1 = some (.lst [V.int (10 ^ Int.toNat 6), .int (10 ^ Int.toNat 30)]) := upd_same
  have z3 := z2.trans y3
  have g2 := y3 _ _ g2
  generalize upd H2 l1 (.lst [V.int (10 ^ Int.toNat 6), .int (10 ^ Int.toNat 30)]) = H3 at g2 g3 z3
  refine .inl ⟨_, _, g2, g3, by rw [List.length_map, List.length_map, List.length_range]; show 60 + 2 ≤ sizeLine; decide, fun L hL => ?_⟩
  have en : (((List.range (Int.toNat 60)).map fun (k : Nat) => (1 : Int) + (k : Int) * 1).map V.int) ++ [V.int (10 ^ Int.toNat 6), .int (10 ^ Int.toNat 30)] = nums.map V.int := by
    unfold nums
    rw [List.map_append]
    rfl
  have eg : upd H3 L (.lst ((((List.range (Int.toNat 60)).map fun (k : Nat) => (1 : Int) + (k : Int) * 1).map V.int) ++ [V.int (10 ^ Int.toNat 6), .int (10 ^ Int.toNat 30)])) = upd H3 L (.lst (nums.map V.int)) := by rw [en]
  have y4 := Same.new hL (.lst (nums.map V.int))
  have g4 : upd H3 L (.lst (nums.map V.int)) L = some (.lst (nums.map V.int)) := upd_same
  have z4 := z3.trans y4
  have LH : H L = none := fresh_back z3 hL
  have Lp : L ≠ p := (hh.same z3).ne hL
  rw [eg]
  clear eg
  generalize upd H3 L (.lst (nums.map V.int)) = H4 at g4 z4
  refine ⟨Nat.zero_le _, fun Fd hFd => ?_⟩
  have y5 := Same.new hFd (.lst [])
  have g5 : upd H4 Fd (.lst []) Fd = some (.lst []) := upd_same
  have z5 := z4.trans y5
  have FH : H Fd = none := fresh_back z4 hFd
  have Fp : Fd ≠ p := (hh.same z4).ne hFd
  have FL : Fd ≠ L := fun e => by rw [e, g4] at hFd; cases hFd
  have g4 := y5 _ _ g4
  generalize upd H4 Fd (.lst []) = H5 at g5 z5 g4
  refine ⟨_, _, rfl, ?_⟩
  clear y1 g1 y2 z2 g2 y3 g3 z3 y4 z4 y5 hL hl0 hl1 hFd hrp
  refine ⟨(m : Int), rfl, by omega, by omega, ?_⟩
  rw [Int.toNat_natCast]
  refine for_range (fun i σ H' => i ≤ m ∧ Step p (n + 13 * i) H H' ∧ (∃ (ls : List Int) (us : List V) (evs : List (List Int)), H' L = some (.lst (ls.map V.int)) ∧ ls.Nodup ∧ (∀ x ∈ ls, (1 : Int) ≤ x) ∧ 62 ≤ ls.length + 4 * i ∧ ls.length ≤ 62 ∧ H' Fd = some (.lst us) ∧ Tps H' us evs ∧ evs.length = i ∧ EvG evs ∧ ∀ e ∈ evs, ∀ x ∈ e, x ∉ ls) ∧ ∃ x4 x5 x6, σ = [some (.ref p), some (.int (m : Int)), some (.ref L), some (.ref Fd), x4, x5, x6])
    ⟨Nat.zero_le _, ⟨fun b o _ e => z5 b o e, hh.same z5⟩, ⟨nums, [], [], g4, nums_nd, nums_pos, by rw [nums_len]; omega, by rw [nums_len]; omega, g5, .nil, rfl, EvG.nil, (fun e he => nomatch he)⟩, _, _, _, rfl⟩ ?_ ?_
  · rintro i σ H6 hi ⟨_, st6, ⟨ls, us, evs, gl, lnd, lpos, ll, lh, gf, tp, le, eg, dj⟩, x4, x5, x6, rfl⟩
    refine ⟨Nat.zero_le _, fun ps hps => ?_⟩
    have psL : ps ≠ L := fun e => by rw [e, gl] at hps; cases hps
    have psF : ps ≠ Fd := fun e => by rw [e, gf] at hps; cases hps
    have y7 := Same.new hps (.lst [])
    have g7 : upd H6 ps (.lst []) ps = some (.lst (([] : List Int).map V.int)) := upd_same
    have st7 := st6.same y7
    have gl := y7 _ _ gl
    have gf := y7 _ _ gf
    have tp := tp.same y7
    have psH : H ps = none := by
      cases e : H ps with
      | none => rfl
      | some o => exact absurd (st6.1 ps o (st6.2.ne hps) e) (by rw [hps]; intro z; cases z)
    generalize upd H6 ps (.lst []) = H7 at g7 st7 gl gf tp
    refine ⟨p, 4, n + 13 * i, rfl, st7.2, by omega, by decide, by decide, fun r4 H8 r40 r41 st8 => ?_⟩
    have gl := st8.1 _ _ Lp gl
    have gf := st8.1 _ _ Fp gf
    have tp := Tps.step st7.2 st8 tp
    have psp : ps ≠ p := st6.2.ne hps
    have g8 := st8.1 _ _ psp g7
    have st8 := st7.trans st8
    refine ⟨1 + r4, rfl, by omega, by omega, ?_⟩
    refine for_range (fun j σ H' => j ≤ 4 ∧ Step p (n + 13 * i + 1 + 2 * j) H H' ∧ (∃ (ls qs : List Int) (us : List V) (B : Addr), H' L = some (.lst (ls.map V.int)) ∧ ls.Nodup ∧ (∀ x ∈ ls, (1 : Int) ≤ x) ∧ 62 ≤ ls.length + 4 * i + j ∧ ls.length ≤ 62 ∧ H' Fd = some (.lst us) ∧ Tps H' us evs ∧ (∀ e ∈ evs, ∀ x ∈ e, x ∉ ls) ∧ H' B = some (.lst (qs.map V.int)) ∧ B ≠ p ∧ B ≠ L ∧ B ≠ Fd ∧ qs.length ≤ 4 * j ∧ (0 < j → qs ≠ []) ∧ (∀ x ∈ qs, (1 : Int) ≤ x ∧ x ∉ ls) ∧ (∀ e ∈ evs, ∀ x ∈ qs, x ∉ e) ∧ ∃ x6, σ = [some (.ref p), some (.int (m : Int)), some (.ref L), some (.ref Fd), some (.int (0 + (i : Int))), some (.ref B), x6]))
      ⟨by decide, st8.mono (by omega), ls, [], us, ps, gl, lnd, lpos, by omega, lh, gf, tp, dj, g8, psp, psL, psF, Nat.zero_le _, (fun h => absurd h (Nat.lt_irrefl _)), (fun x hx => nomatch hx), (fun e he x hx => nomatch hx), _, rfl⟩ ?_ ?_
    · rintro j σ H9 hj ⟨_, st9, ls, qs, us, B, gl, lnd, lpos, ll, lh, gf, tp, dj, gB, Bp, BL, BF, lq, nq, pq, dq, x6', rfl⟩
      have jl : j < 4 := by omega
      refine ⟨tyL gl, ?_⟩
      refine ⟨_, .inl (SqL.of gl), ?_⟩
      rw [List.length_map]
      refine ⟨p, (ls.length : Int), n + 13 * i + 1 + 2 * j, rfl, st9.2, by omega, by omega, by omega, fun k' H10 k0 k1 st10 => ?_⟩
      obtain ⟨k, rfl⟩ : ∃ k : Nat, k' = (k : Int) := ⟨k'.toNat, by omega⟩
      have kl : k < ls.length := by omega
      have gl := st10.1 _ _ Lp gl
      have gf := st10.1 _ _ Fp gf
      have gB := st10.1 _ _ Bp gB
      have tp := Tps.step st9.2 st10 tp
      have st10 := st9.trans st10
      refine ⟨_, k, .int ls[k], gl, ⟨by omega, by omega⟩, (ixN_seq (ixN_nat (by rw [List.length_map]; exact kl))).1, by rw [List.getElem?_map, List.getElem?_eq_getElem kl]; rfl, ?_⟩
      rw [er_map]
      have st11 := st10.upd (o := .lst ((ls.eraseIdx k).map V.int)) LH Lp
      have tp := Tps.updL (ys := (ls.eraseIdx k).map V.int) gl tp
      have gf : upd H10 L (.lst ((ls.eraseIdx k).map V.int)) Fd = some (.lst us) := by rw [upd_ne FL]; exact gf
      have gB : upd H10 L (.lst ((ls.eraseIdx k).map V.int)) B = some (.lst (qs.map V.int)) := by rw [upd_ne BL]; exact gB
      have gl : upd H10 L (.lst ((ls.eraseIdx k).map V.int)) L = some (.lst ((ls.eraseIdx k).map V.int)) := upd_same
      have cp := cons_er ls k kl
      have cn := List.nodup_cons.mp (cp.nodup_iff.mpr lnd)
      have lk : (ls.eraseIdx k).length = ls.length - 1 := List.length_eraseIdx_of_lt kl
      have sub : ∀ x ∈ ls.eraseIdx k, x ∈ ls := fun x hx => cp.mem_iff.mp (List.mem_cons_of_mem _ hx)
      have inn : ls[k] ∈ ls := List.getElem_mem kl
      generalize ls[k] = v at cp cn inn
      generalize ls.eraseIdx k = ls2 at cn lk sub gl gf gB tp st11
      generalize upd H10 L (.lst (ls2.map V.int)) = H11 at gl gf gB tp st11
      refine ⟨by show 1 ≤ sizeLine; decide, fun d hd => ?_⟩
      have yd := Same.new hd (.lst [V.int v])
      have gd : upd H11 d (.lst [V.int v]) d = some (.lst [V.int v]) := upd_same
      have dp : d ≠ p := st11.2.ne hd
      have st12 := st11.same yd
      have gl := yd _ _ gl
      have gf := yd _ _ gf
      have gB := yd _ _ gB
      have tp := tp.same yd
      generalize upd H11 d (.lst [V.int v]) = H12 at gd st12 gl gf gB tp
      refine ⟨p, 4, n + 13 * i + 1 + 2 * j + 1, rfl, st12.2, by omega, by decide, by decide, fun r H13 r0 r1 st13 => ?_⟩
      have gl := st13.1 _ _ Lp gl
      have gf := st13.1 _ _ Fp gf
      have gB := st13.1 _ _ Bp gB
      have gd := st13.1 _ _ dp gd
      have tp := Tps.step st12.2 st13 tp
      have st13 := st12.trans st13
      refine ⟨⟨by omega, by omega⟩, .inl ⟨_, gd, by show 1 * _ ≤ sizeLine; rw [sizeLine_eq]; omega, fun N hN => ?_⟩⟩
      have er : (List.replicate (1 + r).toNat [V.int v]).flatten = (List.replicate (1 + r).toNat v).map V.int := by
        rw [List.map_replicate]
        generalize (1 + r).toNat = c
        induction c with
        | zero => rfl
        | succ c ih => rw [List.replicate_succ, List.flatten_cons, ih]; rfl
      rw [er]
      have yN := Same.new hN (.lst ((List.replicate (1 + r).toNat v).map V.int))
      have gN : upd H13 N (.lst ((List.replicate (1 + r).toNat v).map V.int)) N = some (.lst ((List.replicate (1 + r).toNat v).map V.int)) := upd_same
      have st14 := st13.same yN
      have gl := yN _ _ gl
      have gf := yN _ _ gf
      have gB := yN _ _ gB
      have tp := tp.same yN
      generalize upd H13 N (.lst ((List.replicate (1 + r).toNat v).map V.int)) = H14 at gN st14 gl gf gB tp
      have rl : (List.replicate (1 + r).toNat v).length ≤ 4 := by rw [List.length_replicate]; omega
      have rne : List.replicate (1 + r).toNat v ≠ [] := fun z => by have := congrArg List.length z; rw [List.length_replicate] at this; simp at this; omega
      have rm : ∀ x ∈ List.replicate (1 + r).toNat v, x = v := fun x hx => List.eq_of_mem_replicate hx
      generalize List.replicate (1 + r).toNat v = rv at gN rl rne rm
      refine .inl ⟨_, _, gB, gN, by rw [List.length_map, List.length_map, sizeLine_eq]; omega, fun B2 hB2 => ?_⟩
      have y15 := Same.new hB2 (.lst (qs.map V.int ++ rv.map V.int))
      refine ⟨by omega, (st14.same y15).mono (by omega), ls2, qs ++ rv, us, B2, y15 _ _ gl, cn.2, fun x hx => lpos x (sub x hx), by omega, by omega, y15 _ _ gf, tp.same y15, fun e he x hx hx2 => dj e he x hx (sub x hx2), by rw [upd_same, List.map_append], st14.2.ne hB2, (fun e => by rw [e, gl] at hB2; cases hB2), (fun e => by rw [e, gf] at hB2; cases hB2), by rw [List.length_append]; omega, (fun _ z => rne (List.append_eq_nil_iff.mp z).2), fun x hx => ?_, fun e he x hx => ?_, _, rfl⟩
      · rcases List.mem_append.mp hx with h | h
        · exact ⟨(pq x h).1, fun z => (pq x h).2 (sub x z)⟩
        · rw [rm x h]; exact ⟨lpos v inn, cn.1⟩
      · rcases List.mem_append.mp hx with h | h
        · exact dq e he x h
        · rw [rm x h]; exact fun z => dj e he v z inn
    · rintro σ H9 ⟨_, st9, ls, qs, us, B, gl, lnd, lpos, ll, lh, gf, tp, dj, gB, Bp, BL, BF, lq, nq, pq, dq, x6', rfl⟩
      refine ⟨tyL gf, ?_⟩
      refine ⟨B, qs, rfl, .inl gB, fun r ms H10 y10 pm pw hr => ?_⟩
      have gl := y10 _ _ gl
      have gf := y10 _ _ gf
      have tp := tp.same y10
      have st10 := st9.same y10
      have lu := tp.length
      refine ⟨us, gf, by rw [sizeLine_eq]; omega, ?_⟩
      have jn : (0 : Nat) < (1 + r4).toNat := by omega
      refine ⟨hi, (st10.upd FH Fp).mono (by omega), ⟨ls, us ++ [.ref r], evs ++ [ms], by rw [upd_ne FL.symm]; exact gl, lnd, lpos, by omega, lh, upd_same, Tps.updL gf (tp.snoc hr), by rw [List.length_append, le]; rfl, eg.snoc ⟨fun x hx => (pq x (pm.mem_iff.mp hx)).1, pw⟩ (fun z => ?_) (by rw [pm.length_eq]; omega) (fun e he x hx => dq e he x (pm.mem_iff.mp hx)), fun e he x hx => ?_⟩, _, _, _, rfl⟩
      · rw [z] at pm
        exact nq jn (List.nil_perm.mp pm)
      · rcases List.mem_append.mp he with h | h
        · exact dj e h x hx
        · rw [List.mem_singleton.mp h] at hx
          exact (pq x (pm.mem_iff.mp hx)).2
  · rintro σ H6 ⟨_, st6, ⟨ls, us, evs, gl, lnd, lpos, ll, lh, gf, tp, le, eg, dj⟩, x4, x5, x6, rfl⟩
    refine ⟨_, .inl (SqL.of gf), fun r7 H7 y7 hr7 => ?_⟩
    exact q r7 us evs H7 ((st6.same y7).mono (by omega)) hr7 (tp.same y7) le eg
end
end K53
set_option Elab.async false
set_option linter.all false
set_option maxRecDepth 100000
set_option maxHeartbeats 4000000
namespace K53
open PySem L2 M04 M54 M55
theorem cut_ints (ns : List Int) (lo hi : Option Int) : ∃ rs : List Int, cutV (ns.map V.int) lo hi = rs.map V.int ∧ rs.length ≤ ns.length := by
  unfold cutV
  refine ⟨(ns.drop (HT.sIx (ns.map V.int).length 0 lo)).take (HT.sIx (ns.map V.int).length (ns.map V.int).length hi - HT.sIx (ns.map V.int).length 0 lo), by rw [List.map_take, List.map_drop], ?_⟩
  rw [List.length_take, List.length_drop]
  omega
theorem t0_int {H : Hp} (i : Int) : T0 H (.int i) := ⟨_, rfl⟩
theorem t1_of {H : Hp} {c : Addr} {xs : List V} (h : H c = some (.tup xs)) (l : xs.length ≤ 200) (f : ∀ y ∈ xs, T0 H y) : T1 H (.ref c) := ⟨⟨_, ty_of h⟩, fun c' xs' e h' => by
  cases e
  rw [h] at h'
  cases h'
  exact ⟨l, f⟩⟩
theorem ints0 {H : Hp} (ns : List Int) : ∀ y ∈ ns.map V.int, T0 H y := fun y hy => by
  obtain ⟨i, _, rfl⟩ := List.mem_map.mp hy
  exact t0_int i
theorem app0 {H : Hp} {xs ys : List V} (a : ∀ y ∈ xs, T0 H y) (b : ∀ y ∈ ys, T0 H y) : ∀ y ∈ xs ++ ys, T0 H y := fun y hy => by
  rcases List.mem_append.mp hy with z | z
  · exact a y z
  · exact b y z
theorem one0 {H : Hp} {x : V} (h : T0 H x) : ∀ y ∈ [x], T0 H y := fun y hy => by rw [List.mem_singleton.mp hy]; exact h
theorem le2 {n : Nat} (h : n ≤ 5000) : n ≤ sizeLine := by rw [sizeLine_eq]; omega
section
variable {P : Program} {w : World} {K : PySem.W.Frag} {mg : Str → Option Value} {base : Heap} {f : Addr} {fd : FuncData}
theorem sc_eo : FnScope ["_law_hand_here", "_law_events", "_law_nth", "_law_way", "_law_event", "_law_spot", "_law_odd_here", "_law_other"] ["_law_hand_here", "_law_events", "_law_nth"] (defScope (top 19)) := ⟨rfl, rfl, rfl, by decide +kernel, rfl, by decide +kernel, by decide +kernel⟩
noncomputable def sp_eo : Sp := fun vs H Q _ => ∃ (p e : Addr) (n nth : Nat) (us : List V) (evs : List (List Int)), vs = [.ref p, .ref e, .int nth] ∧ Hand H p n ∧ n < 5000000 ∧ H e = some (.tup us) ∧ Tps H us evs ∧ EvG evs ∧ nth < evs.length ∧ evs.length ≤ 13 ∧ ∀ v H', Step p (n + 5) H H' → T1 H' v → Q v H'
theorem ok_eo (F : Fun K "_law_event_otherwise" "_law_event_otherwise" (top 19) f fd) (m_len : mg "len" = none) (m_list : mg "list" = none) (F_law_falling : FnA P w K mg base "_law_falling" 1 ["_law_parts"] sp_fall) (F_law_odd : FnA P w K mg base "_law_odd" 3 ["_law_hand_here"] sp_od) (F_law_take : FnA P w K mg base "_law_take" 1 ["_law_hand_here", "_law_many"] sp_take) : FnOk P w K mg base CX0 4 f fd ["_law_hand_here", "_law_events", "_law_nth"] sp_eo := by
  refine F.okz sc_eo (fun vs H Q E h => ?_) (fun cdv A outer s H vs Q E hr h => ?_)
  · obtain ⟨p, e, n, nth, us, evs, rfl, _⟩ := h; rfl
  obtain ⟨p, e, n, nth, us, evs, rfl, hh, hn, he, tp, eg, hnth, few, q⟩ := h
  have nd := sc_eo.nd
  have hu := hr.units
  have lu := tp.length
  refine ⟨_, (zss_cons (zs_par (i := 3) (j := 4) rfl nd rfl rfl (by decide) rfl rfl (za_cons (ze_fn F_law_take hr (by decide) rfl (za_cons (zn 0) (za_cons ze_int za_nil))) (za_cons (ze_ix ix_P (zn 1) (zn 2) (fun _ _ => rfl)) za_nil)) rfl)
      (zss_cons (zs_par3 (i := 5) (j := 6) (k := 7) rfl nd rfl rfl rfl (by decide) (by decide) (by decide) rfl rfl rfl (za_cons (ze_fn F_law_take hr (by decide) rfl (za_cons (zn 0) (za_cons (zcb_len rfl m_len (za_cons (zn 4) za_nil) rfl rfl) za_nil))) (za_cons (ze_fn F_law_odd hr (by decide) rfl (za_cons (zn 0) za_nil)) (za_cons (ze_ix ix_P (zn 1) (ze_fn F_law_take hr (by decide) rfl (za_cons (zn 0) (za_cons (zcb_len rfl m_len (za_cons (zn 1) za_nil) rfl rfl) za_nil))) (fun _ _ => rfl)) za_nil))) rfl)
      (zss_cons (zs_if (zt_cmpP op_ltP (zn 3) ze_int (nomark _)) (zss_one (zs_ret (ze_op op_addP (ze_op op_addP (ze_slice sl_P (zn 4) zo_none (zo_some (zn 5))) (ze_tup (za_cons (zn 6) za_nil))) (ze_slice sl_P (zn 4) (zo_some (ze_op op_addP (zn 5) (zn 3))) zo_none)))) zss_nil)
      (zss_cons (zs_if (zt_cmpP (op_eqD hu) (zn 3) ze_int (nomark _)) (zss_one (zs_ret (ze_op op_addP (ze_slice sl_P (zn 4) zo_none (zo_some (zn 5))) (ze_slice sl_P (zn 4) (zo_some (ze_op op_addP (zn 5) ze_int)) zo_none)))) zss_nil)
      (zss_cons (zs_if (zt_cmpP (op_eqD hu) (zn 3) ze_int (nomark _)) (zss_one (zs_ret (ze_rev rv_P (zn 4)))) zss_nil)
      (zss_cons (zs_if (zt_cmpP (op_eqD hu) (zn 3) ze_int (nomark _)) (zss_one (zs_ret (ze_op op_addP (ze_op op_addP (ze_slice sl_P (zn 4) zo_none (zo_some (zn 5))) (ze_tup (za_cons (ze_op op_subP (ze_ix ix_P (zn 4) (zn 5) (fun _ _ => rfl)) (ze_fn F_law_take hr (by decide) rfl (za_cons (zn 0) (za_cons ze_int za_nil)))) za_nil))) (ze_slice sl_P (zn 4) (zo_some (ze_op op_addP (zn 5) ze_int)) zo_none)))) zss_nil)
      (zss_cons (zs_if (zt_cmpP (op_eqD hu) (zn 3) ze_int (nomark _)) (zss_one (zs_ret (ze_fn F_law_falling hr (by decide) rfl (za_cons (ze_op op_addP (zn 4) (ze_slice sl_P (zn 7) (zo_some (ze_un un_neg ze_int)) zo_none)) za_nil)))) zss_nil)
      (zss_cons (zs_if (zt_cmpP (op_eqD hu) (zn 3) ze_int (nomark _)) (zss_one (zs_ret (ze_fn F_law_falling hr (by decide) rfl (za_cons (ze_op op_addP (ze_op op_addP (ze_slice sl_P (zn 4) zo_none (zo_some (zn 5))) (ze_tup (za_cons (ze_ix ix_P (zn 7) ze_int (fun _ _ => rfl)) za_nil))) (ze_slice sl_P (zn 4) (zo_some (ze_op op_addP (zn 5) ze_int)) zo_none)) za_nil)))) zss_nil)
      (zss_one (zs_ret (ze_ix ix_P (ze_lst (za_cons (zcb_list rfl m_list (za_cons (zn 4) za_nil) rfl rfl) (za_cons (zn 6) za_nil))) (ze_op op_subP (zn 3) ze_int) (fun _ _ => rfl)))))))))))), ?_⟩
  refine ⟨p, 9, n, rfl, hh, by omega, by decide, by decide, fun way H1 w0 w1 st1 => ?_⟩
  have he1 := st1.tup hh he
  have tp1 := Tps.step hh st1 tp
  obtain ⟨ev, b, eev, eb, hb⟩ := tp1.get (List.getElem?_eq_getElem (show nth < us.length by omega))
  refine ⟨_, .inr he1, .ref b, atI_of (j := nth) rfl (by rw [List.getElem?_eq_getElem (show nth < us.length by omega), eb]), ?_⟩
  refine ⟨_, _, rfl, ?_⟩
  have evm := List.mem_of_getElem? eev
  have ene := eg.some ev evm
  have elen := eg.short ev evm
  have epos : 0 < ev.length := List.length_pos_iff.mpr ene
  refine ⟨_, .inr hb, ?_⟩
  rw [List.length_map]
  refine ⟨p, (ev.length : Int), n + 1, rfl, st1.2, by omega, by omega, by omega, fun spot' H2 s0 s1 st2 => ?_⟩
  obtain ⟨spot, rfl⟩ : ∃ k : Nat, spot' = (k : Int) := ⟨spot'.toNat, by omega⟩
  have spl : spot < ev.length := by omega
  have hb2 := st2.tup st1.2 hb
  have he2 := st2.tup st1.2 he1
  have tp2 := Tps.step st1.2 st2 tp1
  have st2' := st1.trans st2
  refine ⟨p, n + 1 + 1, rfl, st2.2, by omega, fun od H3 st3 tod => ?_⟩
  have hb3 := st3.tup st2.2 hb2
  have he3 := st3.tup st2.2 he2
  have tp3 := Tps.step st2.2 st3 tp2
  have st3' := st2'.trans st3
  refine ⟨_, .inr he3, ?_⟩
  refine ⟨p, (us.length : Int), n + 1 + 1 + 1, rfl, st3.2, by omega, by omega, by omega, fun oi' H4 o0 o1 st4 => ?_⟩
  obtain ⟨oi, rfl⟩ : ∃ k : Nat, oi' = (k : Int) := ⟨oi'.toNat, by omega⟩
  have oil : oi < us.length := by omega
  have hb4 := st4.tup st3.2 hb3
  have he4 := st4.tup st3.2 he3
  have tp4 := Tps.step st3.2 st4 tp3
  have tod := tod.kp (Kp.step st3.2 st4)
  have st4' := st3'.trans st4
  obtain ⟨ot, ob, eot, eob, hob⟩ := tp4.get (List.getElem?_eq_getElem oil)
  refine ⟨_, .inr he4, .ref ob, atI_of (j := oi) rfl (by rw [List.getElem?_eq_getElem oil, eob]), ?_⟩
  have otm := List.mem_of_getElem? eot
  have one := eg.some ot otm
  have olen := eg.short ot otm
  clear st1 st2 st3 he1 tp1 hb he2 tp2 hb2 st2' st3' he3 tp3 hb3
  have fin : ∀ v H', Same H4 H' → T1 H' v → Q v H' := fun v H' y t => q v H' ((st4'.same y).mono (by omega)) t
  have hw : way = 0 ∨ way = 1 ∨ way = 2 ∨ way = 3 ∨ way = 4 ∨ way = 5 ∨ way = 6 ∨ way = 7 ∨ way = 8 := by omega
  have w01 : ∀ (k : Int), ∃ rs1 rs2 : List Int, cutV (ev.map V.int) none (some (spot : Int)) = rs1.map V.int ∧ rs1.length ≤ 16 ∧ cutV (ev.map V.int) (some k) none = rs2.map V.int ∧ rs2.length ≤ 16 := fun k => by
    obtain ⟨r1, e1, l1⟩ := cut_ints ev none (some (spot : Int))
    obtain ⟨r2, e2, l2⟩ := cut_ints ev (some k) none
    exact ⟨r1, r2, e1, by omega, e2, by omega⟩
  rcases hw with rfl | rfl | rfl | rfl | rfl | rfl | rfl | rfl | rfl
  · obtain ⟨rs1, rs2, e1, l1, e2, l2⟩ := w01 ((spot : Int) + 0)
    refine ⟨(spot : Int), rfl, b, rfl, .inl ⟨_, hb4, fun r5 H5 y5 hr5 => ?_⟩⟩
    rw [e1] at hr5
    refine ⟨by show 1 ≤ sizeLine; decide, fun d hd => ?_⟩
    have y6 := Same.new hd (.tup [od])
    have g6 : upd H5 d (.tup [od]) d = some (.tup [od]) := upd_same
    have hr6 := y6 _ _ hr5
    have z6 := y5.trans y6
    generalize upd H5 d (.tup [od]) = H6 at g6 hr6 z6
    refine .inr ⟨_, _, hr6, g6, le2 (by rw [List.length_map]; show _ + 1 ≤ _; omega), fun r7 H7 y7 hr7 => ?_⟩
    have z7 := z6.trans y7
    refine ⟨(spot : Int) + 0, rfl, b, rfl, .inl ⟨_, z7 _ _ hb4, fun r8 H8 y8 hr8 => ?_⟩⟩
    rw [e2] at hr8
    refine .inr ⟨_, _, y8 _ _ hr7, hr8, le2 (by rw [List.length_append, List.length_map, List.length_map]; show _ + 1 + _ ≤ _; omega), fun r9 H9 y9 hr9 => ?_⟩
    have z9 := z7.trans (y8.trans y9)
    exact fin _ H9 z9 (t1_of hr9 (by rw [List.length_append, List.length_append, List.length_map, List.length_map]; show _ + 1 + _ ≤ _; omega) (app0 (app0 (ints0 _) (one0 (tod.1.kp (Kp.same z9)))) (ints0 _)))
  · obtain ⟨rs1, rs2, e1, l1, e2, l2⟩ := w01 ((spot : Int) + 1)
    refine ⟨(spot : Int), rfl, b, rfl, .inl ⟨_, hb4, fun r5 H5 y5 hr5 => ?_⟩⟩
    rw [e1] at hr5
    refine ⟨by show 1 ≤ sizeLine; decide, fun d hd => ?_⟩
    have y6 := Same.new hd (.tup [od])
    have g6 : upd H5 d (.tup [od]) d = some (.tup [od]) := upd_same
    have hr6 := y6 _ _ hr5
    have z6 := y5.trans y6
    generalize upd H5 d (.tup [od]) = H6 at g6 hr6 z6
    refine .inr ⟨_, _, hr6, g6, le2 (by rw [List.length_map]; show _ + 1 ≤ _; omega), fun r7 H7 y7 hr7 => ?_⟩
    have z7 := z6.trans y7
    refine ⟨(spot : Int) + 1, rfl, b, rfl, .inl ⟨_, z7 _ _ hb4, fun r8 H8 y8 hr8 => ?_⟩⟩
    rw [e2] at hr8
    refine .inr ⟨_, _, y8 _ _ hr7, hr8, le2 (by rw [List.length_append, List.length_map, List.length_map]; show _ + 1 + _ ≤ _; omega), fun r9 H9 y9 hr9 => ?_⟩
    have z9 := z7.trans (y8.trans y9)
    exact fin _ H9 z9 (t1_of hr9 (by rw [List.length_append, List.length_append, List.length_map, List.length_map]; show _ + 1 + _ ≤ _; omega) (app0 (app0 (ints0 _) (one0 (tod.1.kp (Kp.same z9)))) (ints0 _)))
  · obtain ⟨rs1, rs2, e1, l1, e2, l2⟩ := w01 ((spot : Int) + 1)
    refine ⟨(spot : Int), rfl, b, rfl, .inl ⟨_, hb4, fun r5 H5 y5 hr5 => ?_⟩⟩
    rw [e1] at hr5
    refine ⟨(spot : Int) + 1, rfl, b, rfl, .inl ⟨_, y5 _ _ hb4, fun r8 H8 y8 hr8 => ?_⟩⟩
    rw [e2] at hr8
    refine .inr ⟨_, _, y8 _ _ hr5, hr8, le2 (by rw [List.length_map, List.length_map]; omega), fun r9 H9 y9 hr9 => ?_⟩
    exact fin _ H9 (y5.trans (y8.trans y9)) (t1_of hr9 (by rw [List.length_append, List.length_map, List.length_map]; omega) (app0 (ints0 _) (ints0 _)))
  · refine ⟨b, rfl, .inl ⟨_, hb4, fun r5 hr5 => ?_⟩⟩
    exact fin _ _ (Same.new hr5 _) (t1_of upd_same (by rw [List.length_reverse, List.length_map]; omega) (fun y hy => ints0 ev y (List.mem_reverse.mp hy)))
  · obtain ⟨rs1, rs2, e1, l1, e2, l2⟩ := w01 ((spot : Int) + 1)
    refine ⟨(spot : Int), rfl, b, rfl, .inl ⟨_, hb4, fun r5 H5 y5 hr5 => ?_⟩⟩
    rw [e1] at hr5
    have hb5 := y5 _ _ hb4
    refine ⟨_, .inr hb5, _, atI_of (j := spot) rfl (at_get spl), ?_⟩
    have hh5 := st4'.2.same y5
    refine ⟨p, 3, n + 1 + 1 + 1 + 1, rfl, hh5, by omega, by decide, by decide, fun r3 H6 r30 r31 st6 => ?_⟩
    have hr6 := st6.tup hh5 hr5
    have hb6 := st6.tup hh5 hb5
    have st6' := (st4'.same y5).trans st6
    refine ⟨by show 1 ≤ sizeLine; decide, fun d hd => ?_⟩
    have y7 := Same.new hd (.tup [V.int (ev.getD spot 0 - r3)])
    have g7 : upd H6 d (.tup [V.int (ev.getD spot 0 - r3)]) d = some (.tup [V.int (ev.getD spot 0 - r3)]) := upd_same
    have hr7 := y7 _ _ hr6
    have hb7 := y7 _ _ hb6
    have st7 := st6'.same y7
    generalize upd H6 d (.tup [V.int (ev.getD spot 0 - r3)]) = H7 at g7 hr7 hb7 st7
    refine .inr ⟨_, _, hr7, g7, le2 (by rw [List.length_map]; show _ + 1 ≤ _; omega), fun r8 H8 y8 hr8 => ?_⟩
    refine ⟨(spot : Int) + 1, rfl, b, rfl, .inl ⟨_, y8 _ _ hb7, fun r9 H9 y9 hr9 => ?_⟩⟩
    rw [e2] at hr9
    refine .inr ⟨_, _, y9 _ _ hr8, hr9, le2 (by rw [List.length_append, List.length_map, List.length_map]; show _ + 1 + _ ≤ _; omega), fun r10 H10 y10 hr10 => ?_⟩
    exact q _ H10 ((st7.same (y8.trans (y9.trans y10))).mono (by omega)) (t1_of hr10 (by rw [List.length_append, List.length_append, List.length_map, List.length_map]; show _ + 1 + _ ≤ _; omega) (app0 (app0 (ints0 _) (one0 (t0_int _))) (ints0 _)))
  · refine ⟨1, rfl, -1, rfl, ob, rfl, .inl ⟨_, hob, fun r5 H5 y5 hr5 => ?_⟩⟩
    obtain ⟨rs1, e1, l1⟩ := cut_ints ot (some (-1)) none
    rw [e1] at hr5
    refine .inr ⟨_, _, y5 _ _ hb4, hr5, le2 (by rw [List.length_map, List.length_map]; omega), fun r6 H6 y6 hr6 => ?_⟩
    refine ⟨r6, ev ++ rs1, rfl, .inr (by rw [hr6, List.map_append]), fun r7 ms H7 y7 pm _ hr7 => ?_⟩
    exact fin _ H7 (y5.trans (y6.trans y7)) (t1_of hr7 (by rw [List.length_map, pm.length_eq, List.length_append]; omega) (ints0 _))
  · obtain ⟨rs1, rs2, e1, l1, e2, l2⟩ := w01 ((spot : Int) + 1)
    refine ⟨(spot : Int), rfl, b, rfl, .inl ⟨_, hb4, fun r5 H5 y5 hr5 => ?_⟩⟩
    rw [e1] at hr5
    refine ⟨_, .inr (y5 _ _ hob), _, atI_of (j := 0) rfl (at_get (List.length_pos_iff.mpr one)), ?_⟩
    refine ⟨by show 1 ≤ sizeLine; decide, fun d hd => ?_⟩
    have y6 := Same.new hd (.tup [V.int (ot.getD 0 0)])
    have g6 : upd H5 d (.tup [V.int (ot.getD 0 0)]) d = some (.tup [V.int (ot.getD 0 0)]) := upd_same
    have hr6 := y6 _ _ hr5
    have z6 := y5.trans y6
    generalize upd H5 d (.tup [V.int (ot.getD 0 0)]) = H6 at g6 hr6 z6
    refine .inr ⟨_, _, hr6, g6, le2 (by rw [List.length_map]; show _ + 1 ≤ _; omega), fun r7 H7 y7 hr7 => ?_⟩
    have z7 := z6.trans y7
    refine ⟨(spot : Int) + 1, rfl, b, rfl, .inl ⟨_, z7 _ _ hb4, fun r8 H8 y8 hr8 => ?_⟩⟩
    rw [e2] at hr8
    refine .inr ⟨_, _, y8 _ _ hr7, hr8, le2 (by rw [List.length_append, List.length_map, List.length_map]; show _ + 1 + _ ≤ _; omega), fun r9 H9 y9 hr9 => ?_⟩
    refine ⟨r9, rs1 ++ [ot.getD 0 0] ++ rs2, rfl, .inr (by rw [hr9, List.map_append, List.map_append]; rfl), fun r10 ms H10 y10 pm _ hr10 => ?_⟩
    exact fin _ H10 (z7.trans (y8.trans (y9.trans y10))) (t1_of hr10 (by rw [List.length_map, pm.length_eq, List.length_append, List.length_append]; show _ + 1 + _ ≤ _; omega) (ints0 _))
  · refine ⟨_, .inr hb4, fun l5 hl5 => ?_⟩
    have y5 := Same.new hl5 (.lst (ev.map V.int))
    have g5 : upd H4 l5 (.lst (ev.map V.int)) l5 = some (.lst (ev.map V.int)) := upd_same
    generalize upd H4 l5 (.lst (ev.map V.int)) = H5 at y5 g5
    refine ⟨by show 2 ≤ sizeLine; decide, fun l6 hl6 => ?_⟩
    have y6 := Same.new hl6 (.lst [V.ref l5, od])
    have g6 : upd H5 l6 (.lst [V.ref l5, od]) l6 = some (.lst [V.ref l5, od]) := upd_same
    generalize upd H5 l6 (.lst [V.ref l5, od]) = H6 at y6 g6
    exact ⟨_, .inl (SqL.of g6), .ref l5, rfl, fin _ H6 (y5.trans y6) (t2_lst (y6 _ _ g5)).one⟩
  · refine ⟨_, .inr hb4, fun l5 hl5 => ?_⟩
    have y5 := Same.new hl5 (.lst (ev.map V.int))
    have g5 : upd H4 l5 (.lst (ev.map V.int)) l5 = some (.lst (ev.map V.int)) := upd_same
    generalize upd H4 l5 (.lst (ev.map V.int)) = H5 at y5 g5
    refine ⟨by show 2 ≤ sizeLine; decide, fun l6 hl6 => ?_⟩
    have y6 := Same.new hl6 (.lst [V.ref l5, od])
    have g6 : upd H5 l6 (.lst [V.ref l5, od]) l6 = some (.lst [V.ref l5, od]) := upd_same
    generalize upd H5 l6 (.lst [V.ref l5, od]) = H6 at y6 g6
    exact ⟨_, .inl (SqL.of g6), od, rfl, fin _ H6 (y5.trans y6) (tod.one.kp (Kp.same (y5.trans y6)))⟩
end
end K53
set_option Elab.async false
set_option linter.all false
set_option maxRecDepth 100000
set_option maxHeartbeats 4000000
namespace K53
open PySem L2 M04 M54 M55
theorem cut_sub (xs : List V) (lo hi : Option Int) : (∀ y ∈ cutV xs lo hi, y ∈ xs) ∧ (cutV xs lo hi).length ≤ xs.length := by
  unfold cutV
  refine ⟨fun y hy => List.mem_of_mem_drop (List.mem_of_mem_take hy), ?_⟩
  rw [List.length_take, List.length_drop]
  omega
theorem tps_t1 {H : Hp} : ∀ {us : List V} {evs : List (List Int)}, Tps H us evs → (∀ e ∈ evs, e.length ≤ 16) → ∀ y ∈ us, T1 H y
  | _, _, .nil, _, y, hy => nomatch hy
  | _, _, .cons (b := b) (ls := l) h t, s, y, hy => by
    rcases List.mem_cons.mp hy with z | z
    · rw [z]; exact t1_of h (by rw [List.length_map]; have := s l List.mem_cons_self; omega) (ints0 _)
    · exact tps_t1 t (fun e he => s e (List.mem_cons_of_mem _ he)) y z
theorem app1 {H : Hp} {xs ys : List V} (a : ∀ y ∈ xs, T1 H y) (b : ∀ y ∈ ys, T1 H y) : ∀ y ∈ xs ++ ys, T1 H y := fun y hy => by
  rcases List.mem_append.mp hy with z | z
  · exact a y z
  · exact b y z
theorem kp1 {H H' : Hp} {xs : List V} (a : ∀ y ∈ xs, T1 H y) (k : Kp H H') : ∀ y ∈ xs, T1 H' y := fun y hy => (a y hy).kp k
section
variable {P : Program} {w : World} {K : PySem.W.Frag} {mg : Str → Option Value} {base : Heap} {f : Addr} {fd : FuncData}
theorem sc_ot : FnScope ["_law_hand_here", "_law_events", "_law_way", "_law_nth"] ["_law_hand_here", "_law_events"] (defScope (top 20)) := ⟨rfl, rfl, rfl, by decide +kernel, rfl, by decide +kernel, by decide +kernel⟩
noncomputable def sp_ot : Sp := fun vs H Q _ => ∃ (p e : Addr) (n : Nat) (us : List V) (evs : List (List Int)), vs = [.ref p, .ref e] ∧ Hand H p n ∧ n < 4000000 ∧ H e = some (.tup us) ∧ Tps H us evs ∧ EvG evs ∧ evs.length ≤ 13 ∧ ∀ v H', Step p (n + 10) H H' → T2 H' v → Q v H'
theorem ok_ot (F : Fun K "_law_otherwise" "_law_otherwise" (top 20) f fd) (m_len : mg "len" = none) (m_list : mg "list" = none) (F_law_event_otherwise : FnA P w K mg base "_law_event_otherwise" 4 ["_law_hand_here", "_law_events", "_law_nth"] sp_eo) (F_law_odd : FnA P w K mg base "_law_odd" 3 ["_law_hand_here"] sp_od) (F_law_pick : FnA P w K mg base "_law_pick" 2 ["_law_hand_here", "_law_some"] sp_pick) (F_law_take : FnA P w K mg base "_law_take" 1 ["_law_hand_here", "_law_many"] sp_take) : FnOk P w K mg base CX0 5 f fd ["_law_hand_here", "_law_events"] sp_ot := by
  refine F.okz sc_ot (fun vs H Q E h => ?_) (fun cdv A outer s H vs Q E hr h => ?_)
  · obtain ⟨p, e, n, us, evs, rfl, _⟩ := h; rfl
  obtain ⟨p, e, n, us, evs, rfl, hh, hn, he, tp, eg, few, q⟩ := h
  have nd := sc_ot.nd
  have hu := hr.units
  have lu := tp.length
  refine ⟨_, (zss_cons (zs_set (i := 2) nd rfl (Or.inl rfl) (ze_fn F_law_take hr (by decide) rfl (za_cons (zn 0) (za_cons ze_int za_nil))))
      (zss_cons (zs_if (ZW.zt (zw_or (zt_cmpP (op_eqD hu) (zn 1) (ze_tup za_nil) (nomark _)) (zw_or1 (zt_cmpP (op_eqD hu) (zn 2) ze_int (nomark _))))) (zss_one (zs_ret (ze_fn F_law_pick hr (by decide) rfl (za_cons (zn 0) (za_cons (ze_lst (za_cons (zcb_list rfl m_list (za_cons (zn 1) za_nil) rfl rfl) (za_cons (ze_op op_addP (zn 1) (ze_tup (za_cons (ze_fn F_law_odd hr (by decide) rfl (za_cons (zn 0) za_nil)) za_nil))) (za_cons (ze_fn F_law_odd hr (by decide) rfl (za_cons (zn 0) za_nil)) (za_cons (ze_tup (za_cons (zn 1) za_nil)) (za_cons (ze_op op_addP (zn 1) (zn 1)) za_nil)))))) za_nil))))) zss_nil)
      (zss_cons (zs_set (i := 3) nd rfl (Or.inl rfl) (ze_fn F_law_take hr (by decide) rfl (za_cons (zn 0) (za_cons (zcb_len rfl m_len (za_cons (zn 1) za_nil) rfl rfl) za_nil))))
      (zss_cons (zs_if (zt_cmpP (op_eqD hu) (zn 2) ze_int (nomark _)) (zss_one (zs_ret (ze_op op_addP (ze_op op_addP (ze_slice sl_P (zn 1) zo_none (zo_some (zn 3))) (ze_slice sl_P (zn 1) (zo_some (ze_op op_addP (zn 3) ze_int)) zo_none)) (ze_slice sl_P (zn 1) zo_none (zo_some ze_int))))) zss_nil)
      (zss_one (zs_ret (ze_op op_addP (ze_op op_addP (ze_slice sl_P (zn 1) zo_none (zo_some (zn 3))) (ze_tup (za_cons (ze_fn F_law_event_otherwise hr (by decide) rfl (za_cons (zn 0) (za_cons (zn 1) (za_cons (zn 3) za_nil)))) za_nil))) (ze_slice sl_P (zn 1) (zo_some (ze_op op_addP (zn 3) ze_int)) zo_none)))))))), ?_⟩
  refine ⟨p, 8, n, rfl, hh, by omega, by decide, by decide, fun way H1 w0 w1 st1 => ?_⟩
  have he1 := st1.tup hh he
  have tp1 := Tps.step hh st1 tp
  refine ⟨Nat.zero_le _, fun d hd => ?_⟩
  have yd := Same.new hd (.tup [])
  have gd : upd H1 d (.tup []) d = some (.tup []) := upd_same
  have he2 := yd _ _ he1
  have tp2 := tp1.same yd
  have st2 := st1.same yd
  generalize upd H1 d (.tup []) = H2 at gd he2 tp2 st2
  obtain ⟨k1, k2⟩ := can_tps evs
  refine ⟨_, _, .tup he2 (dall_tps tp2), .tup gd .nil, ?_, ?_, ?_⟩
  · unfold SeqAt.shaped
    rw [Bool.and_eq_true]
    exact ⟨by simp only [PyData.canLay0]; exact k1, decide_eq_true (by simp only [PyData.depth]; omega)⟩
  · decide +kernel
  rw [eqv_tuple_nil]
  have us2 := tps_t1 tp2 eg.short
  clear st1 he1 tp1
  refine iteB (fun c => ?_) (fun c => ?_)
  ·
    refine ⟨_, .inr he2, fun l1 hl1 => ?_⟩
    have y3 := Same.new hl1 (.lst us)
    have t1 : T2 (upd H2 l1 (.lst us)) (.ref l1) := t2_lst upd_same
    have st3 := st2.same y3
    have he3 := y3 _ _ he2
    have us3 := kp1 us2 (Kp.same y3)
    generalize upd H2 l1 (.lst us) = H3 at t1 st3 he3 us3
    refine ⟨p, n + 1, rfl, st3.2, by omega, fun o1 H4 st4 to1 => ?_⟩
    have kp4 := Kp.step st3.2 st4
    have t1 := t1.kp kp4
    have he4 := kp4.tup _ _ he3
    have us4 := kp1 us3 kp4
    have st4' := st3.trans st4
    refine ⟨by show 1 ≤ sizeLine; decide, fun d5 hd5 => ?_⟩
    have y5 := Same.new hd5 (.tup [o1])
    have g5 : upd H4 d5 (.tup [o1]) d5 = some (.tup [o1]) := upd_same
    have he5 := y5 _ _ he4
    generalize upd H4 d5 (.tup [o1]) = H5 at y5 g5 he5
    refine .inr ⟨_, _, he5, g5, le2 (by show _ + 1 ≤ _; omega), fun r6 H6 y6 hr6 => ?_⟩
    have kp6 := (Kp.same y5).trans (Kp.same y6)
    have t1 := t1.kp kp6
    have us6 := kp1 us4 kp6
    have he6 := kp6.tup _ _ he4
    have t2 : T2 H6 (.ref r6) := t2_tup hr6 (by rw [List.length_append]; show _ + 1 ≤ _; omega) (app1 us6 (f1 (to1.one.kp kp6)))
    have st6 := (st4'.same y5).same y6
    refine ⟨p, n + 1 + 1, rfl, st6.2, by omega, fun o2 H7 st7 t3 => ?_⟩
    have kp7 := Kp.step st6.2 st7
    have t1 := t1.kp kp7
    have t2 := t2.kp kp7
    have us7 := kp1 us6 kp7
    have he7 := kp7.tup _ _ he6
    have st7' := st6.trans st7
    refine ⟨by show 1 ≤ sizeLine; decide, fun d8 hd8 => ?_⟩
    have y8 := Same.new hd8 (.tup [V.ref e])
    have t4 : T2 (upd H7 d8 (.tup [V.ref e])) (.ref d8) := t2_tup upd_same (show 1 ≤ 200 by decide) (f1 (t1_of (y8 _ _ he7) (by omega) (fun y hy => ((us7 y hy).kp (Kp.same y8)).1)))
    have t1 := t1.kp (Kp.same y8)
    have t2 := t2.kp (Kp.same y8)
    have t3 := t3.kp (Kp.same y8)
    have he8 := y8 _ _ he7
    have us8 := kp1 us7 (Kp.same y8)
    have st8 := st7'.same y8
    generalize upd H7 d8 (.tup [V.ref e]) = H8 at t1 t2 t3 t4 he8 us8 st8
    refine .inr ⟨_, _, he8, he8, le2 (by omega), fun r9 H9 y9 hr9 => ?_⟩
    have k9 := Kp.same y9
    have t5 : T2 H9 (.ref r9) := t2_tup hr9 (by rw [List.length_append]; omega) (app1 (kp1 us8 k9) (kp1 us8 k9))
    have st9 := st8.same y9
    refine ⟨by show 5 ≤ sizeLine; decide, fun L hL => ?_⟩
    have yL := Same.new hL (.lst [V.ref l1, .ref r6, o2, .ref d8, .ref r9])
    have gL : upd H9 L (.lst [V.ref l1, .ref r6, o2, .ref d8, .ref r9]) L = some (.lst [V.ref l1, .ref r6, o2, .ref d8, .ref r9]) := upd_same
    have Lp : L ≠ p := st9.2.ne hL
    have kL := Kp.same yL
    have al : AllT (upd H9 L (.lst [V.ref l1, .ref r6, o2, .ref d8, .ref r9])) [V.ref l1, .ref r6, o2, .ref d8, .ref r9] := (((((AllT.nil.snoc ((t1.kp k9).kp kL)).snoc ((t2.kp k9).kp kL)).snoc ((t3.kp k9).kp kL)).snoc ((t4.kp k9).kp kL)).snoc (t5.kp kL))
    have st10 := st9.same yL
    generalize upd H9 L (.lst [V.ref l1, .ref r6, o2, .ref d8, .ref r9]) = H10 at gL al st10
    refine ⟨p, L, _, n + 1 + 1 + 1, rfl, st10.2, by omega, gL, Lp, by show 0 < 5; decide, by show 5 ≤ 1000; decide, fun v H11 hv st11 => ?_⟩
    exact q v H11 ((st10.trans st11).mono (by omega)) ((al v hv).kp (Kp.step st10.2 st11))
  have ene : evs ≠ [] := fun z => by subst z; cases c
  have epos : 0 < evs.length := List.length_pos_iff.mpr ene
  refine iteD (fun c2 => ?_) (fun c2 => ?_)
  ·
    refine ⟨_, .inr he2, fun l1 hl1 => ?_⟩
    have y3 := Same.new hl1 (.lst us)
    have t1 : T2 (upd H2 l1 (.lst us)) (.ref l1) := t2_lst upd_same
    have st3 := st2.same y3
    have he3 := y3 _ _ he2
    have us3 := kp1 us2 (Kp.same y3)
    generalize upd H2 l1 (.lst us) = H3 at t1 st3 he3 us3
    refine ⟨p, n + 1, rfl, st3.2, by omega, fun o1 H4 st4 to1 => ?_⟩
    have kp4 := Kp.step st3.2 st4
    have t1 := t1.kp kp4
    have he4 := kp4.tup _ _ he3
    have us4 := kp1 us3 kp4
    have st4' := st3.trans st4
    refine ⟨by show 1 ≤ sizeLine; decide, fun d5 hd5 => ?_⟩
    have y5 := Same.new hd5 (.tup [o1])
    have g5 : upd H4 d5 (.tup [o1]) d5 = some (.tup [o1]) := upd_same
    have he5 := y5 _ _ he4
    generalize upd H4 d5 (.tup [o1]) = H5 at y5 g5 he5
    refine .inr ⟨_, _, he5, g5, le2 (by show _ + 1 ≤ _; omega), fun r6 H6 y6 hr6 => ?_⟩
    have kp6 := (Kp.same y5).trans (Kp.same y6)
    have t1 := t1.kp kp6
    have us6 := kp1 us4 kp6
    have he6 := kp6.tup _ _ he4
    have t2 : T2 H6 (.ref r6) := t2_tup hr6 (by rw [List.length_append]; show _ + 1 ≤ _; omega) (app1 us6 (f1 (to1.one.kp kp6)))
    have st6 := (st4'.same y5).same y6
    refine ⟨p, n + 1 + 1, rfl, st6.2, by omega, fun o2 H7 st7 t3 => ?_⟩
    have kp7 := Kp.step st6.2 st7
    have t1 := t1.kp kp7
    have t2 := t2.kp kp7
    have us7 := kp1 us6 kp7
    have he7 := kp7.tup _ _ he6
    have st7' := st6.trans st7
    refine ⟨by show 1 ≤ sizeLine; decide, fun d8 hd8 => ?_⟩
    have y8 := Same.new hd8 (.tup [V.ref e])
    have t4 : T2 (upd H7 d8 (.tup [V.ref e])) (.ref d8) := t2_tup upd_same (show 1 ≤ 200 by decide) (f1 (t1_of (y8 _ _ he7) (by omega) (fun y hy => ((us7 y hy).kp (Kp.same y8)).1)))
    have t1 := t1.kp (Kp.same y8)
    have t2 := t2.kp (Kp.same y8)
    have t3 := t3.kp (Kp.same y8)
    have he8 := y8 _ _ he7
    have us8 := kp1 us7 (Kp.same y8)
    have st8 := st7'.same y8
    generalize upd H7 d8 (.tup [V.ref e]) = H8 at t1 t2 t3 t4 he8 us8 st8
    refine .inr ⟨_, _, he8, he8, le2 (by omega), fun r9 H9 y9 hr9 => ?_⟩
    have k9 := Kp.same y9
    have t5 : T2 H9 (.ref r9) := t2_tup hr9 (by rw [List.length_append]; omega) (app1 (kp1 us8 k9) (kp1 us8 k9))
    have st9 := st8.same y9
    refine ⟨by show 5 ≤ sizeLine; decide, fun L hL => ?_⟩
    have yL := Same.new hL (.lst [V.ref l1, .ref r6, o2, .ref d8, .ref r9])
    have gL : upd H9 L (.lst [V.ref l1, .ref r6, o2, .ref d8, .ref r9]) L = some (.lst [V.ref l1, .ref r6, o2, .ref d8, .ref r9]) := upd_same
    have Lp : L ≠ p := st9.2.ne hL
    have kL := Kp.same yL
    have al : AllT (upd H9 L (.lst [V.ref l1, .ref r6, o2, .ref d8, .ref r9])) [V.ref l1, .ref r6, o2, .ref d8, .ref r9] := (((((AllT.nil.snoc ((t1.kp k9).kp kL)).snoc ((t2.kp k9).kp kL)).snoc ((t3.kp k9).kp kL)).snoc ((t4.kp k9).kp kL)).snoc (t5.kp kL))
    have st10 := st9.same yL
    generalize upd H9 L (.lst [V.ref l1, .ref r6, o2, .ref d8, .ref r9]) = H10 at gL al st10
    refine ⟨p, L, _, n + 1 + 1 + 1, rfl, st10.2, by omega, gL, Lp, by show 0 < 5; decide, by show 5 ≤ 1000; decide, fun v H11 hv st11 => ?_⟩
    exact q v H11 ((st10.trans st11).mono (by omega)) ((al v hv).kp (Kp.step st10.2 st11))
  refine ⟨_, .inr he2, ?_⟩
  refine ⟨p, (us.length : Int), n + 1, rfl, st2.2, by omega, by omega, by omega, fun nth' H3 n0 n1 st3 => ?_⟩
  obtain ⟨nth, rfl⟩ : ∃ k : Nat, nth' = (k : Int) := ⟨nth'.toNat, by omega⟩
  have kp3 := Kp.step st2.2 st3
  have he3 := kp3.tup _ _ he2
  have us3 := kp1 us2 kp3
  have tp3 := Tps.step st2.2 st3 tp2
  have st3' := st2.trans st3
  refine iteD (fun c3 => ?_) (fun c3 => ?_)
  · refine ⟨(nth : Int), rfl, e, rfl, .inl ⟨_, he3, fun r4 H4 y4 hr4 => ?_⟩⟩
    refine ⟨(nth : Int) + 1, rfl, e, rfl, .inl ⟨_, y4 _ _ he3, fun r5 H5 y5 hr5 => ?_⟩⟩
    obtain ⟨a1, b1⟩ := cut_sub us none (some (nth : Int))
    obtain ⟨a2, b2⟩ := cut_sub us (some ((nth : Int) + 1)) none
    obtain ⟨a3, b3⟩ := cut_sub us none (some 1)
    refine .inr ⟨_, _, y5 _ _ hr4, hr5, le2 (by omega), fun r6 H6 y6 hr6 => ?_⟩
    have z6 := y4.trans (y5.trans y6)
    refine ⟨1, rfl, e, rfl, .inl ⟨_, z6 _ _ he3, fun r7 H7 y7 hr7 => ?_⟩⟩
    refine .inr ⟨_, _, y7 _ _ hr6, hr7, le2 (by rw [List.length_append]; omega), fun r8 H8 y8 hr8 => ?_⟩
    have z8 := z6.trans (y7.trans y8)
    have u8 := kp1 us3 (Kp.same z8)
    exact q _ H8 ((st3'.same z8).mono (by omega)) (t2_tup hr8 (by rw [List.length_append, List.length_append]; omega) (app1 (app1 (fun y hy => u8 y (a1 y hy)) (fun y hy => u8 y (a2 y hy))) (fun y hy => u8 y (a3 y hy))))
  · refine ⟨(nth : Int), rfl, e, rfl, .inl ⟨_, he3, fun r4 H4 y4 hr4 => ?_⟩⟩
    obtain ⟨a1, b1⟩ := cut_sub us none (some (nth : Int))
    obtain ⟨a2, b2⟩ := cut_sub us (some ((nth : Int) + 1)) none
    have st4 := st3'.same y4
    refine ⟨p, e, n + 1 + 1, nth, us, evs, rfl, st4.2, by omega, y4 _ _ he3, tp3.same y4, eg, by omega, few, fun v H5 st5 tv => ?_⟩
    have kp5 := Kp.step st4.2 st5
    have he5 := kp5.tup _ _ (y4 _ _ he3)
    have hr5 := kp5.tup _ _ hr4
    have us5 := kp1 (kp1 us3 (Kp.same y4)) kp5
    have st5' := st4.trans st5
    refine ⟨by show 1 ≤ sizeLine; decide, fun d6 hd6 => ?_⟩
    have y6 := Same.new hd6 (.tup [v])
    have g6 : upd H5 d6 (.tup [v]) d6 = some (.tup [v]) := upd_same
    generalize upd H5 d6 (.tup [v]) = H6 at y6 g6
    refine .inr ⟨_, _, y6 _ _ hr5, g6, le2 (by show _ + 1 ≤ _; omega), fun r7 H7 y7 hr7 => ?_⟩
    have z7 := y6.trans y7
    refine ⟨(nth : Int) + 1, rfl, e, rfl, .inl ⟨_, z7 _ _ he5, fun r8 H8 y8 hr8 => ?_⟩⟩
    refine .inr ⟨_, _, y8 _ _ hr7, hr8, le2 (by rw [List.length_append]; show _ + 1 + _ ≤ _; omega), fun r9 H9 y9 hr9 => ?_⟩
    have z9 := z7.trans (y8.trans y9)
    have u9 := kp1 us5 (Kp.same z9)
    exact q _ H9 ((st5'.same z9).mono (by omega)) (t2_tup hr9 (by rw [List.length_append, List.length_append]; show _ + 1 + _ ≤ _; omega) (app1 (app1 (fun y hy => u9 y (a1 y hy)) (f1 (tv.kp (Kp.same z9)))) (fun y hy => u9 y (a2 y hy))))
end
end K53
set_option Elab.async false
set_option linter.all false
set_option maxRecDepth 100000
set_option maxHeartbeats 4000000
namespace K53
open PySem L2 M04 M54 M55
theorem tps_back {H H1 : Hp} (k : Kp H H1) : ∀ {us : List V} {evs : List (List Int)}, (∀ y ∈ us, T1 H y) → Tps H1 us evs → Tps H us evs
  | _, _, _, .nil => .nil
  | _, _, t, .cons h r => .cons (k.back (t _ List.mem_cons_self).1 rfl h) (tps_back k (fun y hy => t y (List.mem_cons_of_mem _ hy)) r)
theorem ev_kp {H H1 : Hp} {x : V} (t : T2 H x) (y : Same H H1) : EvP H x ↔ EvP H1 x := by
  constructor
  · rintro ⟨c, us, evs, e, hc, tp, ev⟩
    exact ⟨c, us, evs, e, y _ _ hc, tp.same y, ev⟩
  · rintro ⟨c, us, evs, e, hc, tp, ev⟩
    have h0 := (Kp.same y).back t.1 e hc
    exact ⟨c, us, evs, e, h0, tps_back (Kp.same y) (t.2 c us e h0).2 tp, ev⟩
theorem tps_take {H : Hp} : ∀ {us : List V} {evs : List (List Int)} (k : Nat), Tps H us evs → Tps H (us.take k) (evs.take k)
  | _, _, 0, _ => by rw [List.take_zero, List.take_zero]; exact .nil
  | _, _, k + 1, .nil => .nil
  | _, _, k + 1, .cons h r => .cons h (tps_take k r)
theorem EvG.take {evs : List (List Int)} (g : EvG evs) (k : Nat) : EvG (evs.take k) :=
  ⟨fun x hx => g.prt x (List.mem_of_mem_take hx), fun x hx => g.some x (List.mem_of_mem_take hx), fun x hx => g.short x (List.mem_of_mem_take hx), by
    have := g.apart
    rw [apart_pw] at this ⊢
    exact this.sublist (List.take_sublist _ _)⟩
theorem EvG.t {evs : List (List Int)} (g : EvG evs) (h : evs.length ≤ 12) : EvT evs := ⟨h, fun x hx => by have := g.short x hx; omega, g.prt, g.some, g.apart⟩
theorem t2_evs {H : Hp} {c : Addr} {us : List V} {evs : List (List Int)} (hc : H c = some (.tup us)) (tp : Tps H us evs) (g : EvG evs) (l : evs.length ≤ 13) : T2 H (.ref c) := t2_tup hc (by have := tp.length; omega) (tps_t1 tp g.short)
noncomputable def ones (n : Nat) : List (List Int) := (List.range n).map fun (k : Nat) => [1 + (k : Int)]
theorem ones_g : ∀ n, EvG (ones n)
  | 0 => EvG.nil
  | n + 1 => by
    unfold ones
    rw [List.range_succ, List.map_append]
    refine (ones_g n).snoc ⟨fun x hx => by rw [List.mem_singleton.mp hx]; omega, List.pairwise_singleton _ _⟩ (by simp) (show 1 ≤ 16 by decide) fun e he x hx hxe => ?_
    obtain ⟨k, hk, rfl⟩ := List.mem_map.mp he
    have := List.mem_range.mp hk
    have := List.mem_singleton.mp hx
    have := List.mem_singleton.mp hxe
    omega
theorem ones_len (n : Nat) : (ones n).length = n := by unfold ones; rw [List.length_map, List.length_range]
theorem bt {b : Bool} {p : Prop} (h : b = true ↔ p) (hp : p) : b = true := h.mpr hp
theorem bf {b : Bool} {p : Prop} (h : b = true ↔ p) (hp : ¬ p) : b = false := by
  cases b with
  | false => rfl
  | true => exact absurd (h.mp rfl) hp
section
variable {P : Program} {w : World} {K : PySem.W.Frag} {mg : Str → Option Value} {base : Heap} {f : Addr} {fd : FuncData}
theorem sc_to : FnScope ["_law_thing", "_law_found"] ["_law_thing"] (defScope (top 21)) := ⟨rfl, rfl, rfl, by decide +kernel, rfl, by decide +kernel, by decide +kernel⟩
noncomputable def sp_to : Sp := fun vs H Q _ => ∃ x, vs = [x] ∧ T2 H x ∧ ∀ H', Same H H' → Q (.bl true) H'
theorem ok_to (F : Fun K "_law_told" "_law_told" (top 21) f fd) (m_bool : mg "bool" = none) (m_isinstance : mg "isinstance" = none) (F_law_due : FnA P w K mg base "_law_due" 2 ["_law_thing"] sp_ae) (F_are_events : FnA P w K mg base "are_events" 3 ["thing"] sp_ae) : FnOk P w K mg base CX0 4 f fd ["_law_thing"] sp_to := by
  refine F.okz sc_to (fun vs H Q E h => ?_) (fun cdv A outer s H vs Q E hr h => ?_)
  · obtain ⟨x, rfl, _⟩ := h; rfl
  obtain ⟨x, rfl, tx, q⟩ := h
  have nd := sc_to.nd
  have hu := hr.units
  refine ⟨_, (zss_cons (zs_set (i := 1) nd rfl (Or.inl rfl) (ze_fn F_are_events hr (by decide) rfl (za_cons (zn 0) za_nil)))
      (zss_one (zs_ret (ze_andP (zcb_isinstance rfl m_isinstance (za_cons (zn 1) (za_cons (zty_bool rfl m_bool) za_nil)) rfl rfl) (ze_one (ze_cmpR (op_eqD hu) (zn 1) (ze_fn F_law_due hr (by decide) rfl (za_cons (zn 0) za_nil)) (nomark _))))))), ?_⟩
  refine ⟨x, rfl, tx, fun b H1 y1 i1 => ?_⟩
  refine ⟨"bool", rfl, by decide, ?_⟩
  refine ⟨x, rfl, tx.kp (Kp.same y1), fun b2 H2 y2 i2 => ?_⟩
  have eb : b = b2 := by
    rw [← ev_kp tx y1, ← i1] at i2
    cases b <;> cases b2 <;> simp at i2 ⊢
  subst eb
  show Q (.bl (decide (V.bl b = V.bl b))) H2
  rw [decide_eq_true rfl]
  exact q _ (y1.trans y2)
theorem sc_law : FnScope ["_law_script", "_law_k", "_law_hand_here", "_law_events", "_law_turn", "_law_some", "_law_twelve", "_law_thirteen"] ["_law_script"] (defScope (top 22)) := ⟨rfl, rfl, rfl, by decide +kernel, rfl, by decide +kernel, by decide +kernel⟩
noncomputable def sp_law (K : PySem.W.Frag) : Sp := fun vs H Q _ => ∃ (a : Addr) (ns : List Int), vs = [.ref a] ∧ SqL K H a (ns.map V.int) ∧ ns.length ≤ 63 ∧ ∀ H', Q (.bl true) H'
theorem ok_law (F : Fun K "law" "law" (top 22) f fd) (m_all : mg "all" = none) (m_len : mg "len" = none) (m_max : mg "max" = none) (m_min : mg "min" = none) (m_range : mg "range" = none) (m_tuple : mg "tuple" = none) (F_law_hand : FnA P w K mg base "_law_hand" 1 ["_law_script", "_law_k"] (sp_hand K)) (F_law_odd : FnA P w K mg base "_law_odd" 3 ["_law_hand_here"] sp_od) (F_law_otherwise : FnA P w K mg base "_law_otherwise" 5 ["_law_hand_here", "_law_events"] sp_ot) (F_law_some_events : FnA P w K mg base "_law_some_events" 2 ["_law_hand_here", "_law_many"] sp_se) (F_law_take : FnA P w K mg base "_law_take" 1 ["_law_hand_here", "_law_many"] sp_take) (F_law_told : FnA P w K mg base "_law_told" 4 ["_law_thing"] sp_to) (F_are_events : FnA P w K mg base "are_events" 3 ["thing"] sp_ae) : FnOk P w K mg base CX0 6 f fd ["_law_script"] (sp_law K) := by
  refine F.okz sc_law (fun vs H Q E h => ?_) (fun cdv A outer s H vs Q E hr h => ?_)
  · obtain ⟨a, ns, rfl, _⟩ := h; rfl
  obtain ⟨a, ns, rfl, hS, hl, q⟩ := h
  have nd := sc_law.nd
  have hu := hr.units
  refine ⟨_, (zss_cons (zs_for PassesOwn.never rfl (zi_range1 rfl m_range (za_cons (zcb_max rfl rfl m_max (za_cons ze_int (za_cons (zcb_min rfl rfl m_min (za_cons ze_int (za_cons (zcb_len rfl m_len (za_cons (zn 0) za_nil) rfl rfl) za_nil)) rfl rfl) za_nil)) rfl rfl) za_nil)) (zg_name (i := 1) nd rfl (Or.inl rfl)) (zss_cons (zs_set (i := 2) nd rfl (Or.inl rfl) (ze_fn F_law_hand hr (by decide) rfl (za_cons (zn 0) (za_cons (zn 1) za_nil))))
      (zss_cons (zs_set (i := 3) nd rfl (Or.inl rfl) (ze_fn F_law_some_events hr (by decide) rfl (za_cons (zn 2) (za_cons (ze_ix ix_P (ze_lst (za_cons (ze_fn F_law_take hr (by decide) rfl (za_cons (zn 2) (za_cons ze_int za_nil))) (za_cons (ze_fn F_law_take hr (by decide) rfl (za_cons (zn 2) (za_cons ze_int za_nil))) (za_cons ze_int (za_cons ze_int za_nil))))) (ze_fn F_law_take hr (by decide) rfl (za_cons (zn 2) (za_cons ze_int za_nil))) (fun _ _ => rfl)) za_nil))))
      (zss_cons (zs_if (ZW.zt (zw_or (zt_not (zt_valP (ze_fn F_law_told hr (by decide) rfl (za_cons (zn 3) za_nil)))) (zw_or1 (zt_cmpP op_isntP (ze_fn F_are_events hr (by decide) rfl (za_cons (ze_slice sl_P (zn 3) zo_none (zo_some ze_int)) za_nil)) ze_bl (nomark _))))) (zss_one (zs_ret ze_bl)) zss_nil)
      (zss_one (zs_for PassesOwn.never rfl (zi_range1 rfl m_range (za_cons ze_int za_nil)) (zg_name (i := 4) nd rfl (Or.inl rfl)) (zss_cons (zs_set (i := 5) nd rfl (Or.inl rfl) (ze_lst (za_cons (ze_fn F_law_otherwise hr (by decide) rfl (za_cons (zn 2) (za_cons (ze_slice sl_P (zn 3) zo_none (zo_some ze_int)) za_nil))) (za_cons (ze_fn F_law_otherwise hr (by decide) rfl (za_cons (zn 2) (za_cons (ze_slice sl_P (zn 3) zo_none (zo_some ze_int)) za_nil))) (za_cons (ze_fn F_law_odd hr (by decide) rfl (za_cons (zn 2) za_nil)) za_nil)))))
      (zss_one (zs_if (zt_not (zt_valP (zcb_all rfl rfl m_all (za_cons (ze_comp ["_law_thing"] [] rfl ⟨rfl, by decide +kernel, by decide +kernel, rfl, rfl⟩ (zi_list (zn 5)) kpg_name (fun _ _ _ _ => zg_name (i := 0) (show List.Nodup (["_law_thing"] : List Str) by decide +kernel) rfl (Or.inl rfl)) (fun _ _ _ _ => zif_nil) (fun _ _ _ _ => (ze_fn F_law_told hr (by decide) rfl (za_cons (zn 0) za_nil)))) za_nil) rfl rfl))) (zss_one (zs_ret ze_bl)) zss_nil)))))))))
      (zss_cons (zs_par (i := 6) (j := 7) rfl nd rfl rfl (by decide) rfl rfl (za_cons (ze_comp ["_law_k"] [] rfl ⟨rfl, by decide +kernel, by decide +kernel, rfl, rfl⟩ (zi_range2 rfl m_range (za_cons ze_int (za_cons ze_int za_nil))) kpg_name (fun _ _ _ _ => zg_name (i := 0) (show List.Nodup (["_law_k"] : List Str) by decide +kernel) rfl (Or.inl rfl)) (fun _ _ _ _ => zif_nil) (fun _ _ _ _ => (ze_tup (za_cons (zn 0) za_nil)))) (za_cons (ze_comp ["_law_k"] [] rfl ⟨rfl, by decide +kernel, by decide +kernel, rfl, rfl⟩ (zi_range2 rfl m_range (za_cons ze_int (za_cons ze_int za_nil))) kpg_name (fun _ _ _ _ => zg_name (i := 0) (show List.Nodup (["_law_k"] : List Str) by decide +kernel) rfl (Or.inl rfl)) (fun _ _ _ _ => zif_nil) (fun _ _ _ _ => (ze_tup (za_cons (zn 0) za_nil)))) za_nil)) rfl)
      (zss_cons (zs_if (ZW.zt (zw_or (zt_cmpP op_isntP (ze_fn F_are_events hr (by decide) rfl (za_cons (zcb_tuple rfl m_tuple (za_cons (zn 6) za_nil) rfl rfl) za_nil)) ze_bl (nomark _)) (zw_or1 (zt_cmpP op_isntP (ze_fn F_are_events hr (by decide) rfl (za_cons (zcb_tuple rfl m_tuple (za_cons (zn 7) za_nil) rfl rfl) za_nil)) ze_bl (nomark _))))) (zss_one (zs_ret ze_bl)) zss_nil)
      (zss_one (zs_ret (ze_andP (ze_cmpR op_isP (ze_fn F_are_events hr (by decide) rfl (za_cons (ze_tup za_nil) za_nil)) ze_bl (nomark _)) (ze_one (ze_cmpR op_isP (ze_fn F_are_events hr (by decide) rfl (za_cons (ze_tup (za_cons (ze_tup (za_cons ze_int za_nil)) za_nil)) za_nil)) ze_bl (nomark _))))))))), ?_⟩
  refine ⟨_, .inl hS, ?_⟩
  rw [List.length_map]
  obtain ⟨m, em, m5⟩ : ∃ m : Int, (if 1 < (if (ns.length : Int) < 4 then (ns.length : Int) else 4) then (if (ns.length : Int) < 4 then (ns.length : Int) else 4) else 1) = m ∧ (0 ≤ m ∧ m ≤ 4) := ⟨_, rfl, by split <;> split <;> omega⟩
  refine ⟨m, congrArg (fun z => [V.int z]) em, by omega, by omega, ?_⟩
  refine for_range (fun i σ H' => i ≤ 4 ∧ Same H H' ∧ ∃ x1 x2 x3 x4 x5 x6 x7, σ = [some (.ref a), x1, x2, x3, x4, x5, x6, x7]) ⟨by decide, Same.refl _, _, _, _, _, _, _, _, rfl⟩ ?_ ?_
  · rintro i σ H0 hi ⟨_, y0, x1, x2, x3, x4, x5, x6, x7, rfl⟩
    have hi5 : i + 1 ≤ 4 := by omega
    refine ⟨a, 0 + (i : Int), ns, rfl, SqL.same y0 hS, by omega, by omega, fun p H1 hp y1 hh1 => ?_⟩
    have hpH : H p = none := fresh_back y0 hp
    have z1 := y0.trans y1
    have key : ∀ {Hx : Hp} {k : Nat}, Step p k H1 Hx → Same H Hx := fun {Hx k} st b o e' => st.1 b o (fun z => by rw [z, hpH] at e'; cases e') (z1 _ _ e')
    refine ⟨p, 5, 0, rfl, hh1, by decide, by decide, by decide, fun a5 H2 a50 a51 st2 => ?_⟩
    refine ⟨p, 14, 1, rfl, st2.2, by decide, by decide, by decide, fun a14 H3 a140 a141 st3 => ?_⟩
    have st3 := st2.trans st3
    refine ⟨by show 4 ≤ sizeLine; decide, fun d hd => ?_⟩
    have yd := Same.new hd (.lst [V.int a5, .int a14, .int 12, .int 13])
    have gd : upd H3 d (.lst [V.int a5, .int a14, .int 12, .int 13]) d = some (.lst [V.int a5, .int a14, .int 12, .int 13]) := upd_same
    have dp : d ≠ p := st3.2.ne hd
    have st4 := st3.same yd
    generalize upd H3 d (.lst [V.int a5, .int a14, .int 12, .int 13]) = H4 at gd st4
    refine ⟨p, 4, 2, rfl, st4.2, by decide, by decide, by decide, fun a4 H5 a40 a41 st5 => ?_⟩
    have gd := st5.1 _ _ dp gd
    have st5 := st4.trans st5
    obtain ⟨mm, emm, mm13⟩ : ∃ mm : Nat, atI [V.int a5, .int a14, .int 12, .int 13] a4 = some (.int (mm : Int)) ∧ mm ≤ 13 := by
      have : a4 = 0 ∨ a4 = 1 ∨ a4 = 2 ∨ a4 = 3 := by omega
      rcases this with rfl | rfl | rfl | rfl
      · exact ⟨a5.toNat, by rw [show ((a5.toNat : Nat) : Int) = a5 by omega]; rfl, by omega⟩
      · exact ⟨a14.toNat, by rw [show ((a14.toNat : Nat) : Int) = a14 by omega]; rfl, by omega⟩
      · exact ⟨12, rfl, by decide⟩
      · exact ⟨13, rfl, by decide⟩
    refine ⟨_, .inl (SqL.of gd), .int (mm : Int), emm, ?_⟩
    refine ⟨p, 3, mm, rfl, st5.2, by decide, mm13, fun e us evs H6 st6 he tp le eg => ?_⟩
    have st6 := st5.trans st6
    have lu := tp.length
    refine ⟨.ref e, rfl, t2_evs he tp eg (by omega), fun H7 y7 => ?_⟩
    have he7 := y7 _ _ he
    have tp7 := tp.same y7
    refine ⟨12, rfl, e, rfl, .inl ⟨_, he7, fun r8 H8 y8 hr8 => ?_⟩⟩
    have c12 : cutV us none (some 12) = us.take 12 := by
      unfold cutV
      rw [HT.sIx_none, show (12 : Int) = ((12 : Nat) : Int) from rfl, HT.sIx_nat, Nat.sub_zero, List.drop_zero]
      by_cases h : 12 ≤ us.length
      · rw [Nat.min_eq_left h]
      · rw [Nat.min_eq_right (by omega), List.take_of_length_le (Nat.le_refl _), List.take_of_length_le (by omega)]
    rw [c12] at hr8
    have tp8 := tps_take 12 (tp7.same y8)
    have l12 : (evs.take 12).length ≤ 12 := by rw [List.length_take]; omega
    have ev12 : EvP H8 (.ref r8) := ⟨r8, _, _, rfl, hr8, tp8, (eg.take 12).t l12⟩
    refine ⟨.ref r8, rfl, t2_evs hr8 tp8 (eg.take 12) (by omega), fun b H9 y9 iff => ?_⟩
    obtain rfl := bt iff ev12
    have st9 := ((st6.same y7).same y8).same y9
    have he9 := y9 _ _ (y8 _ _ he7)
    have tp9 := (tp7.same y8).same y9
    clear st2 st3 st4 st5 st6 he he7 tp tp7 hr8 tp8 ev12 iff
    refine ⟨20, rfl, by decide, by decide, ?_⟩
    refine for_range (n := 20) (fun j σ H' => j ≤ 20 ∧ Step p (300 + j * 30) H1 H' ∧ H' e = some (.tup us) ∧ Tps H' us evs ∧ ∃ x4 x5, σ = [some (.ref a), some (.int (0 + (i : Int))), some (.ref p), some (.ref e), x4, x5, x6, x7]) ⟨by decide, st9.mono (by omega), he9, tp9, _, _, rfl⟩ ?_ ?_
    · rintro j σ H10 hj ⟨_, st10, he10, tp10, x4', x5', rfl⟩
      refine ⟨12, rfl, e, rfl, .inl ⟨_, he10, fun r11 H11 y11 hr11 => ?_⟩⟩
      rw [c12] at hr11
      have st11 := st10.same y11
      refine ⟨p, r11, 300 + j * 30, _, _, rfl, st11.2, by omega, hr11, tps_take 12 (tp10.same y11), eg.take 12, by omega, fun v1 H12 st12 t1 => ?_⟩
      have kp12 := Kp.step st11.2 st12
      have he12 := kp12.tup _ _ (y11 _ _ he10)
      have tp12 := Tps.step st11.2 st12 (tp10.same y11)
      have st12 := st11.trans st12
      refine ⟨3, rfl, e, rfl, .inl ⟨_, he12, fun r13 H13 y13 hr13 => ?_⟩⟩
      have c3 : cutV us none (some 3) = us.take 3 := by
        unfold cutV
        rw [HT.sIx_none, show (3 : Int) = ((3 : Nat) : Int) from rfl, HT.sIx_nat, Nat.sub_zero, List.drop_zero]
        by_cases h : 3 ≤ us.length
        · rw [Nat.min_eq_left h]
        · rw [Nat.min_eq_right (by omega), List.take_of_length_le (Nat.le_refl _), List.take_of_length_le (by omega)]
      rw [c3] at hr13
      have st13 := st12.same y13
      have t1 := t1.kp (Kp.same y13)
      refine ⟨p, r13, 300 + j * 30 + 10, _, _, rfl, st13.2, by omega, hr13, tps_take 3 (tp12.same y13), eg.take 3, by rw [List.length_take]; omega, fun v2 H14 st14 t2 => ?_⟩
      have kp14 := Kp.step st13.2 st14
      have he14 := kp14.tup _ _ (y13 _ _ he12)
      have tp14 := Tps.step st13.2 st14 (tp12.same y13)
      have t1 := t1.kp kp14
      have st14 := st13.trans st14
      refine ⟨p, 300 + j * 30 + 10 + 10, rfl, st14.2, by omega, fun v3 H15 st15 t3 => ?_⟩
      have kp15 := Kp.step st14.2 st15
      have he15 := kp15.tup _ _ he14
      have tp15 := Tps.step st14.2 st15 tp14
      have t1 := t1.kp kp15
      have t2 := t2.kp kp15
      have st15 := st14.trans st15
      refine ⟨by show 3 ≤ sizeLine; decide, fun L hL => ?_⟩
      have yL := Same.new hL (.lst [v1, v2, v3])
      have gL : upd H15 L (.lst [v1, v2, v3]) L = some (.lst [v1, v2, v3]) := upd_same
      have kL := Kp.same yL
      have al : AllT (upd H15 L (.lst [v1, v2, v3])) [v1, v2, v3] := ((AllT.nil.snoc (t1.kp kL)).snoc (t2.kp kL)).snoc (t3.kp kL)
      have st16 := st15.same yL
      have he16 := yL _ _ he15
      have tp16 := tp15.same yL
      generalize upd H15 L (.lst [v1, v2, v3]) = H16 at gL al st16 he16 tp16
      refine ⟨L, rfl, ⟨_, SqL.of gL⟩, cmp_list (xs := [v1, v2, v3]) (fun c zs H' => Same H16 H' ∧ zs = (List.replicate c true).map V.bl ∧ c ≤ 3) ⟨Same.refl _, rfl, by decide⟩ ?_ ?_ ?_⟩
      · rintro c zs H' _ ⟨y, _⟩
        exact SqL.of (y _ _ gL)
      · rintro c v zs H' hv ⟨y, rfl, c3'⟩
        have hc : c < 3 := (List.getElem?_eq_some_iff.mp hv).1
        refine ⟨by rw [List.length_map, List.length_replicate]; exact small1000 (by omega), ?_⟩
        refine ⟨v, rfl, (al v (List.mem_of_getElem? hv)).kp (Kp.same y), fun H17 y17 => ?_⟩
        exact ⟨y.trans y17, rep_snoc c, by omega⟩
      · rintro zs H' ⟨y, rfl, _⟩ D hD
        refine ⟨_, SqL.of upd_same, ?_⟩
        rw [rep_all]
        have yD := y.trans (Same.new hD (.lst ((List.replicate [v1, v2, v3].length true).map V.bl)))
        exact ⟨hj, (st16.same yD).mono (by omega), yD _ _ he16, tp16.same yD, _, _, rfl⟩
    · rintro σ H10 ⟨_, st10, _, _, x4', x5', rfl⟩
      exact ⟨hi5, key st10, _, _, _, _, _, _, _, rfl⟩
  · rintro σ H' ⟨_, y, x1, x2, x3, x4, x5, x6, x7, rfl⟩
    have comp : ∀ (n : Nat), n ≤ 13 → True := fun _ _ => trivial
    refine ⟨1, 13, rfl, ⟨by decide, by decide, by decide, by decide⟩, ?_⟩
    refine cmp_range (fun i ys H2 => i ≤ 12 ∧ Same H' H2 ∧ Tps H2 ys (ones i)) ⟨Nat.zero_le _, Same.refl _, .nil⟩ ?_ ?_
    · rintro i ys H2 hi ⟨_, y2, t2⟩
      have lt := t2.length
      rw [ones_len] at lt
      refine ⟨small1000 (by omega), ?_⟩
      refine ⟨by show 1 ≤ sizeLine; decide, fun d hd => ?_⟩
      have yd := Same.new hd (.tup [V.int (1 + (i : Int))])
      refine ⟨by have : i < (13 - 1 : Int).toNat := hi; omega, y2.trans yd, ?_⟩
      have : ones (i + 1) = ones i ++ [[1 + (i : Int)]] := by unfold ones; rw [List.range_succ, List.map_append]; rfl
      rw [this]
      exact Tps.snoc (ls := [1 + (i : Int)]) upd_same (t2.same yd)
    · rintro ys H2 ⟨_, y2, t2⟩ D hD
      have yD := Same.new hD (.lst ys)
      have gD : upd H2 D (.lst ys) D = some (.lst ys) := upd_same
      have t2 := t2.same yD
      generalize upd H2 D (.lst ys) = H3 at gD t2
      refine ⟨1, 14, rfl, ⟨by decide, by decide, by decide, by decide⟩, ?_⟩
      refine cmp_range (fun i zs H4 => i ≤ 13 ∧ Same H3 H4 ∧ Tps H4 zs (ones i)) ⟨Nat.zero_le _, Same.refl _, .nil⟩ ?_ ?_
      · rintro i zs H4 hi ⟨_, y4, t4⟩
        have lt := t4.length
        rw [ones_len] at lt
        refine ⟨small1000 (by omega), ?_⟩
        refine ⟨by show 1 ≤ sizeLine; decide, fun d hd => ?_⟩
        have yd := Same.new hd (.tup [V.int (1 + (i : Int))])
        refine ⟨by have : i < (14 - 1 : Int).toNat := hi; omega, y4.trans yd, ?_⟩
        have : ones (i + 1) = ones i ++ [[1 + (i : Int)]] := by unfold ones; rw [List.range_succ, List.map_append]; rfl
        rw [this]
        exact Tps.snoc (ls := [1 + (i : Int)]) upd_same (t4.same yd)
      · rintro zs H4 ⟨_, y4, t4⟩ D2 hD2
        have yD2 := Same.new hD2 (.lst zs)
        have gD2 : upd H4 D2 (.lst zs) D2 = some (.lst zs) := upd_same
        have t4 := t4.same yD2
        have gD := yD2 _ _ (y4 _ _ gD)
        have t2 := (t2.same y4).same yD2
        generalize upd H4 D2 (.lst zs) = H5 at gD2 t4 gD t2
        refine ⟨_, _, rfl, ?_⟩
        refine ⟨_, .inl (SqL.of gD), fun r6 H6 y6 hr6 => ?_⟩
        have t26 : Tps H6 ys (ones 12) := t2.same y6
        refine ⟨.ref r6, rfl, t2_evs hr6 t26 (ones_g 12) (by rw [ones_len]; decide), fun b H7 y7 iff => ?_⟩
        obtain rfl := bt iff ((ev_one hr6 t26).mpr ((ones_g 12).t (by rw [ones_len]; decide)))
        refine ⟨_, .inl (SqL.of (y7 _ _ (y6 _ _ gD2))), fun r8 H8 y8 hr8 => ?_⟩
        have t48 : Tps H8 zs (ones 13) := ((t4.same y6).same y7).same y8
        refine ⟨.ref r8, rfl, t2_evs hr8 t48 (ones_g 13) (by rw [ones_len]; decide), fun b H9 y9 iff2 => ?_⟩
        obtain rfl := bf iff2 (fun z => by have := ((ev_one hr8 t48).mp z).few; rw [ones_len] at this; omega)
        refine ⟨Nat.zero_le _, fun d10 hd10 => ?_⟩
        have g10 : upd H9 d10 (.tup []) d10 = some (.tup []) := upd_same
        generalize upd H9 d10 (.tup []) = H10 at g10
        have t10 : Tps H10 [] [] := .nil
        refine ⟨.ref d10, rfl, t2_evs g10 t10 EvG.nil (by decide), fun b H11 y11 iff3 => ?_⟩
        obtain rfl := bt iff3 ((ev_one g10 t10).mpr (EvG.nil.t (by decide)))
        refine ⟨by show 1 ≤ sizeLine; decide, fun d12 hd12 => ?_⟩
        have y12 := Same.new hd12 (.tup [V.int 1])
        have g12 : upd H11 d12 (.tup [V.int 1]) d12 = some (.tup (([1] : List Int).map V.int)) := upd_same
        generalize upd H11 d12 (.tup [V.int 1]) = H12 at g12
        refine ⟨by show 1 ≤ sizeLine; decide, fun d13 hd13 => ?_⟩
        have y13 := Same.new hd13 (.tup [V.ref d12])
        have g13 : upd H12 d13 (.tup [V.ref d12]) d13 = some (.tup [V.ref d12]) := upd_same
        have g12 := y13 _ _ g12
        generalize upd H12 d13 (.tup [V.ref d12]) = H13 at g13 g12
        have t13 : Tps H13 [V.ref d12] [[1]] := .cons g12 .nil
        refine ⟨.ref d13, rfl, t2_evs g13 t13 (ones_g 1) (by decide), fun b H14 y14 iff4 => ?_⟩
        obtain rfl := bt iff4 ((ev_one g13 t13).mpr ((ones_g 1).t (by decide)))
        exact q _
end
end K53
set_option Elab.async false
set_option linter.all false
set_option maxRecDepth 100000
set_option maxHeartbeats 4000000
namespace K53
open PySem L2
theorem fnA {P : Program} {w : World} {K : PySem.W.Frag} {mg : Str → Option Value} {base : Heap} {x : Str} {k : Nat} {ps : List Str} {sp : Sp} {f : Addr} {fd : FuncData} (F : FnOk P w K mg base CX0 k f fd ps sp) (b : Binds K fd ps []) (kp : PySem.W.keepIn K (.ref f) = true) (m : mg x = some (.ref f)) : FnA P w K mg base x k ps sp := ⟨⟨f, fd, F, b, kp, m⟩⟩
theorem us1 {α : Type} {p : List α → Prop} (h : ∀ a, p [a]) : ∀ us : List α, us.length = 1 → p us
  | [a], _ => h a
theorem us2 {α : Type} {p : List α → Prop} (h : ∀ a b, p [a, b]) : ∀ us : List α, us.length = 2 → p us
  | [a, b], _ => h a b
theorem us3 {α : Type} {p : List α → Prop} (h : ∀ a b c, p [a, b, c]) : ∀ us : List α, us.length = 3 → p us
  | [a, b, c], _ => h a b c
theorem all_mk {l : PySem.W.OpenLaw} {w : World} {K : PySem.W.Frag} {h : Heap} {mg : Str → Option Value} {fa f1 f2 f3 f4 f5 f6 f7 f8 f9 f10 f11 f12 f13 f14 f15 f16 f17 f18 : Addr} {tk1 : Tok} (X : K.In h) (G : h.Ns mainGlobals mg) (hfa : mg "law" = some (.ref fa))
    {od1 an1 od2 an2 od3 an3 od4 an4 od5 an5 od6 an6 od7 an7 od8 an8 od9 an9 od10 an10 od11 an11 od12 an12 od13 an13 od14 an14 od15 an15 od16 an16 od17 an17 od18 an18 : Option Addr} {sl1 sl2 sl3 sl4 sl5 sl6 sl7 sl8 sl9 sl10 sl11 sl12 sl13 sl14 sl15 sl16 sl17 sl18 : Array (Option Value)} {oc1 kV1 dc1 pm1 cd1 ct1 oc2 kV2 dc2 pm2 cd2 ct2 oc3 kV3 dc3 pm3 cd3 ct3 oc4 kV4 dc4 pm4 cd4 ct4 oc5 kV5 dc5 pm5 cd5 ct5 oc6 kV6 dc6 pm6 cd6 ct6 oc7 kV7 dc7 pm7 cd7 ct7 oc8 kV8 dc8 pm8 cd8 ct8 oc9 kV9 dc9 pm9 cd9 ct9 oc10 kV10 dc10 pm10 cd10 ct10 oc11 kV11 dc11 pm11 cd11 ct11 oc12 kV12 dc12 pm12 cd12 ct12 oc13 kV13 dc13 pm13 cd13 ct13 oc14 kV14 dc14 pm14 cd14 ct14 oc15 kV15 dc15 pm15 cd15 ct15 oc16 kV16 dc16 pm16 cd16 ct16 oc17 kV17 dc17 pm17 cd17 ct17 oc18 kV18 dc18 pm18 cd18 ct18 : Value}
    (a1 : PySem.W.nsIn K mainGlobals "is_whole" = some (some (.ref f1))) (l1 : K.lookup f1 = some ⟨oc1, od1, .func (PySem.W.fnOf "is_whole" "is_whole" (defArgs (top 1)) (defBody (top 1)) (defScope (top 1)) .none kV1 dc1 pm1 an1 cd1 ct1), sl1⟩) (c1 : PySem.W.codeIn K cd1 "is_whole" = true) (k1 : PySem.W.keepIn K (.ref f1) = true)
    (a2 : PySem.W.nsIn K mainGlobals "is_parting" = some (some (.ref f2))) (l2 : K.lookup f2 = some ⟨oc2, od2, .func (PySem.W.fnOf "is_parting" "is_parting" (defArgs (top 3)) (defBody (top 3)) (defScope (top 3)) .none kV2 dc2 pm2 an2 cd2 ct2), sl2⟩) (c2 : PySem.W.codeIn K cd2 "is_parting" = true) (k2 : PySem.W.keepIn K (.ref f2) = true)
    (a3 : PySem.W.nsIn K mainGlobals "sizes" = some (some (.ref f3))) (l3 : K.lookup f3 = some ⟨oc3, od3, .func (PySem.W.fnOf "sizes" "sizes" (defArgs (top 4)) (defBody (top 4)) (defScope (top 4)) .none kV3 dc3 pm3 an3 cd3 ct3), sl3⟩) (c3 : PySem.W.codeIn K cd3 "sizes" = true) (k3 : PySem.W.keepIn K (.ref f3) = true)
    (a4 : PySem.W.nsIn K mainGlobals "share_no_size" = some (some (.ref f4))) (l4 : K.lookup f4 = some ⟨oc4, od4, .func (PySem.W.fnOf "share_no_size" "share_no_size" (defArgs (top 7)) (defBody (top 7)) (defScope (top 7)) .none kV4 dc4 pm4 an4 cd4 ct4), sl4⟩) (c4 : PySem.W.codeIn K cd4 "share_no_size" = true) (k4 : PySem.W.keepIn K (.ref f4) = true)
    (a5 : PySem.W.nsIn K mainGlobals "are_events" = some (some (.ref f5))) (l5 : K.lookup f5 = some ⟨oc5, od5, .func (PySem.W.fnOf "are_events" "are_events" (defArgs (top 8)) (defBody (top 8)) (defScope (top 8)) .none kV5 dc5 pm5 an5 cd5 ct5), sl5⟩) (c5 : PySem.W.codeIn K cd5 "are_events" = true) (k5 : PySem.W.keepIn K (.ref f5) = true)
    (a6 : PySem.W.nsIn K mainGlobals "_law_hand" = some (some (.ref f6))) (l6 : K.lookup f6 = some ⟨oc6, od6, .func (PySem.W.fnOf "_law_hand" "_law_hand" (defArgs (top 10)) (defBody (top 10)) (defScope (top 10)) .none kV6 dc6 pm6 an6 cd6 ct6), sl6⟩) (c6 : PySem.W.codeIn K cd6 "_law_hand" = true) (k6 : PySem.W.keepIn K (.ref f6) = true)
    (a7 : PySem.W.nsIn K mainGlobals "_law_take" = some (some (.ref f7))) (l7 : K.lookup f7 = some ⟨oc7, od7, .func (PySem.W.fnOf "_law_take" "_law_take" (defArgs (top 11)) (defBody (top 11)) (defScope (top 11)) .none kV7 dc7 pm7 an7 cd7 ct7), sl7⟩) (c7 : PySem.W.codeIn K cd7 "_law_take" = true) (k7 : PySem.W.keepIn K (.ref f7) = true)
    (a8 : PySem.W.nsIn K mainGlobals "_law_pick" = some (some (.ref f8))) (l8 : K.lookup f8 = some ⟨oc8, od8, .func (PySem.W.fnOf "_law_pick" "_law_pick" (defArgs (top 12)) (defBody (top 12)) (defScope (top 12)) .none kV8 dc8 pm8 an8 cd8 ct8), sl8⟩) (c8 : PySem.W.codeIn K cd8 "_law_pick" = true) (k8 : PySem.W.keepIn K (.ref f8) = true)
    (a9 : PySem.W.nsIn K mainGlobals "_law_falling" = some (some (.ref f9))) (l9 : K.lookup f9 = some ⟨oc9, od9, .func (PySem.W.fnOf "_law_falling" "_law_falling" (defArgs (top 13)) (defBody (top 13)) (defScope (top 13)) .none kV9 dc9 pm9 an9 cd9 ct9), sl9⟩) (c9 : PySem.W.codeIn K cd9 "_law_falling" = true) (k9 : PySem.W.keepIn K (.ref f9) = true)
    (a10 : PySem.W.nsIn K mainGlobals "_law_some_events" = some (some (.ref f10))) (l10 : K.lookup f10 = some ⟨oc10, od10, .func (PySem.W.fnOf "_law_some_events" "_law_some_events" (defArgs (top 14)) (defBody (top 14)) (defScope (top 14)) .none kV10 dc10 pm10 an10 cd10 ct10), sl10⟩) (c10 : PySem.W.codeIn K cd10 "_law_some_events" = true) (k10 : PySem.W.keepIn K (.ref f10) = true)
    (a11 : PySem.W.nsIn K mainGlobals "_law_is_parting" = some (some (.ref f11))) (l11 : K.lookup f11 = some ⟨oc11, od11, .func (PySem.W.fnOf "_law_is_parting" "_law_is_parting" (defArgs (top 15)) (defBody (top 15)) (defScope (top 15)) .none kV11 dc11 pm11 an11 cd11 ct11), sl11⟩) (c11 : PySem.W.codeIn K cd11 "_law_is_parting" = true) (k11 : PySem.W.keepIn K (.ref f11) = true)
    (a12 : PySem.W.nsIn K mainGlobals "_law_due" = some (some (.ref f12))) (l12 : K.lookup f12 = some ⟨oc12, od12, .func (PySem.W.fnOf "_law_due" "_law_due" (defArgs (top 16)) (defBody (top 16)) (defScope (top 16)) .none kV12 dc12 pm12 an12 cd12 ct12), sl12⟩) (c12 : PySem.W.codeIn K cd12 "_law_due" = true) (k12 : PySem.W.keepIn K (.ref f12) = true)
    (a13 : PySem.W.nsIn K mainGlobals "_law_deep" = some (some (.ref f13))) (l13 : K.lookup f13 = some ⟨oc13, od13, .func (PySem.W.fnOf "_law_deep" "_law_deep" (defArgs (top 17)) (defBody (top 17)) (defScope (top 17)) .none kV13 dc13 pm13 an13 cd13 ct13), sl13⟩) (c13 : PySem.W.codeIn K cd13 "_law_deep" = true) (k13 : PySem.W.keepIn K (.ref f13) = true)
    (a14 : PySem.W.nsIn K mainGlobals "_law_odd" = some (some (.ref f14))) (l14 : K.lookup f14 = some ⟨oc14, od14, .func (PySem.W.fnOf "_law_odd" "_law_odd" (defArgs (top 18)) (defBody (top 18)) (defScope (top 18)) .none kV14 dc14 pm14 an14 cd14 ct14), sl14⟩) (c14 : PySem.W.codeIn K cd14 "_law_odd" = true) (k14 : PySem.W.keepIn K (.ref f14) = true)
    (a15 : PySem.W.nsIn K mainGlobals "_law_event_otherwise" = some (some (.ref f15))) (l15 : K.lookup f15 = some ⟨oc15, od15, .func (PySem.W.fnOf "_law_event_otherwise" "_law_event_otherwise" (defArgs (top 19)) (defBody (top 19)) (defScope (top 19)) .none kV15 dc15 pm15 an15 cd15 ct15), sl15⟩) (c15 : PySem.W.codeIn K cd15 "_law_event_otherwise" = true) (k15 : PySem.W.keepIn K (.ref f15) = true)
    (a16 : PySem.W.nsIn K mainGlobals "_law_otherwise" = some (some (.ref f16))) (l16 : K.lookup f16 = some ⟨oc16, od16, .func (PySem.W.fnOf "_law_otherwise" "_law_otherwise" (defArgs (top 20)) (defBody (top 20)) (defScope (top 20)) .none kV16 dc16 pm16 an16 cd16 ct16), sl16⟩) (c16 : PySem.W.codeIn K cd16 "_law_otherwise" = true) (k16 : PySem.W.keepIn K (.ref f16) = true)
    (a17 : PySem.W.nsIn K mainGlobals "_law_told" = some (some (.ref f17))) (l17 : K.lookup f17 = some ⟨oc17, od17, .func (PySem.W.fnOf "_law_told" "_law_told" (defArgs (top 21)) (defBody (top 21)) (defScope (top 21)) .none kV17 dc17 pm17 an17 cd17 ct17), sl17⟩) (c17 : PySem.W.codeIn K cd17 "_law_told" = true) (k17 : PySem.W.keepIn K (.ref f17) = true)
    (a18 : PySem.W.nsIn K mainGlobals "law" = some (some (.ref f18))) (l18 : K.lookup f18 = some ⟨oc18, od18, .func (PySem.W.fnOf "law" "law" (defArgs (top 22)) (defBody (top 22)) (defScope (top 22)) .none kV18 dc18 pm18 an18 cd18 ct18), sl18⟩) (c18 : PySem.W.codeIn K cd18 "law" = true) (k18 : PySem.W.keepIn K (.ref f18) = true)
    (y1 : PySem.W.nsIn K mainGlobals "MOST_EVENTS" = some (some (.int 12 tk1)))
    (yD : PySem.W.nsIn K cStatics "sys.int_max_str_digits" = some none)
    (z1 : PySem.W.nsIn K mainGlobals "bool" = some none) (z2 : PySem.W.nsIn K mainGlobals "int" = some none) (z3 : PySem.W.nsIn K mainGlobals "isinstance" = some none) (z4 : PySem.W.nsIn K mainGlobals "len" = some none) (z5 : PySem.W.nsIn K mainGlobals "range" = some none) (z6 : PySem.W.nsIn K mainGlobals "tuple" = some none) (z7 : PySem.W.nsIn K mainGlobals "set" = some none) (z8 : PySem.W.nsIn K mainGlobals "all" = some none) (z9 : PySem.W.nsIn K mainGlobals "sorted" = some none) (z10 : PySem.W.nsIn K mainGlobals "list" = some none) (z11 : PySem.W.nsIn K mainGlobals "enumerate" = some none) (z12 : PySem.W.nsIn K mainGlobals "any" = some none) (z13 : PySem.W.nsIn K mainGlobals "max" = some none) (z14 : PySem.W.nsIn K mainGlobals "min" = some none) :
    ∃ fd : FuncData, (∀ (s : Shared) (v : Value), BindsTo s fd ⟨[v], []⟩ [("_law_script", v)]) ∧ ∀ base : Heap, K.In base → base.Ns mainGlobals mg → FnOk l.prog w K mg base CX0 6 fa fd ["_law_script"] (sp_law K) := by
  have e := hfa.symm.trans (PySem.W.mg_of X G a18)
  cases e
  have F1 := fun_mk (st := top 1) l1 c1 k1
  have b1 := F1.binds (ps := ["thing"]) fun _ _ _ _ _ _ => us1 fun _ => rfl
  have F2 := fun_mk (st := top 3) l2 c2 k2
  have b2 := F2.binds (ps := ["thing"]) fun _ _ _ _ _ _ => us1 fun _ => rfl
  have F3 := fun_mk (st := top 4) l3 c3 k3
  have b3 := F3.binds (ps := ["parting"]) fun _ _ _ _ _ _ => us1 fun _ => rfl
  have F4 := fun_mk (st := top 7) l4 c4 k4
  have b4 := F4.binds (ps := ["events"]) fun _ _ _ _ _ _ => us1 fun _ => rfl
  have F5 := fun_mk (st := top 8) l5 c5 k5
  have b5 := F5.binds (ps := ["thing"]) fun _ _ _ _ _ _ => us1 fun _ => rfl
  have F6 := fun_mk (st := top 10) l6 c6 k6
  have b6 := F6.binds (ps := ["_law_script", "_law_k"]) fun _ _ _ _ _ _ => us2 fun _ _ => rfl
  have F7 := fun_mk (st := top 11) l7 c7 k7
  have b7 := F7.binds (ps := ["_law_hand_here", "_law_many"]) fun _ _ _ _ _ _ => us2 fun _ _ => rfl
  have F8 := fun_mk (st := top 12) l8 c8 k8
  have b8 := F8.binds (ps := ["_law_hand_here", "_law_some"]) fun _ _ _ _ _ _ => us2 fun _ _ => rfl
  have F9 := fun_mk (st := top 13) l9 c9 k9
  have b9 := F9.binds (ps := ["_law_parts"]) fun _ _ _ _ _ _ => us1 fun _ => rfl
  have F10 := fun_mk (st := top 14) l10 c10 k10
  have b10 := F10.binds (ps := ["_law_hand_here", "_law_many"]) fun _ _ _ _ _ _ => us2 fun _ _ => rfl
  have F11 := fun_mk (st := top 15) l11 c11 k11
  have b11 := F11.binds (ps := ["_law_thing"]) fun _ _ _ _ _ _ => us1 fun _ => rfl
  have F12 := fun_mk (st := top 16) l12 c12 k12
  have b12 := F12.binds (ps := ["_law_thing"]) fun _ _ _ _ _ _ => us1 fun _ => rfl
  have F13 := fun_mk (st := top 17) l13 c13 k13
  have b13 := F13.binds (ps := ["_law_thing"]) fun _ _ _ _ _ _ => us1 fun _ => rfl
  have F14 := fun_mk (st := top 18) l14 c14 k14
  have b14 := F14.binds (ps := ["_law_hand_here"]) fun _ _ _ _ _ _ => us1 fun _ => rfl
  have F15 := fun_mk (st := top 19) l15 c15 k15
  have b15 := F15.binds (ps := ["_law_hand_here", "_law_events", "_law_nth"]) fun _ _ _ _ _ _ => us3 fun _ _ _ => rfl
  have F16 := fun_mk (st := top 20) l16 c16 k16
  have b16 := F16.binds (ps := ["_law_hand_here", "_law_events"]) fun _ _ _ _ _ _ => us2 fun _ _ => rfl
  have F17 := fun_mk (st := top 21) l17 c17 k17
  have b17 := F17.binds (ps := ["_law_thing"]) fun _ _ _ _ _ _ => us1 fun _ => rfl
  have F18 := fun_mk (st := top 22) l18 c18 k18
  have m_bool := PySem.W.mg_none_of X G z1
  have m_int := PySem.W.mg_none_of X G z2
  have m_isinstance := PySem.W.mg_none_of X G z3
  have m_len := PySem.W.mg_none_of X G z4
  have m_range := PySem.W.mg_none_of X G z5
  have m_tuple := PySem.W.mg_none_of X G z6
  have m_set := PySem.W.mg_none_of X G z7
  have m_all := PySem.W.mg_none_of X G z8
  have m_sorted := PySem.W.mg_none_of X G z9
  have m_list := PySem.W.mg_none_of X G z10
  have m_enumerate := PySem.W.mg_none_of X G z11
  have m_any := PySem.W.mg_none_of X G z12
  have m_max := PySem.W.mg_none_of X G z13
  have m_min := PySem.W.mg_none_of X G z14
  have g_MOST_EVENTS : IntG mg "MOST_EVENTS" 12 := ⟨_, PySem.W.mg_of X G y1⟩
  have g_DIG : DigK K := yD
  refine ⟨PySem.W.fnOf "law" "law" (defArgs (top 22)) (defBody (top 22)) (defScope (top 22)) .none kV18 dc18 pm18 an18 cd18 ct18, fun s v => .of_eq rfl, fun base _ _ => ?_⟩
  have A1 : FnA l.prog w K mg base "is_whole" 1 ["thing"] sp_whole := fnA (ok_whole F1 m_bool m_int m_isinstance) b1 k1 (PySem.W.mg_of X G a1)
  have A2 : FnA l.prog w K mg base "is_parting" 2 ["thing"] sp_is := fnA (ok_is F2 m_isinstance m_len m_range m_tuple A1) b2 k2 (PySem.W.mg_of X G a2)
  have A3 : FnA l.prog w K mg base "sizes" 1 ["parting"] sp_sizes := fnA (ok_sizes F3 m_tuple) b3 k3 (PySem.W.mg_of X G a3)
  have A4 : FnA l.prog w K mg base "share_no_size" 2 ["events"] sp_sns := fnA (ok_sns F4 m_len m_set A3) b4 k4 (PySem.W.mg_of X G a4)
  have A5 : FnA l.prog w K mg base "are_events" 3 ["thing"] sp_ae := fnA (ok_ae F5 m_all m_isinstance m_len m_tuple g_MOST_EVENTS A2 A4) b5 k5 (PySem.W.mg_of X G a5)
  have A6 : FnA l.prog w K mg base "_law_hand" 1 ["_law_script", "_law_k"] (sp_hand K) := fnA (ok_hand F6 m_int m_len g_DIG) b6 k6 (PySem.W.mg_of X G a6)
  have A7 : FnA l.prog w K mg base "_law_take" 1 ["_law_hand_here", "_law_many"] sp_take := fnA (ok_take F7) b7 k7 (PySem.W.mg_of X G a7)
  have A8 : FnA l.prog w K mg base "_law_pick" 2 ["_law_hand_here", "_law_some"] sp_pick := fnA (ok_pick F8 m_len A7) b8 k8 (PySem.W.mg_of X G a8)
  have A9 : FnA l.prog w K mg base "_law_falling" 1 ["_law_parts"] sp_fall := fnA (ok_fall F9 m_sorted m_tuple) b9 k9 (PySem.W.mg_of X G a9)
  have A10 : FnA l.prog w K mg base "_law_some_events" 2 ["_law_hand_here", "_law_many"] sp_se := fnA (ok_se F10 m_len m_list m_range m_tuple A9 A7) b10 k10 (PySem.W.mg_of X G a10)
  have A11 : FnA l.prog w K mg base "_law_is_parting" 1 ["_law_thing"] sp_is := fnA (ok_lp F11 m_bool m_enumerate m_int m_isinstance m_tuple) b11 k11 (PySem.W.mg_of X G a11)
  have A12 : FnA l.prog w K mg base "_law_due" 2 ["_law_thing"] sp_ae := fnA (ok_du F12 m_all m_any m_enumerate m_isinstance m_len m_tuple A11) b12 k12 (PySem.W.mg_of X G a12)
  have A13 : FnA l.prog w K mg base "_law_deep" 1 ["_law_thing"] sp_de := fnA (ok_de F13 m_range) b13 k13 (PySem.W.mg_of X G a13)
  have A14 : FnA l.prog w K mg base "_law_odd" 3 ["_law_hand_here"] sp_od := fnA (ok_od F14 A13 A8) b14 k14 (PySem.W.mg_of X G a14)
  have A15 : FnA l.prog w K mg base "_law_event_otherwise" 4 ["_law_hand_here", "_law_events", "_law_nth"] sp_eo := fnA (ok_eo F15 m_len m_list A9 A14 A7) b15 k15 (PySem.W.mg_of X G a15)
  have A16 : FnA l.prog w K mg base "_law_otherwise" 5 ["_law_hand_here", "_law_events"] sp_ot := fnA (ok_ot F16 m_len m_list A15 A14 A8 A7) b16 k16 (PySem.W.mg_of X G a16)
  have A17 : FnA l.prog w K mg base "_law_told" 4 ["_law_thing"] sp_to := fnA (ok_to F17 m_bool m_isinstance A12 A5) b17 k17 (PySem.W.mg_of X G a17)
  exact ok_law F18 m_all m_len m_max m_min m_range m_tuple A6 A14 A16 A10 A7 A17 A5
theorem walk {l : PySem.W.OpenLaw} {q : Program} {loose : List Str} {XP : (Str → Option Value) → Heap → Prop} {YP : World → Heap → Prop} {d : DefRec} {K : Params → PySem.W.Frag} (hn : l.most = some 63) (hdf : d.params.defaults = [])
    (hY : ∀ (w : World) (h : Heap), YP w h → (K w.params).In h)
    (F : ∀ (w : World) (mg : Str → Option Value) (fa : Addr) (h : Heap), (K w.params).In h → h.Ns mainGlobals mg → mg d.name = some (.ref fa) →
      ∃ fd : FuncData, (∀ (s : Shared) (u : Value), BindsTo s fd ⟨[u], []⟩ [("_law_script", u)]) ∧ ∀ base : Heap, (K w.params).In base → base.Ns mainGlobals mg → FnOk l.prog w (K w.params) mg base CX0 6 fa fd ["_law_script"] (sp_law (K w.params))) :
    PySem.W.WalkO q loose XP YP l.row.toRowW d [] (fun f vs => PySem.call f vs) :=
  L2.walk_of (n := 63) (k := 6) (x := "_law_script") (CX := fun _ => CX0) (sp := fun w => sp_law (K w.params)) hn (by decide) hdf ⟨rfl, by decide, by decide, rfl⟩ hY F (fun _ _ a ns hl _ hS => ⟨a, ns, rfl, hS, hl, fun _ => rfl⟩) fun _ _ _ _ _ z => z
end K53
namespace PySem.W.Fast
theorem tw16703135543024411596 : True := ⟨⟩
theorem tw15497140076571378130 : True := ⟨⟩
theorem tw7259589446407764473 : True := ⟨⟩
theorem tw17816139941660947132 : True := ⟨⟩
theorem tw16162717607455188557 : True := ⟨⟩
theorem tw12795931135458728609 : True := ⟨⟩
theorem tw13963588118589613509 : True := ⟨⟩
theorem tw9358419968255319146 : True := ⟨⟩
theorem tw14641210279061971048 : True := ⟨⟩
theorem tw12008144292905509482 : True := ⟨⟩
theorem tw12108288239709874509 : True := ⟨⟩
theorem tw4946690489613372954 : True := ⟨⟩
theorem tw12368579398150549084 : True := ⟨⟩
theorem tw2894007533540300239 : True := ⟨⟩
theorem tw9387303239170006395 : True := ⟨⟩
theorem tw16781509172663194901 : True := ⟨⟩
theorem tw5534467316106139462 : True := ⟨⟩
theorem tw12767324217552399104 : True := ⟨⟩
theorem tw5617794208069345885 : True := ⟨⟩
theorem tw18435730336500185353 : True := ⟨⟩
theorem tw8481820643756123780 : True := ⟨⟩
theorem tw17125677487089109752 : True := ⟨⟩
theorem tw8990261626881265436 : True := ⟨⟩
theorem tw8439270483688786561 : True := ⟨⟩
theorem tw1223434439825895004 : True := ⟨⟩
theorem tw11626544319909359167 : True := ⟨⟩
theorem tw3067570027644590615 : True := ⟨⟩
theorem tw7404434494930822264 : True := ⟨⟩
theorem tw14265403124772613508 : True := ⟨⟩
theorem tw10507842015321952424 : True := ⟨⟩
theorem tw13887052210601245662 : True := ⟨⟩
theorem tw2165794548316276400 : True := ⟨⟩
theorem tw3418492470806218553 : True := ⟨⟩
theorem tw1433681753770645158 : True := ⟨⟩
theorem tw12316973732021168106 : True := ⟨⟩
theorem tw6947652783934320324 : True := ⟨⟩
theorem tw14384803242296855235 : True := ⟨⟩
theorem tw18253713421906769081 : True := ⟨⟩
theorem tw7480437366145237083 : True := ⟨⟩
theorem tw12615091416043522125 : True := ⟨⟩
theorem tw13890717790831781722 : True := ⟨⟩
theorem tw18272293104148479466 : True := ⟨⟩
theorem tw6636122441570280847 : True := ⟨⟩
theorem tw9189886362114266620 : True := ⟨⟩
theorem tw17700901099808096543 : True := ⟨⟩
theorem tw10667644146413092352 : True := ⟨⟩
theorem tw17700708438171748322 : True := ⟨⟩
theorem tw5519667519514073450 : True := ⟨⟩
theorem tw8453323269793099687 : True := ⟨⟩
theorem tw4918612319458275209 : True := ⟨⟩
theorem tw10371682693897526150 : True := ⟨⟩
theorem tw11391948726550306017 : True := ⟨⟩
theorem tw17701252820294172636 : True := ⟨⟩
theorem tw11674913750219817552 : True := ⟨⟩
theorem tw12321859122967516676 : True := ⟨⟩
theorem tw16944434119308421623 : True := ⟨⟩
theorem tw17997476912760984133 : True := ⟨⟩
theorem tw6380290070156148684 : True := ⟨⟩
theorem tw7912602964196927914 : True := ⟨⟩
theorem tw2113198772795526330 : True := ⟨⟩
theorem tw15078318630773876310 : True := ⟨⟩
theorem tw4587794751179303966 : True := ⟨⟩
theorem tw10974434629248480429 : True := ⟨⟩
theorem tw3237543316876339261 : True := ⟨⟩
theorem tw8355327091338309793 : True := ⟨⟩
theorem tw5365856376358817825 : True := ⟨⟩
theorem tw1144489433745022153 : True := ⟨⟩
theorem tw9863141098005925676 : True := ⟨⟩
theorem tw17831408721647841445 : True := ⟨⟩
theorem tw18201181337581125455 : True := ⟨⟩
theorem tw149738078230934042 : True := ⟨⟩
theorem tw10147763953518943195 : True := ⟨⟩
theorem tw12776461345267847659 : True := ⟨⟩
theorem tw16141442279613717325 : True := ⟨⟩
theorem tw4559518420268582014 : True := ⟨⟩
theorem tw10499177639796655741 : True := ⟨⟩
theorem tw15118614765115738323 : True := ⟨⟩
theorem tw15365126366387989045 : True := ⟨⟩
theorem tw6256275670212122630 : True := ⟨⟩
theorem tw10639583706637914423 : True := ⟨⟩
theorem tw6146798763142303602 : True := ⟨⟩
theorem tw18282509970994807013 : True := ⟨⟩
theorem tw18011745871308222452 : True := ⟨⟩
theorem tw14379903450207698799 : True := ⟨⟩
theorem tw8144602425964697558 : True := ⟨⟩
theorem tw16811679056263923100 : True := ⟨⟩
theorem tw5207734829127928043 : True := ⟨⟩
theorem tw8624080297402389853 : True := ⟨⟩
theorem tw8652108046849474730 : True := ⟨⟩
theorem tw2247440147963386088 : True := ⟨⟩
theorem tw16303897429083920721 : True := ⟨⟩
theorem tw12232758264839898551 : True := ⟨⟩
theorem tw2616146164486892415 : True := ⟨⟩
theorem tw5502929137044741092 : True := ⟨⟩
theorem tw11491449788849885497 : True := ⟨⟩
theorem tw7781935063261017076 : True := ⟨⟩
theorem tw5785960250456686545 : True := ⟨⟩
theorem tw11948937252933318836 : True := ⟨⟩
theorem tw15835774516483584952 : True := ⟨⟩
theorem tw1082793545001268579 : True := ⟨⟩
theorem tw17597770974920459461 : True := ⟨⟩
theorem tw5489447820103721254 : True := ⟨⟩
theorem tw4229412686592299109 : True := ⟨⟩
theorem tw16277509616893303729 : True := ⟨⟩
theorem tw15976133087026368676 : True := ⟨⟩
theorem tw18388882307445410665 : True := ⟨⟩
theorem tw8741904530411215020 : True := ⟨⟩
theorem tw7682014931842188356 : True := ⟨⟩
theorem tw12725009772514117612 : True := ⟨⟩
theorem tw7134356509647366982 : True := ⟨⟩
theorem tw2307308493288462667 : True := ⟨⟩
theorem tw1855221510059910067 : True := ⟨⟩
theorem tw4492505719654852873 : True := ⟨⟩
theorem tw7953627462494477757 : True := ⟨⟩
theorem tw16833903916919703377 : True := ⟨⟩
theorem tw2685508382808169559 : True := ⟨⟩
theorem tw6704782819575745322 : True := ⟨⟩
end PySem.W.Fast
open PySem PySem.W PyProof.Rows
set_option maxRecDepth 100000 in
set_option maxHeartbeats 0 in
theorem PySem.Challenge.cw_partrests_k53_what_are_events_holds : PySem.Challenge.rw_partrests_k53_what_are_events.Holds := by
  w_on; o_law; k_head; (case hw => w_witness2)
  k_fill
  refine K53.walk (l := PySem.Challenge.rw_partrests_k53_what_are_events) rfl rfl (fun w h Y => PySem.W.kIn_of Y) ?F
  case F =>
    intro w mg fa h KX G hmg
    refine' K53.all_mk KX G hmg ?a1 ?l1 ?c1 ?k1 ?a2 ?l2 ?c2 ?k2 ?a3 ?l3 ?c3 ?k3 ?a4 ?l4 ?c4 ?k4 ?a5 ?l5 ?c5 ?k5 ?a6 ?l6 ?c6 ?k6 ?a7 ?l7 ?c7 ?k7 ?a8 ?l8 ?c8 ?k8 ?a9 ?l9 ?c9 ?k9 ?a10 ?l10 ?c10 ?k10 ?a11 ?l11 ?c11 ?k11 ?a12 ?l12 ?c12 ?k12 ?a13 ?l13 ?c13 ?k13 ?a14 ?l14 ?c14 ?k14 ?a15 ?l15 ?c15 ?k15 ?a16 ?l16 ?c16 ?k16 ?a17 ?l17 ?c17 ?k17 ?a18 ?l18 ?c18 ?k18 ?y1 ?yD ?z1 ?z2 ?z3 ?z4 ?z5 ?z6 ?z7 ?z8 ?z9 ?z10 ?z11 ?z12 ?z13 ?z14
    (case a1 => k_is); (case l1 => k_is); (case c1 => k_is); (case k1 => k_is)
    (case a2 => k_is); (case l2 => k_is); (case c2 => k_is); (case k2 => k_is)
    (case a3 => k_is); (case l3 => k_is); (case c3 => k_is); (case k3 => k_is)
    (case a4 => k_is); (case l4 => k_is); (case c4 => k_is); (case k4 => k_is)
    (case a5 => k_is); (case l5 => k_is); (case c5 => k_is); (case k5 => k_is)
    (case a6 => k_is); (case l6 => k_is); (case c6 => k_is); (case k6 => k_is)
    (case a7 => k_is); (case l7 => k_is); (case c7 => k_is); (case k7 => k_is)
    (case a8 => k_is); (case l8 => k_is); (case c8 => k_is); (case k8 => k_is)
    (case a9 => k_is); (case l9 => k_is); (case c9 => k_is); (case k9 => k_is)
    (case a10 => k_is); (case l10 => k_is); (case c10 => k_is); (case k10 => k_is)
    (case a11 => k_is); (case l11 => k_is); (case c11 => k_is); (case k11 => k_is)
    (case a12 => k_is); (case l12 => k_is); (case c12 => k_is); (case k12 => k_is)
    (case a13 => k_is); (case l13 => k_is); (case c13 => k_is); (case k13 => k_is)
    (case a14 => k_is); (case l14 => k_is); (case c14 => k_is); (case k14 => k_is)
    (case a15 => k_is); (case l15 => k_is); (case c15 => k_is); (case k15 => k_is)
    (case a16 => k_is); (case l16 => k_is); (case c16 => k_is); (case k16 => k_is)
    (case a17 => k_is); (case l17 => k_is); (case c17 => k_is); (case k17 => k_is)
    (case a18 => k_is); (case l18 => k_is); (case c18 => k_is); (case k18 => k_is)
    (case y1 => k_is)
    (case yD => k_is)
    (case z1 => k_is)
    (case z2 => k_is)
    (case z3 => k_is)
    (case z4 => k_is)
    (case z5 => k_is)
    (case z6 => k_is)
    (case z7 => k_is)
    (case z8 => k_is)
    (case z9 => k_is)
    (case z10 => k_is)
    (case z11 => k_is)
    (case z12 => k_is)
    (case z13 => k_is)
    (case z14 => k_is)

