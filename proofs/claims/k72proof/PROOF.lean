import PyProof.Rows.All
import Wide.All
import OpenK.AllK
import Wide.FinOn
import Lean
import PyProof.EqAt
import PyProof.EqKinds
import PyProof.TupleCall
import PySem.Challenge.RW_partrests_k72_counts_and_lists_answered
set_option Elab.async false
set_option linter.all false
set_option maxRecDepth 100000
namespace L2
open PySem PySem.Spec PyProof.Rows
noncomputable abbrev Key := Sum Int Str
noncomputable def keyIs : Key → Value → Bool
  | .inl k, v => Value.isInt k v
  | .inr x, v => Value.isStrOf x v
noncomputable def keyH (w : World) : Key → Int
  | .inl k => hashInt k
  | .inr x => hashStr w x
theorem keyIs_shape : ∀ {k : Key} {v : Value}, keyIs k v = true → (∃ i t, k = Sum.inl i ∧ v = Value.int i t) ∨ (∃ x t, k = Sum.inr x ∧ v = Value.str x t)
  | .inl i, v, h => by
    obtain ⟨t, e⟩ := Value.isInt_shape (k := i) (v := v) h
    exact .inl ⟨i, t, rfl, e⟩
  | .inr x, v, h => by
    obtain ⟨t, e⟩ := Value.isStrOf_shape (x := x) (v := v) h
    exact .inr ⟨x, t, rfl, e⟩
theorem key_ll (a b : Int) : decide ((Sum.inl a : Key) = Sum.inl b) = (a == b) := by
  by_cases e : a = b
  · subst e; simp
  · have h : ¬ (Sum.inl a : Key) = Sum.inl b := fun q => e (Sum.inl.inj q)
    rw [decide_eq_false h]
    exact (beq_eq_false_iff_ne.mpr e).symm
theorem key_rr (a b : Str) : decide ((Sum.inr a : Key) = Sum.inr b) = decide (a = b) := by
  by_cases e : a = b
  · subst e; simp
  · have h : ¬ (Sum.inr a : Key) = Sum.inr b := fun q => e (Sum.inr.inj q)
    rw [decide_eq_false h, decide_eq_false e]
theorem key_lr (a : Int) (b : Str) : decide ((Sum.inl a : Key) = Sum.inr b) = false := decide_eq_false (fun q => nomatch q)
theorem key_rl (a : Str) (b : Int) : decide ((Sum.inr a : Key) = Sum.inl b) = false := decide_eq_false (fun q => nomatch q)

noncomputable def mixKind (prog : Program) (w : World) : PySem.KeyKind prog w Key where
  is := keyIs
  hash := keyH w
  inj := fun v a b ha hb => by
    rcases keyIs_shape ha with ⟨i, t, rfl, rfl⟩ | ⟨x, t, rfl, rfl⟩
    · rcases keyIs_shape hb with ⟨j, u, rfl, e⟩ | ⟨y, u, rfl, e⟩
      · injection e with e1 _; rw [e1]
      · exact nomatch e
    · rcases keyIs_shape hb with ⟨j, u, rfl, e⟩ | ⟨y, u, rfl, e⟩
      · exact nomatch e
      · injection e with e1 _; rw [e1]
  byValue := fun k v h => by
    rcases keyIs_shape h with ⟨i, t, rfl, rfl⟩ | ⟨x, t, rfl, rfl⟩ <;> rfl
  pyHash := fun hv h => by
    rcases keyIs_shape hv with ⟨i, t, rfl, rfl⟩ | ⟨x, t, rfl, rfl⟩
    · exact wpAny_pyHash_int h
    · exact wpAny_pyHash_str h
  eqBool := fun hu hv h => by
    rcases keyIs_shape hu with ⟨i, t, rfl, rfl⟩ | ⟨x, t, rfl, rfl⟩
    · rcases keyIs_shape hv with ⟨j, u, rfl, rfl⟩ | ⟨y, u, rfl, rfl⟩
      · rw [key_ll] at h; exact wpAny_eqBool_int h
      · rw [key_lr] at h; exact SeqAt.EqAt.int_str i t y u _ _ _ _ h
    · rcases keyIs_shape hv with ⟨j, u, rfl, rfl⟩ | ⟨y, u, rfl, rfl⟩
      · rw [key_rl] at h; exact SeqAt.EqAt.str_int x t j u _ _ _ _ h
      · rw [key_rr] at h; exact wpAny_eqBool_str h
  «strs» := fun k x t v h => by
    rcases keyIs_shape h with ⟨i, u, rfl, e⟩ | ⟨y, u, rfl, e⟩
    · exact nomatch e
    · injection e with e1 _
      subst e1
      cases v <;> rfl

end L2
namespace L2
open PySem PySem.Spec PyProof.Rows
inductive V where
  | non | bl (b : Bool) | int (i : Int) | str (x : Str) | byt (b : Array UInt8) | flt (b : UInt64) | ref (a : Addr) | ty (n : String)
  deriving DecidableEq

noncomputable def RelV : V → Value → Prop
  | .non, u => u = Value.none
  | .bl b, u => u = Value.bool b
  | .int i, u => ∃ t, u = Value.int i t
  | .str x, u => ∃ t, u = Value.str x t
  | .byt b, u => ∃ t, u = Value.bytes b t
  | .flt b, u => ∃ t, u = Value.float b t
  | .ref a, u => u = Value.ref a
  | .ty n, u => u = Value.type n

noncomputable abbrev Vals : List V → List Value → Prop := Paired RelV
theorem Vals.length {xs : List V} {us : List Value} (r : Vals xs us) : xs.length = us.length := Paired.length r
theorem Vals.get : ∀ {xs : List V} {us : List Value} {i : Nat} {x : V}, Vals xs us → xs[i]? = some x → ∃ u, us[i]? = some u ∧ RelV x u
  | _, _, _, _, .nil, e => by simp at e
  | _, _, 0, _, .cons r _, e => by simp at e; subst e; exact ⟨_, rfl, r⟩
  | _, _, i + 1, x, .cons _ t, e => by
    obtain ⟨u, h1, h2⟩ := Vals.get (i := i) (x := x) t (by simpa using e)
    exact ⟨u, by simpa using h1, h2⟩
theorem Vals.set {x : V} {u : Value} (r : RelV x u) : ∀ {xs : List V} {us : List Value} (i : Nat), Vals xs us → Vals (xs.set i x) (us.set i u)
  | _, _, _, .nil => .nil
  | _, _, 0, .cons _ t => .cons r t
  | _, _, i + 1, .cons q t => .cons q (Vals.set r i t)
theorem Vals.append : ∀ {xs ys : List V} {us ws : List Value}, Vals xs us → Vals ys ws → Vals (xs ++ ys) (us ++ ws)
  | _, _, _, _, .nil, s => s
  | _, _, _, _, .cons r t, s => .cons r (Vals.append t s)
theorem Vals.take : ∀ {xs : List V} {us : List Value} (n : Nat), Vals xs us → Vals (xs.take n) (us.take n)
  | _, _, 0, _ => .nil
  | _, _, _ + 1, .nil => .nil
  | _, _, n + 1, .cons r t => .cons r (Vals.take n t)
theorem Vals.drop : ∀ {xs : List V} {us : List Value} (n : Nat), Vals xs us → Vals (xs.drop n) (us.drop n)
  | _, _, 0, r => r
  | _, _, _ + 1, .nil => .nil
  | _, _, n + 1, .cons _ t => Vals.drop n t
noncomputable def TupD (h : Heap) (a : Addr) (items : Array Value) : Prop := ∃ n, h.get? a = some { cls := .type "tuple", data := .seq items n }
theorem TupD.tup {h : Heap} {a : Addr} {items : Array Value} (p : TupD h a items) : IsTup h a items := let ⟨n, e⟩ := p; ⟨_, e, rfl, n, rfl⟩
theorem TupD.new (h : Heap) (items : Array Value) : TupD (h.push { cls := .type "tuple", data := .seq items }) h.objs.size items := ⟨_, Heap.get?_push_size _ rfl⟩

noncomputable def RelO : Option V → Option Value → Prop
  | some v, some u => RelV v u
  | none, none => True
  | _, _ => False
noncomputable def KV {κ : Type} : List (κ × V) → List (κ × Value) → Prop := Paired fun (p : κ × V) (q : κ × Value) => p.1 = q.1 ∧ RelV p.2 q.2

noncomputable def kV : Key → V
  | .inl i => .int i
  | .inr x => .str x

inductive HO where
  /-- a list -/
  | lst (xs : List V)
  /-- a tuple (never changes) -/
  | tup (xs : List V)
  /-- a dict whose keys are ints and texts; one whose keys are tuples of ints and texts (the empty one is both) -/
  | dK (kvs : List (Key × V)) | dT (kvs : List (List Key × V))
  /-- a set of ints: its members, its size -/
  | set (S : Int → Bool) (n : Nat)
  /-- an instance of the class at C, its dict at dx, its attributes -/
  | ins (C dx : Addr) (fs : List (Str × V))
  /-- the dict of the instance at x -/
  | own (x : Addr)
  /-- the dict of an exception -/
  | xd (fs : List (Str × V))
  /-- a bound method, f of x -/
  | met (f x : Addr)
  /-- a range object lo, lo + 1, .. below hi -/
  | rng (lo hi : Int)
  /-- a thing that is known to the object (the script; a dict while a loop walks it): read, never written while it is so -/
  | frz (o : Obj) (u : HO)
  /-- a code object's table -/
  | tbl (ps : Array Value)
  /-- any other thing, by what is true of its one object (a def of one's own: SetO a S n := HO.ext fun h => ..) -/
  | ext (φ : Heap → Prop)

noncomputable abbrev Hp := Addr → Option HO
noncomputable def upd (H : Hp) (a : Addr) (o : HO) : Hp := fun b => if b = a then some o else H b
theorem upd_same {H : Hp} {a : Addr} {o : HO} : upd H a o a = some o := by unfold upd; rw [if_pos rfl]
theorem upd_ne {H : Hp} {a b : Addr} {o : HO} (h : b ≠ a) : upd H a o b = H b := by unfold upd; rw [if_neg h]
theorem ne_of {H : Hp} {a b : Addr} {o u : HO} (h : H a = some o) (h' : H b = some u) (d : o ≠ u) : a ≠ b := by
  intro e; subst e; rw [h] at h'; exact d (Option.some.inj h')
theorem ne_of_none {H : Hp} {a b : Addr} {o : HO} (h : H a = some o) (h' : H b = none) : a ≠ b := by
  intro e; subst e; rw [h] at h'; cases h'

section
variable (P : Program) (w : World)
noncomputable def ObjOk (H : Hp) (h : Heap) (a : Addr) : HO → Prop
  | .lst xs => xs.length ≤ sizeLine ∧ ∃ (its : List Value) (n : Nat), Vals xs its ∧ h.get? a = some { cls := .type "list", data := .seq its.toArray n }
  | .tup xs => xs.length ≤ sizeLine ∧ ∃ its : List Value, Vals xs its ∧ TupD h a its.toArray
  | .dK kvs => kvs.length ≤ sizeLine ∧ (a == sysModules) = false ∧ ∃ vs, KV kvs vs ∧ h.DictOf (mixKind P w) a vs
  | .dT kvs => kvs.length ≤ sizeLine ∧ (a == sysModules) = false ∧ ∃ xs : List (List Key × Addr × Value),
      Paired (fun (p : List Key × V) (q : List Key × Addr × Value) => p.1 = q.1 ∧ H q.2.1 = some (.tup (p.1.map kV)) ∧ RelV p.2 q.2.2) kvs xs ∧
      ∃ o es ep, h.get? a = some o ∧ o.ExactDict ∧ o.data = .dict es ep ∧ es.toList = xs.map (entryOfKey (tupleKind (mixKind P w))) ∧ (xs.map (·.1)).Nodup
  | .set S n => h.SetOf (intKind P w) a S n
  | .ins C dx fs => H dx = some (.own a) ∧ fs.length ≤ 1000 ∧ dx ≠ a ∧ h.get? a = some (PySem.W.instObj C dx) ∧
      ∃ mA, h.Ns1 dx mA ∧ (∀ f, RelO (fs.lookup f) (mA f)) ∧ PySem.Within mA (fs.map (·.1))
  | .own _ => ∃ o, h.get? a = some o
  | .xd fs => ∃ mA, h.Ns1 a mA ∧ ∀ f, RelO (fs.lookup f) (mA f)
  | .rng lo hi => ∃ t u v, h.get? a = some { cls := .type "range", data := .fields #[.int lo t, .int hi u, .int 1 v] }
  | .frz o u => h.get? a = some o ∧ ObjOk H h a u
  | .tbl ps => h.get? a = some { cls := .none, data := .fields ps }
  | .met f x => h.get? a = some (PySem.W.methodObj (.ref f) (.ref x))
  | .ext φ => φ h ∧ (∃ o, h.get? a = some o) ∧ ∀ h1 h2 : Heap, φ h1 → (∀ o, h1.get? a = some o → h2.get? a = some o) → φ h2
noncomputable def HOk (H : Hp) (h : Heap) : Prop := ∀ a o, H a = some o → ObjOk P w H h a o
end
section
variable {P : Program} {w : World} {H H' : Hp} {h h' : Heap} {a : Addr} {o : HO}
theorem ObjOk.lt (x : ObjOk P w H h a o) : a < h.objs.size := by
  cases o with
  | lst xs => obtain ⟨_, _, _, _, e⟩ := x; exact Heap.lt_size e
  | tup xs => obtain ⟨_, _, _, p⟩ := x; exact p.tup.lt
  | dK kvs => obtain ⟨_, _, _, _, o, _, _, e, _⟩ := x; exact Heap.lt_size e
  | dT kvs => obtain ⟨_, _, _, _, o, _, _, e, _⟩ := x; exact Heap.lt_size e
  | set S n => obtain ⟨o, _, _, _, e, _⟩ := x; exact Heap.lt_size e
  | ins C dx fs => obtain ⟨_, _, _, e, _⟩ := x; exact Heap.lt_size e
  | own y => obtain ⟨_, e⟩ := x; exact Heap.lt_size e
  | xd fs => obtain ⟨_, ⟨_, _, _, e, _⟩, _⟩ := x; exact Heap.lt_size e
  | rng lo hi => obtain ⟨_, _, _, e⟩ := x; exact Heap.lt_size e
  | frz ob u => obtain ⟨e, _⟩ := x; exact Heap.lt_size e
  | tbl ps => exact Heap.lt_size (show h.get? a = some _ from x)
  | met f y => exact Heap.lt_size (show h.get? a = some _ from x)
  | ext φ => obtain ⟨_, ⟨_, e⟩, _⟩ := x; exact Heap.lt_size e
theorem Paired.mapP {α β : Type} {F G : α → β → Prop} : ∀ {l₁ : List α} {l₂ : List β}, Paired F l₁ l₂ → (∀ a b, F a b → G a b) → Paired G l₁ l₂
  | _, _, .nil, _ => .nil
  | _, _, .cons r t, f => .cons (f _ _ r) (Paired.mapP t f)
theorem ObjOk.stay (x : ObjOk P w H h a o) (k : ∀ b u, (b = a ∨ H b = some (.own a)) → h.get? b = some u → h'.get? b = some u)
    (ho : ∀ b, H b = some (.own a) → H' b = some (.own a)) (ht : ∀ b xs, H b = some (.tup xs) → H' b = some (.tup xs)) : ObjOk P w H' h' a o := by
  induction o with
  | lst xs => obtain ⟨z, its, n, r, e⟩ := x; exact ⟨z, its, n, r, k _ _ (.inl rfl) e⟩
  | tup xs => obtain ⟨z, its, r, ob, e⟩ := x; exact ⟨z, its, r, ob, k _ _ (.inl rfl) e⟩
  | dK kvs => obtain ⟨z, y, vs, r, ob, es, ep, e, c⟩ := x; exact ⟨z, y, vs, r, ob, es, ep, k _ _ (.inl rfl) e, c⟩
  | dT kvs =>
    obtain ⟨z, y, xs, r, ob, es, ep, e, c⟩ := x
    exact ⟨z, y, xs, Paired.mapP r fun p q z => ⟨z.1, ht _ _ z.2.1, z.2.2⟩, ob, es, ep, k _ _ (.inl rfl) e, c⟩
  | set S n => obtain ⟨ob, es, ep, t, e, c⟩ := x; exact ⟨ob, es, ep, t, k _ _ (.inl rfl) e, c⟩
  | ins C dx fs =>
    obtain ⟨d, z, ne, e, mA, ⟨od, es, ep, e2, c⟩, r⟩ := x
    exact ⟨ho _ d, z, ne, k _ _ (.inl rfl) e, mA, ⟨od, es, ep, k _ _ (.inr d) e2, c⟩, r⟩
  | own y => obtain ⟨ob, e⟩ := x; exact ⟨ob, k _ _ (.inl rfl) e⟩
  | xd fs => obtain ⟨mA, ⟨od, es, ep, e, c⟩, r⟩ := x; exact ⟨mA, ⟨od, es, ep, k _ _ (.inl rfl) e, c⟩, r⟩
  | rng lo hi => obtain ⟨t, u, v, e⟩ := x; exact ⟨t, u, v, k _ _ (.inl rfl) e⟩
  | frz ob u ih => obtain ⟨e, q⟩ := x; exact ⟨k _ _ (.inl rfl) e, ih q⟩
  | tbl ps =>
    have e : h.get? a = some { cls := .none, data := .fields ps } := x
    show h'.get? a = some { cls := .none, data := .fields ps }
    exact k a _ (.inl rfl) e
  | met f y =>
    have e : h.get? a = some (PySem.W.methodObj (.ref f) (.ref y)) := x
    show h'.get? a = some (PySem.W.methodObj (.ref f) (.ref y))
    exact k a _ (.inl rfl) e
  | ext φ => obtain ⟨p, ⟨o, e⟩, st⟩ := x; exact ⟨st _ _ p fun o q => k _ _ (.inl rfl) q, ⟨o, k _ _ (.inl rfl) e⟩, st⟩
theorem HOk.lt (x : HOk P w H h) (e : H a = some o) : a < h.objs.size := (x a o e).lt
theorem HOk.fresh (x : HOk P w H h) (e : h.objs.size ≤ a) : H a = none := by
  cases q : H a with
  | none => rfl
  | some u => exact absurd (Nat.lt_of_lt_of_le (x.lt q) e) (Nat.lt_irrefl _)
theorem HOk.kept (x : HOk P w H h) (k : ∀ b u, h.get? b = some u → h'.get? b = some u) : HOk P w H h' := fun a o e =>
  (x a o e).stay (fun b u _ q => k b u q) (fun _ q => q) fun _ _ q => q
theorem HOk.laid (x : HOk P w H h) (k : ∀ b u, h.get? b = some u → h'.get? b = some u) (hp : h.objs.size ≤ a) (new : ObjOk P w (upd H a o) h' a o) : HOk P w (upd H a o) h' := fun b u e => by
  have hn := x.fresh hp
  by_cases hb : b = a
  · subst hb; rw [upd_same] at e; cases e; exact new
  · rw [upd_ne hb] at e
    exact (x b u e).stay (fun c v _ q => k c v q) (fun c q => by rw [upd_ne (ne_of_none q hn)]; exact q) fun c xs q => by rw [upd_ne (ne_of_none q hn)]; exact q
end
noncomputable def Rd (H : Hp) (a : Addr) (u : HO) : Prop := H a = some u ∨ ∃ o, H a = some (.frz o u)
theorem Rd.ok {P : Program} {w : World} {H : Hp} {h : Heap} {a : Addr} {u : HO} (r : Rd H a u) (x : HOk P w H h) : ObjOk P w H h a u := by
  rcases r with r | ⟨o, r⟩
  · exact x a u r
  · obtain ⟨_, q⟩ := x a _ r
    exact q
noncomputable def Mut : Option HO → Prop
  | some (.lst _) => True
  | some (.dK _) => True
  | some (.dT _) => True
  | some (.set _ _) => True
  | some (.ins _ _ _) => True
  | some (.ext _) => True
  | _ => False
section
variable {P : Program} {w : World} {H : Hp} {h h' : Heap} {x e : Addr} {o' : HO}
theorem HOk.write (ok : HOk P w H h) (mu : Mut (H x)) (he : e = x ∨ H e = some (.own x)) (k : ∀ b u, b ≠ e → h.get? b = some u → h'.get? b = some u) (heo : ∃ u, h'.get? e = some u)
    (new : ObjOk P w (upd H x o') h' x o') : HOk P w (upd H x o') h' := fun b u q => by
  have nown : ∀ c y, H c = some (.own y) → c ≠ x := fun c y r z => by subst z; rw [r] at mu; exact mu
  have ntup : ∀ c xs, H c = some (.tup xs) → c ≠ x := fun c xs r z => by subst z; rw [r] at mu; exact mu
  by_cases hb : b = x
  · subst hb; rw [upd_same] at q; cases q; exact new
  · rw [upd_ne hb] at q
    by_cases hbe : b = e
    · have q' : H b = some (.own x) := by
        rcases he with z | z
        · exact absurd (hbe.trans z) hb
        · rw [hbe]; exact z
      rw [q] at q'; cases q'
      obtain ⟨v, hv⟩ := heo
      exact ⟨v, by rw [hbe]; exact hv⟩
    · refine (ok b u q).stay (fun c v hc r => k c v ?_ r) (fun c r => by rw [upd_ne (nown c b r)]; exact r) fun c xs r => by rw [upd_ne (ntup c xs r)]; exact r
      rcases hc with rfl | hc
      · exact hbe
      · rintro rfl
        rcases he with z | z
        · exact nown c b hc z
        · rw [hc] at z; cases z; exact hb rfl
end
structure Un (fs ex : List Addr) (H H' : Hp) (h h' : Heap) : Prop where
  keep : ∀ b o, h.get? b = some o → H b = none → b ∉ fs → b ∉ ex → h'.get? b = some o
  slot : ∀ b o, h.get? b = some o → H b = none → b ∈ fs → b ∉ ex → ∃ sl, h'.get? b = some { o with slots := sl }
  free : ∀ b o, h.get? b = some o → H b = none → b ∉ ex → H' b = none
  there : ∀ b o, h.get? b = some o → b ∉ ex → ∃ o', h'.get? b = some o'
  tups : ∀ b xs, H b = some (.tup xs) → H' b = some (.tup xs)
  frzs : ∀ b o u, H b = some (.frz o u) → H' b = some (.frz o u)
  tbls : ∀ b ps, H b = some (.tbl ps) → ∃ more, H' b = some (.tbl (ps ++ more))
section
variable {fs fs' ex ex' : List Addr} {H H1 H2 : Hp} {h h1 h2 h' : Heap} {a x e : Addr} {o : HO}
theorem Un.any (u : Un fs ex H H1 h h1) {b : Addr} {ob : Obj} (q : h.get? b = some ob) (n : H b = none) (hx : b ∉ ex) : ∃ sl, h1.get? b = some { ob with slots := sl } := by
  by_cases hb : b ∈ fs
  · exact u.slot b ob q n hb hx
  · exact ⟨ob.slots, u.keep b ob q n hb hx⟩
theorem Un.kept (k : ∀ b u, h.get? b = some u → h'.get? b = some u) : Un fs ex H H h h' :=
  ⟨fun b ob q _ _ _ => k b ob q, fun b ob q _ _ _ => ⟨ob.slots, k b ob q⟩, fun _ _ _ n _ => n, fun b ob q _ => ⟨ob, k b ob q⟩, fun _ _ q => q, fun _ _ _ q => q, fun _ ps q => ⟨#[], by rw [q]; simp⟩⟩
theorem Un.refl : Un fs ex H H h h := Un.kept fun _ _ q => q
theorem Un.laid (k : ∀ b u, h.get? b = some u → h'.get? b = some u) (hp : h.objs.size ≤ a) (hn : H a = none) : Un fs ex H (upd H a o) h h' where
  keep := fun b u q _ _ _ => k b u q
  slot := fun b u q _ _ _ => ⟨u.slots, k b u q⟩
  free := fun b u q n _ => by rw [upd_ne (Nat.ne_of_lt (Nat.lt_of_lt_of_le (Heap.lt_size q) hp))]; exact n
  there := fun b u q _ => ⟨u, k b u q⟩
  tups := fun b xs q => by rw [upd_ne (ne_of_none q hn)]; exact q
  frzs := fun b u xs q => by rw [upd_ne (ne_of_none q hn)]; exact q
  tbls := fun b ps q => ⟨#[], by rw [upd_ne (ne_of_none q hn), q]; simp⟩
theorem Un.write (mu : Mut (H x)) (he : e = x ∨ H e = some (.own x)) (k : ∀ b u, b ≠ e → h.get? b = some u → h'.get? b = some u) (heo : ∃ u, h'.get? e = some u) : Un fs ex H (upd H x o) h h' := by
  have hx : ∀ b, H b = none → b ≠ x := fun b n z => by subst z; rw [n] at mu; exact mu
  have hb : ∀ b, H b = none → b ≠ e := fun b n z => by
    subst z
    rcases he with r | r
    · exact hx b n r
    · rw [n] at r; cases r
  have hm : ∀ b u, H b = some u → ¬ Mut (some u) → b ≠ x := fun b u q nm z => by subst z; rw [q] at mu; exact nm mu
  refine ⟨fun b u q n _ _ => k b u (hb b n) q, fun b u q n _ _ => ⟨u.slots, k b u (hb b n) q⟩, fun b u q n _ => by rw [upd_ne (hx b n)]; exact n, fun b u q _ => ?_,
    fun b xs q => by rw [upd_ne (hm b _ q fun z => z)]; exact q, fun b u xs q => by rw [upd_ne (hm b _ q fun z => z)]; exact q, fun b ps q => ⟨#[], by rw [upd_ne (hm b _ q fun z => z), q]; simp⟩⟩
  by_cases hbe : b = e
  · subst hbe; exact heo
  · exact ⟨u, k b u hbe q⟩
end
noncomputable def trk (h : Heap) (H : Hp) : List Addr := (List.range h.objs.size).filter fun a => (H a).isSome
noncomputable def hidT (h : Heap) (H : Hp) : Heap := PySem.W.hideAll h (trk h H)
theorem hidT_size (h : Heap) (H : Hp) : (hidT h H).objs.size = h.objs.size := PySem.W.hideAll_size _ _
theorem hidT_get {h : Heap} {H : Hp} {b : Addr} {o : Obj} (e : h.get? b = some o) (n : H b = none) : (hidT h H).get? b = some o :=
  PySem.W.hideAll_get _ e fun hm => by
    have q : (H b).isSome = true := (List.mem_filter.mp hm).2
    rw [n] at q; simp at q
theorem of_hidT {h : Heap} {H : Hp} {b : Addr} {o : Obj} (e : (hidT h H).get? b = some o) : h.get? b = some o ∧ H b = none := by
  have e' : h.get? b = some o := PySem.W.of_hideAll (trk h H) e
  refine ⟨e', ?_⟩
  cases q : H b with
  | none => rfl
  | some x =>
    have hm : b ∈ trk h H := List.mem_filter.mpr ⟨List.mem_range.mpr (Heap.lt_size e'), by simp [q]⟩
    have z : (hidT h H).get? b = none := PySem.W.hideAll_none (trk h H) hm
    rw [z] at e; cases e

end L2
namespace L2
open PySem PySem.Spec PyProof.Rows
structure Mod (K : PySem.W.Frag) (mg : Str → Option Value) (base : Heap) : Prop where
  kin : K.In base
  glob : base.Ns mainGlobals mg
  blt : ∃ mb, base.Ns builtinsNs mb ∧ ∀ x : Str, x ≠ "__name__" → mb x = bootBuiltins x
  nolimit : base.NoLimit

structure Cx where
  prog : Program
  w : World
  K : PySem.W.Frag
  mg : Str → Option Value
  base : Heap
  A : Around
  N : List Str
  s₀ : Shared
  H₀ : Hp
  env : Env
  outer : List Env
  stack : List Env
  ex : List Addr
  fn : Str → Bool
  calm : Bool
  pn : List (Addr × Obj)
  xe : Value → Shared → Prop
noncomputable def frs (l : List Env) : List Addr := l.filterMap (·.frame)
noncomputable abbrev Cx.fs (X : Cx) : List Addr := frs X.outer

noncomputable def Vis (sc : Scope) (x : Str) : Prop := sc.names.lookup x = some .local ∨ sc.names.lookup x = some .cell ∨ sc.names.lookup x = some .free
noncomputable def Loc (sc : Scope) (x : Str) : Prop := sc.names.lookup x = some .local ∨ sc.names.lookup x = some .cell
noncomputable def Look (env : Env) (h : Heap) (m : Str → Option Value) (x : Str) (u : Value) : Prop :=
  (env.kindOf x = some .local ∧ m x = some u) ∨ ((env.kindOf x = some .cell ∨ env.kindOf x = some .free) ∧ ∃ c, env.cells.lookup x = some c ∧ h.IsCell c (some u))

structure Cx.Ok (X : Cx) : Prop where
  mod : Mod X.K X.mg X.base
  kind : X.env.scope.kind = .function
  glob : X.env.globals = mainGlobals
  blt : X.env.builtins = builtinsNs
  above : X.s₀.heap.objs.size ≤ X.env.locals
  inj : ∀ x y c, X.env.cells.lookup x = some c → X.env.cells.lookup y = some c → x = y
  has : ∀ x, (X.env.kindOf x = some .cell ∨ X.env.kindOf x = some .free) → ∃ c, X.env.cells.lookup x = some c
  cab : ∀ x c, X.fn x = true → X.env.cells.lookup x = some c → X.s₀.heap.objs.size ≤ c
  hd : X.calm = true → X.A.handled = none
  frames : X.A.frames = some X.stack
  stk : X.stack = X.outer ∨ (X.stack = X.env :: X.outer ∧ X.env.frame = some X.env.locals)
  exf : ∀ b ∈ X.ex, b ≠ X.env.locals ∧ ∀ x c, X.env.cells.lookup x = some c → c ≠ b
  bs : ∀ b o, X.base.get? b = some o → X.s₀.heap.get? b = some o ∧ X.H₀ b = none
  bsz : X.base.objs.size ≤ X.s₀.heap.objs.size
  noex : ∀ b o, X.base.get? b = some o → b ∉ X.ex
  exfs : ∀ b ∈ X.ex, b ∉ X.fs
  funs : X.s₀.heap.FunFrames X.base X.outer
  frf : ∀ b ∈ X.fs, X.H₀ b = none

structure Inv (X : Cx) (pins : List (Addr × Obj)) (σ : List (Option V)) (H : Hp) (s : Shared) : Prop where
  ok : X.Ok
  os : s.os = X.s₀.os
  bare : AllBare s.gens
  base : Un X.fs X.ex X.H₀ H X.s₀.heap s.heap
  loc : ∃ m, s.heap.Ns X.env.locals m ∧ ∀ (i : Nat) (x : Str) (v : V), X.N[i]? = some x → σ[i]? = some (some v) → Vis X.env.scope x → ∃ u, RelV v u ∧ Look X.env s.heap m x u
  cell : ∀ x c, X.env.cells.lookup x = some c → ∃ v, s.heap.IsCell c v
  free : H X.env.locals = none
  freeC : ∀ x c, X.env.cells.lookup x = some c → H c = none
  pin : ∀ p ∈ X.pn ++ pins, s.heap.get? p.1 = some p.2 ∧ H p.1 = none ∧ p.1 ≠ X.env.locals ∧ p.1 ∉ X.fs ∧ ∀ v, p.2.data ≠ .cell v
  hok : HOk X.prog X.w H s.heap
  len : σ.length = X.N.length

section
variable {X : Cx} {pins : List (Addr × Obj)} {σ : List (Option V)} {H H' : Hp} {s : Shared} {h' : Heap}
theorem Cx.Ok.nofr (ok : X.Ok) {b : Addr} {o : Obj} (e : X.base.get? b = some o) : b ∉ X.fs := fun hb => by
  have := (ok.funs.mem hb).1
  rw [e] at this; cases this
theorem Inv.bs (I : Inv X pins σ H s) : ∀ b o, X.base.get? b = some o → s.heap.get? b = some o ∧ H b = none := fun b o e =>
  ⟨I.base.keep b o (I.ok.bs b o e).1 (I.ok.bs b o e).2 (I.ok.nofr e) (I.ok.noex b o e), I.base.free b o (I.ok.bs b o e).1 (I.ok.bs b o e).2 (I.ok.noex b o e)⟩
theorem Inv.bk (I : Inv X pins σ H s) : ∀ b o, X.base.get? b = some o → s.heap.get? b = some o := fun b o e => (I.bs b o e).1
theorem Inv.mod (I : Inv X pins σ H s) : Mod X.K X.mg X.base := I.ok.mod
theorem Inv.kIn (I : Inv X pins σ H s) : X.K.In s.heap := I.ok.mod.kin.keeps I.bk
theorem Inv.lt (I : Inv X pins σ H s) : X.env.locals < s.heap.objs.size := let ⟨_, hn, _⟩ := I.loc; hn.lt
theorem Inv.sz (I : Inv X pins σ H s) : X.s₀.heap.objs.size ≤ s.heap.objs.size := Nat.le_trans I.ok.above (Nat.le_of_lt I.lt)
theorem Inv.nofs (I : Inv X pins σ H s) {a : Addr} (h : s.heap.objs.size ≤ a) : a ∉ X.fs := fun hb => by
  obtain ⟨_, o, ho, _⟩ := I.ok.funs.mem hb
  exact absurd (Nat.lt_of_lt_of_le (Heap.lt_size ho) (Nat.le_trans I.sz h)) (Nat.lt_irrefl _)
theorem Inv.cne (I : Inv X pins σ H s) : ∀ x c, X.env.cells.lookup x = some c → c ≠ X.env.locals := fun x c e z => by
  obtain ⟨v, o, ho, hd⟩ := I.cell x c e
  obtain ⟨m, ⟨o', es, ep, ho', hd', _⟩, _⟩ := I.loc
  rw [z, ho'] at ho; cases ho; rw [hd'] at hd; cases hd
theorem Inv.funs (I : Inv X pins σ H s) : s.heap.FunFrames X.base X.outer := by
  have all : ∀ (l : List Env), (∀ b ∈ frs l, b ∈ X.fs) → X.s₀.heap.FunFrames X.base l → s.heap.FunFrames X.base l := by
    intro l
    induction l with
    | nil => intro _ _; trivial
    | cons env r ih =>
      intro hs hl
      obtain ⟨hk, ⟨L, o, hf, hn, ho, hd⟩, hr⟩ := hl
      have hL : L ∈ X.fs := hs L (by unfold frs; rw [List.filterMap_cons, hf]; exact List.mem_cons_self)
      obtain ⟨sl, e⟩ := I.base.slot L o ho (I.ok.frf L hL) hL fun z => I.ok.exfs L z hL
      exact ⟨hk, ⟨L, _, hf, hn, e, hd⟩, ih (fun b hb => hs b (by unfold frs; rw [List.filterMap_cons, hf]; exact List.mem_cons_of_mem _ hb)) hr⟩
  exact all X.outer (fun _ hb => hb) I.ok.funs

theorem Inv.stack (I : Inv X pins σ H s) : s.heap.FunFrames X.base X.stack := by
  rcases I.ok.stk with e | ⟨e, hf⟩
  · rw [e]; exact I.funs
  · rw [e]
    obtain ⟨m, hn, _⟩ := I.loc
    refine .cons (by rw [I.ok.kind]; decide) hf hn ?_ I.funs
    exact Heap.get?_none_of_le (Nat.le_trans I.ok.bsz I.ok.above)
theorem Inv.stkSub (I : Inv X pins σ H s) : ∀ b ∈ frs X.stack, b ∈ X.env.locals :: X.fs := fun b hb => by
  rcases I.ok.stk with e | ⟨e, hf⟩
  · rw [e] at hb; exact List.mem_cons_of_mem _ hb
  · rw [e] at hb
    unfold frs at hb
    rw [List.filterMap_cons, hf] at hb
    exact hb
theorem Inv.stkFree (I : Inv X pins σ H s) : ∀ b ∈ frs X.stack, H b = none := fun b hb => by
  rcases List.mem_cons.mp (I.stkSub b hb) with e | hb
  · rw [e]; exact I.free
  · obtain ⟨_, o, ho, _⟩ := I.ok.funs.mem hb
    exact I.base.free b o ho (I.ok.frf b hb) fun z => I.ok.exfs b z hb

theorem Inv.step {g' : Array GenState} {t' : Nat} {d' : Drawn} {ch : List Addr} (I : Inv X pins σ H s)
    (hch : ∀ b ∈ ch, (b ∈ X.ex ∨ X.s₀.heap.objs.size ≤ b) ∧ b ≠ X.env.locals ∧ (∀ x c, X.env.cells.lookup x = some c → c ≠ b) ∧ ∀ p ∈ X.pn ++ pins, p.1 ≠ b)
    (keep : ∀ b o, b ≠ X.env.locals → b ∉ X.fs → b ∉ ch → s.heap.get? b = some o → H b = none → h'.get? b = some o)
    (slot : ∀ b o, b ≠ X.env.locals → b ∈ X.fs → b ∉ ch → s.heap.get? b = some o → H b = none → ∃ sl, h'.get? b = some { o with slots := sl }) (free : ∀ b o, b ∉ ch → s.heap.get? b = some o → H b = none → H' b = none)
    (there : ∀ b o, b ∉ ch → s.heap.get? b = some o → ∃ o', h'.get? b = some o')
    (tups : ∀ b xs, H b = some (.tup xs) → H' b = some (.tup xs)) (frzs : ∀ b o u, H b = some (.frz o u) → H' b = some (.frz o u)) (tbls : ∀ b ps, H b = some (.tbl ps) → ∃ more, H' b = some (.tbl (ps ++ more)))
    (ns : ∀ m, s.heap.Ns X.env.locals m → h'.Ns X.env.locals m) (hok : HOk X.prog X.w H' h') (hg : AllBare g') :
    Inv X pins σ H' { s with heap := h', gens := g', drawn := d', toks := t' } := by
  have neL : ∀ b o, X.s₀.heap.get? b = some o → b ≠ X.env.locals := fun b o e => Nat.ne_of_lt (Nat.lt_of_lt_of_le (Heap.lt_size e) I.ok.above)
  have neC : ∀ b o, X.s₀.heap.get? b = some o → b ∉ X.ex → b ∉ ch := fun b o e hx hb => by
    rcases (hch b hb).1 with z | z
    · exact hx z
    · exact absurd (Nat.lt_of_lt_of_le (Heap.lt_size e) z) (Nat.lt_irrefl _)
  have cellK : ∀ x c, X.env.cells.lookup x = some c → ∀ v, s.heap.IsCell c v → h'.IsCell c v := fun x c e v ⟨o, ho, hd⟩ => by
    have nch : c ∉ ch := fun z => (hch c z).2.2.1 x c e rfl
    by_cases hc : c ∈ X.fs
    · obtain ⟨sl, q⟩ := slot c o (I.cne x c e) hc nch ho (I.freeC x c e)
      exact ⟨_, q, hd⟩
    · exact ⟨o, keep c o (I.cne x c e) hc nch ho (I.freeC x c e), hd⟩
  refine ⟨I.ok, I.os, hg, ⟨fun b o e n hb hx => ?_, fun b o e n hb hx => ?_, fun b o e n hx => ?_, fun b o e hx => ?_, fun b xs e => tups b xs (I.base.tups b xs e), fun b o xs e => frzs b o xs (I.base.frzs b o xs e), fun b ps e => ?_⟩, ?_, fun x c e => ?_, ?_, fun x c e => ?_, fun p hp => ?_, hok, I.len⟩
  · exact keep b o (neL b o e) hb (neC b o e hx) (I.base.keep b o e n hb hx) (I.base.free b o e n hx)
  · obtain ⟨sl, e1⟩ := I.base.slot b o e n hb hx
    obtain ⟨sl', e2⟩ := slot b _ (neL b o e) hb (neC b o e hx) e1 (I.base.free b o e n hx)
    exact ⟨sl', e2⟩
  · obtain ⟨o', e1⟩ := I.base.there b o e hx
    exact free b o' (neC b o e hx) e1 (I.base.free b o e n hx)
  · obtain ⟨o', e1⟩ := I.base.there b o e hx
    exact there b o' (neC b o e hx) e1
  · obtain ⟨m1, e1⟩ := I.base.tbls b ps e
    obtain ⟨m2, e2⟩ := tbls b _ e1
    exact ⟨m1 ++ m2, by rw [e2, Array.append_assoc]⟩
  · obtain ⟨m, hn, hl⟩ := I.loc
    refine ⟨m, ns m hn, fun i x v e1 e2 e3 => ?_⟩
    obtain ⟨u, r, l⟩ := hl i x v e1 e2 e3
    refine ⟨u, r, ?_⟩
    rcases l with l | ⟨k, c, e, z⟩
    · exact .inl l
    · exact .inr ⟨k, c, e, cellK x c e _ z⟩
  · obtain ⟨v, z⟩ := I.cell x c e
    exact ⟨v, cellK x c e v z⟩
  · obtain ⟨m, ⟨o, _, _, ho, _⟩, _⟩ := I.loc
    exact free _ o (fun z => (hch _ z).2.1 rfl) ho I.free
  · obtain ⟨v, o, ho, hd⟩ := I.cell x c e
    exact free c o (fun z => (hch c z).2.2.1 x c e rfl) ho (I.freeC x c e)
  · obtain ⟨e, n, ne, nf, d⟩ := I.pin p hp
    have nch : p.1 ∉ ch := fun z => (hch p.1 z).2.2.2 p hp rfl
    exact ⟨keep p.1 p.2 ne nf nch e n, free p.1 p.2 nch e n, ne, nf, d⟩
theorem Inv.un {t' : Nat} (I : Inv X pins σ H s) (u : Un X.fs [] H H' s.heap h') (hok : HOk X.prog X.w H' h') : Inv X pins σ H' { s with heap := h', toks := t' } := by
  obtain ⟨m, ⟨o, es, ep, ho, r⟩, _⟩ := id I.loc
  obtain ⟨sl, hL⟩ := u.any ho I.free (by simp)
  exact I.step (g' := s.gens) (d' := s.drawn) (ch := []) (fun _ z => nomatch z) (fun b o _ hb _ e n => u.keep b o e n hb (by simp)) (fun b o _ hb _ e n => u.slot b o e n hb (by simp)) (fun b o _ e n => u.free b o e n (by simp)) (fun b o _ e => u.there b o e (by simp)) u.tups u.frzs u.tbls (fun m' hm => by
    obtain ⟨o', es', ep', ho', r'⟩ := hm
    rw [ho] at ho'; cases ho'
    exact ⟨_, es', ep', hL, r'⟩) hok I.bare
theorem Inv.call {g' : Array GenState} {t' : Nat} {d' : Drawn} {ch : List Addr} (I : Inv X pins σ H s) (u : Un (frs X.stack) ch H H' s.heap h') (hok : HOk X.prog X.w H' h') (hg : AllBare g')
    (hch : ∀ b ∈ ch, (b ∈ X.ex ∨ X.s₀.heap.objs.size ≤ b) ∧ b ≠ X.env.locals ∧ (∀ x c, X.env.cells.lookup x = some c → c ≠ b) ∧ ∀ p ∈ X.pn ++ pins, p.1 ≠ b) :
    Inv X pins σ H' { s with heap := h', gens := g', drawn := d', toks := t' } := by
  obtain ⟨m, ⟨o, es, ep, ho, r⟩, _⟩ := id I.loc
  obtain ⟨sl, hL⟩ := u.any ho I.free fun z => (hch _ z).2.1 rfl
  exact I.step (ch := ch) hch (fun b o hL hb hc e n => u.keep b o e n (fun z => (List.mem_cons.mp (I.stkSub b z)).elim hL hb) hc) (fun b o _ _ hc e n => u.any e n hc) (fun b o hc e n => u.free b o e n hc) (fun b o hc e => u.there b o e hc) u.tups u.frzs u.tbls (fun m' hm => by
    obtain ⟨o', es', ep', ho', r'⟩ := hm
    rw [ho] at ho'; cases ho'
    exact ⟨_, es', ep', hL, r'⟩) hok hg
theorem Inv.turned {t' : Nat} {it : Addr} (I : Inv X pins σ H s) (k : ∀ b o, b ≠ it → s.heap.get? b = some o → h'.get? b = some o) (hn : H it = none) (hL : it ≠ X.env.locals)
    (h1 : it ∈ X.ex ∨ X.s₀.heap.objs.size ≤ it) (h2 : ∀ x c, X.env.cells.lookup x = some c → c ≠ it) (h3 : ∀ p ∈ X.pn ++ pins, p.1 ≠ it) : Inv X pins σ H { s with heap := h', toks := t' } := by
  have nit : ∀ b u, H b = some u → b ≠ it := fun b u e z => by rw [z, hn] at e; cases e
  refine I.step (g' := s.gens) (d' := s.drawn) (ch := [it]) (fun b hb => ?_) (fun b o _ _ hc e _ => k b o (fun z => hc (by simp [z])) e) (fun b o _ _ hc e _ => ⟨o.slots, k b o (fun z => hc (by simp [z])) e⟩) (fun _ _ _ _ n => n)
    (fun b o hc e => ⟨o, k b o (fun z => hc (by simp [z])) e⟩) (fun _ _ e => e) (fun _ _ _ e => e) (fun b ps e => ⟨#[], by rw [e]; simp⟩) (fun m hm => ?_) (fun b u e => ?_) I.bare
  · have e : b = it := by simpa using hb
    subst e
    exact ⟨h1, hL, h2, h3⟩
  · obtain ⟨o, es, ep, ho, r⟩ := hm
    exact ⟨o, es, ep, k _ o (Ne.symm hL) ho, r⟩
  · refine (I.hok b u e).stay (fun c v hc q => k c v ?_ q) (fun _ q => q) fun _ _ q => q
    rcases hc with z | z
    · rw [z]; exact nit b u e
    · exact nit c _ z
theorem Inv.tok (I : Inv X pins σ H s) (t : Nat) : Inv X pins σ H { s with toks := t } := I.un (h' := s.heap) (t' := t) Un.refl I.hok
theorem Inv.kept {t' : Nat} (I : Inv X pins σ H s) (k : ∀ b u, s.heap.get? b = some u → h'.get? b = some u) : Inv X pins σ H { s with heap := h', toks := t' } := I.un (Un.kept k) (I.hok.kept k)
theorem Inv.laid {a : Addr} {o : HO} {t' : Nat} (I : Inv X pins σ H s) (k : ∀ b u, s.heap.get? b = some u → h'.get? b = some u) (hp : s.heap.objs.size ≤ a) (new : ObjOk X.prog X.w (upd H a o) h' a o) :
    Inv X pins σ (upd H a o) { s with heap := h', toks := t' } := I.un (Un.laid k hp (I.hok.fresh hp)) (I.hok.laid k hp new)
theorem Inv.write {x e : Addr} {o : HO} {t' : Nat} (I : Inv X pins σ H s) (mu : Mut (H x)) (he : e = x ∨ H e = some (.own x)) (k : ∀ b u, b ≠ e → s.heap.get? b = some u → h'.get? b = some u) (heo : ∃ u, h'.get? e = some u)
    (new : ObjOk X.prog X.w (upd H x o) h' x o) : Inv X pins σ (upd H x o) { s with heap := h', toks := t' } := I.un (Un.write mu he k heo) (I.hok.write mu he k heo new)
theorem Inv.weak {σ' : List (Option V)} (I : Inv X pins σ H s) (hl : σ'.length = σ.length) (w : ∀ (i : Nat) v, σ'[i]? = some (some v) → σ[i]? = some (some v)) : Inv X pins σ' H s :=
  ⟨I.ok, I.os, I.bare, I.base, let ⟨m, hn, hl'⟩ := I.loc; ⟨m, hn, fun i x v e1 e2 e3 => hl' i x v e1 (w i v e2) e3⟩, I.cell, I.free, I.freeC, I.pin, I.hok, hl.trans I.len⟩
theorem Inv.pins_of {pins' : List (Addr × Obj)} (I : Inv X pins σ H s) (h : ∀ p ∈ pins', s.heap.get? p.1 = some p.2 ∧ H p.1 = none ∧ p.1 ≠ X.env.locals ∧ p.1 ∉ X.fs ∧ ∀ v, p.2.data ≠ .cell v) : Inv X pins' σ H s :=
  ⟨I.ok, I.os, I.bare, I.base, I.loc, I.cell, I.free, I.freeC, fun p hp => (List.mem_append.mp hp).elim (fun z => I.pin p (List.mem_append_left _ z)) (h p), I.hok, I.len⟩

theorem nodup_ix {N : List Str} (hN : N.Nodup) {i j : Nat} {x : Str} (a : N[i]? = some x) (b : N[j]? = some x) : i = j := by
  obtain ⟨h1, e1⟩ := List.getElem?_eq_some_iff.mp a
  obtain ⟨h2, e2⟩ := List.getElem?_eq_some_iff.mp b
  exact (List.getElem_inj hN).mp (e1.trans e2.symm)

theorem store_ok2 {M : Model} {A : Around} {E : Value → Shared → Prop} {i : Nat} {x : Str} {v : V} {u : Value} {Q : Unit → Shared → Prop} (I : Inv X pins σ H s) (hN : X.N.Nodup) (hi : X.N[i]? = some x) (hx : Loc X.env.scope x) (r : RelV v u)
    (h : ∀ s', Inv X pins (σ.set i (some v)) H s' → (∃ a, Heap.SameBut a s.heap s'.heap ∧ (a = X.env.locals ∨ X.env.cells.lookup x = some a)) → Q () s') (hf : X.fn x = true ∨ X.env.scope.names.lookup x = some .local := by first | exact .inl rfl | exact .inr rfl | assumption) : wpAny M A (storeName X.env x u) Q E s := by
  obtain ⟨m, hn, hl⟩ := id I.loc
  have hcls : (X.env.scope.kind == .class || (X.env.scope.kind == .module && X.env.locals != X.env.globals)) = false := by rw [I.ok.kind]; rfl
  have hiσ : i < σ.length := by rw [I.len]; exact (List.getElem?_eq_some_iff.mp hi).1
  have cne := I.cne
  have tracked : ∀ {a : Addr} {h' : Heap}, (∃ o, s.heap.get? a = some o ∧ H a = none) → Heap.SameBut a s.heap h' → HOk X.prog X.w H h' := fun {a h'} ha hs b ob e => by
    obtain ⟨_, _, hfree⟩ := ha
    refine (I.hok b ob e).stay (fun c w' hc q => (hs.2 c ?_).trans q) (fun _ q => q) fun _ _ q => q
    rintro rfl
    rcases hc with rfl | hc
    · rw [hfree] at e; cases e
    · rw [hfree] at hc; cases hc
  rcases hx with hk | hk
  · refine wpAny_storeName_local hk hn (fun h' hn' hs => ?_) hcls
    obtain ⟨oL, _, _, hoL, _⟩ := id hn
    refine h _ ⟨I.ok, I.os, I.bare, ⟨fun b o e n hb hx => ?_, fun b o e n hb hx => ?_, I.base.free, fun b o e hx => ?_, I.base.tups, I.base.frzs, I.base.tbls⟩, ⟨_, hn', fun j y v' e1 e2 e3 => ?_⟩, fun y c e => ?_, I.free, I.freeC, fun p hp => ?_, tracked ⟨oL, hoL, I.free⟩ hs, by simpa using I.len⟩ ⟨_, hs, .inl rfl⟩
    · exact (hs.2 b (Nat.ne_of_lt (Nat.lt_of_lt_of_le (Heap.lt_size e) I.ok.above))).trans (I.base.keep b o e n hb hx)
    · obtain ⟨sl, e1⟩ := I.base.slot b o e n hb hx
      exact ⟨sl, (hs.2 b (Nat.ne_of_lt (Nat.lt_of_lt_of_le (Heap.lt_size e) I.ok.above))).trans e1⟩
    · obtain ⟨o', e1⟩ := I.base.there b o e hx
      exact ⟨o', (hs.2 b (Nat.ne_of_lt (Nat.lt_of_lt_of_le (Heap.lt_size e) I.ok.above))).trans e1⟩
    · by_cases hj : j = i
      · subst hj
        rw [hi] at e1; cases e1
        rw [List.getElem?_set_self hiσ] at e2
        cases e2
        exact ⟨u, r, .inl ⟨hk, by simp⟩⟩
      · rw [List.getElem?_set_ne (Ne.symm hj)] at e2
        obtain ⟨u', r', q⟩ := hl j y v' e1 e2 e3
        refine ⟨u', r', ?_⟩
        rcases q with ⟨k, e⟩ | ⟨k, c, e, z⟩
        · refine .inl ⟨k, ?_⟩
          have : y ≠ x := fun e => hj (nodup_ix hN e1 (e ▸ hi))
          simp [this, e]
        · exact .inr ⟨k, c, e, z.sameBut hs (cne y c e)⟩
    · obtain ⟨w', z⟩ := I.cell y c e
      exact ⟨w', z.sameBut hs (cne y c e)⟩
    · obtain ⟨e, n, ne, nf, d⟩ := I.pin p hp
      exact ⟨(hs.2 p.1 ne).trans e, n, ne, nf, d⟩
  · have hfn : X.fn x = true := by
      rcases hf with z | z
      · exact z
      · rw [z] at hk; cases hk
    obtain ⟨c, hc⟩ := I.ok.has x (.inl hk)
    obtain ⟨w', z⟩ := I.cell x c hc
    refine wpAny_storeName_cell I.ok.kind hk hc z (fun h' hc' hs => ?_)
    obtain ⟨oc, hoc, hocd⟩ := id z
    refine h { s with heap := h' } ⟨I.ok, I.os, I.bare, ⟨fun b o e n hb hx => ?_, fun b o e n hb hx => ?_, I.base.free, fun b o e hx => ?_, I.base.tups, I.base.frzs, I.base.tbls⟩, ⟨m, hn.sameBut hs (Ne.symm (cne x c hc)), fun j y v' e1 e2 e3 => ?_⟩, fun y c' e => ?_, I.free, I.freeC, fun p hp => ?_, tracked ⟨oc, hoc, I.freeC x c hc⟩ hs, by simpa using I.len⟩ ⟨c, hs, .inr hc⟩
    · exact (hs.2 b (Nat.ne_of_lt (Nat.lt_of_lt_of_le (Heap.lt_size e) (I.ok.cab x c hfn hc)))).trans (I.base.keep b o e n hb hx)
    · obtain ⟨sl, e1⟩ := I.base.slot b o e n hb hx
      exact ⟨sl, (hs.2 b (Nat.ne_of_lt (Nat.lt_of_lt_of_le (Heap.lt_size e) (I.ok.cab x c hfn hc)))).trans e1⟩
    · obtain ⟨o', e1⟩ := I.base.there b o e hx
      exact ⟨o', (hs.2 b (Nat.ne_of_lt (Nat.lt_of_lt_of_le (Heap.lt_size e) (I.ok.cab x c hfn hc)))).trans e1⟩
    · by_cases hj : j = i
      · subst hj
        rw [hi] at e1; cases e1
        rw [List.getElem?_set_self hiσ] at e2
        cases e2
        exact ⟨u, r, .inr ⟨.inl hk, c, hc, hc'⟩⟩
      · rw [List.getElem?_set_ne (Ne.symm hj)] at e2
        obtain ⟨u', r', q⟩ := hl j y v' e1 e2 e3
        refine ⟨u', r', ?_⟩
        rcases q with q | ⟨k, c', e, z'⟩
        · exact .inl q
        · refine .inr ⟨k, c', e, z'.sameBut hs ?_⟩
          rintro rfl
          exact hj (nodup_ix hN e1 (I.ok.inj _ _ _ e hc ▸ hi))
    · by_cases hcc : c' = c
      · subst hcc; exact ⟨_, hc'⟩
      · obtain ⟨w2, z2⟩ := I.cell y c' e
        exact ⟨w2, z2.sameBut hs hcc⟩
    · obtain ⟨e, n, ne, nf, d⟩ := I.pin p hp
      refine ⟨(hs.2 p.1 ?_).trans e, n, ne, nf, d⟩
      intro q
      rw [q, hoc] at e
      have q' : oc = p.2 := Option.some.inj e
      exact d w' (by rw [← q']; exact hocd)
theorem store_ok {M : Model} {A : Around} {E : Value → Shared → Prop} {i : Nat} {x : Str} {v : V} {u : Value} {Q : Unit → Shared → Prop} (I : Inv X pins σ H s) (hN : X.N.Nodup) (hi : X.N[i]? = some x) (hx : Loc X.env.scope x) (r : RelV v u)
    (h : ∀ s', Inv X pins (σ.set i (some v)) H s' → Q () s') (hf : X.fn x = true ∨ X.env.scope.names.lookup x = some .local := by first | exact .inl rfl | exact .inr rfl | assumption) : wpAny M A (storeName X.env x u) Q E s :=
  store_ok2 I hN hi hx r (fun s' I' _ => h s' I') hf
theorem Inv.call' {s' : Shared} {ch : List Addr} (I : Inv X pins σ H s) (ho : s'.os = s.os) (u : Un (frs X.stack) ch H H' s.heap s'.heap) (hok : HOk X.prog X.w H' s'.heap) (hg : AllBare s'.gens)
    (hch : ∀ b ∈ ch, (b ∈ X.ex ∨ X.s₀.heap.objs.size ≤ b) ∧ b ≠ X.env.locals ∧ (∀ x c, X.env.cells.lookup x = some c → c ≠ b) ∧ ∀ p ∈ X.pn ++ pins, p.1 ≠ b) : Inv X pins σ H' s' := by
  obtain ⟨h', g', d', t', o'⟩ := s'
  have e : o' = s.os := ho
  subst e
  exact I.call (g' := g') (t' := t') (d' := d') u hok hg hch
end
noncomputable abbrev XK := Value → Option Addr → Hp → Prop
noncomputable abbrev St := List (Option V)
noncomputable abbrev VK := V → Hp → Prop
noncomputable abbrev TE := St → Hp → VK → Prop
noncomputable abbrev TT := St → Hp → (Bool → Hp → Prop) → Prop
noncomputable abbrev TA := St → Hp → (List V → Hp → Prop) → Prop
structure Ends where
  nx : St → Hp → Prop
  rt : VK
  bk : St → Hp → Prop := fun _ _ => False
  ct : St → Hp → Prop := fun _ _ => False
noncomputable abbrev TS := Ends → St → Hp → Prop

noncomputable def EP (X : Cx) (pins : List (Addr × Obj)) (σ : St) (Q : VK) (u : Value) (s' : Shared) : Prop := ∃ v H', Inv X pins σ H' s' ∧ RelV v u ∧ Q v H'
noncomputable def TP (X : Cx) (pins : List (Addr × Obj)) (σ : St) (Q : Bool → Hp → Prop) (b : Bool) (s' : Shared) : Prop := ∃ H', Inv X pins σ H' s' ∧ Q b H'
noncomputable def AP (X : Cx) (pins : List (Addr × Obj)) (σ : St) (Q : List V → Hp → Prop) (us : List Value) (s' : Shared) : Prop := ∃ vs H', Inv X pins σ H' s' ∧ Vals vs us ∧ Q vs H'
noncomputable def SP (X : Cx) (pins : List (Addr × Obj)) (D : Ends) (f : Flow) (s' : Shared) : Prop :=
  match f with
  | .next => ∃ σ' H', Inv X pins σ' H' s' ∧ D.nx σ' H'
  | .brk => ∃ σ' H', Inv X pins σ' H' s' ∧ D.bk σ' H'
  | .cont => ∃ σ' H', Inv X pins σ' H' s' ∧ D.ct σ' H'
  | .ret u => ∃ v σ' H', Inv X pins σ' H' s' ∧ RelV v u ∧ D.rt v H'

noncomputable def PE (X : Cx) (e : Expr) (t : TE) : Prop :=
  ∀ (pins : List (Addr × Obj)) (s : Shared) (σ : St) (H : Hp) (Q : VK), Inv X pins σ H s → t σ H Q → wpAny (model X.prog X.w) X.A (eval e X.env) (EP X pins σ Q) X.xe s
@[irreducible] noncomputable def ZE (X : Cx) (e : Expr) (t : TE) : Prop := PE X e t
theorem ZE.p {X : Cx} {e : Expr} {t : TE}  (h : ZE X e t) : PE X e t := by unfold ZE at h; exact h
noncomputable def PT (X : Cx) (e : Expr) (t : TT) : Prop :=
  ∀ (pins : List (Addr × Obj)) (s : Shared) (σ : St) (H : Hp) (Q : Bool → Hp → Prop), Inv X pins σ H s → t σ H Q → wpAny (model X.prog X.w) X.A (isTrue e X.env (eval e X.env)) (TP X pins σ Q) X.xe s
@[irreducible] noncomputable def ZT (X : Cx) (e : Expr) (t : TT) : Prop := PT X e t
noncomputable def PW (X : Cx) (e : Expr) (t : TT) : Prop :=
  ∀ (whole : Sem Value) (pins : List (Addr × Obj)) (s : Shared) (σ : St) (H : Hp) (Q : Bool → Hp → Prop), Inv X pins σ H s → t σ H Q → wpAny (model X.prog X.w) X.A (isTrue e X.env whole) (TP X pins σ Q) X.xe s
@[irreducible] noncomputable def ZW (X : Cx) (e : Expr) (t : TT) : Prop := PW X e t
theorem PW.pt {X : Cx} {e : Expr} {t : TT} (h : PW X e t) : PT X e t := h _
theorem ZW.zt {X : Cx} {e : Expr} {t : TT} (h : ZW X e t) : ZT X e t := by with_unfolding_all exact PW.pt h
noncomputable def PA (X : Cx) (es : List Expr) (t : TA) : Prop :=
  ∀ (pos : Pos) (pins : List (Addr × Obj)) (s : Shared) (σ : St) (H : Hp) (Q : List V → Hp → Prop), Inv X pins σ H s → t σ H Q → wpAny (model X.prog X.w) X.A (spliced (backTo pos (starEach es X.env))) (AP X pins σ Q) X.xe s
@[irreducible] noncomputable def ZA (X : Cx) (es : List Expr) (t : TA) : Prop := PA X es t
noncomputable def PS (X : Cx) (st : Stmt) (t : TS) : Prop :=
  ∀ (pins : List (Addr × Obj)) (s : Shared) (σ : St) (H : Hp) (D : Ends), Inv X pins σ H s → t D σ H → wpAny (model X.prog X.w) X.A (exec st X.env) (SP X pins D) X.xe s
@[irreducible] noncomputable def ZS (X : Cx) (st : Stmt) (t : TS) : Prop := PS X st t
noncomputable def PSs (X : Cx) (st : List Stmt) (t : TS) : Prop :=
  ∀ (pins : List (Addr × Obj)) (s : Shared) (σ : St) (H : Hp) (D : Ends), Inv X pins σ H s → t D σ H → wpAny (model X.prog X.w) X.A (execs st X.env) (SP X pins D) X.xe s
@[irreducible] noncomputable def ZSs (X : Cx) (st : List Stmt) (t : TS) : Prop := PSs X st t
theorem ZSs.p {X : Cx} {st : List Stmt} {t : TS}  (h : ZSs X st t) : PSs X st t := by unfold ZSs at h; exact h
theorem thn {α : Type} {t : Sem α} {Q Q' : α → Shared → Prop} {M : Model} {A : Around} {E : Value → Shared → Prop} {s : Shared} (h : wpAny M A t Q E s) (hQ : ∀ a s, Q a s → Q' a s) : wpAny M A t Q' E s := wpAny_mono h hQ fun _ _ x => x
end L2
namespace L2
open PySem PySem.Spec PyProof.Rows
section
variable {X : Cx}
noncomputable def tVar (i : Nat) : TE := fun σ H Q => ∃ v, σ[i]? = some (some v) ∧ Q v H
noncomputable def tC (v : V) : TE := fun _ H Q => Q v H
theorem pe_var {i : Nat} {x : Str} {pos : Pos} (hN : X.N[i]? = some x) (hv : Vis X.env.scope x) (hd : (x == ("__debug__" : Str)) = false := by decide) (hcd : (x == ("__classdict__" : Str)) = false := by decide) : PE X (.Name x pos) (tVar i) := by
  intro pins s σ H Q I h
  obtain ⟨v, e, h⟩ := h
  obtain ⟨m, hn, hl⟩ := I.loc
  obtain ⟨u, r, l⟩ := hl i x v hN e hv
  have fin : EP X pins σ Q u s := ⟨v, H, I, r, h⟩
  rcases l with ⟨hk, hm⟩ | ⟨hk, c, hc, hcell⟩
  · exact wpAny_Name (wpAny_loadName_local I.ok.kind hk hn hm fin) hd
  · rcases hk with hk | hk
    · exact wpAny_Name (wpAny_loadName_cell I.ok.kind hk hc hcell fin) hd
    · exact wpAny_Name (wpAny_loadName_free I.ok.kind hk hc hcell fin hcd) hd
theorem pe_int {i j pos} : PE X (.Constant (.int i) j pos) (tC (.int i)) := fun _ _ _ H _ I h => wpAny_Constant_int ⟨.int i, H, I.tok _, ⟨_, rfl⟩, h⟩
theorem ze_int {i j pos} : ZE X (.Constant (.int i) j pos) (tC (.int i)) := by with_unfolding_all exact pe_int 
theorem pe_bl {b j pos} : PE X (.Constant (.bool b) j pos) (tC (.bl b)) := fun _ _ _ H _ I h => Constant_bool ⟨.bl b, H, I, rfl, h⟩
theorem ze_bl {b j pos} : ZE X (.Constant (.bool b) j pos) (tC (.bl b)) := by with_unfolding_all exact pe_bl 
theorem pe_str {x j pos} : PE X (.Constant (.str x) j pos) (tC (.str x)) := fun _ _ _ H _ I h => Calls.Constant_str ⟨.str x, H, I.tok _, ⟨_, rfl⟩, h⟩
theorem ze_str {x j pos} : ZE X (.Constant (.str x) j pos) (tC (.str x)) := by with_unfolding_all exact pe_str 

noncomputable def Gl (X : Cx) (x : Str) : Prop := X.env.kindOf x = some .globalImplicit
theorem ld_glob {E : Value → Shared → Prop} {pins : List (Addr × Obj)} {s : Shared} {σ : St} {H : Hp} {x : Str} {u : Value} {pos : Pos} {Q : Value → Shared → Prop} (I : Inv X pins σ H s) (hg : Gl X x) (hm : X.mg x = some u) (h : Q u s)
    (hd : (x == ("__debug__" : Str)) = false := by decide) : wpAny (model X.prog X.w) X.A (eval (.Name x pos) X.env) Q E s :=
  Calls.Name_function_global I.ok.kind hg (Calls.loadGlobal_global (by rw [I.ok.glob]; exact I.mod.glob.keeps I.bk) hm h) hd
theorem ld_blt {E : Value → Shared → Prop} {pins : List (Addr × Obj)} {s : Shared} {σ : St} {H : Hp} {x : Str} {u : Value} {pos : Pos} {Q : Value → Shared → Prop} (I : Inv X pins σ H s) (hg : Gl X x) (hm : X.mg x = none) (hv : bootBuiltins x = some u) (h : Q u s)
    (hn : x ≠ "__name__" := by decide) (hd : (x == ("__debug__" : Str)) = false := by decide) : wpAny (model X.prog X.w) X.A (eval (.Name x pos) X.env) Q E s := by
  obtain ⟨mb, h1, h2⟩ := I.mod.blt
  exact Calls.Name_function_global I.ok.kind hg (Calls.loadGlobal_builtin (by rw [I.ok.glob]; exact I.mod.glob.keeps I.bk) hm (by rw [I.ok.blt]; exact h1.keeps I.bk) ((h2 x hn).trans hv) h) hd
theorem pe_glob {x : Str} {v : V} {u : Value} {pos : Pos} (hg : Gl X x) (hm : X.mg x = some u) (r : RelV v u) (hd : (x == ("__debug__" : Str)) = false := by decide) : PE X (.Name x pos) (tC v) :=
  fun _ _ _ H _ I h => ld_glob I hg hm ⟨v, H, I, r, h⟩ hd
theorem pe_bltn {x : Str} {v : V} {u : Value} {pos : Pos} (hg : Gl X x) (hm : X.mg x = none) (hv : bootBuiltins x = some u) (r : RelV v u) (hn : x ≠ "__name__" := by decide) (hd : (x == ("__debug__" : Str)) = false := by decide) : PE X (.Name x pos) (tC v) :=
  fun _ _ _ H _ I h => ld_blt I hg hm hv ⟨v, H, I, r, h⟩ hn hd

variable {a b : Expr} {ta tb : TE} {pos : Pos}
variable {tA tB' : TT} {rest : List Expr}
noncomputable def tAnd (t u : TT) : TT := fun σ H Q => t σ H fun c H1 => if c = true then u σ H1 Q else Q false H1
noncomputable def tOr (t u : TT) : TT := fun σ H Q => t σ H fun c H1 => if c = true then Q true H1 else u σ H1 Q
noncomputable def tNot (t : TT) : TT := fun σ H Q => t σ H fun c H1 => Q (!c) H1
theorem pw_and1 (ha : PT X a tA) : PW X (.BoolOp .And [a] pos) tA := by
  intro wh pins s σ H Q I h
  refine isTrue_and (thn (ha pins s σ H Q I h) fun c s1 e => ?_)
  cases c with
  | true => exact isTrue_and_nil e
  | false => exact e
theorem zw_and1 (ha : ZT X a tA) : ZW X (.BoolOp .And [a] pos) tA := by with_unfolding_all exact pw_and1 ha
theorem pw_or1 (ha : PT X a tA) : PW X (.BoolOp .Or [a] pos) tA := by
  intro wh pins s σ H Q I h
  refine isTrue_or (thn (ha pins s σ H Q I h) fun c s1 e => ?_)
  cases c with
  | false => exact isTrue_or_nil e
  | true => exact e
theorem zw_or1 (ha : ZT X a tA) : ZW X (.BoolOp .Or [a] pos) tA := by with_unfolding_all exact pw_or1 ha
theorem pw_and (ha : PT X a tA) (hb : PW X (.BoolOp .And (b :: rest) pos) tB') : PW X (.BoolOp .And (a :: b :: rest) pos) (tAnd tA tB') := by
  intro wh pins s σ H Q I h
  refine isTrue_and (thn (ha pins s σ H _ I h) fun c s1 ⟨H1, I1, q1⟩ => ?_)
  cases c with
  | true => exact hb wh pins s1 σ H1 Q I1 q1
  | false => exact ⟨H1, I1, q1⟩
theorem zw_and (ha : ZT X a tA) (hb : ZW X (.BoolOp .And (b :: rest) pos) tB') : ZW X (.BoolOp .And (a :: b :: rest) pos) (tAnd tA tB') := by with_unfolding_all exact pw_and ha hb
theorem pw_or (ha : PT X a tA) (hb : PW X (.BoolOp .Or (b :: rest) pos) tB') : PW X (.BoolOp .Or (a :: b :: rest) pos) (tOr tA tB') := by
  intro wh pins s σ H Q I h
  refine isTrue_or (thn (ha pins s σ H _ I h) fun c s1 ⟨H1, I1, q1⟩ => ?_)
  cases c with
  | true => exact ⟨H1, I1, q1⟩
  | false => exact hb wh pins s1 σ H1 Q I1 q1
theorem zw_or (ha : ZT X a tA) (hb : ZW X (.BoolOp .Or (b :: rest) pos) tB') : ZW X (.BoolOp .Or (a :: b :: rest) pos) (tOr tA tB') := by with_unfolding_all exact pw_or ha hb
theorem pt_not (ha : PT X a tA) : PT X (.UnaryOp .Not a pos) (tNot tA) := by
  intro pins s σ H Q I h
  exact isTrue_not (ha pins s σ H (fun c H1 => Q (!c) H1) I h)
theorem zt_not (ha : ZT X a tA) : ZT X (.UnaryOp .Not a pos) (tNot tA) := by with_unfolding_all exact pt_not ha
theorem pe_one {op} {t : TE} (h : PE X a t) : PE X (.BoolOp op [a] pos) t := fun pins s σ H Q I hw => BoolOp_one (h pins s σ H Q I hw)
theorem ze_one {op} {t : TE} (h : ZE X a t) : ZE X (.BoolOp op [a] pos) t := by with_unfolding_all exact pe_one h
noncomputable def tIf (t : TT) (ta tb : TE) : TE := fun σ H Q => t σ H fun c H1 => if c = true then ta σ H1 Q else tb σ H1 Q
theorem pe_ifExp {c : Expr} (hc : PT X c tA) (ha : PE X a ta) (hb : PE X b tb) : PE X (.IfExp c a b pos) (tIf tA ta tb) := by
  intro pins s σ H Q I h
  refine wpAny_IfExp (thn (hc pins s σ H _ I h) fun d s1 ⟨H1, I1, q1⟩ => ?_)
  cases d with
  | true => exact ha pins s1 σ H1 Q I1 q1
  | false => exact hb pins s1 σ H1 Q I1 q1
theorem ze_ifExp {c : Expr} (hc : ZT X c tA) (ha : ZE X a ta) (hb : ZE X b tb) : ZE X (.IfExp c a b pos) (tIf tA ta tb) := by with_unfolding_all exact pe_ifExp hc ha hb
end
end L2
namespace L2
open PySem PySem.Spec PyProof.Rows
noncomputable def SqL (K : PySem.W.Frag) (H : Hp) (a : Addr) (xs : List V) : Prop :=
  Rd H a (.lst xs) ∨
    ∃ (o : Obj) (its : Array Value) (n : Nat), K.lookup a = some o ∧ o.cls = .type "list" ∧ o.dict = none ∧ o.data = .seq its n ∧ its.size ≤ sizeLine ∧ Vals xs its.toList
noncomputable def SqT (K : PySem.W.Frag) (H : Hp) (a : Addr) (xs : List V) : Prop :=
  Rd H a (.tup xs) ∨
    ∃ (o : Obj) (its : Array Value) (n : Nat), K.lookup a = some o ∧ o.cls = .type "tuple" ∧ o.data = .seq its n ∧ its.size ≤ sizeLine ∧ Vals xs its.toList
noncomputable def absV : Value → Option V
  | .none => some .non
  | .bool b => some (.bl b)
  | .int i _ => some (.int i)
  | .str x _ => some (.str x)
  | .bytes b _ => some (.byt b)
  | .float b _ => some (.flt b)
  | .ref a => some (.ref a)
  | .type n => some (.ty n)
  | _ => none
theorem RelV.abs {x : V} {u : Value} (r : RelV x u) : absV u = some x := by
  cases x with
  | non => cases r; rfl
  | bl _ => cases r; rfl
  | int _ => obtain ⟨t, rfl⟩ := r; rfl
  | str _ => obtain ⟨t, rfl⟩ := r; rfl
  | byt _ => obtain ⟨t, rfl⟩ := r; rfl
  | flt _ => obtain ⟨t, rfl⟩ := r; rfl
  | ref _ => cases r; rfl
  | ty _ => cases r; rfl
theorem RelV.inj {x y : V} {u : Value} (r : RelV x u) (q : RelV y u) : x = y := Option.some.inj (r.abs.symm.trans q.abs)
theorem Vals.inj : ∀ {xs ys : List V} {us : List Value}, Vals xs us → Vals ys us → xs = ys
  | _, _, _, .nil, .nil => rfl
  | _, _, _, .cons r t, .cons r' t' => by rw [r.inj r', Vals.inj t t']
section
variable {X : Cx} {pins : List (Addr × Obj)} {σ : St} {H : Hp} {s : Shared} {a : Addr} {xs ys : List V}
theorem SqL.of {K : PySem.W.Frag} (h : H a = some (.lst xs)) : SqL K H a xs := .inl (.inl h)
theorem SqT.of {K : PySem.W.Frag} (h : H a = some (.tup xs)) : SqT K H a xs := .inl (.inl h)
theorem Inv.list (I : Inv X pins σ H s) (h : SqL X.K H a xs) : ∃ its : List Value, Vals xs its ∧ PlainL s.heap a its.toArray ∧ xs.length ≤ sizeLine := by
  rcases h with h | ⟨o, its, n, hk, hc, hd, hs, hz, r⟩
  · obtain ⟨z, its, n, r, e⟩ := h.ok I.hok
    exact ⟨its, r, ⟨_, n, e, rfl, rfl, rfl⟩, z⟩
  · refine ⟨its.toList, r, ⟨o, n, I.kIn a o hk, hc, hd, by simpa using hs⟩, ?_⟩
    have e := r.length
    simp only [Array.length_toList] at e
    omega
theorem Inv.tuple (I : Inv X pins σ H s) (h : SqT X.K H a xs) : ∃ its : List Value, Vals xs its ∧ IsTup s.heap a its.toArray ∧ xs.length ≤ sizeLine := by
  rcases h with h | ⟨o, its, n, hk, hc, hs, hz, r⟩
  · obtain ⟨z, its, r, p⟩ := h.ok I.hok
    exact ⟨its, r, p.tup, z⟩
  · refine ⟨its.toList, r, ⟨o, I.kIn a o hk, hc, n, by simpa using hs⟩, ?_⟩
    have e := r.length
    simp only [Array.length_toList] at e
    omega
theorem Inv.list_inj (I : Inv X pins σ H s) (h : SqL X.K H a xs) (h' : SqL X.K H a ys) : xs = ys := by
  obtain ⟨its, r, ⟨o, n, e, _, _, d⟩, _⟩ := I.list h
  obtain ⟨its', r', ⟨o', n', e', _, _, d'⟩, _⟩ := I.list h'
  rw [e] at e'; cases e'
  rw [d] at d'
  injection d' with d1 _
  have : its = its' := by simpa using congrArg Array.toList d1
  subst this
  exact r.inj r'
theorem Inv.tuple_inj (I : Inv X pins σ H s) (h : SqT X.K H a xs) (h' : SqT X.K H a ys) : xs = ys := by
  obtain ⟨its, r, ⟨o, e, _, n, d⟩, _⟩ := I.tuple h
  obtain ⟨its', r', ⟨o', e', _, n', d'⟩, _⟩ := I.tuple h'
  rw [e] at e'; cases e'
  rw [d] at d'
  injection d' with d1 _
  have : its = its' := by simpa using congrArg Array.toList d1
  subst this
  exact r.inj r'
end
noncomputable abbrev Cx.wish (X : Cx) (E : Value → Shared → Prop) : Cx := { X with xe := E }
noncomputable abbrev Cx.nox (X : Cx) : Cx := X.wish fun _ _ => False
theorem Cx.Ok.wish {X : Cx} (ok : X.Ok) (E : Value → Shared → Prop) : (X.wish E).Ok :=
  ⟨ok.mod, ok.kind, ok.glob, ok.blt, ok.above, ok.inj, ok.has, ok.cab, ok.hd, ok.frames, ok.stk, ok.exf, ok.bs, ok.bsz, ok.noex, ok.exfs, ok.funs, ok.frf⟩
theorem Cx.Ok.unwish {X : Cx} {E : Value → Shared → Prop} (ok : (X.wish E).Ok) : X.Ok :=
  ⟨ok.mod, ok.kind, ok.glob, ok.blt, ok.above, ok.inj, ok.has, ok.cab, ok.hd, ok.frames, ok.stk, ok.exf, ok.bs, ok.bsz, ok.noex, ok.exfs, ok.funs, ok.frf⟩
section
variable {X : Cx} {pins : List (Addr × Obj)} {σ : St} {H : Hp} {s : Shared} {E : Value → Shared → Prop}
theorem Inv.wish (I : Inv X pins σ H s) (E : Value → Shared → Prop) : Inv (X.wish E) pins σ H s := ⟨I.ok.wish E, I.os, I.bare, I.base, I.loc, I.cell, I.free, I.freeC, I.pin, I.hok, I.len⟩
theorem Inv.unwish (I : Inv (X.wish E) pins σ H s) : Inv X pins σ H s := ⟨I.ok.unwish, I.os, I.bare, I.base, I.loc, I.cell, I.free, I.freeC, I.pin, I.hok, I.len⟩
theorem SP.unwish {D : Ends} {f : Flow} {s' : Shared} (h : SP (X.wish E) pins D f s') : SP X pins D f s' := by
  cases f with
  | next => obtain ⟨σ', H', I, q⟩ := h; exact ⟨σ', H', I.unwish, q⟩
  | brk => obtain ⟨σ', H', I, q⟩ := h; exact ⟨σ', H', I.unwish, q⟩
  | cont => obtain ⟨σ', H', I, q⟩ := h; exact ⟨σ', H', I.unwish, q⟩
  | ret u => obtain ⟨v, σ', H', I, r, q⟩ := h; exact ⟨v, σ', H', I.unwish, r, q⟩
theorem PSs.nox {st : List Stmt} {t : TS} (h : PSs X.nox st t) : PSs X st t := fun pins s σ H D I hw =>
  wpAny_mono (h pins s σ H D (I.wish _) hw) (fun _ _ q => q.unwish) fun _ _ z => False.elim z
end
section
variable {X : Cx} {st : Stmt} {rest : List Stmt} {t u : TS} {e : Expr} {te : TE} {pos : Pos}
noncomputable def tNext : TS := fun D σ H => D.nx σ H
noncomputable def tSeq (t u : TS) : TS := fun D σ H => t { D with nx := u D } σ H
theorem pss_nil : PSs X [] tNext := fun _ _ σ H _ I h => wpAny_execs_nil ⟨σ, H, I, h⟩
theorem zss_nil : ZSs X [] tNext := by with_unfolding_all exact pss_nil 
theorem pss_cons (h1 : PS X st t) (h2 : PSs X rest u) : PSs X (st :: rest) (tSeq t u) := by
  intro pins s σ H D I h
  refine wpAny_execs_cons (thn (h1 pins s σ H { D with nx := u D } I h) fun f s1 q => ?_)
  cases f with
  | next =>
    obtain ⟨σ', H', I', q⟩ := q
    exact h2 pins s1 σ' H' D I' q
  | ret v => exact q
  | brk => exact q
  | cont => exact q
theorem zss_cons (h1 : ZS X st t) (h2 : ZSs X rest u) : ZSs X (st :: rest) (tSeq t u) := by with_unfolding_all exact pss_cons h1 h2
theorem pss_one (h1 : PS X st t) : PSs X [st] t := by
  intro pins s σ H D I h
  refine wpAny_execs_cons (thn (h1 pins s σ H D I h) fun f s1 q => ?_)
  cases f with
  | next => exact wpAny_execs_nil q
  | ret v => exact q
  | brk => exact q
  | cont => exact q
theorem zss_one (h1 : ZS X st t) : ZSs X [st] t := by with_unfolding_all exact pss_one h1
theorem Inv.quiet {pins : List (Addr × Obj)} {σ : St} {H : Hp} {s : Shared} (I : Inv X pins σ H s) : interactive X.env = false := by simp [interactive, I.ok.kind]
noncomputable def tDrop (te : TE) : TS := fun D σ H => te σ H fun _ H1 => D.nx σ H1
theorem ps_expr (he : PE X e te) (hs : swapsWith e none pos.line X.env = pure false := by rfl) : PS X (.Expr e pos) (tDrop te) := by
  intro pins s σ H D I h
  exact wpAny_Expr_any (thn (he pins s σ H _ I h) fun v s1 ⟨x, H1, I1, r1, q1⟩ => ⟨σ, H1, I1, q1⟩) I.quiet hs
theorem zs_expr (he : ZE X e te) (hs : swapsWith e none pos.line X.env = pure false := by rfl) : ZS X (.Expr e pos) (tDrop te) := by with_unfolding_all exact ps_expr he hs
noncomputable def tRet (te : TE) : TS := fun D σ H => te σ H D.rt
theorem ps_ret (he : PE X e te) : PS X (.Return (some e) pos) (tRet te) := by
  intro pins s σ H D I h
  exact wpAny_Return_some (thn (he pins s σ H _ I h) fun v s1 ⟨x, H1, I1, r1, q1⟩ => ⟨x, σ, H1, I1, r1, q1⟩)
theorem zs_ret (he : ZE X e te) : ZS X (.Return (some e) pos) (tRet te) := by with_unfolding_all exact ps_ret he
noncomputable def tIfS (c : TT) (t u : TS) : TS := fun D σ H => c σ H fun b H1 => if b = true then t D σ H1 else u D σ H1
theorem ps_if {c : Expr} {a b : List Stmt} {tc : TT} (hc : PT X c tc) (ha : PSs X a t) (hb : PSs X b u) : PS X (.If c a b pos) (tIfS tc t u) := by
  intro pins s σ H D I h
  refine wpAny_If (thn (hc pins s σ H _ I h) fun d s1 ⟨H1, I1, q1⟩ => ?_)
  cases d with
  | true => exact ha pins s1 σ H1 D I1 q1
  | false => exact hb pins s1 σ H1 D I1 q1
theorem zs_if {c : Expr} {a b : List Stmt} {tc : TT} (hc : ZT X c tc) (ha : ZSs X a t) (hb : ZSs X b u) : ZS X (.If c a b pos) (tIfS tc t u) := by with_unfolding_all exact ps_if hc ha hb
noncomputable def tNever : TS := fun _ _ _ => False
theorem pss_never {sts : List Stmt} : PSs X sts tNever := fun _ _ _ _ _ _ h => h.elim
end
noncomputable abbrev TG := V → St → Hp → (St → Hp → Prop) → Prop
noncomputable abbrev TGs := List V → St → Hp → (St → Hp → Prop) → Prop
noncomputable def PG (X : Cx) (target : Expr) (t : TG) : Prop :=
  ∀ (pins : List (Addr × Obj)) (s : Shared) (σ : St) (H : Hp) (v : V) (u : Value) (Q : St → Hp → Prop), Inv X pins σ H s → RelV v u → t v σ H Q →
    wpAny (model X.prog X.w) X.A (assign target X.env u) (fun _ s' => ∃ σ' H', Inv X pins σ' H' s' ∧ Q σ' H') X.xe s
@[irreducible] noncomputable def ZG (X : Cx) (target : Expr) (t : TG) : Prop := PG X target t
noncomputable def PGs (X : Cx) (ts : List Expr) (t : TGs) : Prop :=
  ∀ (pins : List (Addr × Obj)) (s : Shared) (σ : St) (H : Hp) (vs : List V) (us : List Value) (Q : St → Hp → Prop), Inv X pins σ H s → Vals vs us → t vs σ H Q →
    wpAny (model X.prog X.w) X.A (assignInOrder ((assignEach ts X.env).map (·.2)) us) (fun _ s' => ∃ σ' H', Inv X pins σ' H' s' ∧ Q σ' H') X.xe s
@[irreducible] noncomputable def ZGs (X : Cx) (ts : List Expr) (t : TGs) : Prop := PGs X ts t
noncomputable abbrev TSet := V → V → V → Hp → (Hp → Prop) → Prop
noncomputable def PSet (X : Cx) (t : TSet) : Prop :=
  ∀ (pins : List (Addr × Obj)) (s : Shared) (σ : St) (H : Hp) (o i v : V) (ov iv u : Value) (Q : Hp → Prop), Inv X pins σ H s → RelV o ov → RelV i iv → RelV v u → t o i v H Q →
    wpAny (model X.prog X.w) X.A (setItem ov iv u) (fun _ s' => ∃ H', Inv X pins σ H' s' ∧ Q H') X.xe s
noncomputable abbrev TIp := V → V → Hp → VK → Prop
noncomputable def PIp (X : Cx) (op : Operator) (t : TIp) : Prop :=
  ∀ (pins : List (Addr × Obj)) (s : Shared) (σ : St) (H : Hp) (x y : V) (v u : Value) (Q : VK), Inv X pins σ H s → RelV x v → RelV y u → t x y H Q →
    wpAny (model X.prog X.w) X.A (inplaceOp op v u) (EP X pins σ Q) X.xe s
section
variable {X : Cx} {pos : Pos}
noncomputable def gName (i : Nat) : TG := fun v σ H Q => Q (σ.set i (some v)) H
theorem pg_name {i : Nat} {x : Str} (hN : X.N.Nodup) (hi : X.N[i]? = some x) (hx : Loc X.env.scope x) (hf : X.fn x = true ∨ X.env.scope.names.lookup x = some .local := by first | exact .inl rfl | exact .inr rfl | assumption) : PG X (.Name x pos) (gName i) := by
  intro pins s σ H v u Q I r h
  exact wpAny_assign_Name (store_ok I hN hi hx r (fun s' I' => ⟨_, H, I', h⟩) hf)
theorem zg_name {i : Nat} {x : Str} (hN : X.N.Nodup) (hi : X.N[i]? = some x) (hx : Loc X.env.scope x) (hf : X.fn x = true ∨ X.env.scope.names.lookup x = some .local := by first | exact .inl rfl | exact .inr rfl | assumption) : ZG X (.Name x pos) (gName i) := by with_unfolding_all exact pg_name hN hi hx hf
noncomputable def gNil : TGs := fun vs σ H Q => vs = [] ∧ Q σ H
noncomputable def gCons (t : TG) (u : TGs) : TGs := fun vs σ H Q => ∃ v r, vs = v :: r ∧ t v σ H fun σ' H' => u r σ' H' Q
theorem pgs_nil : PGs X [] gNil := by
  intro pins s σ H vs us Q I r h
  obtain ⟨e, h⟩ := h
  subst e
  cases r
  exact assignInOrder_nil ⟨σ, H, I, h⟩
theorem zgs_nil : ZGs X [] gNil := by with_unfolding_all exact pgs_nil 
theorem pgs_cons {e : Expr} {es : List Expr} {t : TG} {u : TGs} (h1 : PG X e t) (h2 : PGs X es u)
    (hs : (assignEach (e :: es) X.env).map (·.2) = assign e X.env :: (assignEach es X.env).map (·.2) := by rfl) : PGs X (e :: es) (gCons t u) := by
  intro pins s σ H vs us Q I r h
  obtain ⟨v, vr, e1, h⟩ := h
  subst e1
  cases r with
  | cons r rr =>
    rw [hs]
    refine assignInOrder_cons (thn (h1 pins s σ H _ _ _ I r h) fun _ s1 ⟨σ1, H1, I1, q1⟩ => ?_)
    exact h2 pins s1 σ1 H1 _ _ Q I1 rr q1
theorem zgs_cons {e : Expr} {es : List Expr} {t : TG} {u : TGs} (h1 : ZG X e t) (h2 : ZGs X es u)
    (hs : (assignEach (e :: es) X.env).map (·.2) = assign e X.env :: (assignEach es X.env).map (·.2) := by rfl) : ZGs X (e :: es) (gCons t u) := by with_unfolding_all exact pgs_cons h1 h2 hs
noncomputable def gTup (K : PySem.W.Frag) (n : Nat) (t : TGs) : TG := fun v σ H Q => ∃ a xs, v = .ref a ∧ SqT K H a xs ∧ xs.length = n ∧ t xs σ H Q
theorem pg_tup {es : List Expr} {k : Nat} {t : TGs} {n : Nat} (hc : X.calm = true) (h : PGs X es t)
    (hn : (assignEach es X.env).length = n := by rfl) (hst : (assignEach es X.env).findIdx? (·.1) = none := by rfl) : PG X (.Tuple es k pos) (gTup X.K n t) := by
  intro pins s σ H v u Q I r hw
  obtain ⟨a, xs, e1, hq, hl, hw⟩ := hw
  subst e1
  cases r
  obtain ⟨its, rv, ht, hz⟩ := I.tuple hq
  refine assign_Tuple_tuple (I.ok.hd hc) ht (by simp [hn, ← hl, rv.length]) hst fun h' hx => ?_
  have I1 : Inv X pins σ H { s with heap := h' } := I.kept (t' := s.toks) fun b o e => hx b o (Nat.ne_of_lt (Heap.lt_size e)) e
  exact h pins _ σ H xs _ Q I1 (by simpa using rv) hw
theorem zg_tup {es : List Expr} {k : Nat} {t : TGs} {n : Nat} (hc : X.calm = true) (h : ZGs X es t)
    (hn : (assignEach es X.env).length = n := by rfl) (hst : (assignEach es X.env).findIdx? (·.1) = none := by rfl) : ZG X (.Tuple es k pos) (gTup X.K n t) := by with_unfolding_all exact pg_tup hc h hn hst
noncomputable def gSub (to ti : TE) (t : TSet) : TG := fun v σ H Q => to σ H fun o H1 => ti σ H1 fun i H2 => t o i v H2 fun H3 => Q σ H3
theorem pg_sub {o i : Expr} {to ti : TE} {t : TSet} (ho : PE X o to) (hi : PE X i ti) (hs : PSet X t)
    (ha : ∀ v, assign (.Subscript o i pos) X.env v = (do
      let ov ← holding [v] (eval o X.env)
      let iv ← holding [v, ov] (eval i X.env)
      standAt pos
      holding [v, ov, iv] (setItem ov iv v)
      release [v, ov, iv] []) := by intro _; rfl) : PG X (.Subscript o i pos) (gSub to ti t) := by
  intro pins s σ H v u Q I r h
  rw [ha]
  refine wpAny_bind (wpAny_holding (thn (ho pins s σ H _ I h) fun ov s1 ⟨x, H1, I1, r1, q1⟩ => ?_))
  refine wpAny_bind (wpAny_holding (thn (hi pins s1 σ H1 _ I1 q1) fun iv s2 ⟨y, H2, I2, r2, q2⟩ => ?_))
  refine wpAny_bind (wpAny_standAt (wpAny_bind (wpAny_holding (thn (hs pins s2 σ H2 x y v ov iv u _ I2 r1 r2 r q2) fun _ s3 ⟨H3, I3, q3⟩ => ?_))))
  exact wpAny_release ⟨σ, H3, I3, q3⟩
theorem zg_sub {o i : Expr} {to ti : TE} {t : TSet} (ho : ZE X o to) (hi : ZE X i ti) (hs : PSet X t)
    (ha : ∀ v, assign (.Subscript o i pos) X.env v = (do
      let ov ← holding [v] (eval o X.env)
      let iv ← holding [v, ov] (eval i X.env)
      standAt pos
      holding [v, ov, iv] (setItem ov iv v)
      release [v, ov, iv] []) := by intro _; rfl) : ZG X (.Subscript o i pos) (gSub to ti t) := by with_unfolding_all exact pg_sub ho hi hs ha
noncomputable def tAsg (te : TE) (g : TG) : TS := fun D σ H => te σ H fun x H1 => g x σ H1 D.nx
theorem ps_asg {tg e : Expr} {te : TE} {g : TG} (he : PE X e te) (hg : PG X tg g) (hs : swapsWithSole [tg] e pos.line X.env = pure false := by rfl) (hw : swappedStores [tg] e X.env = pure none := by rfl)
    (h1 : (assignEach [tg] X.env).map (·.2) = [assign tg X.env] := by rfl) : PS X (.Assign [tg] e pos) (tAsg te g) := by
  intro pins s σ H D I h
  refine wpAny_Assign_stores (thn (he pins s σ H _ I h) fun v s1 ⟨x, H1, I1, r1, q1⟩ => ?_) hs hw
  rw [h1]
  exact thn (hg pins s1 σ H1 x v _ I1 r1 q1) fun _ s2 q => q
theorem zs_asg {tg e : Expr} {te : TE} {g : TG} (he : ZE X e te) (hg : ZG X tg g) (hs : swapsWithSole [tg] e pos.line X.env = pure false := by rfl) (hw : swappedStores [tg] e X.env = pure none := by rfl)
    (h1 : (assignEach [tg] X.env).map (·.2) = [assign tg X.env] := by rfl) : ZS X (.Assign [tg] e pos) (tAsg te g) := by with_unfolding_all exact ps_asg he hg hs hw h1
theorem ps_set {i : Nat} {x : Str} {e : Expr} {te : TE} {pos' : Pos} (hN : X.N.Nodup) (hi : X.N[i]? = some x) (hx : Loc X.env.scope x) (he : PE X e te) (hs : swapsWith e (some (.Name x pos')) pos.line X.env = pure false := by rfl) (hf : X.fn x = true ∨ X.env.scope.names.lookup x = some .local := by first | exact .inl rfl | exact .inr rfl | assumption) :
    PS X (.Assign [.Name x pos'] e pos) (tAsg te (gName i)) := by
  intro pins s σ H D I h
  refine wpAny_Assign_Name (thn (he pins s σ H _ I h) fun v s1 ⟨y, H1, I1, r1, q1⟩ => ?_) hs
  exact store_ok I1 hN hi hx r1 (fun s2 I2 => ⟨_, H1, I2, q1⟩) hf
theorem zs_set {i : Nat} {x : Str} {e : Expr} {te : TE} {pos' : Pos} (hN : X.N.Nodup) (hi : X.N[i]? = some x) (hx : Loc X.env.scope x) (he : ZE X e te) (hs : swapsWith e (some (.Name x pos')) pos.line X.env = pure false := by rfl) (hf : X.fn x = true ∨ X.env.scope.names.lookup x = some .local := by first | exact .inl rfl | exact .inr rfl | assumption) :
    ZS X (.Assign [.Name x pos'] e pos) (tAsg te (gName i)) := by with_unfolding_all exact ps_set hN hi hx he hs hf
noncomputable def tPar (i j : Nat) (ta : TA) : TS := fun D σ H => ta σ H fun vs H1 => ∃ v w, vs = [v, w] ∧ D.nx ((σ.set i (some v)).set j (some w)) H1
theorem ps_par {i j : Nat} {x y : Str} {a b : Expr} {ta : TA} {px py pt : Pos} {kt k2 pt2} (hc : X.calm = true) (hN : X.N.Nodup) (hi : X.N[i]? = some x) (hj : X.N[j]? = some y) (hij : i ≠ j)
    (hx : X.env.scope.names.lookup x = some .local) (hy : X.env.scope.names.lookup y = some .local) (ha : PA X [a, b] ta)
    (hw : swappedStores [.Tuple [.Name x px, .Name y py] kt pt] (.Tuple [a, b] k2 pt2) X.env = pure (some [x, y]))
    (hs : swapsWithSole [.Tuple [.Name x px, .Name y py] kt pt] (.Tuple [a, b] k2 pt2) pos.line X.env = pure false := by rfl) :
    PS X (.Assign [.Tuple [.Name x px, .Name y py] kt pt] (.Tuple [a, b] k2 pt2) pos) (tPar i j ta) := by
  intro pins s σ H D I h
  rw [exec_Assign_arm]
  refine wpAny_bind (wpAny_standAt ?_)
  rw [hs]
  refine wpAny_bind (wpAny_pure ?_)
  rw [if_neg (by decide)]
  refine wpAny_bind (Tuple_ (thn (ha _ pins s σ H _ I h) fun us s1 ⟨vs, H1, I1, r1, q1⟩ => ?_))
  obtain ⟨v, w, e1, q1⟩ := q1
  subst e1
  obtain ⟨u1, u2, rfl, rv, rw'⟩ : ∃ u1 u2, us = [u1, u2] ∧ RelV v u1 ∧ RelV w u2 := by
    cases r1 with
    | cons p q =>
      cases q with
      | cons p' q' =>
        cases q'
        exact ⟨_, _, rfl, p, p'⟩
  refine wpAny_newObj_type ?_ (by show 2 ≤ sizeLine; decide)
  have I2 : Inv X pins σ H1 { s1 with heap := s1.heap.push { cls := .type "tuple", data := .seq [u1, u2].toArray } } := I1.kept (t' := s1.toks) fun b o e => Heap.get?_push_of_some _ e
  rw [hw]
  refine wpAny_bind (wpAny_pure ?_)
  show wpAny (model X.prog X.w) X.A (do rule "assign.swapped-stores"; let items ← unpackItems (.ref s1.heap.objs.size) 2 none; assignInOrder [fun v => bindName X.env y v, fun v => bindName X.env x v] items.reverse; pure Flow.next) _ _ _
  refine wpAny_bind (wpAny_rule (wpAny_bind (unpackItems_tuple (items := #[u1, u2]) (I.ok.hd hc) (IsTup.new s1.heap _) fun h' hx' => ?_)))
  have I3 := I2.kept (h' := h') (t' := s1.toks) fun b o e => hx' b o (Nat.ne_of_lt (Heap.lt_size e)) e
  show wpAny _ _ (assignInOrder [fun v => bindName X.env y v, fun v => bindName X.env x v] [u2, u1] >>= fun _ => pure Flow.next) _ _ _
  refine wpAny_bind (assignInOrder_cons (wpAny_bindName (store_ok I3 hN hj (.inl hy) rw' (fun s2 I4 => ?_) (.inr hy))))
  refine assignInOrder_cons (wpAny_bindName (store_ok I4 hN hi (.inl hx) rv (fun s3 I5 => assignInOrder_nil (wpAny_pure ?_)) (.inr hx)))
  rw [List.set_comm _ _ (Ne.symm hij)] at I5
  exact ⟨_, H1, I5, q1⟩
theorem zs_par {i j : Nat} {x y : Str} {a b : Expr} {ta : TA} {px py pt : Pos} {kt k2 pt2} (hc : X.calm = true) (hN : X.N.Nodup) (hi : X.N[i]? = some x) (hj : X.N[j]? = some y) (hij : i ≠ j)
    (hx : X.env.scope.names.lookup x = some .local) (hy : X.env.scope.names.lookup y = some .local) (ha : ZA X [a, b] ta)
    (hw : swappedStores [.Tuple [.Name x px, .Name y py] kt pt] (.Tuple [a, b] k2 pt2) X.env = pure (some [x, y]))
    (hs : swapsWithSole [.Tuple [.Name x px, .Name y py] kt pt] (.Tuple [a, b] k2 pt2) pos.line X.env = pure false := by rfl) :
    ZS X (.Assign [.Tuple [.Name x px, .Name y py] kt pt] (.Tuple [a, b] k2 pt2) pos) (tPar i j ta) := by with_unfolding_all exact ps_par hc hN hi hj hij hx hy ha hw hs
noncomputable def tAug (i : Nat) (te : TE) (ti : TIp) : TS := fun D σ H => ∃ x, σ[i]? = some (some x) ∧ te σ H fun y H1 => ti x y H1 fun z H2 => D.nx (σ.set i (some z)) H2
theorem ps_aug {i : Nat} {x : Str} {e : Expr} {te : TE} {op : Operator} {ti : TIp} {pos' : Pos} (hN : X.N.Nodup) (hi : X.N[i]? = some x) (hx : Loc X.env.scope x) (he : PE X e te) (ho : PIp X op ti) (hf : X.fn x = true ∨ X.env.scope.names.lookup x = some .local := by first | exact .inl rfl | exact .inr rfl | assumption) :
    PS X (.AugAssign (.Name x pos') op e pos) (tAug i te ti) := by
  intro pins s σ H D I h
  obtain ⟨v, e1, h⟩ := h
  obtain ⟨m, hn, hl⟩ := I.loc
  have vis : Vis X.env.scope x := by rcases hx with k | k; exact .inl k; exact .inr (.inl k)
  obtain ⟨u, r, l⟩ := hl i x v hi e1 vis
  refine wpAny_AugAssign_Name ?_
  have go : wpAny (model X.prog X.w) X.A (eval e X.env) (fun w s₂ => wpAny (model X.prog X.w) X.A (inplaceOp op u w) (fun r s₃ => wpAny (model X.prog X.w) X.A (storeName X.env x r) (fun _ => SP X pins D .next) X.xe s₃) X.xe s₂) X.xe s := by
    refine thn (he pins s σ H _ I h) fun w s1 ⟨y, H1, I1, r1, q1⟩ => ?_
    refine thn (ho pins s1 σ H1 v y u w _ I1 r r1 q1) fun z s2 ⟨zv, H2, I2, r2, q2⟩ => ?_
    exact store_ok I2 hN hi hx r2 (fun s3 I3 => ⟨_, H2, I3, q2⟩) hf
  rcases l with ⟨hk, hm⟩ | ⟨hk, c, hc, hcell⟩
  · exact wpAny_loadName_local I.ok.kind hk hn hm go
  · rcases hk with hk | hk
    · exact wpAny_loadName_cell I.ok.kind hk hc hcell go
    · rcases hx with k | k
      · have : X.env.scope.names.lookup x = some .free := hk
        rw [k] at this; cases this
      · have : X.env.scope.names.lookup x = some .free := hk
        rw [k] at this; cases this
theorem zs_aug {i : Nat} {x : Str} {e : Expr} {te : TE} {op : Operator} {ti : TIp} {pos' : Pos} (hN : X.N.Nodup) (hi : X.N[i]? = some x) (hx : Loc X.env.scope x) (he : ZE X e te) (ho : PIp X op ti) (hf : X.fn x = true ∨ X.env.scope.names.lookup x = some .local := by first | exact .inl rfl | exact .inr rfl | assumption) :
    ZS X (.AugAssign (.Name x pos') op e pos) (tAug i te ti) := by with_unfolding_all exact ps_aug hN hi hx he ho hf
noncomputable def tAugS (to ti te : TE) (tget : V → V → Hp → VK → Prop) (tip : TIp) (tset : TSet) : TS := fun D σ H => to σ H fun o H1 => ti σ H1 fun i H2 => tget o i H2 fun x H3 => te σ H3 fun y H4 => tip x y H4 fun z H5 => tset o i z H5 fun H6 => D.nx σ H6
noncomputable def PGet (X : Cx) (t : V → V → Hp → VK → Prop) : Prop :=
  ∀ (pins : List (Addr × Obj)) (s : Shared) (σ : St) (H : Hp) (o i : V) (ov iv : Value) (Q : VK), Inv X pins σ H s → RelV o ov → RelV i iv → t o i H Q →
    wpAny (model X.prog X.w) X.A (getItem ov iv) (EP X pins σ Q) X.xe s
theorem ps_augS {o i e : Expr} {to ti te : TE} {tget : V → V → Hp → VK → Prop} {tip : TIp} {tset : TSet} {op : Operator} {tpos : Pos} (ho : PE X o to) (hi : PE X i ti) (hg : PGet X tget) (he : PE X e te) (hp : PIp X op tip) (hs : PSet X tset)
    (ha : ∀ ov iv new, augStore i ov iv new = (do holding [new, ov, iv] (setItem ov iv new); release [new, ov, iv] []; pure .next) := by intros; rfl) : PS X (.AugAssign (.Subscript o i tpos) op e pos) (tAugS to ti te tget tip tset) := by
  intro pins s σ H D I h
  refine wpAny_AugAssign_SubscriptAny (thn (ho pins s σ H _ I h) fun ov s1 ⟨x1, H1, I1, r1, q1⟩ => ?_) ha
  refine thn (hi pins s1 σ H1 _ I1 q1) fun iv s2 ⟨x2, H2, I2, r2, q2⟩ => ?_
  refine thn (hg pins s2 σ H2 x1 x2 ov iv _ I2 r1 r2 q2) fun old s3 ⟨x3, H3, I3, r3, q3⟩ => ?_
  refine thn (he pins s3 σ H3 _ I3 q3) fun v s4 ⟨x4, H4, I4, r4, q4⟩ => ?_
  refine thn (hp pins s4 σ H4 x3 x4 old v _ I4 r3 r4 q4) fun new s5 ⟨x5, H5, I5, r5, q5⟩ => ?_
  exact thn (hs pins s5 σ H5 x1 x2 x5 ov iv new _ I5 r1 r2 r5 q5) fun _ s6 ⟨H6, I6, q6⟩ => ⟨σ, H6, I6, q6⟩
theorem zs_augS {o i e : Expr} {to ti te : TE} {tget : V → V → Hp → VK → Prop} {tip : TIp} {tset : TSet} {op : Operator} {tpos : Pos} (ho : ZE X o to) (hi : ZE X i ti) (hg : PGet X tget) (he : ZE X e te) (hp : PIp X op tip) (hs : PSet X tset)
    (ha : ∀ ov iv new, augStore i ov iv new = (do holding [new, ov, iv] (setItem ov iv new); release [new, ov, iv] []; pure .next) := by intros; rfl) : ZS X (.AugAssign (.Subscript o i tpos) op e pos) (tAugS to ti te tget tip tset) := by with_unfolding_all exact ps_augS ho hi hg he hp hs ha
noncomputable def ipI (f : Int → Int → Int) : TIp := fun x y H Q => ∃ i j, x = .int i ∧ y = .int j ∧ Q (.int (f i j)) H
theorem ip_add : PIp X .Add (ipI fun i j => i + j) := by
  intro pins s σ H x y v u Q I r1 r2 h
  obtain ⟨i, j, e1, e2, q⟩ := h
  subst e1; subst e2
  obtain ⟨t, rfl⟩ := r1
  obtain ⟨t', rfl⟩ := r2
  exact iadd_int ⟨.int _, H, I.tok _, ⟨_, rfl⟩, q⟩
theorem ip_sub : PIp X .Sub (ipI fun i j => i - j) := by
  intro pins s σ H x y v u Q I r1 r2 h
  obtain ⟨i, j, e1, e2, q⟩ := h
  subst e1; subst e2
  obtain ⟨t, rfl⟩ := r1
  obtain ⟨t', rfl⟩ := r2
  exact isub_int ⟨.int _, H, I.tok _, ⟨_, rfl⟩, q⟩
end
section
variable {X : Cx} {pos : Pos}
noncomputable def tWhile (c : TT) (tb : TS) : TS := fun D σ H => ∃ W : Nat → St → Hp → Prop, (∃ m, W m σ H) ∧ ∀ m σ H, W m σ H →
  c σ H fun b H1 => if b = true then ∃ N : St → Hp → Prop, (∀ σ' H', N σ' H' → ∃ m', m' < m ∧ W m' σ' H') ∧ tb { D with nx := N, ct := N, bk := D.nx } σ H1 else D.nx σ H1
theorem ps_while {c : Expr} {body : List Stmt} {tc : TT} {tb : TS} (hp : PassesOwn (model X.prog X.w) X.A X.env X.xe) (hc : PT X c tc) (hb : PSs X body tb) : PS X (.While c body [] pos) (tWhile tc tb) := by
  intro pins s σ H D I h
  obtain ⟨W, ⟨m0, w0⟩, turn⟩ := h
  refine wpAny_While (codeAny_whileLoop (fun n s' => ∃ σ' H', Inv X pins σ' H' s' ∧ W n σ' H') ?_ m0 ⟨σ, H, I, w0⟩)
  rintro n s1 ⟨σ1, H1, I1, w1⟩
  refine wpAny_passesOwn hp (thn (hc pins s1 σ1 H1 _ I1 (turn n σ1 H1 w1)) fun b s2 ⟨H2, I2, q2⟩ => ?_)
  cases b with
  | true =>
    obtain ⟨N, hN, q2⟩ := q2
    rw [if_pos rfl]
    refine wpAny_passesOwn hp (thn (hb pins s2 σ1 H2 _ I2 q2) fun f s3 q3 => ?_)
    cases f with
    | next =>
      obtain ⟨σ3, H3, I3, n3⟩ := q3
      obtain ⟨m', hm, w3⟩ := hN σ3 H3 n3
      exact ⟨m', hm, σ3, H3, I3, w3⟩
    | cont =>
      obtain ⟨σ3, H3, I3, n3⟩ := q3
      obtain ⟨m', hm, w3⟩ := hN σ3 H3 n3
      exact ⟨m', hm, σ3, H3, I3, w3⟩
    | brk => exact q3
    | ret v => exact q3
  | false =>
    rw [if_neg Bool.false_ne_true]
    exact wpAny_execs_nil ⟨σ1, H2, I2, q2⟩
theorem zs_while {c : Expr} {body : List Stmt} {tc : TT} {tb : TS} (hp : PassesOwn (model X.prog X.w) X.A X.env X.xe) (hc : ZT X c tc) (hb : ZSs X body tb) : ZS X (.While c body [] pos) (tWhile tc tb) := by with_unfolding_all exact ps_while hp hc hb
end
structure It where
  go : Nat → Hp → Prop
  yld : Nat → Hp → V → Hp → Prop
  stop : Nat → Hp → Prop
noncomputable def FpOk (X : Cx) (pins : List (Addr × Obj)) (H : Hp) (b : Addr) : Prop :=
  H b = none ∧ b ≠ X.env.locals ∧ b ∉ X.fs ∧ (b ∈ X.ex ∨ X.s₀.heap.objs.size ≤ b) ∧ (∀ x c, X.env.cells.lookup x = some c → c ≠ b) ∧ ∀ p ∈ X.pn ++ pins, p.1 ≠ b
theorem Inv.fpOk {X : Cx} {pins : List (Addr × Obj)} {σ : St} {H H' : Hp} {s : Shared} {b : Addr} (I : Inv X pins σ H s) (hb : s.heap.objs.size ≤ b) (hn : H' b = none) : FpOk X pins H' b := by
  refine ⟨hn, Nat.ne_of_gt (Nat.lt_of_lt_of_le I.lt hb), I.nofs hb, .inr (Nat.le_trans I.sz hb), fun x c e z => ?_, fun p hp z => ?_⟩
  · obtain ⟨v, q⟩ := I.cell x c e
    exact absurd (Nat.lt_of_lt_of_le q.lt (by rw [z]; exact hb)) (Nat.lt_irrefl _)
  · exact absurd (Nat.lt_of_lt_of_le (Heap.lt_size (I.pin p hp).1) (by rw [z]; exact hb)) (Nat.lt_irrefl _)
structure Turn (P : Program) (w : World) (K : PySem.W.Frag) (tg : Expr) (J : It) (fp : List Addr) (it : Addr) (tn : Nat → Heap → Prop) : Prop where
  mem : it ∈ fp
  obj : ∀ i h, tn i h → ∀ b ∈ fp, ∃ o, h.get? b = some o ∧ ∀ v, o.data ≠ .cell v
  keep : ∀ i h h', tn i h → (∀ b ∈ fp, ∀ o, h.get? b = some o → h'.get? b = some o) → tn i h'
  item : ∀ (X : Cx), X.prog = P → X.w = w → X.K = K → X.calm = true → ∀ (i : Nat) (pins : List (Addr × Obj)) (s : Shared) (σ : St) (H : Hp) (E : Value → Shared → Prop), Inv X pins σ H s → (∀ b ∈ fp, FpOk X pins H b) → tn i s.heap → J.go i H →
    wpAny (model P w) X.A (pyNext (.ref it)) (fun r s1 => ∃ u, r = some u ∧
      wpAny (model P w) X.A (letOwnedTupleGo tg (.ref it) u) (fun _ s2 => ∃ x H', Inv X pins σ H' s2 ∧ RelV x u ∧ J.yld i H x H' ∧ tn (i + 1) s2.heap ∧ ∀ b ∈ fp, H' b = none) E s1) E s
  done : ∀ (X : Cx), X.prog = P → X.w = w → X.K = K → X.calm = true → ∀ (i : Nat) (pins : List (Addr × Obj)) (s : Shared) (σ : St) (H : Hp) (E : Value → Shared → Prop), Inv X pins σ H s → (∀ b ∈ fp, FpOk X pins H b) → tn i s.heap → J.stop i H →
    wpAny (model P w) X.A (pyNext (.ref it)) (fun r s1 => r = none ∧ Inv X pins σ H s1) E s
  self : ∀ (A : Around) (i : Nat) (s : Shared) (Q : Value → Shared → Prop) (E : Value → Shared → Prop), tn i s.heap → Q (.ref it) s → wpAny (model P w) A (pyIter (.ref it)) Q E s
noncomputable abbrev TI := St → Hp → (It → Hp → Prop) → Prop
noncomputable def PIE (X : Cx) (pins : List (Addr × Obj)) (σ : St) (tg : Expr) (R : It → Hp → Prop) (itv : Value) (s2 : Shared) : Prop :=
  ∃ (it : Addr) (fp : List Addr) (tn : Nat → Heap → Prop) (J : It) (H' : Hp), itv = .ref it ∧ Inv X pins σ H' s2 ∧ Turn X.prog X.w X.K tg J fp it tn ∧ tn 0 s2.heap ∧ (∀ b ∈ fp, FpOk X pins H' b) ∧ R J H'
noncomputable def PI (X : Cx) (tg iter : Expr) (wi : TI) : Prop :=
  ∀ (pins : List (Addr × Obj)) (s : Shared) (σ : St) (H : Hp) (R : It → Hp → Prop), Inv X pins σ H s → wi σ H R →
    wpAny (model X.prog X.w) X.A (eval iter X.env) (fun v s1 => wpAny (model X.prog X.w) X.A (pyIter v) (PIE X pins σ tg R) X.xe s1) X.xe s
@[irreducible] noncomputable def ZI (X : Cx) (tg iter : Expr) (wi : TI) : Prop := PI X tg iter wi
theorem go_of {M : Model} {A : Around} {E : Value → Shared → Prop} {s : Shared} {tg : Expr} {it : Addr} {u : Value} {o : Obj} {n : String} {vs : Array Value} {Q : Unit → Shared → Prop} (ho : s.heap.get? it = some o) (hc : o.cls = .type n) (hd : o.data = .fields vs)
    (hn : ["enumerate", "zip", "dict_itemiterator", "dict_reverseitemiterator", "odict_iterator", "itertools.zip_longest", "itertools.pairwise"].contains n = false) (hQ : Q () s) : wpAny M A (letOwnedTupleGo tg (.ref it) u) Q E s := by
  unfold letOwnedTupleGo
  cases tg <;> first
    | exact wpAny_pure hQ
    | (cases u <;> first
        | exact wpAny_pure hQ
        | (refine wpAny_bind (wpAny_load ho ?_)
           rw [hc, hd]
           show wpAny M A (if (["enumerate", "zip", "dict_itemiterator", "dict_reverseitemiterator", "odict_iterator", "itertools.zip_longest", "itertools.pairwise"].contains n && vs[0]? == some (rawInt _)) = true then _ else _) Q E s
           rw [if_neg (by intro h; rw [hn, Bool.false_and] at h; cases h)]
           exact wpAny_pure hQ))

noncomputable def Itl (K : PySem.W.Frag) (a : Addr) : It :=
  ⟨fun i H => ∃ xs x, SqL K H a xs ∧ xs[i]? = some x, fun i H x H' => H' = H ∧ ∀ xs, SqL K H a xs → xs[i]? = some x, fun i H => ∃ xs, SqL K H a xs ∧ xs.length ≤ i⟩
noncomputable def Itt (K : PySem.W.Frag) (a : Addr) : It :=
  ⟨fun i H => ∃ xs x, SqT K H a xs ∧ xs[i]? = some x, fun i H x H' => H' = H ∧ ∀ xs, SqT K H a xs → xs[i]? = some x, fun i H => ∃ xs, SqT K H a xs ∧ xs.length ≤ i⟩
noncomputable def Itr (lo : Int) (n : Nat) : It := ⟨fun i _ => i < n, fun i H x H' => H' = H ∧ x = .int (lo + i), fun i _ => n ≤ i⟩
theorem turn_list {P : Program} {w : World} {K : PySem.W.Frag} {tg : Expr} (a it : Addr) : Turn P w K tg (Itl K a) [it] it (fun i h => h.IsListIter it a i) where
  mem := by simp
  obj := fun i h st b hb => by
    have e : b = it := by simpa using hb
    subst e
    obtain ⟨o, e, c, d⟩ := st
    exact ⟨o, e, fun v z => by rw [d] at z; cases z⟩
  keep := fun i h h' st k => st.at fun o e => k it (by simp) o e
  item := by
    intro X hP hw hK hc i pins s σ H E I hf st hg
    subst hP hw hK
    obtain ⟨xs, x, hq, hx⟩ := hg
    obtain ⟨its, rv, p, hz⟩ := I.list hq
    obtain ⟨u, hu, ru⟩ := rv.get hx
    obtain ⟨f0, f1, f2, f3, f4, f5⟩ := hf it (by simp)
    refine wpAny_pyNext_list_item st p.isList (x := u) (by simpa using hu) fun h' st' sb => ?_
    have I1 : Inv X pins σ H { s with heap := h' } := I.turned (t' := s.toks) (fun b o hb e => (sb.2 b hb).trans e) f0 f1 f3 f4 f5
    obtain ⟨o, e, c, d⟩ := id st'
    exact ⟨u, rfl, go_of (s := { s with heap := h' }) e c d (by decide) ⟨x, H, I1, ru, ⟨rfl, fun ys hy => by rw [I.list_inj hy hq]; exact hx⟩, st', fun b hb => (hf b hb).1⟩⟩
  done := by
    intro X hP hw hK hc i pins s σ H E I hf st hg
    subst hP hw hK
    obtain ⟨xs, hq, hx⟩ := hg
    obtain ⟨its, rv, p, hz⟩ := I.list hq
    obtain ⟨f0, f1, f2, f3, f4, f5⟩ := hf it (by simp)
    have hl := rv.length
    exact wpAny_pyNext_list_end (I.ok.hd hc) st p.isList (by simp; omega) fun h' eb => ⟨rfl, I.turned (t' := s.toks) (fun b o hb e => eb b o hb e) f0 f1 f3 f4 f5⟩
  self := fun _ _ _ _ _ st h => wpAny_pyIter_listiter st h
theorem turn_tuple {P : Program} {w : World} {K : PySem.W.Frag} {tg : Expr} (a it : Addr) : Turn P w K tg (Itt K a) [it] it (fun i h => h.IsTupleIter it a i) where
  mem := by simp
  obj := fun i h st b hb => by
    have e : b = it := by simpa using hb
    subst e
    obtain ⟨o, e, c, d⟩ := st
    exact ⟨o, e, fun v z => by rw [d] at z; cases z⟩
  keep := fun i h h' st k => st.at fun o e => k it (by simp) o e
  item := by
    intro X hP hw hK hc i pins s σ H E I hf st hg
    subst hP hw hK
    obtain ⟨xs, x, hq, hx⟩ := hg
    obtain ⟨its, rv, p, hz⟩ := I.tuple hq
    obtain ⟨u, hu, ru⟩ := rv.get hx
    obtain ⟨f0, f1, f2, f3, f4, f5⟩ := hf it (by simp)
    refine wpAny_pyNext_tuple_item st (show s.heap.IsTuple a its.toArray from p) (x := u) (by simpa using hu) fun h' st' sb => ?_
    have I1 : Inv X pins σ H { s with heap := h' } := I.turned (t' := s.toks) (fun b o hb e => (sb.2 b hb).trans e) f0 f1 f3 f4 f5
    obtain ⟨o, e, c, d⟩ := id st'
    exact ⟨u, rfl, go_of (s := { s with heap := h' }) e c d (by decide) ⟨x, H, I1, ru, ⟨rfl, fun ys hy => by rw [I.tuple_inj hy hq]; exact hx⟩, st', fun b hb => (hf b hb).1⟩⟩
  done := by
    intro X hP hw hK hc i pins s σ H E I hf st hg
    subst hP hw hK
    obtain ⟨xs, hq, hx⟩ := hg
    obtain ⟨its, rv, p, hz⟩ := I.tuple hq
    obtain ⟨f0, f1, f2, f3, f4, f5⟩ := hf it (by simp)
    have hl := rv.length
    exact wpAny_pyNext_tuple_end (I.ok.hd hc) st (show s.heap.IsTuple a its.toArray from p) (by simp; omega) fun h' eb => ⟨rfl, I.turned (t' := s.toks) (fun b o hb e => eb b o hb e) f0 f1 f3 f4 f5⟩
  self := fun _ _ _ _ _ st h => wpAny_pyIter_tupleiter st h
theorem turn_range {P : Program} {w : World} {K : PySem.W.Frag} {tg : Expr} (it : Addr) (lo : Int) (n : Nat) : Turn P w K tg (Itr lo n) [it] it (fun i h => IsRangeIter h it (lo + (i : Nat) * 1) ((n : Int) - (i : Nat)) 1) where
  mem := by simp
  obj := fun i h st b hb => by
    have e : b = it := by simpa using hb
    subst e
    exact ⟨_, st, fun v z => by
      have z' : Data.fields _ = Data.cell v := z
      cases z'⟩
  keep := fun i h h' st k => k it (by simp) _ st
  item := by
    intro X hP hw hK hc i pins s σ H E I hf st hg
    subst hP hw hK
    obtain ⟨f0, f1, f2, f3, f4, f5⟩ := hf it (by simp)
    have W := Walks.range (prog := X.prog) (w := X.w) (I.ok.hd hc) it lo 1 n
    refine W.item i s _ _ hg st fun v h' tk hv st' kk => ?_
    obtain ⟨t, rfl⟩ := hv
    have I1 : Inv X pins σ H { s with heap := h', toks := tk } := I.turned (fun b o hb e => kk b o (by simpa using hb) e) f0 f1 f3 f4 f5
    refine ⟨_, rfl, go_of (s := { s with heap := h', toks := tk }) (n := "range_iterator") st' rfl rfl (by decide) ⟨.int (lo + i), H, I1, ⟨t, ?_⟩, ⟨rfl, rfl⟩, st', fun b hb => (hf b hb).1⟩⟩
    rw [Int.mul_one]
  done := by
    intro X hP hw hK hc i pins s σ H E I hf st hg
    subst hP hw hK
    obtain ⟨f0, f1, f2, f3, f4, f5⟩ := hf it (by simp)
    exact wpAny_pyNext_range_end (I.ok.hd hc) st (by have : n ≤ i := hg; omega) fun h' eb => ⟨rfl, I.turned (t' := s.toks) (fun b o hb e => eb b o hb e) f0 f1 f3 f4 f5⟩
  self := fun _ _ _ _ _ st h => wpAny_pyIter_rangeiter st h
end L2
namespace L2
open PySem PySem.Spec PyProof.Rows
section
variable {X : Cx} {tg : Expr}
noncomputable def iList (K : PySem.W.Frag) (tl : TE) : TI := fun σ H R => tl σ H fun x H1 => ∃ a, x = .ref a ∧ (∃ xs, SqL K H1 a xs) ∧ R (Itl K a) H1
noncomputable def iTup (K : PySem.W.Frag) (tl : TE) : TI := fun σ H R => tl σ H fun x H1 => ∃ a, x = .ref a ∧ (∃ xs, SqT K H1 a xs) ∧ R (Itt K a) H1
theorem pi_list {l : Expr} {tl : TE} (hl : PE X l tl) : PI X tg l (iList X.K tl) := by
  intro pins s σ H R I h
  refine thn (hl pins s σ H _ I h) fun v s1 ⟨x, H1, I1, r1, q1⟩ => ?_
  obtain ⟨a, e, ⟨xs, hq⟩, q⟩ := q1
  subst e
  cases r1
  obtain ⟨its, rv, p, hz⟩ := I1.list hq
  refine wpAny_pyIter_list p.isList ?_
  refine ⟨s1.heap.objs.size, [s1.heap.objs.size], _, _, H1, rfl, I1.kept (t' := s1.toks) fun b o e => Heap.get?_push_of_some _ e, turn_list a _, ⟨_, Heap.get?_push_size _ rfl, rfl, rfl⟩, fun b hb => ?_, q⟩
  have e : b = s1.heap.objs.size := by simpa using hb
  subst e
  exact I1.fpOk (Nat.le_refl _) (I1.hok.fresh (Nat.le_refl _))
theorem zi_list {l : Expr} {tl : TE} (hl : ZE X l tl) : ZI X tg l (iList X.K tl) := by with_unfolding_all exact pi_list hl
theorem pi_tup {l : Expr} {tl : TE} (hl : PE X l tl) : PI X tg l (iTup X.K tl) := by
  intro pins s σ H R I h
  refine thn (hl pins s σ H _ I h) fun v s1 ⟨x, H1, I1, r1, q1⟩ => ?_
  obtain ⟨a, e, ⟨xs, hq⟩, q⟩ := q1
  subst e
  cases r1
  obtain ⟨its, rv, p, hz⟩ := I1.tuple hq
  refine wpAny_pyIter_tuple (show s1.heap.IsTuple a its.toArray from p) ?_
  refine ⟨s1.heap.objs.size, [s1.heap.objs.size], _, _, H1, rfl, I1.kept (t' := s1.toks) fun b o e => Heap.get?_push_of_some _ e, turn_tuple a _, ⟨_, Heap.get?_push_size _ rfl, rfl, rfl⟩, fun b hb => ?_, q⟩
  have e : b = s1.heap.objs.size := by simpa using hb
  subst e
  exact I1.fpOk (Nat.le_refl _) (I1.hok.fresh (Nat.le_refl _))
theorem zi_tup {l : Expr} {tl : TE} (hl : ZE X l tl) : ZI X tg l (iTup X.K tl) := by with_unfolding_all exact pi_tup hl
theorem range_it {pins : List (Addr × Obj)} {σ : St} {H : Hp} {s : Shared} {R : It → Hp → Prop} {E : Value → Shared → Prop} {lo hi : Int} {t u v : Tok} {tk : Nat} (I : Inv X pins σ H s) (h1 : -(2 ^ 62) ≤ lo) (h2 : lo < 2 ^ 62) (h3 : -(2 ^ 62) ≤ hi) (h4 : hi < 2 ^ 62)
    (q : R (Itr lo (hi - lo).toNat) H) : wpAny (model X.prog X.w) X.A (pyIter (.ref s.heap.objs.size)) (PIE X pins σ tg R) E { s with heap := s.heap.push { cls := .type "range", data := .fields #[.int lo t, .int hi u, .int 1 v] }, toks := tk } := by
  refine wpAny_pyIter_range (IsRange.new ..) (small_one h1 h2 h3 h4) ?_
  have I1 : Inv X pins σ H { s with heap := s.heap.push { cls := .type "range", data := .fields #[.int lo t, .int hi u, .int 1 v] }, toks := tk } := I.kept fun b o e => Heap.get?_push_of_some _ e
  refine ⟨(s.heap.push { cls := .type "range", data := .fields #[.int lo t, .int hi u, .int 1 v] }).objs.size, [(s.heap.push { cls := .type "range", data := .fields #[.int lo t, .int hi u, .int 1 v] }).objs.size], _, _, H, rfl,
    I1.kept (t' := tk) fun b o e => Heap.get?_push_of_some _ e, turn_range _ lo (hi - lo).toNat, ?_, fun b hb => ?_, q⟩
  · have e1 : lo + ((0 : Nat) : Int) * 1 = lo := by simp
    have e2 : (((hi - lo).toNat : Nat) : Int) - ((0 : Nat) : Int) = Builtin.Range.rangeSize lo hi 1 := by rw [rangeSize_one]; split <;> omega
    show IsRangeIter _ _ (lo + ((0 : Nat) : Int) * 1) ((((hi - lo).toNat : Nat) : Int) - ((0 : Nat) : Int)) 1
    rw [e1, e2]
    exact Heap.get?_push_size _ rfl
  · have e : b = (s.heap.push { cls := .type "range", data := .fields #[.int lo t, .int hi u, .int 1 v] }).objs.size := by simpa using hb
    subst e
    exact I1.fpOk (Nat.le_refl _) (I1.hok.fresh (Nat.le_refl _))
noncomputable def iRng1 (ta : TA) : TI := fun σ H R => ta σ H fun vs H1 => ∃ j : Int, vs = [.int j] ∧ -(2 ^ 62) ≤ j ∧ j < 2 ^ 62 ∧ R (Itr 0 j.toNat) H1
noncomputable def iRng2 (ta : TA) : TI := fun σ H R => ta σ H fun vs H1 => ∃ i j : Int, vs = [.int i, .int j] ∧ (-(2 ^ 62) ≤ i ∧ i < 2 ^ 62 ∧ -(2 ^ 62) ≤ j ∧ j < 2 ^ 62) ∧ R (Itr i (j - i).toNat) H1
theorem pi_range1 {a : Expr} {ta : TA} {p pos : Pos} (hg : Gl X "range") (hm : X.mg "range" = none) (ha : PA X [a] ta) (hs : starEach [a] X.env = [(false, eval a X.env)] := by rfl) : PI X tg (.Call (.Name "range" p) [a] [] pos) (iRng1 ta) := by
  intro pins s σ H R I h
  refine Call_ (ld_blt I hg hm boot_range (PyProof.Rows.callWith_type1 (thn (ha pos pins s σ H _ I h) fun us s1 ⟨vs, H1, I1, r1, q1⟩ => ?_) hs rfl))
  obtain ⟨j, e, q1, q2, q⟩ := q1
  subst e
  cases r1 with
  | cons r rr =>
    cases rr
    obtain ⟨t, rfl⟩ := r
    exact call_range_1 (range_it I1 (by omega) (by omega) q1 q2 (by simpa using q))
theorem zi_range1 {a : Expr} {ta : TA} {p pos : Pos} (hg : Gl X "range") (hm : X.mg "range" = none) (ha : ZA X [a] ta) (hs : starEach [a] X.env = [(false, eval a X.env)] := by rfl) : ZI X tg (.Call (.Name "range" p) [a] [] pos) (iRng1 ta) := by with_unfolding_all exact pi_range1 hg hm ha hs
theorem pi_range2 {a b : Expr} {ta : TA} {p pos : Pos} (hg : Gl X "range") (hm : X.mg "range" = none) (ha : PA X [a, b] ta) (hs : starEach [a, b] X.env = [(false, eval a X.env), (false, eval b X.env)] := by rfl) (hs2 : starEach [b] X.env = [(false, eval b X.env)] := by rfl) :
    PI X tg (.Call (.Name "range" p) [a, b] [] pos) (iRng2 ta) := by
  intro pins s σ H R I h
  refine Call_ (ld_blt I hg hm boot_range (PyProof.Rows.callWith_type1 (thn (ha pos pins s σ H _ I h) fun us s1 ⟨vs, H1, I1, r1, q1⟩ => ?_) (by rw [hs, hs2]) (by rw [hs2]; rfl)))
  obtain ⟨i, j, e, ⟨q1, q2, q3, q4⟩, q⟩ := q1
  subst e
  cases r1 with
  | cons r rr =>
    cases rr with
    | cons r' rr =>
      cases rr
      obtain ⟨t, rfl⟩ := r
      obtain ⟨t', rfl⟩ := r'
      exact call_range_2 (range_it I1 q1 q2 q3 q4 q)
theorem zi_range2 {a b : Expr} {ta : TA} {p pos : Pos} (hg : Gl X "range") (hm : X.mg "range" = none) (ha : ZA X [a, b] ta) (hs : starEach [a, b] X.env = [(false, eval a X.env), (false, eval b X.env)] := by rfl) (hs2 : starEach [b] X.env = [(false, eval b X.env)] := by rfl) :
    ZI X tg (.Call (.Name "range" p) [a, b] [] pos) (iRng2 ta) := by with_unfolding_all exact pi_range2 hg hm ha hs hs2

noncomputable def tFor (wi : TI) (g : TG) (tb : TS) : TS := fun D σ H => wi σ H fun J H1 => ∃ W : Nat → Nat → St → Hp → Prop, (∃ m, W 0 m σ H1) ∧ ∀ i m σ H, W i m σ H →
  (J.stop i H ∧ D.nx σ H) ∨ (J.go i H ∧ ∃ N : St → Hp → Prop, (∀ σ' H', N σ' H' → ∃ m', m' < m ∧ W (i + 1) m' σ' H') ∧ ∀ x H', J.yld i H x H' → g x σ H' fun σ2 H2 => tb { D with nx := N, ct := N, bk := D.nx } σ2 H2)
noncomputable def pinsAt (fp : List Addr) (h : Heap) : List (Addr × Obj) := fp.filterMap fun b => (h.get? b).map fun o => (b, o)
theorem mem_pinsAt {fp : List Addr} {h : Heap} {b : Addr} {o : Obj} (hb : b ∈ fp) (e : h.get? b = some o) : (b, o) ∈ pinsAt fp h := List.mem_filterMap.mpr ⟨b, hb, by rw [e]; rfl⟩
theorem of_pinsAt {fp : List Addr} {h : Heap} {p : Addr × Obj} (hp : p ∈ pinsAt fp h) : p.1 ∈ fp ∧ h.get? p.1 = some p.2 := by
  obtain ⟨b, hb, e⟩ := List.mem_filterMap.mp hp
  cases q : h.get? b with
  | none => rw [q] at e; cases e
  | some o =>
    rw [q] at e
    have e' : (b, o) = p := Option.some.inj e
    subst e'
    exact ⟨hb, q⟩
theorem Inv.pinned {pins : List (Addr × Obj)} {σ : St} {H : Hp} {s : Shared} {fp : List Addr} (I : Inv X pins σ H s) (hf : ∀ b ∈ fp, FpOk X pins H b) (ho : ∀ b ∈ fp, ∃ o, s.heap.get? b = some o ∧ ∀ v, o.data ≠ .cell v) : Inv X (pins ++ pinsAt fp s.heap) σ H s :=
  I.pins_of fun p hp => (List.mem_append.mp hp).elim (fun z => I.pin p (List.mem_append_right _ z)) fun z => by
    obtain ⟨hb, e⟩ := of_pinsAt z
    obtain ⟨f0, f1, f2, _⟩ := hf p.1 hb
    obtain ⟨o, e', d⟩ := ho p.1 hb
    rw [e] at e'; cases e'
    exact ⟨e, f0, f1, f2, d⟩
theorem Inv.unpinned {pins pl : List (Addr × Obj)} {σ : St} {H : Hp} {s : Shared} (I : Inv X (pins ++ pl) σ H s) : Inv X pins σ H s := I.pins_of fun p hp => I.pin p (List.mem_append_right _ (List.mem_append_left _ hp))
theorem ps_for {iter : Expr} {body : List Stmt} {wi : TI} {g : TG} {tb : TS} {pos : Pos} (hp : PassesOwn (model X.prog X.w) X.A X.env X.xe) (hc : X.calm = true) (hi : PI X tg iter wi) (hg : PG X tg g) (hb : PSs X body tb)
    (hs : ∀ x, foldedSetIterable iter X.env x = pure x := by intro _; rfl) : PS X (.For tg iter body [] pos) (tFor wi g tb) := by
  intro pins s σ H D I h
  refine wpAny_For (thn (hi pins s σ H _ I h) fun v s1 h1 => thn h1 fun itv s2 h2 => ?_) hs
  obtain ⟨it, fp, tn, J, H2, e, I2, T, st2, f2, W, ⟨m0, w0⟩, turn⟩ := h2
  subst e
  -- what stays true of the iterator's objects through the loop
  have stat : ∀ {H' : Hp}, (∀ b ∈ fp, H' b = none) → ∀ b ∈ fp, FpOk X pins H' b := fun hn b hb => ⟨hn b hb, (f2 b hb).2⟩
  refine codeAny_forLoop_any (fun n s' => ∃ i σ' H', Inv X pins σ' H' s' ∧ tn i s'.heap ∧ (∀ b ∈ fp, H' b = none) ∧ W i n σ' H') ?_ m0 ⟨0, σ, H2, I2, st2, fun b hb => (f2 b hb).1, w0⟩
  rintro n s3 ⟨i, σ3, H3, I3, st3, fr3, w3⟩
  rcases turn i n σ3 H3 w3 with ⟨stop, qn⟩ | ⟨go, N, hN, step⟩
  · refine wpAny_passesOwn hp (thn (T.done X rfl rfl rfl hc i pins s3 σ3 H3 X.xe I3 (stat fr3) st3 stop) fun r s4 ⟨hr, I4⟩ => ?_)
    subst hr
    exact wpAny_execs_nil ⟨σ3, H3, I4, qn⟩
  · refine wpAny_passesOwn hp (thn (T.item X rfl rfl rfl hc i pins s3 σ3 H3 X.xe I3 (stat fr3) st3 go) fun r s4 ⟨u, hr, h4⟩ => ?_)
    subst hr
    refine wpAny_passesOwn hp (thn h4 fun _ s5 ⟨x, H5, I5, r5, y5, st5, fr5⟩ => ?_)
    have I5' := I5.pinned (stat fr5) (T.obj _ _ st5)
    refine wpAny_passesOwn hp (thn (hg _ s5 σ3 H5 x u _ I5' r5 (step x H5 y5)) fun _ s6 ⟨σ6, H6, I6, q6⟩ => ?_)
    refine wpAny_passesOwn hp (thn (hb _ s6 σ6 H6 _ I6 q6) fun f s7 q7 => ?_)
    have again : ∀ {σ7 : St} {H7 : Hp}, Inv X (pins ++ pinsAt fp s5.heap) σ7 H7 s7 → N σ7 H7 → ∃ m, m < n ∧ ∃ i σ' H', Inv X pins σ' H' s7 ∧ tn i s7.heap ∧ (∀ b ∈ fp, H' b = none) ∧ W i m σ' H' := fun {σ7 H7} I7 n7 => by
      obtain ⟨m', hm, w7⟩ := hN σ7 H7 n7
      refine ⟨m', hm, i + 1, σ7, H7, I7.unpinned, T.keep _ _ _ st5 fun b hb o e => (I7.pin (b, o) (List.mem_append_right _ (List.mem_append_right _ (mem_pinsAt hb e)))).1, fun b hb => ?_, w7⟩
      obtain ⟨o, e, d⟩ := T.obj _ _ st5 b hb
      exact (I7.pin (b, o) (List.mem_append_right _ (List.mem_append_right _ (mem_pinsAt hb e)))).2.1
    cases f with
    | next => obtain ⟨σ7, H7, I7, n7⟩ := q7; exact again I7 n7
    | cont => obtain ⟨σ7, H7, I7, n7⟩ := q7; exact again I7 n7
    | brk => obtain ⟨σ7, H7, I7, q7⟩ := q7; exact ⟨σ7, H7, I7.unpinned, q7⟩
    | ret v => obtain ⟨x7, σ7, H7, I7, r7, q7⟩ := q7; exact ⟨x7, σ7, H7, I7.unpinned, r7, q7⟩
theorem zs_for {iter : Expr} {body : List Stmt} {wi : TI} {g : TG} {tb : TS} {pos : Pos} (hp : PassesOwn (model X.prog X.w) X.A X.env X.xe) (hc : X.calm = true) (hi : ZI X tg iter wi) (hg : ZG X tg g) (hb : ZSs X body tb)
    (hs : ∀ x, foldedSetIterable iter X.env x = pure x := by intro _; rfl) : ZS X (.For tg iter body [] pos) (tFor wi g tb) := by with_unfolding_all exact ps_for hp hc hi hg hb hs
end
theorem for_list {K : PySem.W.Frag} {a : Addr} {xs : List V} {g : TG} {tb : TS} {D : Ends} {σ : St} {H : Hp} (Pv : Nat → St → Hp → Prop) (h0 : Pv 0 σ H) (hl : ∀ i σ H, i ≤ xs.length → Pv i σ H → SqL K H a xs)
    (hs : ∀ i x σ H, xs[i]? = some x → Pv i σ H → g x σ H fun σ2 H2 => tb { D with nx := Pv (i + 1), ct := Pv (i + 1), bk := D.nx } σ2 H2) (hd : ∀ σ H, Pv xs.length σ H → D.nx σ H) :
    ∃ W : Nat → Nat → St → Hp → Prop, (∃ m, W 0 m σ H) ∧ ∀ i m σ H, W i m σ H →
      ((Itl K a).stop i H ∧ D.nx σ H) ∨ ((Itl K a).go i H ∧ ∃ N : St → Hp → Prop, (∀ σ' H', N σ' H' → ∃ m', m' < m ∧ W (i + 1) m' σ' H') ∧ ∀ x H', (Itl K a).yld i H x H' → g x σ H' fun σ2 H2 => tb { D with nx := N, ct := N, bk := D.nx } σ2 H2) := by
  refine ⟨fun i m σ H => m = xs.length - i ∧ i ≤ xs.length ∧ Pv i σ H, ⟨xs.length, by simp, Nat.zero_le _, h0⟩, ?_⟩
  rintro i m σ H ⟨rfl, hi, p⟩
  have q := hl i σ H hi p
  by_cases hlt : i < xs.length
  · refine .inr ⟨⟨xs, xs[i], q, by simp [hlt]⟩, Pv (i + 1), fun σ' H' p' => ⟨xs.length - (i + 1), by omega, rfl, hlt, p'⟩, fun x H' y => ?_⟩
    obtain ⟨e, y⟩ := y
    subst e
    exact hs i x σ _ (y xs q) p
  · have e : i = xs.length := by omega
    subst e
    exact .inl ⟨⟨xs, q, Nat.le_refl _⟩, hd σ H p⟩
theorem for_tup {K : PySem.W.Frag} {a : Addr} {xs : List V} {g : TG} {tb : TS} {D : Ends} {σ : St} {H : Hp} (Pv : Nat → St → Hp → Prop) (h0 : Pv 0 σ H) (hl : ∀ i σ H, i ≤ xs.length → Pv i σ H → SqT K H a xs)
    (hs : ∀ i x σ H, xs[i]? = some x → Pv i σ H → g x σ H fun σ2 H2 => tb { D with nx := Pv (i + 1), ct := Pv (i + 1), bk := D.nx } σ2 H2) (hd : ∀ σ H, Pv xs.length σ H → D.nx σ H) :
    ∃ W : Nat → Nat → St → Hp → Prop, (∃ m, W 0 m σ H) ∧ ∀ i m σ H, W i m σ H →
      ((Itt K a).stop i H ∧ D.nx σ H) ∨ ((Itt K a).go i H ∧ ∃ N : St → Hp → Prop, (∀ σ' H', N σ' H' → ∃ m', m' < m ∧ W (i + 1) m' σ' H') ∧ ∀ x H', (Itt K a).yld i H x H' → g x σ H' fun σ2 H2 => tb { D with nx := N, ct := N, bk := D.nx } σ2 H2) := by
  refine ⟨fun i m σ H => m = xs.length - i ∧ i ≤ xs.length ∧ Pv i σ H, ⟨xs.length, by simp, Nat.zero_le _, h0⟩, ?_⟩
  rintro i m σ H ⟨rfl, hi, p⟩
  have q := hl i σ H hi p
  by_cases hlt : i < xs.length
  · refine .inr ⟨⟨xs, xs[i], q, by simp [hlt]⟩, Pv (i + 1), fun σ' H' p' => ⟨xs.length - (i + 1), by omega, rfl, hlt, p'⟩, fun x H' y => ?_⟩
    obtain ⟨e, y⟩ := y
    subst e
    exact hs i x σ _ (y xs q) p
  · have e : i = xs.length := by omega
    subst e
    exact .inl ⟨⟨xs, q, Nat.le_refl _⟩, hd σ H p⟩
theorem for_range {lo : Int} {n : Nat} {g : TG} {tb : TS} {D : Ends} {σ : St} {H : Hp} (Pv : Nat → St → Hp → Prop) (h0 : Pv 0 σ H)
    (hs : ∀ i σ H, i < n → Pv i σ H → g (.int (lo + i)) σ H fun σ2 H2 => tb { D with nx := Pv (i + 1), ct := Pv (i + 1), bk := D.nx } σ2 H2) (hd : ∀ σ H, Pv n σ H → D.nx σ H) :
    ∃ W : Nat → Nat → St → Hp → Prop, (∃ m, W 0 m σ H) ∧ ∀ i m σ H, W i m σ H →
      ((Itr lo n).stop i H ∧ D.nx σ H) ∨ ((Itr lo n).go i H ∧ ∃ N : St → Hp → Prop, (∀ σ' H', N σ' H' → ∃ m', m' < m ∧ W (i + 1) m' σ' H') ∧ ∀ x H', (Itr lo n).yld i H x H' → g x σ H' fun σ2 H2 => tb { D with nx := N, ct := N, bk := D.nx } σ2 H2) := by
  refine ⟨fun i m σ H => m = n - i ∧ i ≤ n ∧ Pv i σ H, ⟨n, by simp, Nat.zero_le _, h0⟩, ?_⟩
  rintro i m σ H ⟨rfl, hi, p⟩
  by_cases hlt : i < n
  · refine .inr ⟨hlt, Pv (i + 1), fun σ' H' p' => ⟨n - (i + 1), by omega, rfl, hlt, p'⟩, fun x H' y => ?_⟩
    obtain ⟨e, y⟩ := y
    subst e y
    exact hs i σ _ hlt p
  · have e : i = n := by omega
    subst e
    exact .inl ⟨Nat.le_refl _, hd σ H p⟩
end L2
namespace L2
open PySem PySem.Spec PyProof.Rows
noncomputable abbrev R2 := V → V → Hp → VK → Prop
noncomputable def OpR (X : Cx) (f : Value → Value → Sem Value) (r : R2) : Prop :=
  ∀ (pins : List (Addr × Obj)) (s : Shared) (σ : St) (H : Hp) (x y : V) (v u : Value) (Q : VK), Inv X pins σ H s → RelV x v → RelV y u → r x y H Q →
    wpAny (model X.prog X.w) X.A (f v u) (EP X pins σ Q) X.xe s
noncomputable def UnR (X : Cx) (f : Value → Sem Value) (r : V → Hp → VK → Prop) : Prop :=
  ∀ (pins : List (Addr × Obj)) (s : Shared) (σ : St) (H : Hp) (x : V) (v : Value) (Q : VK), Inv X pins σ H s → RelV x v → r x H Q →
    wpAny (model X.prog X.w) X.A (f v) (EP X pins σ Q) X.xe s
noncomputable def CallR (X : Cx) (f : Value) (r : List V → Hp → VK → Prop) : Prop :=
  ∀ (pins : List (Addr × Obj)) (s : Shared) (σ : St) (H : Hp) (xs : List V) (us : List Value) (Q : VK), Inv X pins σ H s → Vals xs us → r xs H Q →
    wpAny (model X.prog X.w) X.A (call f us) (EP X pins σ Q) X.xe s
noncomputable def TruR (X : Cx) (r : V → Hp → (Bool → Hp → Prop) → Prop) : Prop :=
  ∀ (pins : List (Addr × Obj)) (s : Shared) (σ : St) (H : Hp) (x : V) (v : Value) (Q : Bool → Hp → Prop), Inv X pins σ H s → RelV x v → r x H Q →
    wpAny (model X.prog X.w) X.A (truthy v) (TP X pins σ Q) X.xe s

noncomputable def tOp (r : R2) (ta tb : TE) : TE := fun σ H Q => ta σ H fun x H1 => tb σ H1 fun y H2 => r x y H2 Q
noncomputable def tUn (r : V → Hp → VK → Prop) (ta : TE) : TE := fun σ H Q => ta σ H fun x H1 => r x H1 Q
noncomputable def rI (C : Int → Int → Prop) (g : Int → Int → V) : R2 := fun x y H Q => ∃ i j, x = .int i ∧ y = .int j ∧ C i j ∧ Q (g i j) H
noncomputable def rI0 (g : Int → Int → V) : R2 := fun x y H Q => ∃ i j, x = .int i ∧ y = .int j ∧ Q (g i j) H
noncomputable def rU (g : Int → V) : V → Hp → VK → Prop := fun x H Q => ∃ i, x = .int i ∧ Q (g i) H

section
variable {X : Cx} {a b c : Expr} {ta tb tc : TE} {pos : Pos}
theorem binT (ha : PE X a ta) (hb : PE X b tb) {pins : List (Addr × Obj)} {s : Shared} {σ : St} {H : Hp} {R : V → V → Hp → Prop} (I : Inv X pins σ H s)
    (h : ta σ H fun x H1 => tb σ H1 fun y H2 => R x y H2) {Q : Value → Shared → Prop} {f : Value → Value → Sem Value}
    (hf : ∀ v u s2 x y H2, Inv X pins σ H2 s2 → RelV x v → RelV y u → R x y H2 → wpAny (model X.prog X.w) X.A (f v u) Q X.xe s2) :
    wpAny (model X.prog X.w) X.A (eval a X.env) (fun v s₁ => wpAny (model X.prog X.w) X.A (eval b X.env) (fun u s₂ => wpAny (model X.prog X.w) X.A (f v u) Q X.xe s₂) X.xe s₁) X.xe s := by
  refine thn (ha pins s σ H _ I h) fun v s1 ⟨x, H1, I1, r1, q1⟩ => ?_
  refine thn (hb pins s1 σ H1 _ I1 q1) fun u s2 ⟨y, H2, I2, r2, q2⟩ => ?_
  exact hf v u s2 x y H2 I2 r1 r2 q2

theorem pe_op {op : Operator} {r : R2} (ho : OpR X (binaryOp op) r) (ha : PE X a ta) (hb : PE X b tb) : PE X (.BinOp a op b pos) (tOp r ta tb) := by
  intro pins s σ H Q I h
  exact wpAny_BinOp (binT ha hb I h fun v u s2 x y H2 I2 rx ry q => ho pins s2 σ H2 x y v u Q I2 rx ry q)
theorem ze_op {op : Operator} {r : R2} (ho : OpR X (binaryOp op) r) (ha : ZE X a ta) (hb : ZE X b tb) : ZE X (.BinOp a op b pos) (tOp r ta tb) := by with_unfolding_all exact pe_op ho ha hb
theorem pe_un {op : UnaryOp} {r : V → Hp → VK → Prop} (ho : UnR X (unaryOp op) r) (ha : PE X a ta) : PE X (.UnaryOp op a pos) (tUn r ta) := by
  intro pins s σ H Q I h
  exact UnaryOp_ (thn (ha pins s σ H _ I h) fun v s1 ⟨x, H1, I1, r1, q1⟩ => ho pins s1 σ H1 x v Q I1 r1 q1)
theorem ze_un {op : UnaryOp} {r : V → Hp → VK → Prop} (ho : UnR X (unaryOp op) r) (ha : ZE X a ta) : ZE X (.UnaryOp op a pos) (tUn r ta) := by with_unfolding_all exact pe_un ho ha
theorem opI {f : Value → Value → Sem Value} {C : Int → Int → Prop} {g : Int → Int → Int}
    (rule : ∀ (i j : Int) (t u : Tok) (s : Shared) (Q : Value → Shared → Prop) (E : Value → Shared → Prop), C i j → Q (.int (g i j) s.toks) { s with toks := s.toks + 1 } → wpAny (model X.prog X.w) X.A (f (.int i t) (.int j u)) Q E s) :
    OpR X f (rI C fun i j => .int (g i j)) := by
  intro pins s σ H x y v u Q I rx ry h
  obtain ⟨i, j, rfl, rfl, hc, q⟩ := h
  obtain ⟨t, rfl⟩ := rx
  obtain ⟨t', rfl⟩ := ry
  exact rule i j t t' s _ _ hc ⟨.int (g i j), H, I.tok _, ⟨_, rfl⟩, q⟩
theorem opI0 {f : Value → Value → Sem Value} {g : Int → Int → Int}
    (rule : ∀ (i j : Int) (t u : Tok) (s : Shared) (Q : Value → Shared → Prop) (E : Value → Shared → Prop), Q (.int (g i j) s.toks) { s with toks := s.toks + 1 } → wpAny (model X.prog X.w) X.A (f (.int i t) (.int j u)) Q E s) :
    OpR X f (rI0 fun i j => .int (g i j)) := by
  intro pins s σ H x y v u Q I rx ry h
  obtain ⟨i, j, rfl, rfl, q⟩ := h
  obtain ⟨t, rfl⟩ := rx
  obtain ⟨t', rfl⟩ := ry
  exact rule i j t t' s _ _ ⟨.int (g i j), H, I.tok _, ⟨_, rfl⟩, q⟩
theorem opB0 {f : Value → Value → Sem Value} {g : Int → Int → Bool}
    (rule : ∀ (i j : Int) (t u : Tok) (s : Shared) (Q : Value → Shared → Prop) (E : Value → Shared → Prop), Q (.bool (g i j)) s → wpAny (model X.prog X.w) X.A (f (.int i t) (.int j u)) Q E s) :
    OpR X f (rI0 fun i j => .bl (g i j)) := by
  intro pins s σ H x y v u Q I rx ry h
  obtain ⟨i, j, rfl, rfl, q⟩ := h
  obtain ⟨t, rfl⟩ := rx
  obtain ⟨t', rfl⟩ := ry
  exact rule i j t t' s _ _ ⟨.bl (g i j), H, I, rfl, q⟩

noncomputable def CDiv (i j : Int) : Prop := 0 < j ∧ j < 1073741824
noncomputable def CPow (i j : Int) : Prop := 0 ≤ j ∧ j ≤ 1000000 ∧ i.natAbs < 2 ^ 64
theorem op_add : OpR X (binaryOp .Add) (rI0 fun i j => .int (i + j)) := opI0 fun _ _ _ _ _ _ _ q => add_int q
theorem op_sub : OpR X (binaryOp .Sub) (rI0 fun i j => .int (i - j)) := opI0 fun _ _ _ _ _ _ _ q => sub_int q
theorem op_fdiv : OpR X (binaryOp .FloorDiv) (rI CDiv fun i j => .int (i / j)) := opI fun i j _ _ _ _ _ hc q => by
  have h1 : (0 : Int) < j := hc.1
  have h2 : j < 1073741824 := hc.2
  exact floordiv_int (by omega) (by rw [Int.fdiv_eq_ediv_of_nonneg i (by omega)]; exact q) (.inl (PyProof.noPylong_small (by omega)))
theorem op_mod : OpR X (binaryOp .Mod) (rI (fun _ j => 0 < j) fun i j => .int (i % j)) := opI fun i j _ _ _ _ _ hc q => by
  have h1 : (0 : Int) < j := hc
  exact mod_int' (by omega) (by rw [Int.fmod_eq_emod_of_nonneg i (by omega)]; exact q)
theorem op_pow : OpR X (binaryOp .Pow) (rI CPow fun i j => .int (i ^ j.toNat)) := opI fun _ _ _ _ _ _ _ hc q => pow_int_small hc.1 hc.2.1 hc.2.2 q
theorem unI {f : Value → Sem Value} {g : Int → Int}
    (rule : ∀ (i : Int) (t : Tok) (s : Shared) (Q : Value → Shared → Prop) (E : Value → Shared → Prop), Q (.int (g i) s.toks) { s with toks := s.toks + 1 } → wpAny (model X.prog X.w) X.A (f (.int i t)) Q E s) :
    UnR X f (rU fun i => .int (g i)) := by
  intro pins s σ H x v Q I rx h
  obtain ⟨i, rfl, q⟩ := h
  obtain ⟨t, rfl⟩ := rx
  exact rule i t s _ _ ⟨.int (g i), H, I.tok _, ⟨_, rfl⟩, q⟩
theorem un_neg : UnR X (unaryOp .USub) (rU fun i => .int (-i)) := unI fun _ _ _ _ _ q => neg_int q
end
noncomputable def scal : V → V → Bool
  | .non, .non => true | .non, .int _ => true | .int _, .non => true | .non, .bl _ => true | .bl _, .non => true | .non, .str _ => true | .str _, .non => true
  | .int _, .int _ => true | .bl _, .bl _ => true | .str _, .str _ => true | .byt _, .byt _ => true
  | .int _, .str _ => true | .str _, .int _ => true | .bl _, .str _ => true | .str _, .bl _ => true
  | _, _ => false
noncomputable def rEq : R2 := fun x y H Q => scal x y = true ∧ Q (.bl (decide (x = y))) H
noncomputable def rNe : R2 := fun x y H Q => scal x y = true ∧ Q (.bl (!decide (x = y))) H

theorem dec_int {i j : Int} : decide (V.int i = V.int j) = (i == j) := by
  rw [Bool.eq_iff_iff]
  simp
theorem dec_bl {i j : Bool} : decide (V.bl i = V.bl j) = (i == j) := by
  rw [Bool.eq_iff_iff]
  simp
theorem dec_str {i j : Str} : decide (V.str i = V.str j) = (i == j) := by
  rw [Bool.eq_iff_iff]
  simp
theorem dec_byt {i j : Array UInt8} : decide (V.byt i = V.byt j) = (i.toList == j.toList) := by
  rw [Bool.eq_iff_iff]
  cases i
  cases j
  simp

section
variable {X : Cx} {a b c : Expr} {ta tb tc : TE} {pos : Pos}
theorem fin_bl {pins : List (Addr × Obj)} {σ : St} {H : Hp} {s : Shared} {Q : VK} {k k' : Bool} (I : Inv X pins σ H s) (q : Q (.bl k) H) (e : k = k') : EP X pins σ Q (.bool k') s := by
  subst e
  exact ⟨.bl k, H, I, rfl, q⟩
theorem op_eq : OpR X (compareOp .Eq) rEq := by
  intro pins s σ H x y v u Q I rx ry h
  obtain ⟨hs, q⟩ := h
  cases x with
  | non =>
    cases rx
    cases y with
    | non => cases ry; exact PySem.EqNone.eq_none_none (fin_bl I q (by simp))
    | bl j => cases ry; exact PySem.EqNone.eq_none_bool (fin_bl I q (by simp))
    | int j => obtain ⟨t', rfl⟩ := ry; exact PySem.EqNone.eq_none_int (fin_bl I q (by simp))
    | str j => obtain ⟨t', rfl⟩ := ry; exact PySem.EqNone.eq_none_str (fin_bl I q (by simp))
    | _ => exact absurd (show false = true from hs) Bool.false_ne_true
  | bl i =>
    cases rx
    cases y with
    | non => cases ry; exact PySem.EqNone.eq_bool_none (fin_bl I q (by simp))
    | bl j => cases ry; exact eq_bool (fin_bl I q dec_bl)
    | str j => obtain ⟨t', rfl⟩ := ry; exact PySem.EqMixed.eq_bool_str (fin_bl I q (by simp))
    | _ => exact absurd (show false = true from hs) Bool.false_ne_true
  | int i =>
    obtain ⟨t, rfl⟩ := rx
    cases y with
    | non => cases ry; exact PySem.EqNone.eq_int_none (fin_bl I q (by simp))
    | int j => obtain ⟨t', rfl⟩ := ry; exact eq_int (fin_bl I q dec_int)
    | str j => obtain ⟨t', rfl⟩ := ry; exact PySem.EqMixed.eq_int_str (fin_bl I q (by simp))
    | _ => exact absurd (show false = true from hs) Bool.false_ne_true
  | str i =>
    obtain ⟨t, rfl⟩ := rx
    cases y with
    | non => cases ry; exact PySem.EqNone.eq_str_none (fin_bl I q (by simp))
    | bl j => cases ry; exact PySem.EqMixed.eq_str_bool (fin_bl I q (by simp))
    | int j => obtain ⟨t', rfl⟩ := ry; exact PySem.EqMixed.eq_str_int (fin_bl I q (by simp))
    | str j => obtain ⟨t', rfl⟩ := ry; exact eq_str (fin_bl I q dec_str)
    | _ => exact absurd (show false = true from hs) Bool.false_ne_true
  | byt i =>
    obtain ⟨t, rfl⟩ := rx
    cases y with
    | byt j => obtain ⟨t', rfl⟩ := ry; exact PySem.W.eq_bytes (fin_bl I q dec_byt)
    | _ => exact absurd (show false = true from hs) Bool.false_ne_true
  | _ => cases y <;> exact absurd (show false = true from hs) Bool.false_ne_true
theorem op_ne : OpR X (compareOp .NotEq) rNe := by
  intro pins s σ H x y v u Q I rx ry h
  obtain ⟨hs, q⟩ := h
  cases x with
  | non =>
    cases rx
    cases y with
    | non => cases ry; exact PySem.EqNone.ne_none_none (fin_bl I q (by simp))
    | bl j => cases ry; exact PySem.EqNone.ne_none_bool (fin_bl I q (by simp))
    | int j => obtain ⟨t', rfl⟩ := ry; exact PySem.EqNone.ne_none_int (fin_bl I q (by simp))
    | str j => obtain ⟨t', rfl⟩ := ry; exact PySem.EqNone.ne_none_str (fin_bl I q (by simp))
    | _ => exact absurd (show false = true from hs) Bool.false_ne_true
  | bl i =>
    cases rx
    cases y with
    | non => cases ry; exact PySem.EqNone.ne_bool_none (fin_bl I q (by simp))
    | bl j => cases ry; exact ne_bool (fin_bl I q (congrArg not dec_bl))
    | str j => obtain ⟨t', rfl⟩ := ry; exact PySem.EqMixed.ne_bool_str (fin_bl I q (by simp))
    | _ => exact absurd (show false = true from hs) Bool.false_ne_true
  | int i =>
    obtain ⟨t, rfl⟩ := rx
    cases y with
    | non => cases ry; exact PySem.EqNone.ne_int_none (fin_bl I q (by simp))
    | int j => obtain ⟨t', rfl⟩ := ry; exact ne_int (fin_bl I q (congrArg not dec_int))
    | str j => obtain ⟨t', rfl⟩ := ry; exact PySem.EqMixed.ne_int_str (fin_bl I q (by simp))
    | _ => exact absurd (show false = true from hs) Bool.false_ne_true
  | str i =>
    obtain ⟨t, rfl⟩ := rx
    cases y with
    | non => cases ry; exact PySem.EqNone.ne_str_none (fin_bl I q (by simp))
    | bl j => cases ry; exact PySem.EqMixed.ne_str_bool (fin_bl I q (by simp))
    | int j => obtain ⟨t', rfl⟩ := ry; exact PySem.EqMixed.ne_str_int (fin_bl I q (by simp))
    | str j => obtain ⟨t', rfl⟩ := ry; exact ne_str (fin_bl I q (congrArg not dec_str))
    | _ => exact absurd (show false = true from hs) Bool.false_ne_true
  | byt i =>
    obtain ⟨t, rfl⟩ := rx
    cases y with
    | byt j => obtain ⟨t', rfl⟩ := ry; exact PySem.W.ne_bytes (fin_bl I q (congrArg not dec_byt))
    | _ => exact absurd (show false = true from hs) Bool.false_ne_true
  | _ => cases y <;> exact absurd (show false = true from hs) Bool.false_ne_true

theorem op_lt : OpR X (compareOp .Lt) (rI0 fun i j => .bl (decide (i < j))) := opB0 fun _ _ _ _ _ _ _ q => lt_int q
theorem op_le : OpR X (compareOp .LtE) (rI0 fun i j => .bl (decide (i ≤ j))) := opB0 fun _ _ _ _ _ _ _ q => le_int q
theorem op_gt : OpR X (compareOp .Gt) (rI0 fun i j => .bl (decide (j < i))) := opB0 fun _ _ _ _ _ _ _ q => gt_int q
theorem op_ge : OpR X (compareOp .GtE) (rI0 fun i j => .bl (decide (j ≤ i))) := opB0 fun _ _ _ _ _ _ _ q => ge_int q
theorem op_in_str : OpR X (compareOp .In) (fun x y H Q => ∃ i j, x = .str i ∧ y = .str j ∧ Q (.bl (!(Builtin.Str.occurrences j i 0 j.length 1).isEmpty)) H) := by
  intro pins s σ H x y v u Q I rx ry h
  obtain ⟨i, j, rfl, rfl, q⟩ := h
  obtain ⟨t, rfl⟩ := rx
  obtain ⟨t', rfl⟩ := ry
  exact in_str (fin_bl I q rfl)

theorem nomark (b : Expr) {op : CmpOp} (h : op ≠ .In := by decide) (h2 : op ≠ .NotIn := by decide) : behindInMarks op b = false := by
  have e1 : (op == CmpOp.In) = false := by cases op <;> first | rfl | exact absurd rfl h
  have e2 : (op == CmpOp.NotIn) = false := by cases op <;> first | rfl | exact absurd rfl h2
  cases b <;> simp [behindInMarks, e1, e2]
theorem pe_cmpR {op : CmpOp} {r : R2} (ho : OpR X (compareOp op) r) (ha : PE X a ta) (hb : PE X b tb) (hm : behindInMarks op b = false) : PE X (.Compare a [op] [b] pos) (tOp r ta tb) := by
  intro pins s σ H Q I h
  exact wpAny_Compare1 (binT ha hb I h fun v u s2 x y H2 I2 rx ry q => ho pins s2 σ H2 x y v u Q I2 rx ry q) hm
theorem ze_cmpR {op : CmpOp} {r : R2} (ho : OpR X (compareOp op) r) (ha : ZE X a ta) (hb : ZE X b tb) (hm : behindInMarks op b = false) : ZE X (.Compare a [op] [b] pos) (tOp r ta tb) := by with_unfolding_all exact pe_cmpR ho ha hb hm
noncomputable def tChain (r r' : R2) (ta tb tc : TE) : TE := fun σ H Q => ta σ H fun x H1 => tb σ H1 fun y H2 => r x y H2 fun z H3 => ∃ k, z = .bl k ∧
  (if k = true then tc σ H3 fun w' H4 => r' y w' H4 Q else Q (.bl false) H3)
theorem pe_chain {op op' : CmpOp} {r r' : R2} (ho : OpR X (compareOp op) r) (ho' : OpR X (compareOp op') r') (ha : PE X a ta) (hb : PE X b tb) (hc : PE X c tc)
    (hm : lastMarks [op, op'] [b, c] = false := by with_unfolding_all rfl) : PE X (.Compare a [op, op'] [b, c] pos) (tChain r r' ta tb tc) := by
  intro pins s σ H Q I h
  refine Compare_chain (thn (ha pins s σ H _ I h) fun v s1 ⟨x, H1, I1, r1, q1⟩ => chain_link (thn (hb pins s1 σ H1 _ I1 q1) fun u s2 ⟨y, H2, I2, r2, q2⟩ =>
    thn (ho pins s2 σ H2 x y v u _ I2 r1 r2 q2) fun d s3 ⟨z, H3, I3, r3, k, e, q3⟩ => ?_)) hm
  subst e
  cases r3
  refine wpAny_truthy_bool ?_
  cases k with
  | false => exact ite_ff ⟨.bl false, H3, I3, rfl, q3⟩
  | true => exact ite_tt (chain_last (thn (hc pins s3 σ H3 _ I3 q3) fun w' s4 ⟨z', H4, I4, r4, q4⟩ => ho' pins s4 σ H4 y z' u w' Q I4 r2 r4 q4))
theorem ze_chain {op op' : CmpOp} {r r' : R2} (ho : OpR X (compareOp op) r) (ho' : OpR X (compareOp op') r') (ha : ZE X a ta) (hb : ZE X b tb) (hc : ZE X c tc)
    (hm : lastMarks [op, op'] [b, c] = false := by with_unfolding_all rfl) : ZE X (.Compare a [op, op'] [b, c] pos) (tChain r r' ta tb tc) := by with_unfolding_all exact pe_chain ho ho' ha hb hc hm
noncomputable def TruV (K : PySem.W.Frag) (x : V) (H : Hp) (k : Bool) : Prop :=
  match x with
  | .non => k = false
  | .bl b => k = b
  | .int i => k = (i != 0)
  | .str y => y.length ≤ sizeLine ∧ k = ((y.length : Int) != 0)
  | .byt y => y.size ≤ sizeLine ∧ k = ((y.size : Int) != 0)
  | .ref p => (∃ xs, SqL K H p xs ∧ k = !xs.isEmpty) ∨ (∃ xs, SqT K H p xs ∧ k = !xs.isEmpty) ∨ ∃ kvs, H p = some (.dK kvs) ∧ k = !kvs.isEmpty
  | _ => False
theorem isEmpty_kv {κ : Type} {kvs : List (κ × V)} {vs : List (κ × Value)} (r : KV kvs vs) : (!vs.isEmpty) = !kvs.isEmpty := by
  cases r <;> rfl
theorem isEmpty_of {xs : List V} {its : List Value} (r : Vals xs its) : (!its.toArray.isEmpty) = !xs.isEmpty := by
  cases r <;> simp
theorem line63 : (sizeLine : Nat) < 2 ^ 63 := by rw [sizeLine_eq]; decide
theorem tru_ok : TruR X (fun x H Q => ∃ k, TruV X.K x H k ∧ Q k H) := by
  intro pins s σ H x v Q I rx h
  obtain ⟨k, e, q⟩ := h
  have hl := line63
  have hs : sizeLine = 16777216 := sizeLine_eq
  cases x with
  | non =>
    cases rx
    have e' : k = false := e
    subst e'
    exact truthy_none ⟨H, I, q⟩
  | bl b =>
    cases rx
    have e' : k = b := e
    subst e'
    exact wpAny_truthy_bool ⟨H, I, q⟩
  | int i =>
    obtain ⟨t, rfl⟩ := rx
    have e' : k = (i != 0) := e
    subst e'
    exact PySem.P.truthy_int ⟨H, I, q⟩
  | str y =>
    obtain ⟨t, rfl⟩ := rx
    obtain ⟨hy, e'⟩ : y.length ≤ sizeLine ∧ k = ((y.length : Int) != 0) := e
    subst e'
    exact PySem.P.truthy_str (by omega) ⟨H, I.tok _, q⟩
  | byt y =>
    obtain ⟨t, rfl⟩ := rx
    obtain ⟨hy, e'⟩ : y.size ≤ sizeLine ∧ k = ((y.size : Int) != 0) := e
    subst e'
    exact PySem.W.truthy_bytes (by omega) ⟨H, I.tok _, q⟩
  | ref p =>
    cases rx
    have e' : (∃ xs, SqL X.K H p xs ∧ k = !xs.isEmpty) ∨ (∃ xs, SqT X.K H p xs ∧ k = !xs.isEmpty) ∨ ∃ kvs, H p = some (.dK kvs) ∧ k = !kvs.isEmpty := e
    rcases e' with ⟨xs, hx, e'⟩ | ⟨xs, hx, e'⟩ | ⟨kvs, hx, e'⟩
    · subst e'
      obtain ⟨its, r, pl, hz⟩ := I.list hx
      have hlen := r.length
      exact wpAny_truthy_list pl.isList (by simp only [List.size_toArray]; omega) ⟨H, I.tok _, by rw [isEmpty_of r]; exact q⟩
    · subst e'
      obtain ⟨its, r, pl, hz⟩ := I.tuple hx
      have hlen := r.length
      exact truthy_tuple pl (by simp only [List.size_toArray]; omega) ⟨H, I.tok _, by rw [isEmpty_of r]; exact q⟩
    · subst e'
      obtain ⟨hz, hS, vs, r, m⟩ : kvs.length ≤ sizeLine ∧ (p == sysModules) = false ∧ ∃ vs, KV kvs vs ∧ s.heap.DictOf (mixKind X.prog X.w) p vs := I.hok p _ hx
      have hlen : kvs.length = vs.length := Paired.length r
      exact wpAny_truthy_dict hS m (by omega) ⟨H, I.tok _, by rw [isEmpty_kv r]; exact q⟩
  | _ => exact (show False from e).elim
theorem op_add_str : OpR X (binaryOp .Add) (fun x y H Q => ∃ i j, x = .str i ∧ y = .str j ∧ i.length + j.length ≤ sizeLine ∧ Q (.str (i ++ j)) H) := by
  intro pins s σ H x y v u Q I rx ry h
  obtain ⟨i, j, rfl, rfl, hz, q⟩ := h
  obtain ⟨t, rfl⟩ := rx
  obtain ⟨t', rfl⟩ := ry
  exact add_str (fun t' tk => ⟨.str (i ++ j), H, I.tok _, ⟨_, rfl⟩, q⟩) hz
theorem vals1 {x : V} {us : List Value} (r : Vals [x] us) : ∃ u, us = [u] ∧ RelV x u := by
  cases r with
  | cons r1 r2 => cases r2; exact ⟨_, rfl, r1⟩
theorem vals2 {x y : V} {us : List Value} (r : Vals [x, y] us) : ∃ u w', us = [u, w'] ∧ RelV x u ∧ RelV y w' := by
  cases r with
  | cons r1 r2 =>
    cases r2 with
    | cons r3 r4 => cases r4; exact ⟨_, _, rfl, r1, r3⟩
theorem call_abs : CallR X (.builtin "abs") (fun xs H Q => ∃ i, xs = [.int i] ∧ Q (.int (if i < 0 then -i else i)) H) := by
  intro pins s σ H xs us Q I r h
  obtain ⟨i, rfl, q⟩ := h
  obtain ⟨u, rfl, t, rfl⟩ := vals1 r
  exact call_abs_int fun u tk => ⟨.int (if i < 0 then -i else i), H, I.tok _, ⟨_, rfl⟩, q⟩
theorem call_min2 (hc : X.calm = true) : CallR X (.builtin "min") (fun xs H Q => ∃ i j, xs = [.int i, .int j] ∧ Q (.int (if j < i then j else i)) H) := by
  intro pins s σ H xs us Q I r h
  obtain ⟨i, j, rfl, q⟩ := h
  obtain ⟨u, w', rfl, ⟨t, rfl⟩, ⟨t', rfl⟩⟩ := vals2 r
  refine min_two_ints (I.ok.hd hc) fun h' tk k => ⟨_, H, I.kept k, ?_, q⟩
  by_cases hj : j < i
  · rw [if_pos hj, if_pos hj]; exact ⟨_, rfl⟩
  · rw [if_neg hj, if_neg hj]; exact ⟨_, rfl⟩
theorem call_str_int : CallR X (.type "str") (fun xs H Q => ∃ i, xs = [.int i] ∧ i.natAbs.log2 < 1920 ∧ Q (.str (toString i)) H) := by
  intro pins s σ H xs us Q I r h
  obtain ⟨i, rfl, hz, q⟩ := h
  obtain ⟨u, rfl, t, rfl⟩ := vals1 r
  exact PySem.P.str_of_int hz ⟨.str _, H, I.tok _, ⟨_, rfl⟩, q⟩
end
end L2
namespace L2
open PySem PySem.Spec PyProof.Rows
structure ObjM (h : Heap) (x dx C : Addr) (mA : Str → Option Value) : Prop where
  obj : h.get? x = some (PySem.W.instObj C dx)
  ns : h.Ns1 dx mA
  ne : dx ≠ x

theorem lookIn_ns {h : Heap} {dx : Addr} {mA : Str → Option Value} (n : h.Ns1 dx mA) : ∃ od, h.get? dx = some od ∧ ∀ name, PySem.W.lookIn name od = some (mA name) := by
  obtain ⟨o, es, ep, ho, hd, hk, _, hm⟩ := n
  refine ⟨o, ho, fun name => ?_⟩
  have e := hm name
  unfold nsFind findBy at e
  rw [← Array.find?_toList] at e
  unfold PySem.W.lookIn
  rw [hd]
  dsimp only
  split
  · rename_i y q
    rw [q] at e
    exact congrArg some e
  · rename_i q
    rw [q] at e
    have a : es.toList.any (·.refKey) = false := by
      rw [List.any_eq_false]
      intro y hy
      obtain ⟨z, t, hkey⟩ := hk y (Array.mem_toList_iff.mp hy)
      simp [DictEntry.refKey, hkey]
    have a' : ¬ es.toList.any (·.refKey) = true := by rw [a]; exact Bool.false_ne_true
    rw [if_neg a']
    exact congrArg some e

theorem ObjM.look {h : Heap} {x dx C : Addr} {mA : Str → Option Value} (I : ObjM h x dx C mA) : ∃ od, PySem.W.InstAt h x (PySem.W.instObj C dx) C (some od) ∧ ∀ name, PySem.W.lookIn name od = some (mA name) :=
  let ⟨od, ho, hl⟩ := lookIn_ns I.ns
  ⟨od, ⟨I.obj, rfl, rfl, ho⟩, hl⟩

section
variable {prog : Program} {w : World} {A : Around} {E : Value → Shared → Prop} {s : Shared} {K : PySem.W.Frag} {x dx C f : Addr} {mA : Str → Option Value} {name : Str} {v : Value}
end
section
variable {P : Program} {w : World} {H H' : Hp} {h h' : Heap} {a C dx : Addr} {fs fs' : List (Str × V)}
theorem ins_get (hok : HOk P w H h) (e : H a = some (.ins C dx fs)) : ∃ mA, ObjM h a dx C mA ∧ (∀ f, RelO (fs.lookup f) (mA f)) ∧ PySem.Within mA (fs.map (·.1)) ∧ fs.length ≤ 1000 ∧ H dx = some (.own a) := by
  obtain ⟨d, z, ne, ob, mA, n, r, q⟩ := (show ObjOk P w H h a (.ins C dx fs) from hok a _ e)
  exact ⟨mA, ⟨ob, n, ne⟩, r, q, z, d⟩
end
structure Cls (K : PySem.W.Frag) (C : Addr) : Prop where
  pg : PySem.W.plainGet K C Str.empty = true
  hd : PySem.W.hasDictIn K C = true
  po : PySem.W.plainOver K C = true
  sa : PySem.W.findIn K (.ref C) "__setattr__" = some (some (.builtin "object.__setattr__"))
theorem Cls.get {K : PySem.W.Frag} {C : Addr} (c : Cls K C) (f : Str) : PySem.W.plainGet K C f = true := c.pg
section
variable {X : Cx} {pins : List (Addr × Obj)} {σ : St} {H : Hp} {s : Shared} {a C dx : Addr} {fs : List (Str × V)} {f : Str} {v : V} {A : Around} {E : Value → Shared → Prop}
end
section
variable {X : Cx} {o e value : Expr} {f : Str} {pos pos' tpos : Pos} {ta tv : TE}
end
section
variable {X : Cx} {pins : List (Addr × Obj)} {σ : St} {H : Hp} {s : Shared} {A : Around} {E : Value → Shared → Prop} {Q : Value → Shared → Prop} {c : Value} {b : Bool}
inductive TyOf (K : PySem.W.Frag) (H : Hp) : V → Value → Prop where
  | non : TyOf K H .non (.type "NoneType")
  | bl (x : Bool) : TyOf K H (.bl x) (.type "bool")
  | int (i : Int) : TyOf K H (.int i) (.type "int")
  | str (x : Str) : TyOf K H (.str x) (.type "str")
  | flt (x : UInt64) : TyOf K H (.flt x) (.type "float")
  | lst {a : Addr} {xs : List V} (e : H a = some (.lst xs)) : TyOf K H (.ref a) (.type "list")
  | frz {a : Addr} {o : Obj} {xs : List V} (e : H a = some (.frz o (.lst xs))) : TyOf K H (.ref a) (.type "list")
  | tup {a : Addr} {xs : List V} (e : H a = some (.tup xs)) : TyOf K H (.ref a) (.type "tuple")
  | dK {a : Addr} {kvs : List (Key × V)} (e : H a = some (.dK kvs)) : TyOf K H (.ref a) (.type "dict")
  | dT {a : Addr} {kvs : List (List Key × V)} (e : H a = some (.dT kvs)) : TyOf K H (.ref a) (.type "dict")
  | ins {a C dx : Addr} {fs : List (Str × V)} (e : H a = some (.ins C dx fs)) (cl : Cls K C) (ha : PySem.W.findIn K (.ref C) "__class__" = some (some (.builtin "object.__class__")))
      (hn : PySem.W.specialIn K (.builtin "object.__class__") "__get__" = some (some (.builtin "getset_descriptor.__get__"))) (htk : PySem.W.takesIn K (.builtin "object.__class__") = some true)
      (hm : PySem.W.mroIn K C (.type "object") = some true) : TyOf K H (.ref a) (.ref C)
theorem isinst_ok {x : V} {u t : Value} (I : Inv X pins σ H s) (rx : RelV x u) (ty : TyOf X.K H x t) (e : PySem.W.kitOne X.K t c = some b) (h : ∀ tk, Q (.bool b) { s with toks := tk }) :
    wpAny (model X.prog X.w) A (call (.builtin "isinstance") [u, c]) Q E s := by
  cases ty with
  | non => cases (show u = Value.none from rx); exact PySem.W.kia_one PySem.W.kitx_none I.kIn True.intro e (fun z => nomatch z) h
  | bl y => cases (show u = Value.bool y from rx); exact PySem.W.kia_one PySem.W.kitx_bool I.kIn True.intro e (fun z => nomatch z) h
  | int i => obtain ⟨t, q⟩ := (show ∃ t, u = Value.int i t from rx); cases q; exact PySem.W.kia_one PySem.W.kitx_int I.kIn True.intro e (fun z => nomatch z) h
  | str y => obtain ⟨t, q⟩ := (show ∃ t, u = Value.str y t from rx); cases q; exact PySem.W.kia_one PySem.W.kitx_str I.kIn True.intro e (fun z => nomatch z) h
  | flt y => obtain ⟨t, q⟩ := (show ∃ t, u = Value.float y t from rx); cases q; exact PySem.W.kia_one PySem.W.kitx_float I.kIn True.intro e (fun z => nomatch z) h
  | @lst a xs ea =>
    cases (show u = Value.ref a from rx)
    obtain ⟨_, _, n, _, h1⟩ := (show ObjOk X.prog X.w H s.heap a (.lst xs) from I.hok a _ ea)
    exact PySem.W.kia_one PySem.W.kitx_list I.kIn ⟨_, h1, rfl⟩ e (fun z => nomatch z) h
  | @frz a ob xs ea =>
    cases (show u = Value.ref a from rx)
    obtain ⟨_, _, _, n, _, h1⟩ := (show ObjOk X.prog X.w H s.heap a (.frz ob (.lst xs)) from I.hok a _ ea)
    exact PySem.W.kia_one PySem.W.kitx_list I.kIn ⟨_, h1, rfl⟩ e (fun z => nomatch z) h
  | @tup a xs ea =>
    cases (show u = Value.ref a from rx)
    obtain ⟨_, _, _, p⟩ := (show ObjOk X.prog X.w H s.heap a (.tup xs) from I.hok a _ ea)
    obtain ⟨o, h1, h2, _⟩ := p.tup
    exact PySem.W.kia_one PySem.W.kitx_tuple I.kIn ⟨o, h1, h2⟩ e (fun z => nomatch z) h
  | @dK a kvs ea =>
    cases (show u = Value.ref a from rx)
    obtain ⟨_, _, vs, _, p⟩ := (show ObjOk X.prog X.w H s.heap a (.dK kvs) from I.hok a _ ea)
    obtain ⟨o, es, ep, h1, h2, _⟩ := p
    exact PySem.W.kia_one PySem.W.kitx_dict I.kIn ⟨o, h1, h2.1⟩ e (fun z => nomatch z) h
  | @dT a kvs ea =>
    cases (show u = Value.ref a from rx)
    obtain ⟨_, _, xs, _, o, es, ep, h1, h2, _⟩ := (show ObjOk X.prog X.w H s.heap a (.dT kvs) from I.hok a _ ea)
    exact PySem.W.kia_one PySem.W.kitx_dict I.kIn ⟨o, h1, h2.1⟩ e (fun z => nomatch z) h
  | @ins a C dx fs ea cl ha hn htk hm =>
    cases (show u = Value.ref a from rx)
    obtain ⟨mA, O, _⟩ := ins_get I.hok ea
    obtain ⟨od, J, _⟩ := O.look
    exact PySem.W.kia_one (PySem.W.kitx_own (cl.get _) cl.hd ha hn htk hm) I.kIn J e (fun z => nomatch z) h
end
end L2
namespace L2
open PySem PySem.Spec PyProof.Rows
structure Room (k : Nat) (A : Around) : Prop where
  hd : A.handled = none
  dp : A.depth + 3 * k + 5 < recursionLimit
  un : A.units + 16 * k + 200 < cLine
  gd : A.guards = some []
theorem Room.mono {j k : Nat} {A : Around} (r : Room k A) (h : j ≤ k) : Room j A := ⟨r.hd, by have := r.dp; omega, by have := r.un; omega, r.gd⟩
theorem Room.deeper {k : Nat} {A : Around} (r : Room (k + 1) A) (env : Env) : Room k (A.deeper env) :=
  ⟨r.hd, by have := r.dp; show A.depth + 1 + 3 * k + 5 < _; omega, by have := r.un; show A.units + 3 + 16 * k + 200 < _; omega, r.gd⟩
theorem Room.depth {k : Nat} {A : Around} (r : Room k A) : A.depth < recursionLimit := by have := r.dp; omega
theorem Room.units {k : Nat} {A : Around} (r : Room k A) : A.units + 64 < cLine := by have := r.un; omega
noncomputable def tNil : TA := fun _ H Q => Q [] H
noncomputable def tCons (ta : TE) (tr : TA) : TA := fun σ H Q => ta σ H fun x H1 => tr σ H1 fun xs H2 => Q (x :: xs) H2
section
variable {X : Cx} {e : Expr} {es : List Expr} {te : TE} {t : TA} {pos : Pos}
theorem pa_nil : PA X [] tNil := fun _ _ _ _ H Q I h => Calls.spliced_nil ⟨[], H, I, .nil, h⟩
theorem za_nil : ZA X [] tNil := by with_unfolding_all exact pa_nil 
theorem pa_cons (ha : PE X e te) (hr : PA X es t) (hs : starEach (e :: es) X.env = (false, eval e X.env) :: starEach es X.env := by rfl) : PA X (e :: es) (tCons te t) := by
  intro pos pins s σ H Q I h
  rw [hs]
  show wpAny _ _ (spliced ((false, eval e X.env) :: backTo pos (starEach es X.env))) _ _ s
  refine Calls.spliced_cons (thn (ha pins s σ H _ I h) fun u s1 ⟨x, H1, I1, r1, q1⟩ => ?_)
  exact thn (hr pos pins s1 σ H1 _ I1 q1) fun us s2 ⟨xs, H2, I2, r2, q2⟩ => ⟨x :: xs, H2, I2, .cons r1 r2, q2⟩
theorem za_cons (ha : ZE X e te) (hr : ZA X es t) (hs : starEach (e :: es) X.env = (false, eval e X.env) :: starEach es X.env := by rfl) : ZA X (e :: es) (tCons te t) := by with_unfolding_all exact pa_cons ha hr hs

noncomputable def tTup (t : TA) : TE := fun σ H Q => t σ H fun xs H1 => xs.length ≤ sizeLine ∧ ∀ p, H1 p = none → Q (.ref p) (upd H1 p (.tup xs))
noncomputable def tLst (t : TA) : TE := fun σ H Q => t σ H fun xs H1 => xs.length ≤ sizeLine ∧ ∀ p, H1 p = none → Q (.ref p) (upd H1 p (.lst xs))
theorem pe_tup {x1} (h : PA X es t) : PE X (.Tuple es x1 pos) (tTup t) := by
  intro pins s σ H Q I hq
  refine wpAny_Tuple_spliced (thn (h pos pins s σ H _ I hq) fun us s1 ⟨xs, H1, I1, r, z, q⟩ => ⟨by rw [← r.length]; exact z, ?_⟩)
  have hf : H1 s1.heap.objs.size = none := I1.hok.fresh (Nat.le_refl _)
  refine ⟨.ref s1.heap.objs.size, upd H1 s1.heap.objs.size (.tup xs), I1.laid (t' := s1.toks) (fun b u e => Heap.get?_push_of_some _ e) (Nat.le_refl _) ?_, rfl, q _ hf⟩
  exact ⟨z, us, r, ⟨_, Heap.get?_push_size _ rfl⟩⟩
theorem ze_tup {x1} (h : ZA X es t) : ZE X (.Tuple es x1 pos) (tTup t) := by with_unfolding_all exact pe_tup h
theorem pe_lst (h : PA X es t) : PE X (.List es pos) (tLst t) := by
  intro pins s σ H Q I hq
  refine wpAny_List_spliced (thn (h pos pins s σ H _ I hq) fun us s1 ⟨xs, H1, I1, r, z, q⟩ => ⟨by rw [← r.length]; exact z, ?_⟩)
  have hf : H1 s1.heap.objs.size = none := I1.hok.fresh (Nat.le_refl _)
  refine ⟨.ref s1.heap.objs.size, upd H1 s1.heap.objs.size (.lst xs), I1.laid (t' := s1.toks) (fun b u e => Heap.get?_push_of_some _ e) (Nat.le_refl _) ?_, rfl, q _ hf⟩
  exact ⟨z, us, 0, r, Heap.get?_push_size _ rfl⟩
theorem ze_lst (h : ZA X es t) : ZE X (.List es pos) (tLst t) := by with_unfolding_all exact pe_lst h
end
noncomputable abbrev Sp := List V → Hp → VK → XK → Prop
noncomputable abbrev CXT := List Env → Hp → Shared → XK → Value → Shared → Prop

structure Env0 (P : Program) (w : World) (K : PySem.W.Frag) (mg : Str → Option Value) (base : Heap) (A : Around) (outer : List Env) (s : Shared) (H : Hp) : Prop where
  frames : A.frames = some outer
  mod : Mod K mg base
  bs : ∀ b o, base.get? b = some o → s.heap.get? b = some o ∧ H b = none
  bsz : base.objs.size ≤ s.heap.objs.size
  funs : s.heap.FunFrames base outer
  frf : ∀ b ∈ frs outer, H b = none
  hok : HOk P w H s.heap
  bare : AllBare s.gens
noncomputable def CE (outer : List Env) (P : Program) (w : World) (H : Hp) (s : Shared) (Q : VK) (u : Value) (s' : Shared) : Prop :=
  ∃ v H', s'.os = s.os ∧ AllBare s'.gens ∧ Un (frs outer) [] H H' s.heap s'.heap ∧ HOk P w H' s'.heap ∧ RelV v u ∧ Q v H'
noncomputable def CR (CX : CXT) (outer : List Env) (P : Program) (w : World) (H : Hp) (s : Shared) (Q : VK) (E : XK) (r : Result) (s' : Shared) : Prop :=
  match r with
  | .ok (.ret u) => CE outer P w H s Q u s'
  | .ok _ => False
  | .error e => CX outer H s E e s'
structure FnOk (P : Program) (w : World) (K : PySem.W.Frag) (mg : Str → Option Value) (base : Heap) (CX : CXT) (k : Nat) (f : Addr) (fd : FuncData) (ps : List Str) (sp : Sp) : Prop where
  len : ∀ vs H Q E, sp vs H Q E → vs.length = ps.length
  run : ∀ (A : Around) (outer : List Env) (s : Shared) (H : Hp) (args : Args) (us : List Value) (vs : List V) (Q : VK) (E : XK), Room k A → Env0 P w K mg base A outer s H → BindsTo s fd args (ps.zip us) → Vals vs us → sp vs H Q E →
    codeAny (model P w) A (.call (.ref f) args) (CR CX outer P w H s Q E) s
theorem FnOk.mono {P : Program} {w : World} {K : PySem.W.Frag} {mg : Str → Option Value} {base : Heap} {CX : CXT} {j k : Nat} {f : Addr} {fd : FuncData} {ps : List Str} {sp : Sp} (F : FnOk P w K mg base CX j f fd ps sp) (h : j ≤ k) :
    FnOk P w K mg base CX k f fd ps sp := ⟨F.len, fun A outer s H args us vs Q E hr => F.run A outer s H args us vs Q E (hr.mono h)⟩
section
variable {X : Cx} {pins : List (Addr × Obj)} {σ : St} {H : Hp} {s s' : Shared}
theorem Inv.env0 (I : Inv X pins σ H s) : Env0 X.prog X.w X.K X.mg X.base X.A X.stack s H :=
  ⟨I.ok.frames, I.ok.mod, I.bs, Nat.le_trans I.ok.bsz I.sz, I.stack, I.stkFree, I.hok, I.bare⟩
theorem Inv.after {Q : VK} {u : Value} (I : Inv X pins σ H s) (h : CE X.stack X.prog X.w H s Q u s') : EP X pins σ Q u s' := by
  obtain ⟨v, H', os, bare, un, hok, r, q⟩ := h
  obtain ⟨hh, g, d, t, os'⟩ := s'
  obtain rfl : os' = s.os := os
  exact ⟨v, H', I.call (h' := hh) (g' := g) (d' := d) (t' := t) (ch := []) un hok bare (fun b z => absurd z (by simp)), r, q⟩
end
noncomputable def tCall (sp : Sp) (dvs : List V) (E : XK) (t : TA) : TE := fun σ H Q => t σ H fun vs H1 => sp (vs ++ dvs) H1 Q E
noncomputable def Binds (K : PySem.W.Frag) (fd : FuncData) (ps : List Str) (ds : List Value) : Prop :=
  ∀ (s : Shared) (us : List Value), K.In s.heap → (us ++ ds).length = ps.length → BindsTo s fd ⟨us, []⟩ (ps.zip (us ++ ds))
theorem Binds.all {K : PySem.W.Frag} {fd : FuncData} {ps : List Str} (h : ∀ us : List Value, us.length = ps.length → bindArgs fd ⟨us, []⟩ = pure (ps.zip us)) : Binds K fd ps [] := fun s us _ hl => by
  rw [List.append_nil] at hl ⊢
  exact .of_eq (h us hl)

noncomputable def Passes (CX : CXT) (X : Cx) (E : XK) : Prop := ∀ (pins : List (Addr × Obj)) (σ : St) (H : Hp) (s : Shared) (e : Value) (s' : Shared), Inv X pins σ H s → CX X.stack H s E e s' → X.xe e s'

section
variable {X : Cx} {CX : CXT} {k : Nat} {f C : Addr} {fd : FuncData} {ps : List Str} {sp : Sp} {dvs : List V} {ds : List Value} {E : XK} {x m : Str} {p pos apos : Pos} {e o : Expr} {es : List Expr} {ta : TE} {t : TA}
theorem run_fn {pins : List (Addr × Obj)} {σ : St} {H : Hp} {s : Shared} {Q : VK} {us : List Value} {vs : List V} (F : FnOk X.prog X.w X.K X.mg X.base CX k f fd ps sp) (hr : Room k X.A) (hb : Binds X.K fd ps ds) (hd : Vals dvs ds) (hx : Passes CX X E)
    (I : Inv X pins σ H s) (r : Vals vs us) (h : sp (vs ++ dvs) H Q E) : wpAny (model X.prog X.w) X.A (call (.ref f) us) (EP X pins σ Q) X.xe s := by
  have r2 : Vals (vs ++ dvs) (us ++ ds) := r.append hd
  have hl : (us ++ ds).length = ps.length := by rw [← r2.length]; exact F.len _ _ _ _ h
  refine wpAny_call (codeAny_mono (F.run X.A X.stack s H ⟨us, []⟩ (us ++ ds) (vs ++ dvs) Q E hr I.env0 (hb s us I.kIn hl) r2 h) fun r s' hq => ?_)
  cases r with
  | error e => exact hx pins σ H s e s' I hq
  | ok fl =>
    cases fl with
    | ret u => exact I.after hq
    | next => exact False.elim hq
    | brk => exact False.elim hq
    | cont => exact False.elim hq

theorem pe_call (F : FnOk X.prog X.w X.K X.mg X.base CX k f fd ps sp) (hr : Room k X.A) (hg : Gl X x) (hm : X.mg x = some (.ref f)) (hk : PySem.W.keepIn X.K (.ref f) = true) (hb : Binds X.K fd ps ds) (hd : Vals dvs ds) (hx : Passes CX X E)
    (ha : PA X (e :: es) t) (hdb : (x == ("__debug__" : Str)) = false := by decide) (he : starEach (e :: es) X.env = (false, eval e X.env) :: starEach es X.env := by rfl) (hpl : (backTo pos (starEach es X.env)).any (·.1) = false := by rfl) :
    PE X (.Call (.Name x p) (e :: es) [] pos) (tCall sp dvs E t) := by
  intro pins s σ H Q I h
  refine wpAny_Call_Name_kw (ld_glob I hg hm ?_ hdb)
  refine PySem.W.callWith_K (h₀ := X.base) I.ok.mod.kin hk (thn (ha pos pins s σ H _ I h) fun us s1 ⟨vs, H1, I1, r, q⟩ => ⟨I1.kIn, ?_⟩) he hpl
  exact run_fn F hr hb hd hx I1 r q
end
section
variable {X : Cx} {CX : CXT} {k : Nat} {f C : Addr} {fd : FuncData} {ps ks : List Str} {sp : Sp} {E : XK} {x m : Str} {p pos apos kpos : Pos} {e o : Expr} {es : List Expr} {kws : List Keyword} {te ta : TE} {t tk : TA} {nm : Option Str}
variable {g : List Value → List Value → List Value} {gV : List V → List V → List V}
end
structure FnScope (N P : List Str) (sc : Scope) : Prop where
  kind : sc.kind = .function
  co : sc.isCoroutine = false
  gen : sc.isGenerator = false
  nd : N.Nodup
  pre : N.take P.length = P
  par : ∀ x ∈ P, sc.names.lookup x = some .local ∨ sc.names.lookup x = some .cell
  nofree : ∀ y ∈ sc.names, y.2 ≠ .free

theorem bindL_out {kindOf : Str → Option NameKind} {x : Str} : ∀ {binds : List (Str × Value)} {m : Str → Option Value}, (∀ v, (x, v) ∉ binds) → bindL kindOf binds m x = m x
  | [], _, _ => rfl
  | (n, v) :: r, m, h => by
    unfold bindL
    rw [bindL_out fun w hw => h w (List.mem_cons_of_mem _ hw)]
    split
    · have : x ≠ n := by rintro rfl; exact h v List.mem_cons_self
      simp [this]
    · rfl
theorem bindC_out {kindOf : Str → Option NameKind} {x : Str} : ∀ {binds : List (Str × Value)} {m : Str → Option Value}, (∀ v, (x, v) ∉ binds) → bindC kindOf binds m x = m x
  | [], _, _ => rfl
  | (n, v) :: r, m, h => by
    unfold bindC
    rw [bindC_out fun w hw => h w (List.mem_cons_of_mem _ hw)]
    split
    · rfl
    · have : x ≠ n := by rintro rfl; exact h v List.mem_cons_self
      simp [this]
theorem bindL_get {kindOf : Str → Option NameKind} {x : Str} {v : Value} : ∀ {P : List Str} {vs : List Value} {i : Nat} {m : Str → Option Value}, P.Nodup → P[i]? = some x → vs[i]? = some v → kindOf x = some .local →
    bindL kindOf (P.zip vs) m x = some v
  | [], _, _, _, _, h, _, _ => by simp at h
  | _ :: _, [], _, _, _, _, h, _ => by simp at h
  | p :: P, w :: vs, 0, m, nd, h1, h2, hk => by
    simp at h1 h2; subst h1; subst h2
    show bindL kindOf ((p, w) :: P.zip vs) m p = _
    unfold bindL
    rw [bindL_out fun v hv => (List.nodup_cons.mp nd).1 (List.of_mem_zip hv).1, if_pos hk]
    simp
  | p :: P, w :: vs, i + 1, m, nd, h1, h2, hk => by
    show bindL kindOf ((p, w) :: P.zip vs) m x = _
    unfold bindL
    exact bindL_get (i := i) (List.nodup_cons.mp nd).2 (by simpa using h1) (by simpa using h2) hk
theorem bindC_get {kindOf : Str → Option NameKind} {x : Str} {v : Value} : ∀ {P : List Str} {vs : List Value} {i : Nat} {m : Str → Option Value}, P.Nodup → P[i]? = some x → vs[i]? = some v → kindOf x ≠ some .local →
    bindC kindOf (P.zip vs) m x = some v
  | [], _, _, _, _, h, _, _ => by simp at h
  | _ :: _, [], _, _, _, _, h, _ => by simp at h
  | p :: P, w :: vs, 0, m, nd, h1, h2, hk => by
    simp at h1 h2; subst h1; subst h2
    show bindC kindOf ((p, w) :: P.zip vs) m p = _
    unfold bindC
    rw [bindC_out fun v hv => (List.nodup_cons.mp nd).1 (List.of_mem_zip hv).1, if_neg hk]
    simp
  | p :: P, w :: vs, i + 1, m, nd, h1, h2, hk => by
    show bindC kindOf ((p, w) :: P.zip vs) m x = _
    unfold bindC
    exact bindC_get (i := i) (List.nodup_cons.mp nd).2 (by simpa using h1) (by simpa using h2) hk

noncomputable def start (N : List Str) (vs : List V) : St := vs.map some ++ List.replicate (N.length - vs.length) none

noncomputable def cxOf (CX : CXT) (P : Program) (w : World) (K : PySem.W.Frag) (mg : Str → Option Value) (base : Heap) (N : List Str) (qual : Str) (scope : Scope) (f : Addr) (cd : Value) (A : Around) (outer : List Env) (s : Shared) (H : Hp) (E : XK) : Cx where
  prog := P
  w := w
  K := K
  mg := mg
  base := base
  A := A.deeper (envOfC qual scope s.heap.objs.size f cd)
  N := N
  s₀ := s
  H₀ := H
  env := envOfC qual scope s.heap.objs.size f cd
  outer := outer
  stack := envOfC qual scope s.heap.objs.size f cd :: outer
  ex := []
  calm := true
  fn := fun _ => true
  pn := []
  xe := fun e s' => wpAny (model P w) (A.deeper (envOfC qual scope s.heap.objs.size f cd)) (leaving (envOfC qual scope s.heap.objs.size f cd) e) (fun _ s'' => CX outer H s E e s'') (fun e' s'' => CX outer H s E e' s'') s'

theorem cell_has {sc : Scope} {n : Nat} {x : Str} (h : sc.names.lookup x = some .cell) : ∃ c, (cellsFrom n sc.names []).lookup x = some c := by
  have q := PySem.W.cellsFrom_some sc.names n [] (.inl h)
  exact Option.isSome_iff_exists.mp q

theorem inv_start {CX : CXT} {P : Program} {w : World} {K : PySem.W.Frag} {mg : Str → Option Value} {base : Heap} {N ps : List Str} {qual : Str} {scope : Scope} {f : Addr} {cd : Value} {A : Around} {outer : List Env} {s s1 : Shared} {H : Hp} {E : XK} {us : List Value} {vs : List V}
    (S : FnScope N ps scope) (hd : A.handled = none) (e0 : Env0 P w K mg base A outer s H) (hl : vs.length = ps.length) (r : Vals vs us)
    (x : InCallC s s.heap.objs.size (bindL (envOfC qual scope s.heap.objs.size f cd).kindOf (ps.zip us) fun _ => none) (cellsFrom (s.heap.objs.size + 1) scope.names []) (bindC (envOfC qual scope s.heap.objs.size f cd).kindOf (ps.zip us) fun _ => none) s1) :
    Inv (cxOf CX P w K mg base N qual scope f cd A outer s H E) [] (start N vs) H s1 := by
  have hpl : ps.length ≤ N.length := by have := congrArg List.length S.pre; rw [List.length_take] at this; omega
  obtain ⟨h1, tk, rfl, hk⟩ := x.done
  have noA : ∀ b : Addr, b ∉ (cxOf CX P w K mg base N qual scope f cd A outer s H E).ex := fun b z => absurd (show b ∈ ([] : List Addr) from z) (by simp)
  refine ⟨⟨e0.mod, S.kind, rfl, rfl, Nat.le_refl _, fun y z c h1 h2 => ?_, fun y hy => ?_, fun y c _ h => ?_, fun _ => hd, Around.frames_deeper e0.frames, .inr ⟨rfl, rfl⟩, fun b z => absurd z (noA b), e0.bs, e0.bsz, fun b _ _ => noA b, fun b z => absurd z (noA b), e0.funs, e0.frf⟩,
    rfl, e0.bare, Un.kept hk, ⟨_, x.toInCall.ns, fun i y v h1 h2 h3 => ?_⟩, fun y c h => ⟨_, x.cell y c h⟩, e0.hok.fresh (Nat.le_refl _), fun y c h => ?_, fun p hp => absurd (show p ∈ ([] : List (Addr × Obj)) from hp) (by simp), e0.hok.kept hk, ?_⟩
  · exact name_of_addr x.apart (PySem.mem_of_lookup h1) (PySem.mem_of_lookup h2)
  · have hy : scope.names.lookup y = some .cell ∨ scope.names.lookup y = some .free := hy
    rcases hy with hy | hy
    · exact cell_has hy
    · exact absurd rfl (S.nofree _ (PySem.mem_of_lookup hy))
  · exact Nat.le_of_lt (x.above y c (PySem.mem_of_lookup h))
  · have hi : i < vs.length := by
      unfold start at h2
      by_cases hi : i < vs.length
      · exact hi
      · rw [List.getElem?_append_right (by simpa using hi)] at h2
        rw [List.getElem?_replicate] at h2
        split at h2 <;> cases h2
    have ha : vs[i]? = some v := by
      unfold start at h2
      rw [List.getElem?_append_left (by simpa using hi), List.getElem?_map] at h2
      cases e : vs[i]? with
      | none => rw [e] at h2; cases h2
      | some a => rw [e] at h2; cases h2; rfl
    obtain ⟨u, hu, rv⟩ := r.get ha
    have hp : ps[i]? = some y := by
      rw [← S.pre, List.getElem?_take_of_lt (by omega)]; exact h1
    have ndP : ps.Nodup := by rw [← S.pre]; exact S.nd.sublist (List.take_sublist _ _)
    refine ⟨u, rv, ?_⟩
    rcases S.par y (List.mem_of_getElem? hp) with k | k
    · exact .inl ⟨k, bindL_get ndP hp hu k⟩
    · obtain ⟨c, e⟩ := cell_has (n := s.heap.objs.size + 1) k
      refine .inr ⟨.inl k, c, e, ?_⟩
      have q := x.cell y c e
      rw [bindC_get ndP hp hu (by show scope.names.lookup y ≠ _; rw [k]; decide)] at q
      exact q
  · exact e0.hok.fresh (Nat.le_of_lt (x.above y c (PySem.mem_of_lookup h)))
  · unfold start
    show _ = N.length
    rw [List.length_append, List.length_map, List.length_replicate]
    omega

theorem fn_of {CX : CXT} {P : Program} {w : World} {K : PySem.W.Frag} {mg : Str → Option Value} {base : Heap} {k : Nat} {f : Addr} {name qual : Str} {params : Arguments} {body : List Stmt} {scope : Scope} {dV kV doc pm cdv ct oc : Value} {an od : Option Addr}
    {osl : Array (Option Value)} {N ps : List Str} {sp : Sp} (lk : K.lookup f = some ⟨oc, od, .func (PySem.W.fnOf name qual params body scope dV kV doc pm an cdv ct), osl⟩) (hcd : PySem.W.codeIn K cdv qual = true) (S : FnScope N ps scope)
    (len : ∀ vs H Q E, sp vs H Q E → vs.length = ps.length)
    (hbody : ∀ (A : Around) (outer : List Env) (s : Shared) (H : Hp) (vs : List V) (Q : VK) (E : XK), Room k (A.deeper (envOfC qual scope s.heap.objs.size f cdv)) → sp vs H Q E →
      ∃ t, PSs (cxOf CX P w K mg base N qual scope f cdv A outer s H E) body t ∧ t { nx := fun _ H' => Q .non H', rt := Q } (start N vs) H) :
    FnOk P w K mg base CX (k + 1) f (PySem.W.fnOf name qual params body scope dV kV doc pm an cdv ct) ps sp := by
  refine ⟨len, fun A outer s H args us vs Q E hr e0 hb r hsp => ?_⟩
  have hl := len _ _ _ _ hsp
  have KX : K.In s.heap := e0.mod.kin.keeps fun b o e => (e0.bs b o e).1
  have lim : s.heap.NoLimit := e0.mod.nolimit.keeps fun b o e => (e0.bs b o e).1
  have hkind : ∀ y ∈ ps.zip us, scope.names.lookup y.1 = some .local ∨ (scope.names.lookup y.1 = some .cell ∧ ((cellsFrom (s.heap.objs.size + 1) scope.names []).lookup y.1).isSome = true) := fun ⟨n, v⟩ hy => by
    rcases S.par n (List.of_mem_zip hy).1 with q | q
    · exact .inl q
    · exact .inr ⟨q, PySem.W.cellsFrom_some _ _ _ (.inl q)⟩
  refine codeAny_call_function hr.depth (KX _ _ lk) rfl S.co S.gen rfl (PySem.W.codeRec_of KX hcd) (hb _ _ _ _ ?_)
  refine wpAny_newFunctionEnv_cells S.kind hkind fun env he s1 x => ?_
  subst he
  refine ⟨lim.keeps x.toInCall.keep, codeAny_func ?_⟩
  obtain ⟨t, ht, hq⟩ := hbody A outer s H vs Q E (hr.deeper _) hsp
  have I : Inv (cxOf CX P w K mg base N qual scope f cdv A outer s H E) [] (start N vs) H s1 := inv_start S hr.hd e0 hl r x
  refine wpAny_mono (ht [] s1 (start N vs) H _ I hq) (fun fl s' hs => ?_) fun e s' hs => hs
  have fin : ∀ {σ' : St} {H' : Hp} {v : V} {u : Value}, Inv (cxOf CX P w K mg base N qual scope f cdv A outer s H E) [] σ' H' s' → RelV v u → Q v H' → CE outer P w H s Q u s' :=
    fun {σ' H' v u} J rv q => ⟨v, H', J.os, J.bare, J.base, J.hok, rv, q⟩
  cases fl with
  | ret u =>
    obtain ⟨v, σ', H', J, rv, q⟩ := hs
    exact fin J rv q
  | next =>
    obtain ⟨σ', H', J, q⟩ := hs
    exact fin (v := V.non) (u := Value.none) J rfl q
  | brk =>
    obtain ⟨_, _, _, q⟩ := hs
    exact False.elim q
  | cont =>
    obtain ⟨_, _, _, q⟩ := hs
    exact False.elim q
end L2
namespace L2
open PySem PySem.Spec PyProof.Rows
section
variable {X : Cx} {x : Str} {p pos : Pos} {e : Expr} {es : List Expr} {t : TA} {id T : String} {r : List V → Hp → VK → Prop}
noncomputable def tCB (r : List V → Hp → VK → Prop) (t : TA) : TE := fun σ H Q => t σ H fun vs H1 => r vs H1 Q
theorem pe_callB (hc : CallR X (.builtin id) r) (hg : Gl X x) (hm : X.mg x = none) (hv : bootBuiltins x = some (.builtin id)) (ha : PA X (e :: es) t) (hn : x ≠ "__name__" := by decide) (hdb : (x == ("__debug__" : Str)) = false := by decide)
    (he : starEach (e :: es) X.env = (false, eval e X.env) :: starEach es X.env := by rfl) (hpl : (backTo pos (starEach es X.env)).any (·.1) = false := by rfl) : PE X (.Call (.Name x p) (e :: es) [] pos) (tCB r t) := by
  intro pins s σ H Q I h
  refine wpAny_Call_Name_kw (ld_blt I hg hm hv ?_ hn hdb)
  exact PyProof.Rows.callWith_builtin1 (thn (ha pos pins s σ H _ I h) fun us s1 ⟨vs, H1, I1, r1, q1⟩ => hc pins s1 σ H1 vs us Q I1 r1 q1) he hpl
theorem pe_callTy (hc : CallR X (.type T) r) (hg : Gl X x) (hm : X.mg x = none) (hv : bootBuiltins x = some (.type T)) (ha : PA X (e :: es) t) (hn : x ≠ "__name__" := by decide) (hdb : (x == ("__debug__" : Str)) = false := by decide)
    (he : starEach (e :: es) X.env = (false, eval e X.env) :: starEach es X.env := by rfl) (hpl : (backTo pos (starEach es X.env)).any (·.1) = false := by rfl) : PE X (.Call (.Name x p) (e :: es) [] pos) (tCB r t) := by
  intro pins s σ H Q I h
  refine wpAny_Call_Name_kw (ld_blt I hg hm hv ?_ hn hdb)
  exact PyProof.Rows.callWith_type1 (thn (ha pos pins s σ H _ I h) fun us s1 ⟨vs, H1, I1, r1, q1⟩ => hc pins s1 σ H1 vs us Q I1 r1 q1) he hpl
end
end L2
namespace HT
open PySem PyProof.Rows
section
open PySem.SeqAt
open PySem.AutoSeq1 (wpAny_loadPart')
open PySem.MeetsSeq PySem.MeetsSeq2 PySem.MeetsSeq3
end
section
variable {prog : Program} {w : World} {A : Around} {E : Value → Shared → Prop} {s : Shared}
theorem cat_tup {t b : Addr} {vs ws : List Value} {Q : Value → Shared → Prop} (ht : IsTup s.heap t vs.toArray) (hb : IsTup s.heap b ws.toArray) (hv : vs ≠ [])
    (h1 : ws = [] → Q (.ref t) s) (h2 : ws ≠ [] → Q (.ref s.heap.objs.size) { s with heap := s.heap.push { cls := .type "tuple", data := .seq (vs ++ ws).toArray } })
    (hsz : vs.length + ws.length ≤ sizeLine) : wpAny (model prog w) A (binaryOp .Add (.ref t) (.ref b)) Q E s := by
  obtain ⟨⟨cls, dd, data, sl⟩, ho, hc, n, hd⟩ := id ht
  obtain ⟨⟨cls2, dd2, data2, sl2⟩, ho2, hc2, n2, hd2⟩ := id hb
  simp only at hc hd hc2 hd2
  subst hc hd hc2 hd2
  have e : vs.toArray ++ ws.toArray = (vs ++ ws).toArray := by simp
  by_cases hw : ws = []
  · exact concat_meets ⟨_, ho, rfl⟩ ⟨_, ho2, rfl⟩ noFill_tuple_add seq_tuple_add PySem.F.slot_tuple_add PySem.F.entry_tuple_add (PySem.F.args_tuple_add_2 _ _)
      (tuple_addW1 t b vs.toArray ws.toArray n n2 dd dd2 sl sl2 (by simpa using hv) (by simp [hw])) ⟨ho, ho2, h1 hw⟩
  · refine concat_meets ⟨_, ho, rfl⟩ ⟨_, ho2, rfl⟩ noFill_tuple_add seq_tuple_add PySem.F.slot_tuple_add PySem.F.entry_tuple_add (PySem.F.args_tuple_add_2 _ _)
      (tuple_addW2 t b vs.toArray ws.toArray n n2 dd dd2 sl sl2 (by simpa using hv) (by simpa using hw) (by rw [List.size_toArray, List.size_toArray]; exact hsz)) ⟨ho, ho2, ?_⟩
    rw [e]
    exact h2 hw

noncomputable def sIx (n d : Nat) : Option Int → Nat
  | none => d
  | some v => if v < 0 then (v + (n : Int)).toNat else min v.toNat n
theorem sIx_none (n d : Nat) : sIx n d none = d := rfl
theorem sIx_nat (n d k : Nat) : sIx n d (some (k : Int)) = min k n := by
  show (if (k : Int) < 0 then ((k : Int) + (n : Int)).toNat else min (k : Int).toNat n) = min k n
  rw [if_neg (by omega), Int.toNat_natCast]
theorem sIx_le (n d : Nat) (hd : d ≤ n) (o : Option Int) : sIx n d o ≤ n := by
  cases o with
  | none => exact hd
  | some v =>
    show (if v < 0 then (v + (n : Int)).toNat else min v.toNat n) ≤ n
    by_cases hv : v < 0
    · rw [if_pos hv]; omega
    · rw [if_neg hv]; exact Nat.min_le_right _ _
theorem clip_eq (v : Int) (n d : Nat) : (if v < 0 then max (v + (n : Int)) 0 else min v (n : Int)) = ((sIx n d (some v) : Nat) : Int) := by
  show (if v < 0 then max (v + (n : Int)) 0 else min v (n : Int)) = (((if v < 0 then (v + (n : Int)).toNat else min v.toNat n) : Nat) : Int)
  by_cases hv : v < 0
  · simp only [if_pos hv]; omega
  · simp only [if_neg hv]; omega
theorem adjust_gen (lo hi : Option Int) (n : Nat) : Builtin.Slice.sliceAdjust lo hi 1 (n : Int) = (((sIx n 0 lo : Nat) : Int), ((sIx n n hi : Nat) : Int)) := by
  have h1 : ¬ ((1 : Int) < 0) := by omega
  unfold Builtin.Slice.sliceAdjust
  simp only [h1, if_false]
  refine Prod.ext ?_ ?_
  · cases lo with
    | none => rfl
    | some v => exact clip_eq v n 0
  · cases hi with
    | none => rfl
    | some v => exact clip_eq v n n
theorem places_gen (i j : Nat) : Builtin.Slice.slicePlaces (i : Int) (j : Int) 1 = j - i := by
  unfold Builtin.Slice.slicePlaces
  have h1 : (1 : Int) > 0 := by omega
  simp only [h1, if_true, Int.ediv_one]
  split <;> omega
theorem slicePart_ {v : Value} {o : Option Int} {Q : Option Int → Shared → Prop} (p : IsPart v o) (h : Q o s) : wpAny (model prog w) A (Builtin.Slice.slicePartIndex v) Q E s := by
  cases p with
  | none => exact slicePart_none h
  | int i t => exact slicePart_int h
theorem sliceApplied_gen {sl : Addr} {vl vu : Value} {lo hi : Option Int} {n : Nat} {Q : Int × Int × Nat → Shared → Prop} (hs : s.heap.IsSliceOf sl vl vu .none) (pl : IsPart vl lo) (pu : IsPart vu hi)
    (h : Q (((sIx n 0 lo : Nat) : Int), 1, sIx n n hi - sIx n 0 lo) s) : wpAny (model prog w) A (Builtin.Slice.sliceApplied (.ref sl) (pure (n : Int))) Q E s := by
  obtain ⟨os, hos, hcs, hds⟩ := id hs
  unfold Builtin.Slice.sliceApplied Builtin.Slice.sliceFields
  refine wpAny_bind (wpAny_bind (wpAny_field hos hds (x := vl) rfl (wpAny_bind (wpAny_field hos hds (x := vu) rfl (wpAny_bind (wpAny_field hos hds (x := .none) rfl (wpAny_pure ?_)))))))
  refine wpAny_bind (slicePart_none ?_)
  show wpAny _ _ (if ((1 : Int) == 0) = true then _ else _) _ _ s
  rw [if_neg (by decide)]
  refine wpAny_bind (slicePart_ pl (wpAny_bind (slicePart_ pu (wpAny_bind (wpAny_pure ?_)))))
  show wpAny _ _ (match Builtin.Slice.sliceAdjust lo hi 1 (n : Int) with | (lo, hi) => pure (lo, (1 : Int), Builtin.Slice.slicePlaces lo hi 1)) _ _ s
  rw [adjust_gen lo hi n]
  show wpAny _ _ (pure (((sIx n 0 lo : Nat) : Int), (1 : Int), Builtin.Slice.slicePlaces ((sIx n 0 lo : Nat) : Int) ((sIx n n hi : Nat) : Int) 1)) _ _ s
  rw [places_gen]
  exact wpAny_pure h
theorem pick_gen (xs : Array Value) (i k : Nat) : ((List.range k).filterMap fun (m : Nat) => xs[((i : Int) + (m : Int) * 1).toNat]?).toArray = ((xs.toList.drop i).take k).toArray := by
  have e : (fun (m : Nat) => xs[((i : Int) + (m : Int) * 1).toNat]?) = fun m => xs[i + m]? := by
    funext m
    have : ((i : Int) + (m : Int) * 1).toNat = i + m := by omega
    rw [this]
  rw [e]
  have := pick_run xs i k
  rw [List.filterMap_map] at this
  have e2 : ((fun x => xs[x]?) ∘ fun x => i + x) = fun m => xs[i + m]? := rfl
  rw [e2] at this
  rw [this]

theorem getItem_tuple_cut {t sl : Addr} {items : Array Value} {vl vu : Value} {lo hi : Option Int} {Q : Value → Shared → Prop} (ht : IsTup s.heap t items) (hs : s.heap.IsSliceOf sl vl vu .none) (pl : IsPart vl lo) (pu : IsPart vu hi)
    (hw : ¬ (sIx items.size 0 lo = 0 ∧ sIx items.size items.size hi = items.size))
    (h : Q (.ref s.heap.objs.size) { s with heap := s.heap.push { cls := .type "tuple", data := .seq ((items.toList.drop (sIx items.size 0 lo)).take (sIx items.size items.size hi - sIx items.size 0 lo)).toArray } })
    (hsz : items.size ≤ sizeLine) : wpAny (model prog w) A (getItem (.ref t) (.ref sl)) Q E s := by
  have htake : sizeOk (.seq ((items.toList.drop (sIx items.size 0 lo)).take (sIx items.size items.size hi - sIx items.size 0 lo)).toArray) := by
    show ((items.toList.drop (sIx items.size 0 lo)).take (sIx items.size items.size hi - sIx items.size 0 lo)).toArray.size ≤ sizeLine
    rw [List.size_toArray, List.length_take, List.length_drop, Array.length_toList]
    omega
  have hj : sIx items.size items.size hi ≤ items.size := sIx_le _ _ (Nat.le_refl _) hi
  obtain ⟨os, hos, hcs, hds⟩ := id hs
  have hTs : s.TypeIs (.ref sl) "slice" := ⟨os, hos, hcs⟩
  unfold getItem
  try with_reducible refine wpAny_holding ?_
  first | refine wpAny_bind (wpAny_pure ?_) | skip
  refine wpAny_bind (wpAny_sequenceKey ht.typeIs (by decide) ?_)
  refine wpAny_bind (wpAny_callSpecial?_slot (name := Str.ofString "__getitem__") ht.typeIs PyProof.Rows.slot_tuple_getitem
    (wpAny_call_entry PyProof.Rows.slot_tuple_getitem ht.typeIs entry_tuple_getitem ?_ (args_tuple_getitem _ _)))
  show wpAny _ _ (Builtin.Tuple.tupleItemsOf (.ref t) >>= _) _ _ s
  refine wpAny_bind (tupleItemsOf_ ht ?_)
  refine wpAny_bind (wpAny_typeOf hTs ?_)
  rw [if_pos (by decide)]
  refine wpAny_bind (sliceApplied_gen hs pl pu ?_)
  have hno : ¬ ((((sIx items.size 0 lo : Nat) : Int) == 0 && (1 : Int) == 1 && (sIx items.size items.size hi - sIx items.size 0 lo) == items.size) = true) := by
    intro q
    rw [Bool.and_eq_true, Bool.and_eq_true] at q
    have q1 : ((sIx items.size 0 lo : Nat) : Int) = 0 := eq_of_beq q.1.1
    have q2 : sIx items.size items.size hi - sIx items.size 0 lo = items.size := eq_of_beq q.2
    exact hw ⟨by omega, by omega⟩
  show wpAny _ _ (if (((sIx items.size 0 lo : Nat) : Int) == 0 && (1 : Int) == 1 && (sIx items.size items.size hi - sIx items.size 0 lo) == items.size) = true then _ else _) _ _ s
  rw [if_neg hno, pick_gen]
  first
    | exact wpAny_bind (m := Builtin.Tuple.tupleExact _) (wpAny_newObj_type (wpAny_pure ⟨_, rfl, wpAny_pure h⟩) htake)
    | exact wpAny_bind (m := Builtin.Tuple.tupleExact _) (wpAny_newObj_type (wpAny_bind (wpAny_pure (wpAny_pure ⟨_, rfl, wpAny_pure h⟩))) htake)
    | exact wpAny_bind (wpAny_bind (m := Builtin.Tuple.tupleExact _) (wpAny_newObj_type (wpAny_pure (wpAny_pure ⟨_, rfl, wpAny_pure h⟩)) htake))
    | exact wpAny_bind (wpAny_bind (m := Builtin.Tuple.tupleExact _) (wpAny_newObj_type (wpAny_pure ⟨_, rfl, wpAny_pure h⟩) htake))
end
end HT
namespace L2
open PySem PySem.Spec PyProof.Rows
noncomputable abbrev TO := St → Hp → (Option Int → Hp → Prop) → Prop
noncomputable def PO (X : Cx) (e : Option Expr) (t : TO) : Prop :=
  ∀ (pins : List (Addr × Obj)) (s : Shared) (σ : St) (H : Hp) (Q : Option Int → Hp → Prop), Inv X pins σ H s → t σ H Q →
    wpAny (model X.prog X.w) X.A (evalPart e X.env) (fun u s' => ∃ o H', Inv X pins σ H' s' ∧ IsPart u o ∧ Q o H') X.xe s
@[irreducible] noncomputable def ZO (X : Cx) (e : Option Expr) (t : TO) : Prop := PO X e t
noncomputable def tNoPart : TO := fun _ H Q => Q none H
noncomputable def tPart (t : TE) : TO := fun σ H Q => t σ H fun x H1 => ∃ i, x = .int i ∧ Q (some i) H1

theorem intsAre_of {ns : List Int} : ∀ {us : List Value}, Vals (ns.map V.int) us → IntsAre us ns := by
  induction ns with
  | nil => intro us r; rw [List.map_nil] at r; cases r; exact .nil
  | cons n ns ih =>
    intro us r
    rw [List.map_cons] at r
    cases r with
    | cons r1 r2 =>
      obtain ⟨t, e⟩ := r1
      subst e
      exact .cons n t (ih r2)

section
variable {X : Cx} {e : Expr} {te : TE} {lo hi : Option Expr} {tl th : TO} {pos p2 : Pos}
theorem po_none : PO X none tNoPart := by
  intro pins s σ H Q I h
  rw [evalPart_none]
  exact wpAny_pure ⟨none, H, I, .none, h⟩
theorem zo_none : ZO X none tNoPart := by with_unfolding_all exact po_none 
theorem po_some (h : PE X e te) : PO X (some e) (tPart te) := by
  intro pins s σ H Q I hw
  rw [evalPart_some]
  refine thn (h pins s σ H _ I hw) fun u s1 ⟨x, H1, I1, r1, q1⟩ => ?_
  obtain ⟨i, rfl, q⟩ := q1
  obtain ⟨t, rfl⟩ := r1
  exact ⟨some i, H1, I1, .int i t, q⟩
theorem zo_some (h : ZE X e te) : ZO X (some e) (tPart te) := by with_unfolding_all exact po_some h

noncomputable def SlR (X : Cx) (r : V → Option Int → Option Int → Hp → VK → Prop) : Prop :=
  ∀ (pins : List (Addr × Obj)) (s : Shared) (σ : St) (H : Hp) (x : V) (v vl vu : Value) (lo hi : Option Int) (sl : Addr) (Q : VK), Inv X pins σ H s → RelV x v → s.heap.IsSliceOf sl vl vu .none → IsPart vl lo → IsPart vu hi → r x lo hi H Q →
    ∃ T id, typeLookup (.type T) "__getitem__" = pure (some (.builtin id)) ∧ s.TypeIs v T ∧ wpAny (model X.prog X.w) X.A (getItem v (.ref sl)) (EP X pins σ Q) X.xe s
noncomputable def tSl (r : V → Option Int → Option Int → Hp → VK → Prop) (te : TE) (tl th : TO) : TE := fun σ H Q => te σ H fun x H1 => tl σ H1 fun l H2 => th σ H2 fun u H3 => r x l u H3 Q
theorem pe_slice {r : V → Option Int → Option Int → Hp → VK → Prop} (hr : SlR X r) (he : PE X e te) (hl : PO X lo tl) (hu : PO X hi th) : PE X (.Subscript e (.Slice lo hi none p2) pos) (tSl r te tl th) := by
  intro pins s σ H Q I h
  refine Subscript_ (thn (he pins s σ H _ I h) fun v s1 ⟨x, H1, I1, r1, q1⟩ => ?_)
  refine wpAny_Slice (thn (hl pins s1 σ H1 _ I1 q1) fun vl s2 ⟨l, H2, I2, pl, q2⟩ => thn (hu pins s2 σ H2 _ I2 q2) fun vu s3 ⟨u, H3, I3, pu, q3⟩ => ?_)
  rw [evalPart_none]
  refine wpAny_pure ?_
  have I4 : Inv X pins σ H3 { s3 with heap := s3.heap.push { cls := .type "slice", data := .fields #[vl, vu, .none] } } := I3.kept (t' := s3.toks) fun b ob q => Heap.get?_push_of_some _ q
  obtain ⟨T, id, hT, ht, hg⟩ := hr pins { s3 with heap := s3.heap.push { cls := .type "slice", data := .fields #[vl, vu, .none] } } σ H3 x v vl vu l u s3.heap.objs.size Q I4 r1 (Heap.IsSliceOf.new ..) pl pu q3
  show wpAny (model X.prog X.w) X.A (subscriptTail e (.Slice lo hi none p2) v (.ref s3.heap.objs.size)) (EP X pins σ Q) X.xe { s3 with heap := s3.heap.push { cls := .type "slice", data := .fields #[vl, vu, .none] } }
  exact tail_any (ops := [.ref s3.heap.objs.size, v]) ht hT hg (by with_unfolding_all rfl)
theorem ze_slice {r : V → Option Int → Option Int → Hp → VK → Prop} (hr : SlR X r) (he : ZE X e te) (hl : ZO X lo tl) (hu : ZO X hi th) : ZE X (.Subscript e (.Slice lo hi none p2) pos) (tSl r te tl th) := by with_unfolding_all exact pe_slice hr he hl hu

noncomputable def cutV (xs : List V) (lo hi : Option Int) : List V := (xs.drop (HT.sIx xs.length 0 lo)).take (HT.sIx xs.length xs.length hi - HT.sIx xs.length 0 lo)
theorem cutV_length (xs : List V) (lo hi : Option Int) : (cutV xs lo hi).length ≤ xs.length := by
  unfold cutV
  rw [List.length_take, List.length_drop]
  omega
noncomputable def rSlT (K : PySem.W.Frag) : V → Option Int → Option Int → Hp → VK → Prop := fun x lo hi H Q => ∃ a xs, x = .ref a ∧ SqT K H a xs ∧
  ¬ (HT.sIx xs.length 0 lo = 0 ∧ HT.sIx xs.length xs.length hi = xs.length) ∧ ∀ p, H p = none → Q (.ref p) (upd H p (.tup (cutV xs lo hi)))
theorem sl_tup : SlR X (rSlT X.K) := by
  intro pins s σ H x v vl vu lo hi sl Q I rx hs pl pu h
  obtain ⟨a, xs, rfl, hx, hw, q⟩ := h
  cases rx
  obtain ⟨its, r, ht, hz⟩ := I.tuple hx
  have hlen : its.toArray.size = xs.length := by rw [List.size_toArray]; exact r.length.symm
  refine ⟨"tuple", _, PyProof.Rows.slot_tuple_getitem.lookup, ht.typeIs, ?_⟩
  refine HT.getItem_tuple_cut ht hs pl pu (by rw [hlen]; exact hw) ?_ (by rw [hlen]; exact hz)
  rw [hlen]
  refine ⟨.ref s.heap.objs.size, _, I.laid (t' := s.toks) (o := .tup (cutV xs lo hi)) (fun b ob q => Heap.get?_push_of_some _ q) (Nat.le_refl _) ?_, rfl, q _ (I.hok.fresh (Nat.le_refl _))⟩
  exact ⟨Nat.le_trans (cutV_length xs lo hi) hz, _, (r.drop (HT.sIx xs.length 0 lo)).take (HT.sIx xs.length xs.length hi - HT.sIx xs.length 0 lo), TupD.new _ _⟩

noncomputable def rCatT (K : PySem.W.Frag) : R2 := fun x y H Q => ∃ a b xs ys, x = .ref a ∧ y = .ref b ∧ SqT K H a xs ∧ SqT K H b ys ∧ xs ≠ [] ∧ xs.length + ys.length ≤ sizeLine ∧
  (ys = [] → Q (.ref a) H) ∧ (ys ≠ [] → ∀ p, H p = none → Q (.ref p) (upd H p (.tup (xs ++ ys))))
theorem Vals.nil_iff {xs : List V} {us : List Value} (r : Vals xs us) : us = [] ↔ xs = [] := by
  cases r with
  | nil => simp
  | cons _ _ => simp
theorem op_catT : OpR X (binaryOp .Add) (rCatT X.K) := by
  intro pins s σ H x y v u Q I rx ry h
  obtain ⟨a, b, xs, ys, rfl, rfl, ha, hb, hx, hz, q1, q2⟩ := h
  cases rx
  cases ry
  obtain ⟨its, r1, p1, _⟩ := I.tuple ha
  obtain ⟨its2, r2, p2, _⟩ := I.tuple hb
  refine HT.cat_tup p1 p2 (fun z => hx (r1.nil_iff.mp z)) (fun z => ⟨.ref a, H, I, rfl, q1 (r2.nil_iff.mp z)⟩) (fun z => ?_) (by rw [← r1.length, ← r2.length]; exact hz)
  refine ⟨.ref s.heap.objs.size, _, I.laid (t' := s.toks) (o := .tup (xs ++ ys)) (fun b ob q => Heap.get?_push_of_some _ q) (Nat.le_refl _) ?_, rfl, q2 (fun w => z (r2.nil_iff.mpr w)) _ (I.hok.fresh (Nat.le_refl _))⟩
  exact ⟨by rw [List.length_append]; exact hz, _, r1.append r2, TupD.new _ _⟩
end
end L2
namespace L2
open PySem PySem.Spec PyProof.Rows
noncomputable def ixN (n : Nat) (i : Int) : Option Nat := if 0 ≤ i then (if i < n then some i.toNat else none) else if -(n : Int) ≤ i then some (i + n).toNat else none
noncomputable def atI {α : Type} (xs : List α) (i : Int) : Option α := (ixN xs.length i).bind fun j => xs[j]?
theorem ixN_seq {n : Nat} {i : Int} {j : Nat} (h : ixN n i = some j) : seqIndex? i n = some j ∧ j < n ∧ -(n : Int) ≤ i ∧ i < n := by
  unfold ixN at h
  by_cases h0 : 0 ≤ i
  · rw [if_pos h0] at h
    by_cases h1 : i < n
    · rw [if_pos h1] at h
      have e : i.toNat = j := Option.some.inj h
      exact ⟨by rw [seqIndex_of h0 h1, e], by omega, by omega, h1⟩
    · rw [if_neg h1] at h; cases h
  · rw [if_neg h0] at h
    by_cases h1 : -(n : Int) ≤ i
    · rw [if_pos h1] at h
      have e : (i + n).toNat = j := Option.some.inj h
      exact ⟨by rw [seqIndex_neg (by omega) h1, e], by omega, h1, by omega⟩
    · rw [if_neg h1] at h; cases h
theorem atI_get {α : Type} {xs : List α} {i : Int} {v : α} (h : atI xs i = some v) : ∃ j, seqIndex? i xs.length = some j ∧ xs[j]? = some v ∧ j < xs.length ∧ -(xs.length : Int) ≤ i ∧ i < xs.length := by
  unfold atI at h
  cases e : ixN xs.length i with
  | none => rw [e] at h; cases h
  | some j =>
    rw [e] at h
    obtain ⟨h1, h2, h3, h4⟩ := ixN_seq e
    exact ⟨j, h1, h, h2, h3, h4⟩
theorem atI_nat {α : Type} {xs : List α} {j : Nat} {v : α} (h : xs[j]? = some v) : atI xs (j : Int) = some v := by
  have hj : j < xs.length := (List.getElem?_eq_some_iff.mp h).1
  have e : ixN xs.length (j : Int) = some j := by
    unfold ixN
    rw [if_pos (by omega), if_pos (by omega)]; simp
  unfold atI; rw [e]; exact h
theorem atI_last {α : Type} (xs : List α) (v : α) : atI (xs ++ [v]) (-1) = some v := by
  have hl : (xs ++ [v]).length = xs.length + 1 := by simp
  have e : ixN (xs ++ [v]).length (-1) = some xs.length := by
    unfold ixN
    rw [hl, if_neg (by decide), if_pos (by omega)]
    congr 1
    omega
  unfold atI
  rw [e]
  show (xs ++ [v])[xs.length]? = some v
  simp

noncomputable def PlainIx (b : Expr) : Prop := ∀ o i, subscripted b false o i = operate [o, i] (getItem o i)
noncomputable def IxR (X : Cx) (r : R2) : Prop :=
  ∀ (value slice : Expr) (pins : List (Addr × Obj)) (s : Shared) (σ : St) (H : Hp) (x y : V) (v u : Value) (Q : VK), Inv X pins σ H s → RelV x v → RelV y u → r x y H Q →
    subscripted slice false v u = operate [v, u] (getItem v u) → wpAny (model X.prog X.w) X.A (subscriptTail value slice v u) (EP X pins σ Q) X.xe s
noncomputable def MtR (X : Cx) (id : String) (r : V → List V → Hp → VK → Prop) : Prop :=
  ∀ (pins : List (Addr × Obj)) (s : Shared) (σ : St) (H : Hp) (x : V) (xs : List V) (v : Value) (us : List Value) (Q : VK), Inv X pins σ H s → RelV x v → Vals xs us → r x xs H Q →
    wpAny (model X.prog X.w) X.A (call (.builtin id) (v :: us)) (EP X pins σ Q) X.xe s
section
variable {X : Cx} {a b : Expr} {ta tb : TE} {pos : Pos}
theorem pe_ix {r : R2} (hr : IxR X r) (ha : PE X a ta) (hb : PE X b tb) (hs : PlainIx b) : PE X (.Subscript a b pos) (tOp r ta tb) := by
  intro pins s σ H Q I h
  exact Subscript_ (binT ha hb I h fun v u s2 x y H2 I2 rx ry q => hr a b pins s2 σ H2 x y v u Q I2 rx ry q (hs _ _))
theorem ze_ix {r : R2} (hr : IxR X r) (ha : ZE X a ta) (hb : ZE X b tb) (hs : PlainIx b) : ZE X (.Subscript a b pos) (tOp r ta tb) := by with_unfolding_all exact pe_ix hr ha hb hs

noncomputable def rIxL (K : PySem.W.Frag) : R2 := fun x y H Q => ∃ p xs i v, x = .ref p ∧ y = .int i ∧ SqL K H p xs ∧ atI xs i = some v ∧ Q v H
noncomputable def rIxT (K : PySem.W.Frag) : R2 := fun x y H Q => ∃ p xs i v, x = .ref p ∧ y = .int i ∧ SqT K H p xs ∧ atI xs i = some v ∧ Q v H
noncomputable def rIxS : R2 := fun x y H Q => ∃ z i c, x = .str z ∧ y = .int i ∧ z.length ≤ sizeLine ∧ atI z.cps.toList i = some c ∧ Q (.str ⟨#[c]⟩) H
theorem ix_list : IxR X (rIxL X.K) := by
  intro value slice pins s σ H x y v u Q I rx ry h hs
  obtain ⟨p, xs, i, z, rfl, rfl, hq, he, q⟩ := h
  cases rx
  obtain ⟨t, rfl⟩ := ry
  obtain ⟨its, r, pl, hz⟩ := I.list hq
  obtain ⟨j, h1, h2, h3, h4, h5⟩ := atI_get he
  obtain ⟨w, ew, rw'⟩ := r.get h2
  have hl := r.length
  have hn := line63
  have fin : EP X pins σ Q w s := ⟨z, H, I, rw', q⟩
  by_cases h0 : 0 ≤ i
  · have hj : i.toNat = j := by
      rw [seqIndex_of h0 h5] at h1
      exact Option.some.inj h1
    exact item_listR pl.isList h0 (by omega) (by rw [hj]; simpa using ew) fin hs
  · have hj : (i + (its.toArray.size : Int)).toNat = j := by
      rw [seqIndex_neg (by omega) h4] at h1
      rw [List.size_toArray, ← hl]
      exact Option.some.inj h1
    exact subscriptTail_builtinR (x := w) pl.isList.typeIs slot_list_getitem.lookup
      (wpAny_getItem_list_neg (Q := fun r s' => r = w ∧ EP X pins σ Q r s') pl.isList (by omega) (by rw [List.size_toArray] <;> omega) (by omega) (by rw [hj]; simpa using ew) ⟨rfl, fin⟩) hs
theorem ix_tup : IxR X (rIxT X.K) := by
  intro value slice pins s σ H x y v u Q I rx ry h hs
  obtain ⟨p, xs, i, z, rfl, rfl, hq, he, q⟩ := h
  cases rx
  obtain ⟨t, rfl⟩ := ry
  obtain ⟨its, r, pl, hz⟩ := I.tuple hq
  obtain ⟨j, h1, h2, h3, h4, h5⟩ := atI_get he
  obtain ⟨w, ew, rw'⟩ := r.get h2
  have hl := r.length
  have hn := line63
  have fin : EP X pins σ Q w s := ⟨z, H, I, rw', q⟩
  exact subscriptTail_builtinR (x := w) pl.typeIs slot_tuple_getitem.lookup
    (getItem_tuple (j := j) (Q := fun r s' => r = w ∧ EP X pins σ Q r s') pl (by omega) (by omega) (by rw [List.size_toArray, ← hl]; exact h1) (by simpa using ew) ⟨rfl, fin⟩) hs
theorem ix_str : IxR X rIxS := by
  intro value slice pins s σ H x y v u Q I rx ry h hs
  obtain ⟨z, i, c, rfl, rfl, hz, he, q⟩ := h
  obtain ⟨t, rfl⟩ := rx
  obtain ⟨t', rfl⟩ := ry
  obtain ⟨j, h1, h2, h3, h4, h5⟩ := atI_get he
  have hl : z.cps.toList.length = z.length := by simp [Str.length]
  rw [hl] at h1 h4 h5
  have hn := line63
  exact tail_any (typeIs_str s z t) slot_str_getitem.lookup (getItem_str (c := c) (by
    have e1 : decide (i < -(2 ^ 63 : Int)) = false := decide_eq_false (by omega)
    have e2 : decide (i ≥ 2 ^ 63) = false := decide_eq_false (by omega)
    rw [e1, e2, Bool.or_false]) (by rw [h1]; simpa using h2) ⟨.str ⟨#[c]⟩, H, I.tok _, ⟨_, rfl⟩, q⟩) hs
theorem mapSeq_set (its : List Value) (n j : Nat) (u : Value) : Obj.mapSeq (·.setIfInBounds j u) { cls := .type "list", data := .seq its.toArray n } = { cls := .type "list", data := .seq (its.set j u).toArray n } := by
  simp [Obj.mapSeq]
theorem Inv.lst {pins : List (Addr × Obj)} {σ : St} {H : Hp} {s : Shared} {p : Addr} {xs : List V} (I : Inv X pins σ H s) (h : H p = some (.lst xs)) :
    ∃ (its : List Value) (n : Nat), Vals xs its ∧ s.heap.get? p = some { cls := .type "list", data := .seq its.toArray n } ∧ xs.length ≤ sizeLine := by
  obtain ⟨z, its, n, r, e⟩ := I.hok p _ h
  exact ⟨its, n, r, e, z⟩
theorem Inv.lstUpd {pins : List (Addr × Obj)} {σ : St} {H : Hp} {s : Shared} {p : Addr} {xs ys : List V} {its its' : List Value} {n n' : Nat} {f : Obj → Obj} (I : Inv X pins σ H s) (h : H p = some (.lst xs))
    (ho : s.heap.get? p = some { cls := .type "list", data := .seq its.toArray n }) (hf : f { cls := .type "list", data := .seq its.toArray n } = { cls := .type "list", data := .seq its'.toArray n' }) (r : Vals ys its') (hz : ys.length ≤ sizeLine) (t : Nat) :
    Inv X pins σ (upd H p (.lst ys)) { s with heap := s.heap.update p f, toks := t } := by
  have e : (s.heap.update p f).get? p = some { cls := .type "list", data := .seq its'.toArray n' } := by
    rw [Heap.get?_update_self f ho (by rw [hf] <;> rfl), hf]
  refine I.write (x := p) (e := p) (by rw [h]; trivial) (.inl rfl) (fun b u hb q => (Heap.get?_update_other _ _ (Ne.symm hb)).trans q) ⟨_, e⟩ ?_
  exact ⟨hz, its', n', r, e⟩
noncomputable def rSetL : V → V → V → Hp → (Hp → Prop) → Prop := fun o i v H Q => ∃ p xs k j, o = .ref p ∧ i = .int k ∧ H p = some (.lst xs) ∧ ixN xs.length k = some j ∧ Q (upd H p (.lst (xs.set j v)))
theorem set_list : PSet X rSetL := by
  intro pins s σ H o i v ov iv u Q I ro ri rv h
  obtain ⟨p, xs, k, j, rfl, rfl, hp, hj, q⟩ := h
  cases ro
  obtain ⟨t, rfl⟩ := ri
  obtain ⟨its, n, r, ho, hz⟩ := I.lst hp
  obtain ⟨h1, h2, h3, h4⟩ := ixN_seq hj
  have hl := r.length
  have hn := line63
  have I' : Inv X pins σ (upd H p (.lst (xs.set j v))) { s with heap := s.heap.update p (Obj.mapSeq (·.setIfInBounds j u)) } :=
    I.lstUpd hp ho (mapSeq_set its n j u) (r.set rv j) (by rw [List.length_set]; exact hz) s.toks
  by_cases h0 : 0 ≤ k
  · have hk : k.toNat = j := by
      rw [seqIndex_of h0 h4] at h1
      exact Option.some.inj h1
    exact PySem.W.ki_setAt ho h0 (by omega) (by rw [List.size_toArray, ← hl]; exact h4) (by rw [hk]; exact ⟨_, I', q⟩)
  · have hk : (k + (its.toArray.size : Int)).toNat = j := by
      rw [seqIndex_neg (by omega) h3] at h1
      rw [List.size_toArray, ← hl]
      exact Option.some.inj h1
    exact PySem.W.ki_setBack ho (by omega) (by rw [List.size_toArray, ← hl]; exact h3) (by omega) (by rw [hk]; exact ⟨_, I', q⟩)

theorem slice_bounds (lo hi : Option Int) (n : Nat) : (sliceBounds lo hi none n).1 = ((HT.sIx n 0 lo : Nat) : Int) ∧ (sliceBounds lo hi none n).2.1 = ((HT.sIx n n hi : Nat) : Int) ∧ (sliceBounds lo hi none n).2.2 = 1 := by
  refine ⟨?_, ?_, rfl⟩
  · cases lo with
    | none => simp [sliceBounds, HT.sIx]
    | some i =>
      simp only [sliceBounds, HT.sIx, Option.getD_none, show (1 : Int) > 0 by decide, if_true]
      by_cases h : i < 0
      · simp only [h, if_true] <;> omega
      · simp only [h, if_false] <;> omega
  · cases hi with
    | none => simp [sliceBounds, HT.sIx]
    | some i =>
      simp only [sliceBounds, HT.sIx, Option.getD_none, show (1 : Int) > 0 by decide, if_true]
      by_cases h : i < 0
      · simp only [h, if_true] <;> omega
      · simp only [h, if_false] <;> omega
theorem slicePick_cut (its : List Value) (lo hi : Option Int) : slicePick its.toArray lo hi none = ((its.drop (HT.sIx its.length 0 lo)).take (HT.sIx its.length its.length hi - HT.sIx its.length 0 lo)).toArray := by
  obtain ⟨h1, h2, h3⟩ := slice_bounds lo hi its.toArray.size
  unfold slicePick
  rw [h1, h2, h3]
  simp only [sliceRange_one, pick_run, List.size_toArray] <;> rfl
noncomputable def rSlL (K : PySem.W.Frag) : V → Option Int → Option Int → Hp → VK → Prop := fun x lo hi H Q => ∃ a xs, x = .ref a ∧ SqL K H a xs ∧ ∀ p, H p = none → Q (.ref p) (upd H p (.lst (cutV xs lo hi)))
theorem sl_list : SlR X (rSlL X.K) := by
  intro pins s σ H x v vl vu lo hi sl Q I rx hs pl pu h
  obtain ⟨a, xs, rfl, hx, q⟩ := h
  cases rx
  obtain ⟨its, r, ht, hz⟩ := I.list hx
  have hlen := r.length
  refine ⟨"list", _, slot_list_getitem.lookup, ht.isList.typeIs, ?_⟩
  refine wpAny_getItem_list_slice ht.isList hs pl pu .none (by simp) ?_ (by rw [List.size_toArray] <;> omega)
  rw [slicePick_cut, ← hlen]
  refine ⟨.ref s.heap.objs.size, _, I.laid (t' := s.toks) (o := .lst (cutV xs lo hi)) (fun b ob q => Heap.get?_push_of_some _ q) (Nat.le_refl _) ?_, rfl, q _ (I.hok.fresh (Nat.le_refl _))⟩
  exact ⟨Nat.le_trans (cutV_length xs lo hi) hz, _, 0, (r.drop (HT.sIx xs.length 0 lo)).take (HT.sIx xs.length xs.length hi - HT.sIx xs.length 0 lo), Heap.get?_push_size _ rfl⟩

noncomputable def flatV : V → Bool
  | .non => true
  | .bl _ => true
  | .int _ => true
  | .str _ => true
  | _ => false
noncomputable def eqV : V → V → Bool
  | .non, .non => true
  | .bl a, .bl b => a == b
  | .bl a, .int b => (if a then 1 else 0) == b
  | .int a, .bl b => a == (if b then 1 else 0)
  | .int a, .int b => a == b
  | .str a, .str b => a == b
  | _, _ => false
theorem eqAt_V {A : Around} {s : Shared} {y x : V} {u v : Value} (ry : RelV y u) (rx : RelV x v) (fy : flatV y = true) (fx : flatV x = true) : SeqAt.EqAt A s u v (eqV y x) := by
  cases y with
  | non =>
    cases ry
    cases x with
    | non => cases rx; exact SeqAt.EqAt.same _
    | bl b => cases rx; exact SeqAt.EqAt.none_bool b
    | int b => obtain ⟨t, rfl⟩ := rx; exact SeqAt.EqAt.none_int b t
    | str b => obtain ⟨t, rfl⟩ := rx; exact SeqAt.EqAt.none_str b t
    | _ => exact absurd (show false = true from fx) Bool.false_ne_true
  | bl a =>
    cases ry
    cases x with
    | non => cases rx; exact SeqAt.EqAt.bool_none a
    | bl b => cases rx; exact SeqAt.EqAt.bool_bool a b
    | int b => obtain ⟨t, rfl⟩ := rx; exact SeqAt.EqAt.bool_int a b t
    | str b => obtain ⟨t, rfl⟩ := rx; exact SeqAt.EqAt.bool_str a b t
    | _ => exact absurd (show false = true from fx) Bool.false_ne_true
  | int a =>
    obtain ⟨t', rfl⟩ := ry
    cases x with
    | non => cases rx; exact SeqAt.EqAt.int_none a t'
    | bl b => cases rx; exact SeqAt.EqAt.int_bool a t' b
    | int b => obtain ⟨t, rfl⟩ := rx; exact SeqAt.EqAt.int_int a t' b t
    | str b => obtain ⟨t, rfl⟩ := rx; exact SeqAt.EqAt.int_str a t' b t
    | _ => exact absurd (show false = true from fx) Bool.false_ne_true
  | str a =>
    obtain ⟨t', rfl⟩ := ry
    cases x with
    | non => cases rx; exact SeqAt.EqAt.str_none a t'
    | bl b => cases rx; exact SeqAt.EqAt.str_bool a t' b
    | int b => obtain ⟨t, rfl⟩ := rx; exact SeqAt.EqAt.str_int a t' b t
    | str b => obtain ⟨t, rfl⟩ := rx; exact SeqAt.EqAt.str_str a t' b t
    | _ => exact absurd (show false = true from fx) Bool.false_ne_true
  | _ => exact absurd (show false = true from fy) Bool.false_ne_true
noncomputable def eqU (x : V) (u : Value) : Bool := match u with
  | .none => eqV .non x
  | .bool b => eqV (.bl b) x
  | .int i _ => eqV (.int i) x
  | .str z _ => eqV (.str z) x
  | _ => false
theorem eqU_of {x y : V} {u : Value} (r : RelV y u) (f : flatV y = true) : eqU x u = eqV y x := by
  cases y with
  | non => cases r; rfl
  | bl b => cases r; rfl
  | int i => obtain ⟨t, rfl⟩ := r; rfl
  | str z => obtain ⟨t, rfl⟩ := r; rfl
  | _ => exact absurd (show false = true from f) Bool.false_ne_true
theorem any_eqU {x : V} : ∀ {xs : List V} {us : List Value}, Vals xs us → xs.all flatV = true → us.any (eqU x) = xs.any fun y => eqV y x
  | _, _, .nil, _ => rfl
  | y :: xs, u :: us, .cons r t, f => by
    rw [List.all_cons, Bool.and_eq_true] at f
    rw [List.any_cons, List.any_cons, eqU_of r f.1, any_eqU t f.2]
theorem mem_eqAt {A : Around} {s : Shared} {x : V} {v : Value} (rx : RelV x v) (fx : flatV x = true) : ∀ {xs : List V} {us : List Value}, Vals xs us → xs.all flatV = true → ∀ u ∈ us, SeqAt.EqAt A s u v (eqU x u)
  | _, _, .nil, _ => fun u hu => by cases hu
  | y :: xs, u :: us, .cons r t, f => fun u' hu => by
    rw [List.all_cons, Bool.and_eq_true] at f
    rcases List.mem_cons.mp hu with rfl | hu
    · rw [eqU_of r f.1]; exact eqAt_V r rx f.1 fx
    · exact mem_eqAt rx fx t f.2 u' hu
noncomputable def inV (x : V) (xs : List V) : Bool := xs.any fun y => eqV y x
noncomputable def rIn (K : PySem.W.Frag) (neg : Bool) : R2 := fun x y H Q => ∃ p xs, y = .ref p ∧ (SqL K H p xs ∨ SqT K H p xs) ∧ flatV x = true ∧ xs.all flatV = true ∧ Q (.bl (if neg then !inV x xs else inV x xs)) H
theorem op_in_seq : OpR X (compareOp .In) (rIn X.K false) := by
  intro pins s σ H x y v u Q I rx ry h
  obtain ⟨p, xs, rfl, hq, fx, fs, q⟩ := h
  cases ry
  rcases hq with hq | hq
  · obtain ⟨its, r, pl, hz⟩ := I.list hq
    refine SeqAt.in_listAt (eqU x) pl.isList (fun w hw => mem_eqAt rx fx r fs w (by simpa using hw)) ⟨.bl _, H, I, rfl, ?_⟩
    rw [show its.toArray.any (eqU x) = its.any (eqU x) by simp, any_eqU r fs]
    exact q
  · obtain ⟨its, r, pl, hz⟩ := I.tuple hq
    refine SeqAt.in_tupleAt (eqU x) pl (fun w hw => mem_eqAt rx fx r fs w (by simpa using hw)) ⟨.bl _, H, I, rfl, ?_⟩
    rw [show its.toArray.any (eqU x) = its.any (eqU x) by simp, any_eqU r fs]
    exact q
theorem call_len_seq : CallR X (.builtin "len") (fun xs H Q => ∃ p ys, xs = [.ref p] ∧ (SqL X.K H p ys ∨ SqT X.K H p ys) ∧ Q (.int ys.length) H) := by
  intro pins s σ H xs us Q I r h
  obtain ⟨p, ys, rfl, hq, q⟩ := h
  obtain ⟨u, rfl, rx⟩ := vals1 r
  cases rx
  have hn := line63
  rcases hq with hq | hq
  · obtain ⟨its, r', pl, hz⟩ := I.list hq
    have hlen := r'.length
    exact Calls.call_len_list pl.isList (by simp only [List.size_toArray] <;> omega) ⟨.int ys.length, H, I.tok _, ⟨s.toks + 1, by rw [List.size_toArray, hlen]⟩, q⟩
  · obtain ⟨its, r', pl, hz⟩ := I.tuple hq
    have hlen := r'.length
    exact len_tuple pl (by simp only [List.size_toArray] <;> omega) ⟨.int ys.length, H, I.tok _, ⟨s.toks + 1, by rw [List.size_toArray, hlen]⟩, q⟩
theorem call_len_str : CallR X (.builtin "len") (fun xs H Q => ∃ z, xs = [.str z] ∧ z.length ≤ sizeLine ∧ Q (.int z.length) H) := by
  intro pins s σ H xs us Q I r h
  obtain ⟨z, rfl, hz, q⟩ := h
  obtain ⟨u, rfl, t, rfl⟩ := vals1 r
  have hn := line63
  exact len_str (by omega) ⟨.int z.length, H, I.tok _, ⟨_, rfl⟩, q⟩
theorem call_list_of : CallR X (.type "list") (fun xs H Q => ∃ p ys, xs = [.ref p] ∧ (SqL X.K H p ys ∨ SqT X.K H p ys) ∧ ∀ l, H l = none → Q (.ref l) (upd H l (.lst ys))) := by
  intro pins s σ H xs us Q I r h
  obtain ⟨p, ys, rfl, hq, q⟩ := h
  obtain ⟨u, rfl, rx⟩ := vals1 r
  cases rx
  have fin : ∀ (its : List Value), Vals ys its → ys.length ≤ sizeLine → ∀ (h' : Heap) (c' : Nat), (∀ b o', s.heap.get? b = some o' → h'.get? b = some o') →
      h'.get? s.heap.objs.size = some { cls := .type "list", dict := none, data := .seq its.toArray c', slots := #[] } → EP X pins σ Q (.ref s.heap.objs.size) { s with heap := h' } := fun its r' hz h' c' kp e =>
    ⟨.ref s.heap.objs.size, _, I.laid (t' := s.toks) kp (Nat.le_refl _) (show ObjOk X.prog X.w _ h' _ (.lst ys) from ⟨hz, its, c', r', e⟩), rfl, q _ (I.hok.fresh (Nat.le_refl _))⟩
  rcases hq with hq | hq
  · obtain ⟨its, r', pl, hz⟩ := I.list hq
    have hlen := r'.length
    obtain ⟨o, ho, hc, n, hd⟩ := pl.isList
    exact call_list_seq p (.inl rfl) ho hc hd (fun h' c' kp e => fin its r' hz h' c' kp e) (by simp only [List.size_toArray] <;> omega)
  · obtain ⟨its, r', pl, hz⟩ := I.tuple hq
    have hlen := r'.length
    obtain ⟨o, ho, hc, n, hd⟩ := pl
    exact call_list_seq p (.inr rfl) ho hc hd (fun h' c' kp e => fin its r' hz h' c' kp e) (by simp only [List.size_toArray] <;> omega)
theorem call_tuple_of : CallR X (.type "tuple") (fun xs H Q => ∃ p ys, xs = [.ref p] ∧ ((SqL X.K H p ys ∧ ∀ l, H l = none → Q (.ref l) (upd H l (.tup ys))) ∨ (SqT X.K H p ys ∧ Q (.ref p) H))) := by
  intro pins s σ H xs us Q I r h
  obtain ⟨p, ys, rfl, h⟩ := h
  obtain ⟨u, rfl, rx⟩ := vals1 r
  cases rx
  rcases h with ⟨hq, q⟩ | ⟨hq, q⟩
  · obtain ⟨its, r', pl, hz⟩ := I.list hq
    have hlen := r'.length
    refine call_tuple_list pl.isList (fun h' kp => ?_) (by simp only [List.size_toArray] <;> omega)
    have I1 : Inv X pins σ H { s with heap := h' } := I.kept (t' := s.toks) kp
    have I2 : Inv X pins σ (upd H h'.objs.size (.tup ys)) { s with heap := h'.push { cls := .type "tuple", data := .seq its.toArray } } :=
      I1.laid (t' := s.toks) (fun b o e => Heap.get?_push_of_some _ e) (Nat.le_refl _) (show ObjOk X.prog X.w _ _ _ (.tup ys) from ⟨hz, its, r', TupD.new _ _⟩)
    exact ⟨.ref h'.objs.size, _, I2, rfl, q _ (I1.hok.fresh (Nat.le_refl _))⟩
  · obtain ⟨its, r', pl, hz⟩ := I.tuple hq
    exact call_tuple_same pl ⟨.ref p, H, I, rfl, q⟩

noncomputable def tyV (K : PySem.W.Frag) (T : String) (x : V) (H : Hp) : Prop := match x with
  | .str _ => T = "str"
  | .int _ => T = "int"
  | .ref p => (T = "list" ∧ ∃ xs, SqL K H p xs) ∨ (T = "tuple" ∧ ∃ o, K.lookup p = some o ∧ o.cls = .type "tuple" ∧ o.dict = none) ∨
      (T = "dict" ∧ ((∃ kvs, H p = some (.dK kvs)) ∨ ∃ kvs, H p = some (.dT kvs))) ∨ (T = "set" ∧ ∃ S n, H p = some (.set S n)) ∨ (T = "tuple" ∧ ∃ xs, H p = some (.tup xs))
  | _ => False
theorem tyV_is {pins : List (Addr × Obj)} {σ : St} {H : Hp} {s : Shared} {T : String} {x : V} {v : Value} (I : Inv X pins σ H s) (r : RelV x v) (ty : tyV X.K T x H) :
    s.TypeIs v T ∧ ∀ a, v = .ref a → ∃ ob, s.heap.get? a = some ob ∧ ob.dict = none := by
  cases x with
  | str z =>
    obtain ⟨t, rfl⟩ := r
    cases (show T = "str" from ty)
    exact ⟨typeIs_str s z t, fun _ e => nomatch e⟩
  | int i =>
    obtain ⟨t, rfl⟩ := r
    cases (show T = "int" from ty)
    exact ⟨typeIs_int s i t, fun _ e => nomatch e⟩
  | ref p =>
    cases r
    rcases ty with ⟨rfl, xs, hq⟩ | ⟨rfl, o, hk, hc, hd⟩ | ⟨rfl, hk⟩ | ⟨rfl, S, n, hk⟩ | ⟨rfl, xs, hk⟩
    · obtain ⟨its, _, pl, _⟩ := I.list hq
      refine ⟨pl.isList.typeIs, fun a e => ?_⟩
      cases e
      obtain ⟨o, n, e, c, hd, _⟩ := pl
      exact ⟨o, e, hd⟩
    · refine ⟨⟨o, I.kIn p o hk, hc⟩, fun a e => ?_⟩
      cases e
      exact ⟨o, I.kIn _ o hk, hd⟩
    · have z : ∃ o, s.heap.get? p = some o ∧ o.ExactDict := by
        rcases hk with ⟨kvs, hk⟩ | ⟨kvs, hk⟩
        · obtain ⟨_, _, _, _, o, _, _, e, ex, _⟩ := I.hok p _ hk
          exact ⟨o, e, ex⟩
        · obtain ⟨_, _, _, _, o, _, _, e, ex, _⟩ := I.hok p _ hk
          exact ⟨o, e, ex⟩
      obtain ⟨o, e, ex⟩ := z
      refine ⟨⟨o, e, ex.1⟩, fun a e2 => ?_⟩
      cases e2
      exact ⟨o, e, ex.2.1⟩
    · obtain ⟨o, _, _, _, e, ex, _⟩ := I.hok p _ hk
      refine ⟨⟨o, e, ex.1⟩, fun a e2 => ?_⟩
      cases e2
      exact ⟨o, e, ex.2.1⟩
    · obtain ⟨_, _, _, n, e⟩ := I.hok p _ hk
      refine ⟨⟨_, e, rfl⟩, fun a e2 => ?_⟩
      cases e2
      exact ⟨_, e, rfl⟩
  | _ => exact False.elim ty
noncomputable def tBM (K : PySem.W.Frag) (T : String) (r : V → List V → Hp → VK → Prop) (to : TE) (t : TA) : TE := fun σ H Q => to σ H fun x H1 => tyV K T x H1 ∧ t σ H1 fun xs H2 => r x xs H2 Q
variable {o e : Expr} {es : List Expr} {to : TE} {t : TA} {name : Str} {apos cpos : Pos} {T id : String} {r : V → List V → Hp → VK → Prop}
theorem pe_bm (pa : PlainAttrs T) (slot : Slot T name id) (hty : typeOf (.builtin id) = pure (.type "method_descriptor")) (hm : MtR X id r) (ho : PE X o to) (ha : PA X (e :: es) t)
    (hbase : attributeBase o name X.env (eval o X.env) = eval o X.env := by rfl)
    (hfew : ((backTo cpos (starEach (e :: es) X.env)).all (fun x => !x.1) && (backToKw cpos (keywordEach [] X.env)).all (fun x => x.1.isSome)
      && decide ((e :: es).length + ([] : List Keyword).length + (if ([] : List Keyword).isEmpty then 0 else 1) < 30)) = true := by rfl)
    (hline : (apos.endLine == cpos.line) = true := by rfl) (hs : starEach (e :: es) X.env = (false, eval e X.env) :: starEach es X.env := by rfl) (hplain : (backTo cpos (starEach es X.env)).any (·.1) = false := by rfl) :
    PE X (.Call (.Attribute o name apos) (e :: es) [] cpos) (tBM X.K T r to t) := by
  intro pins s σ H Q I h
  refine wpAny_Call_method_late hbase hfew hline rfl (thn (ho pins s σ H _ I h) fun v s1 ⟨x, H1, I1, r1, ty, q1⟩ => ?_)
  obtain ⟨h1, h2⟩ := tyV_is I1 r1 ty
  refine ⟨T, id, pa, slot, hty, h1, h2, ?_⟩
  have hA := ha cpos pins s1 σ H1 _ I1 q1
  rw [hs] at hA ⊢
  refine Calls.callWith_builtin (by show (false || (backTo cpos (starEach es X.env)).any (·.1)) = false; rw [hplain] <;> rfl) (Calls.evalArgs_plain ?_)
  exact thn hA fun us s2 ⟨vs, H2, I2, r2, q2⟩ => hm pins s2 σ H2 x vs v us Q I2 r1 r2 q2
/- xs.append(e), list.index on a module's tuple .. are MtR facts of 06m -/
end
end L2
namespace L2
open PySem PySem.Spec PyProof.Rows
noncomputable def MtM (X : Cx) (id : String) (r : V → List V → Hp → VK → Prop) : Prop :=
  ∀ (pins : List (Addr × Obj)) (s : Shared) (σ : St) (H : Hp) (x : V) (xs : List V) (v : Value) (us : List Value) (Q : VK), Inv X pins σ H s → RelV x v → Vals xs us → r x xs H Q →
    wpAny (model X.prog X.w) X.A (call (.builtin id) (v :: us)) (EP X pins σ Q) X.xe s

theorem Vals.one : ∀ {x : V} {us : List Value}, Vals [x] us → ∃ u, us = [u] ∧ RelV x u
  | _, _, .cons r .nil => ⟨_, rfl, r⟩
theorem Vals.eraseIdx : ∀ {xs : List V} {us : List Value} (i : Nat), Vals xs us → Vals (xs.eraseIdx i) (us.eraseIdx i)
  | _, _, _, .nil => .nil
  | _, _, 0, .cons _ t => t
  | _, _, i + 1, .cons r t => .cons r (Vals.eraseIdx i t)
theorem Vals.rep {xs : List V} {us : List Value} (h : Vals xs us) : ∀ k : Nat, Vals (List.replicate k xs).flatten (List.replicate k us).flatten
  | 0 => .nil
  | k + 1 => by
    rw [List.replicate_succ, List.replicate_succ, List.flatten_cons, List.flatten_cons]
    exact Vals.append h (Vals.rep h k)
theorem len_erase {α : Type} : ∀ (l : List α) (i : Nat), (l.eraseIdx i).length ≤ l.length
  | [], _ => Nat.le_refl _
  | _ :: _, 0 => Nat.le_succ _
  | _ :: r, i + 1 => Nat.succ_le_succ (len_erase r i)
theorem foldl_rep (its : List Value) : ∀ (k : Nat) (acc : List Value),
    List.foldl (fun x1 x2 => x1 ++ x2) acc.toArray (List.replicate k its.toArray) = (acc ++ (List.replicate k its).flatten).toArray
  | 0, acc => by simp
  | k + 1, acc => by
    have e : acc.toArray ++ its.toArray = (acc ++ its).toArray := by simp
    have e2 : (acc ++ its) ++ (List.replicate k its).flatten = acc ++ (List.replicate (k + 1) its).flatten := by
      rw [List.replicate_succ, List.flatten_cons, List.append_assoc]
    rw [← e2, ← foldl_rep its k (acc ++ its), ← e, List.replicate_succ, List.foldl_cons]

section
variable {X : Cx} {pins : List (Addr × Obj)} {σ : St} {H : Hp} {s : Shared} {l b : Addr} {xs ys zs : List V}
theorem Inv.lset {its its' : List Value} {n : Nat} {f : Array Value → Array Value} {t' : Nat} (I : Inv X pins σ H s) (hH : H l = some (.lst xs))
    (e : s.heap.get? l = some { cls := .type "list", data := .seq its.toArray n }) (hf : f its.toArray = its'.toArray) (hv : Vals ys its') (hz : ys.length ≤ sizeLine) :
    Inv X pins σ (upd H l (.lst ys)) { s with heap := s.heap.update l (Obj.mapSeq f), toks := t' } := by
  have q := PySem.IsL.update e f
  rw [hf] at q
  refine I.write (x := l) (e := l) (by rw [hH]; exact trivial) (.inl rfl) (fun b' u hb hu => (Heap.get?_update_other s.heap (Obj.mapSeq f) (Ne.symm hb)).trans hu) ⟨_, q⟩ ?_
  exact ⟨hz, its', _, hv, q⟩
theorem Inv.lnew {its : List Value} {t' : Nat} (I : Inv X pins σ H s) (hv : Vals ys its) (hz : ys.length ≤ sizeLine) :
    Inv X pins σ (upd H s.heap.objs.size (.lst ys)) { s with heap := s.heap.push { cls := .type "list", data := .seq its.toArray }, toks := t' } :=
  I.laid (fun _ _ q => Heap.get?_push_of_some _ q) (Nat.le_refl _) ⟨hz, its, 0, hv, Heap.get?_push_size _ rfl⟩
theorem Inv.fresh (I : Inv X pins σ H s) : H s.heap.objs.size = none := I.hok.fresh (Nat.le_refl _)
theorem Inv.lstM (I : Inv X pins σ H s) (hH : H l = some (.lst xs)) : xs.length ≤ sizeLine ∧ ∃ (its : List Value) (n : Nat), Vals xs its ∧ xs.length = its.length ∧ s.heap.get? l = some { cls := .type "list", data := .seq its.toArray n } := by
  obtain ⟨z, its, n, r, e⟩ := I.hok l _ hH
  exact ⟨z, its, n, r, r.length, e⟩

theorem notLongL {n : Nat} (h : n ≤ sizeLine) : Builtin.List.listTooLong n = false := by
  unfold Builtin.List.listTooLong
  exact decide_eq_false (by omega)
end
section
variable {X : Cx}
noncomputable def rAppend : V → List V → Hp → VK → Prop := fun x vs H Q => ∃ l xs y, x = .ref l ∧ vs = [y] ∧ H l = some (.lst xs) ∧ xs.length < sizeLine ∧ Q .non (upd H l (.lst (xs ++ [y])))
theorem mt_append : MtM X "list.append" rAppend := by
  intro pins s σ H x vs v us Q I rx rv h
  obtain ⟨l, xs, y, rfl, rfl, hH, hz, q⟩ := h
  cases rx
  obtain ⟨u, rfl, ru⟩ := rv.one
  obtain ⟨z, its, n, r, hl, e⟩ := I.lstM hH
  refine call_meets F.slot_list_append ⟨_, e, rfl⟩ F.entry_list_append (F.args_list_append_2 _ _) (PySem.list_append l its.toArray n u (by rw [List.size_toArray]; omega)) ⟨e, ?_⟩
  refine ⟨.non, _, I.lset (its' := its ++ [u]) hH e (by simp) (r.append (.cons ru .nil)) ?_, rfl, q⟩
  rw [List.length_append, List.length_singleton]
  omega

noncomputable def rExtend : V → List V → Hp → VK → Prop := fun x vs H Q => ∃ l b xs zs, x = .ref l ∧ vs = [.ref b] ∧ H l = some (.lst xs) ∧ H b = some (.lst zs) ∧ xs.length + zs.length ≤ sizeLine ∧ Q .non (upd H l (.lst (xs ++ zs)))
theorem mt_extend : MtM X "list.extend" rExtend := by
  intro pins s σ H x vs v us Q I rx rv h
  obtain ⟨l, b, xs, zs, rfl, rfl, hH, hB, hz, q⟩ := h
  cases rx
  obtain ⟨u, rfl, ru⟩ := rv.one
  cases ru
  obtain ⟨z, its, n, r, hl, e⟩ := I.lstM hH
  obtain ⟨z2, its2, n2, r2, hl2, e2⟩ := I.lstM hB
  have hsz : its.toArray.size + its2.toArray.size ≤ sizeLine := by rw [List.size_toArray, List.size_toArray]; omega
  have hlong : ¬ (!its.toArray.isEmpty && Builtin.List.listTooLong (its.toArray.size + its2.toArray.size)) = true := by
    rw [notLongL hsz, Bool.and_false]
    exact Bool.false_ne_true
  refine call_meets F.slot_list_extend ⟨_, e, rfl⟩ F.entry_list_extend (F.args_list_extend_2 _ _)
    (AutoSeq1.list_extend_list_list_0 l its.toArray n b its2.toArray n2 hlong (by rw [List.size_toArray]; omega) (by omega)) ⟨e, e2, ?_⟩
  refine ⟨.non, _, I.lset (its' := its ++ its2) hH e (by simp) (r.append r2) ?_, rfl, q⟩
  rw [List.length_append]
  omega

noncomputable def rPopAt : V → List V → Hp → VK → Prop := fun x vs H Q => ∃ l xs i k y, x = .ref l ∧ vs = [.int i] ∧ H l = some (.lst xs) ∧ -(2 ^ 63) ≤ i ∧ i < 2 ^ 63 ∧ seqIndex? i xs.length = some k ∧ xs[k]? = some y ∧ Q y (upd H l (.lst (xs.eraseIdx k)))
theorem mt_popAt : MtM X "list.pop" rPopAt := by
  intro pins s σ H x vs v us Q I rx rv h
  obtain ⟨l, xs, i, k, y, rfl, rfl, hH, h1, h2, hk, hy, q⟩ := h
  cases rx
  obtain ⟨u, rfl, ru⟩ := rv.one
  obtain ⟨t, rfl⟩ := ru
  obtain ⟨z, its, n, r, hl, e⟩ := I.lstM hH
  obtain ⟨w, hw, rw'⟩ := r.get hy
  refine call_meets F.slot_list_pop ⟨_, e, rfl⟩ F.entry_list_pop (F.args_list_pop_2 _ _)
    (MeetsSeq.list_pop_at l its.toArray n i t k w (fitsIndex_both h1 h2) (by rw [List.size_toArray, ← hl]; exact hk) (by rw [← Array.getElem?_toList]; exact hw) (by rw [List.size_toArray]; omega)) ⟨e, ?_⟩
  refine ⟨y, _, I.lset (its' := its.eraseIdx k) hH e ?_ (r.eraseIdx k) ?_, rw', q⟩
  · show its.toArray.eraseIdxIfInBounds k = (its.eraseIdx k).toArray
    rw [List.eraseIdxIfInBounds_toArray]
  · have := len_erase xs k
    omega

noncomputable def rCat : R2 := fun x y H Q => ∃ l b xs zs, x = .ref l ∧ y = .ref b ∧ H l = some (.lst xs) ∧ H b = some (.lst zs) ∧ xs.length + zs.length ≤ sizeLine ∧ ∀ p, H p = none → Q (.ref p) (upd H p (.lst (xs ++ zs)))
theorem op_cat : OpR X (binaryOp .Add) rCat := by
  intro pins s σ H x y v u Q I rx ry h
  obtain ⟨l, b, xs, zs, rfl, rfl, hH, hB, hz, q⟩ := h
  cases rx
  cases ry
  obtain ⟨z, its, n, r, hl, e⟩ := I.lstM hH
  obtain ⟨z2, its2, n2, r2, hl2, e2⟩ := I.lstM hB
  refine PySem.P.add_list e e2 ?_ (by rw [List.size_toArray, List.size_toArray]; omega)
  have ea : its.toArray ++ its2.toArray = (its ++ its2).toArray := by simp
  rw [ea]
  exact ⟨.ref _, _, I.lnew (t' := s.toks) (r.append r2) (by rw [List.length_append]; omega), rfl, q _ I.fresh⟩
noncomputable def rRep : R2 := fun x y H Q => ∃ l k xs, x = .ref l ∧ y = .int k ∧ H l = some (.lst xs) ∧ -(2 ^ 63) ≤ k ∧ k < 2 ^ 63 ∧ xs.length * k.toNat ≤ sizeLine ∧
  ∀ p, H p = none → Q (.ref p) (upd H p (.lst (List.replicate k.toNat xs).flatten))
theorem len_rep {α : Type} (xs : List α) (k : Nat) : (List.replicate k xs).flatten.length = k * xs.length := by
  induction k with
  | zero => simp
  | succ k ih => rw [List.replicate_succ, List.flatten_cons, List.length_append, ih, Nat.succ_mul, Nat.add_comm]
theorem op_rep : OpR X (binaryOp .Mult) rRep := by
  intro pins s σ H x y v u Q I rx ry h
  obtain ⟨l, k, xs, rfl, rfl, hH, h1, h2, hz, q⟩ := h
  cases rx
  obtain ⟨t, rfl⟩ := ry
  obtain ⟨z, its, n, r, hl, e⟩ := I.lstM hH
  have hlen : its.toArray.size * k.toNat ≤ sizeLine := by rw [List.size_toArray, ← hl]; exact hz
  have hcap : ¬ its.toArray.size * k.toNat > (2 ^ 63 - 1) / 8 := by
    have : (sizeLine : Nat) ≤ (2 ^ 63 - 1) / 8 := by decide
    omega
  have hfit : ¬ (!Builtin.List.listFitsIndex k) = true := by
    rw [fitsIndex_both h1 h2]
    exact Bool.false_ne_true
  have hlong : ¬ Builtin.List.listTooLong (its.toArray.size * k.toNat) = true := by
    rw [notLongL hlen]
    exact Bool.false_ne_true
  have hnew : List.foldl (fun x1 x2 => x1 ++ x2) #[] (List.replicate (if its.toArray.isEmpty = true then 0 else k.toNat) its.toArray) = (List.replicate k.toNat its).flatten.toArray := by
    have f0 : ∀ m : Nat, List.foldl (fun x1 x2 => x1 ++ x2) #[] (List.replicate m its.toArray) = (List.replicate m its).flatten.toArray := fun m => by
      have := foldl_rep its m []
      rw [List.nil_append] at this
      exact this
    rw [f0]
    cases its with
    | nil => simp
    | cons a r' => rw [if_neg (by simp)]
  refine wpAny_binaryOp_repeat_ref (T := "list") (U := "int") (by decide) ⟨_, e, rfl⟩ (fun s' => typeIs_int s' k t) noFill_list_mul F.fills_int_mul F.slot_int_rmul repeat_list F.slot_int_index.lookup
    (call_meets F.slot_int_rmul (typeIs_int s k t) F.entry_int_rmul (F.args_int_rmul_2 _ _) (int___rmul___int_list k t l its.toArray n)
      ⟨e, rfl, ⟨_, e, rfl⟩, call_meets F.slot_list_mul ⟨_, e, rfl⟩ F.entry_list_mul (F.args_list_mul_2 _ _) (AutoListH.list___mul___list_int_3 l its.toArray n k t hfit hcap hlong) ⟨e, ?_⟩⟩)
  rw [hnew]
  exact ⟨.ref _, _, I.lnew (t' := s.toks) (r.rep k.toNat) (by rw [len_rep, Nat.mul_comm]; exact hz), rfl, q _ I.fresh⟩

end
section
variable {prog : Program} {w : World} {A : Around} {E : Value → Shared → Prop} {s : Shared}
end
section
variable {X : Cx}
end
end L2
namespace Att
open PySem PySem.W PySem.Calls PyProof.Rows
theorem ints_of_wellAll {P : Params} {h : Heap} : ∀ (ns : List Int) (vs : List Value), WellAll P h vs (ns.map WData.int) → IntsAre vs ns := by
  intro ns
  induction ns with
  | nil =>
    intro vs w
    rw [List.map_nil] at w
    cases w
    exact .nil
  | cons n ns ih =>
    intro vs w
    rw [List.map_cons] at w
    cases w with
    | cons a b =>
      cases a
      exact .cons _ _ (ih _ b)

theorem script_of {l : OpenLaw} {n : Nat} (hn : l.most = some n) {P : Params} {h : Heap} {args : List WData} {vals : List Value}
    (hpre : l.row.toRowW.claim.pre args = true) (hwl : WellAll P h vals args) :
    ∃ a vs ns, vals = [Value.ref a] ∧ args = [WData.list (ns.map WData.int)] ∧ h.get? a = some { cls := .type "list", data := .seq vs.toArray } ∧ IntsAre vs ns ∧ ns.length ≤ n := by
  have hsh : WShape.hasAll [] args [.list .int] = true := (pre_splitW hpre).1
  have hc : l.pre.holds [] { args := args } = true := (pre_splitW hpre).2
  obtain ⟨d, r, rfl, h1, h2⟩ := hasAllW_cons hsh
  obtain rfl := hasAllW_nil h2
  obtain ⟨xs, rfl, h3⟩ := hasW_list h1
  obtain ⟨ns, rfl⟩ := items_int h3
  have hlen : ns.length ≤ n := by
    unfold OpenLaw.pre at hc
    have h4 : (WTm.not (.lt (.lit (.int (n : Int))) (.len (.arg 0)))).holds [] { args := [.list (ns.map .int)] } = true := by
      have h4 := (holds_andW hc).1
      rw [hn] at h4
      exact h4
    have h5 := condW_of h4 (w_not (w_lt w_lit (w_len_list (w_arg rfl))))
    rw [List.length_map] at h5
    refine Nat.le_of_not_lt fun q => ?_
    have q' : (n : Int) < ((ns.length : Nat) : Int) := by omega
    first
      | (rw [decide_eq_true q'] at h5; exact absurd h5 (by decide))
      | (simp at h5; omega)
  cases hwl with
  | cons w1 w2 =>
    cases w2
    cases w1 with
    | list ho hall => exact ⟨_, _, ns, rfl, rfl, ho, ints_of_wellAll ns _ hall, hlen⟩

theorem post_true (l : OpenLaw) (args : List WData) : l.row.toRowW.claim.post args (.bool true) args = true :=
  postW_of (r := l.row.toRowW) (X := (true == true))
    (show WShape.has [] (.bool true) .bool = true by first | rfl | decide | simp [WShape.has, WShape.arms, WShape.armsAll])
    (show (WTm.eq .res (.lit (.bool true))).value [] { args := args, res := some (.bool true), after := args } = some (.bool (true == true)) from w_eq_bool (w_res rfl) w_lit) rfl

theorem attach_call {l : OpenLaw} {n : Nat} {q : Program} {loose : List Str} {XP : (Str → Option Value) → Heap → Prop} {YP : World → Heap → Prop} {d : DefRec}
    (hn : l.most = some n) (hdf : d.params.defaults = [])
    (call : ∀ (w : World) (s₀ s₁ : Shared) (mg mb : Str → Option Value) (fa : Addr) (o : Obj) (pm cd doc : Value) (a : Addr) (vs : List Value) (ns : List Int),
      Ground q loose [] XP w s₀ mg mb s₁.heap → YP w s₁.heap →
      s₁.heap.get? fa = some o → o.data = .func (docDef d.name d.params d.body d.scope pm cd doc) → s₁.heap.CodeRec cd d.name → mg d.name = some (.ref fa) →
      s₁.heap.get? a = some { cls := .type "list", data := .seq vs.toArray } → IntsAre vs ns → ns.length ≤ n → s₁.gens = #[] →
      codeAny (model l.prog w) callerA (.call (.ref fa) ⟨[.ref a], []⟩) (fun r s' => r = .ok (.ret (.bool true)) ∧ OldK s₁.heap s'.heap ∧ s'.os = s₁.os ∧ AllBare s'.gens) s₁) :
    WalkO q loose XP YP l.row.toRowW d [] (fun f vs => PySem.call f vs) := by
  intro w s₀ s₁ mg mb G Y fa o pm cd doc dV kV ho hd hcd hD hmg hg args vals as hpre hlay hrd hwl hlo
  obtain rfl : dV = .none := Dflts.none hD hdf
  obtain rfl : kV = .none := Dflts.noKw hD
  obtain ⟨a, vs, ns, rfl, rfl, hobj, hints, hlen⟩ := script_of hn hpre hwl
  refine enter_call (codeAny_mono (call w s₀ s₁ mg mb fa o pm cd doc a vs ns G Y ho (fd_plain hd) hcd hmg hobj hints hlen hg) fun r s' hq => ?_)
  obtain ⟨rfl, h2, h3, h4⟩ := hq
  exact ⟨.inl ⟨.bool true, .bool true, [], rfl, fun _ => rfl, .bool true, post_true l _, fun _ => ⟨List.Pairwise.nil, fun _ hm => (nomatch hm)⟩⟩, h2, h3, h4⟩

section
variable {prog : Program} {w : World} {A : Around} {E : Value → Shared → Prop} {s : Shared} {K : Frag}
end
end Att
namespace L2
open PySem PySem.Spec PyProof.Rows
theorem vals_ints : ∀ {vs : List Value} {ns : List Int}, IntsAre vs ns → Vals (ns.map V.int) vs
  | _, _, .nil => .nil
  | _, _, .cons n t h => .cons ⟨t, rfl⟩ (vals_ints h)

noncomputable def Only (H : Hp) : Prop := ∀ b, H b = none ∨ ∃ o xs, H b = some (.frz o (.lst xs))

theorem law_call {P : Program} {w : World} {K : PySem.W.Frag} {mg mb : Str → Option Value} {CX : CXT} {k : Nat} {fa a : Addr} {fd : FuncData} {x : Str} {sp : Sp} {s₁ : Shared} {vs : List Value} {ns : List Int}
    (KX : K.In s₁.heap) (hns : s₁.heap.Ns mainGlobals mg) (hb : s₁.heap.Ns builtinsNs mb) (hbb : ∀ x : Str, x ≠ "__name__" → mb x = bootBuiltins x) (hlim : s₁.heap.NoLimit) (hg : s₁.gens = #[])
    (ha : s₁.heap.get? a = some { cls := .type "list", data := .seq vs.toArray }) (hi : IntsAre vs ns) (hl : ns.length ≤ sizeLine) (hr : Room k callerA)
    (F : ∀ base : Heap, K.In base → base.Ns mainGlobals mg → FnOk P w K mg base CX k fa fd [x] sp) (hbind : ∀ (s : Shared) (u : Value), BindsTo s fd ⟨[u], []⟩ [(x, u)])
    (hsp : ∀ H : Hp, Only H → SqL K H a (ns.map V.int) → sp [.ref a] H (fun v _ => v = .bl true) fun _ _ _ => False)
    (hCX : ∀ H e s', CX [] H s₁ (fun _ _ _ => False) e s' → False) :
    codeAny (model P w) callerA (.call (.ref fa) ⟨[.ref a], []⟩) (fun r s' => r = .ok (.ret (.bool true)) ∧ OldK s₁.heap s'.heap ∧ s'.os = s₁.os ∧ AllBare s'.gens) s₁ := by
  have rv := vals_ints hi
  have lenV := hi.length
  -- from an abstract heap in which nothing but the script may be tracked
  have core : ∀ H : Hp, Only H → SqL K H a (ns.map V.int) → HOk P w H s₁.heap → (∀ b, H b ≠ none → b = a) → (H a ≠ none → K.lookup a = none) →
      codeAny (model P w) callerA (.call (.ref fa) ⟨[.ref a], []⟩) (fun r s' => r = .ok (.ret (.bool true)) ∧ OldK s₁.heap s'.heap ∧ s'.os = s₁.os ∧ AllBare s'.gens) s₁ := by
    intro H hO hS hok hA hK
    have base_of : ∀ {b : Addr} {o : Obj}, s₁.heap.get? b = some o → H b = none → (hidT s₁.heap H).get? b = some o := fun e n => hidT_get e n
    have noA : ∀ {b : Addr} {o : Obj} {es : Array DictEntry} {ep : Nat}, s₁.heap.get? b = some o → o.data = .dict es ep → H b = none := fun {b o es ep} e d => by
      cases q : H b with
      | none => rfl
      | some u =>
        have e' : b = a := hA b (by rw [q]; simp)
        subst e'
        rw [ha] at e; cases e
        have d' : Data.seq vs.toArray _ = Data.dict es ep := d
        cases d'
    have nsK : ∀ {b : Addr} {m : Str → Option Value}, s₁.heap.Ns b m → (hidT s₁.heap H).Ns b m := fun {b m} ⟨o, es, ep, e, d, r⟩ => ⟨o, es, ep, base_of e (noA e d), d, r⟩
    have hKb : K.In (hidT s₁.heap H) := fun b o e => base_of (KX b o e) (by
      cases q : H b with
      | none => rfl
      | some u =>
        have e' : b = a := hA b (by rw [q]; simp)
        subst e'
        rw [hK (by rw [q]; simp)] at e; cases e)
    have hM : Mod K mg (hidT s₁.heap H) := ⟨hKb, nsK hns, ⟨mb, nsK hb, hbb⟩, let ⟨mc, h1, h2⟩ := hlim; ⟨mc, nsK h1, h2⟩⟩
    have e0 : Env0 P w K mg (hidT s₁.heap H) callerA [] s₁ H := ⟨rfl, hM, fun b o e => of_hidT e, Nat.le_of_eq (hidT_size _ _), trivial, fun b hb => absurd (show b ∈ ([] : List Addr) from hb) (by simp), hok, .of_eq hg⟩
    refine codeAny_mono ((F _ hKb (nsK hns)).run callerA [] s₁ H ⟨[.ref a], []⟩ [.ref a] [.ref a] _ _ hr e0 (hbind s₁ (.ref a)) (.cons rfl .nil) (hsp H hO hS)) fun r s' h => ?_
    cases r with
    | error e => exact (hCX H e s' h).elim
    | ok fl =>
      cases fl with
      | next => exact False.elim h
      | brk => exact False.elim h
      | cont => exact False.elim h
      | ret u =>
        obtain ⟨v, H', os, bare, un, hok', r', q⟩ := h
        have q' : v = .bl true := q
        subst q'
        obtain rfl : u = Value.bool true := r'
        refine ⟨rfl, OldK.of_keep fun b o e => ?_, os, bare⟩
        cases q : H b with
        | none => exact un.keep b o e q (by intro z; exact absurd (show b ∈ ([] : List Addr) from z) (by simp)) (by simp)
        | some u =>
          rcases hO b with z | ⟨ob, xs, z⟩
          · rw [q] at z; cases z
          · have z2 := un.frzs b ob _ z
            obtain ⟨e1, _⟩ := hok b _ z
            obtain ⟨e2, _⟩ := hok' b _ z2
            rw [e] at e1; cases e1
            exact e2
  cases hk : K.lookup a with
  | some o =>
    -- the script is one of the module's own objects
    have e := KX a o hk
    rw [ha] at e
    cases e
    refine core (fun _ => none) (fun _ => .inl rfl) (.inr ⟨_, vs.toArray, _, hk, rfl, rfl, rfl, by rw [List.size_toArray, lenV]; exact hl, by simpa using rv⟩) (fun b u z => by have z' : (none : Option HO) = some u := z; cases z') (fun b z => absurd rfl z) fun z => absurd rfl z
  | none =>
    refine core (fun b => if b = a then some (.frz { cls := .type "list", data := .seq vs.toArray } (.lst (ns.map V.int))) else none) (fun b => ?_) (.inl (.inr ⟨{ cls := .type "list", data := .seq vs.toArray }, if_pos rfl⟩)) (fun b u z => ?_) (fun b z => ?_) fun _ => hk
    · by_cases hb : b = a
      · exact .inr ⟨_, _, if_pos hb⟩
      · exact .inl (if_neg hb)
    · by_cases hb : b = a
      · have z' := (if_pos hb).symm.trans z
        cases z'
        subst hb
        exact ⟨ha, by rw [List.length_map]; exact hl, vs, _, rv, ha⟩
      · have z' := (if_neg hb).symm.trans z
        cases z'
    · by_cases hb : b = a
      · exact hb
      · exact absurd (if_neg hb) z
end L2
namespace L2
open PySem PySem.Spec PyProof.Rows
theorem walk_of {l : PySem.W.OpenLaw} {n k : Nat} {q : Program} {loose : List Str} {XP : (Str → Option Value) → Heap → Prop} {YP : World → Heap → Prop} {d : DefRec} {K : Params → PySem.W.Frag} {CX : World → CXT} {sp : World → Sp} {x : Str}
    (hn : l.most = some n) (hn2 : n ≤ sizeLine) (hdf : d.params.defaults = []) (hr : Room k callerA)
    (hY : ∀ (w : World) (h : Heap), YP w h → (K w.params).In h)
    (F : ∀ (w : World) (mg : Str → Option Value) (fa : Addr) (h : Heap), (K w.params).In h → h.Ns mainGlobals mg → mg d.name = some (.ref fa) →
      ∃ fd : FuncData, (∀ (s : Shared) (u : Value), BindsTo s fd ⟨[u], []⟩ [(x, u)]) ∧
        ∀ base : Heap, (K w.params).In base → base.Ns mainGlobals mg → FnOk l.prog w (K w.params) mg base (CX w) k fa fd [x] (sp w))
    (hsp : ∀ (w : World) (H : Hp) (a : Addr) (ns : List Int), ns.length ≤ n → Only H → SqL (K w.params) H a (ns.map V.int) → sp w [.ref a] H (fun v _ => v = .bl true) fun _ _ _ => False)
    (hCX : ∀ (w : World) (H : Hp) (s : Shared) (e : Value) (s' : Shared), CX w [] H s (fun _ _ _ => False) e s' → False) :
    PySem.W.WalkO q loose XP YP l.row.toRowW d [] (fun f vs => PySem.call f vs) := by
  refine Att.attach_call hn hdf fun w s₀ s₁ mg mb fa o pm cd doc a vs ns G Y ho hd hcd hmg hobj hints hlen hg => ?_
  have KX := hY w _ Y
  obtain ⟨fd, hb, hF⟩ := F w mg fa _ KX G.T.g hmg
  exact law_call KX G.T.g G.T.b G.T.builtins G.T.nolimit hg hobj hints (Nat.le_trans hlen hn2) hr hF hb (fun H hO hS => hsp w H a ns hlen hO hS) fun H e s' => hCX w H s₁ e s'
end L2
/- THE LAST THEOREM (shape; LID, My.* are yours):
   My.Adr: a structure of the addresses that your layer names (classes, functions); My.Txt K t: a structure (Prop) of the equations over K;
   My.txt_mk : {K} {implicit addresses ..} (e1 : nsIn K mainGlobals "law" = some (some (.ref f))) (e2 : K.lookup f = some ⟨oc, od, .func (fnOf "law" "law" params body scope dV kV doc pm an cdv ct), sl⟩) (e3 : codeIn K cdv "law" = true) .. : ∃ t, My.Txt K t
(the tactic k_is has no namespace: write k_is) -/
namespace L2
open PySem PySem.Spec PyProof.Rows
noncomputable def defArgs (s : Stmt) : Arguments := match s with
  | .FunctionDef _ a _ _ _ _ _ _ _ _ => a
  | _ => { posonlyargs := [], args := [], vararg := none, kwonlyargs := [], kw_defaults := [], kwarg := none, defaults := [] }
noncomputable def defBody (s : Stmt) : List Stmt := match s with
  | .FunctionDef _ _ b _ _ _ _ _ _ _ => b
  | _ => []
noncomputable def defScope (s : Stmt) : Scope := match s with
  | .FunctionDef _ _ _ _ _ _ sc _ _ _ => sc
  | _ => { kind := .function, names := [], isGenerator := false, isCoroutine := false }

noncomputable abbrev CX0 : CXT := fun _ _ _ _ _ _ => False
noncomputable abbrev E0 : XK := fun _ _ _ => False
theorem pass0 {X : Cx} : Passes CX0 X E0 := fun _ _ _ _ _ _ _ h => h.elim

structure Fun (K : PySem.W.Frag) (x qual : Str) (st : Stmt) (f : Addr) (fd : FuncData) : Prop where
  ex : ∃ (oc : Value) (od : Option Addr) (kV doc pm : Value) (an : Option Addr) (cdv ct : Value) (osl : Array (Option Value)),
    fd = PySem.W.fnOf x qual (defArgs st) (defBody st) (defScope st) .none kV doc pm an cdv ct ∧ K.lookup f = some ⟨oc, od, .func fd, osl⟩ ∧ PySem.W.codeIn K cdv qual = true
  kp : PySem.W.keepIn K (.ref f) = true
section
variable {P : Program} {w : World} {K : PySem.W.Frag} {mg : Str → Option Value} {base : Heap}
theorem Fun.ok {x qual : Str} {st : Stmt} {f : Addr} {fd : FuncData} {N ps : List Str} {k : Nat} {sp : Sp} (F : Fun K x qual st f fd) (S : FnScope N ps (defScope st)) (len : ∀ vs H Q E, sp vs H Q E → vs.length = ps.length)
    (hbody : ∀ (cdv : Value) (A : Around) (outer : List Env) (s : Shared) (H : Hp) (vs : List V) (Q : VK) (E : XK), Room k (A.deeper (envOfC qual (defScope st) s.heap.objs.size f cdv)) → sp vs H Q E →
      ∃ t, PSs (cxOf CX0 P w K mg base N qual (defScope st) f cdv A outer s H E).nox (defBody st) t ∧ t { nx := fun _ H' => Q .non H', rt := Q } (start N vs) H) : FnOk P w K mg base CX0 (k + 1) f fd ps sp := by
  obtain ⟨oc, od, kV, doc, pm, an, cdv, ct, osl, rfl, lk, hcd⟩ := F.ex
  refine fn_of lk hcd S len fun A outer s H vs Q E hr hsp => ?_
  obtain ⟨t, h, q⟩ := hbody cdv A outer s H vs Q E hr hsp
  exact ⟨t, h.nox, q⟩
theorem Fun.okz {x qual : Str} {st : Stmt} {f : Addr} {fd : FuncData} {N ps : List Str} {k : Nat} {sp : Sp} (F : Fun K x qual st f fd) (S : FnScope N ps (defScope st)) (len : ∀ vs H Q E, sp vs H Q E → vs.length = ps.length)
    (hbody : ∀ (cdv : Value) (A : Around) (outer : List Env) (s : Shared) (H : Hp) (vs : List V) (Q : VK) (E : XK), Room k (A.deeper (envOfC qual (defScope st) s.heap.objs.size f cdv)) → sp vs H Q E →
      ∃ t, ZSs (cxOf CX0 P w K mg base N qual (defScope st) f cdv A outer s H E).nox (defBody st) t ∧ t { nx := fun _ H' => Q .non H', rt := Q } (start N vs) H) : FnOk P w K mg base CX0 (k + 1) f fd ps sp :=
  F.ok S len fun cdv A outer s H vs Q E hr h => let ⟨t, h1, h2⟩ := hbody cdv A outer s H vs Q E hr h; ⟨t, h1.p, h2⟩
theorem Fun.binds {x qual : Str} {st : Stmt} {f : Addr} {fd : FuncData} {ps : List Str} (F : Fun K x qual st f fd)
    (h : ∀ (kV doc pm : Value) (an : Option Addr) (cdv ct : Value) (us : List Value), us.length = ps.length → bindArgs (PySem.W.fnOf x qual (defArgs st) (defBody st) (defScope st) .none kV doc pm an cdv ct) ⟨us, []⟩ = pure (ps.zip us)) : Binds K fd ps [] := by
  obtain ⟨oc, od, kV, doc, pm, an, cdv, ct, osl, rfl, lk, hcd⟩ := F.ex
  exact .all (h kV doc pm an cdv ct)
theorem fun_mk {x qual : Str} {st : Stmt} {f : Addr} {oc : Value} {od an : Option Addr} {osl : Array (Option Value)} {kV doc pm cdv ct : Value} (l : K.lookup f = some ⟨oc, od, .func (PySem.W.fnOf x qual (defArgs st) (defBody st) (defScope st) .none kV doc pm an cdv ct), osl⟩)
    (c : PySem.W.codeIn K cdv qual = true) (k : PySem.W.keepIn K (.ref f) = true) : Fun K x qual st f (PySem.W.fnOf x qual (defArgs st) (defBody st) (defScope st) .none kV doc pm an cdv ct) := ⟨⟨oc, od, kV, doc, pm, an, cdv, ct, osl, rfl, l, c⟩, k⟩
end
theorem small1000 {n : Nat} (h : n ≤ 1000) : n < sizeLine := Nat.lt_of_le_of_lt h (by decide)

section
variable {X : Cx}
end
theorem iteF {A B : Prop} (h : B) : if false = true then A else B := by
  rw [if_neg Bool.false_ne_true]
  exact h
theorem iteT {A B : Prop} (h : A) : if true = true then A else B := by
  rw [if_pos rfl]
  exact h
noncomputable def Same (H H' : Hp) : Prop := ∀ b o, H b = some o → H' b = some o
theorem Same.refl (H : Hp) : Same H H := fun _ _ h => h
theorem Same.trans {H H1 H2 : Hp} (a : Same H H1) (b : Same H1 H2) : Same H H2 := fun c o h => b c o (a c o h)
end L2
set_option Elab.async false
set_option linter.all false
set_option maxRecDepth 100000
set_option maxHeartbeats 4000000
namespace L2
open PySem PySem.Spec PyProof.Rows
noncomputable def clsOf (env : Env) : List (Str × NameKind) → List (Str × Addr) → List (Str × Addr)
  | [], cs => cs
  | y :: r, cs => clsOf env r (if (y.2 == .free) = true then (y.1, (env.cells.lookup y.1).getD 0) :: cs else cs)
theorem closure_ok {env : Env} {scope : Scope} (h : ∀ y ∈ scope.names, y.2 = .free → ∃ c, env.cells.lookup y.1 = some c) : closureFor scope env = pure (clsOf env scope.names []) := by
  simp only [closureFor]
  generalize scope.names = ns at h
  have go : ∀ (ns : List (Str × NameKind)) (cs : List (Str × Addr)), (∀ y ∈ ns, y.2 = .free → ∃ c, env.cells.lookup y.1 = some c) →
      (forIn ns cs fun (x : Str × NameKind) (r : List (Str × Addr)) => (if (x.2 == NameKind.free) = true then do let a ← cellOf env x.1; pure (ForInStep.yield ((x.1, a) :: r)) else pure (ForInStep.yield r) : Sem (ForInStep (List (Str × Addr))))) = (pure (clsOf env ns cs) : Sem (List (Str × Addr))) := by
    intro ns
    induction ns with
    | nil => intro cs _; rfl
    | cons y r ih =>
      intro cs hy
      rw [List.forIn_cons]
      have hr := fun z hz => hy z (List.mem_cons_of_mem _ hz)
      by_cases hf : (y.2 == NameKind.free) = true
      · obtain ⟨c, hc⟩ := hy y List.mem_cons_self (by simpa using hf)
        have e : cellOf env y.1 = pure c := by unfold cellOf; rw [hc]
        rw [if_pos hf, e]
        refine Eq.trans (ih ((y.1, c) :: cs) hr) (congrArg pure ?_)
        show _ = clsOf env r (if (y.2 == .free) = true then (y.1, (env.cells.lookup y.1).getD 0) :: cs else cs)
        rw [if_pos hf, hc]
        rfl
      · rw [if_neg hf]
        refine Eq.trans (ih cs hr) (congrArg pure ?_)
        show _ = clsOf env r (if (y.2 == .free) = true then (y.1, (env.cells.lookup y.1).getD 0) :: cs else cs)
        rw [if_neg hf]
  have e := go ns [] h
  exact (congrArg (fun (t : Sem (List (Str × Addr))) => t >>= fun cs => pure cs) e).trans rfl
theorem clsOf_look {env : Env} : ∀ (ns : List (Str × NameKind)) (cs : List (Str × Addr)), (∀ y ∈ ns, y.2 = .free → ∃ c, env.cells.lookup y.1 = some c) → (∀ n c, cs.lookup n = some c → env.cells.lookup n = some c) →
    ∀ n c, (clsOf env ns cs).lookup n = some c → env.cells.lookup n = some c
  | [], cs, _, hc => hc
  | y :: r, cs, hy, hc => by
    refine clsOf_look r _ (fun z hz => hy z (List.mem_cons_of_mem _ hz)) fun n c e => ?_
    by_cases hf : (y.2 == NameKind.free) = true
    · rw [if_pos hf, List.lookup_cons] at e
      obtain ⟨c', hc'⟩ := hy y List.mem_cons_self (by simpa using hf)
      cases hn : n == y.1 with
      | true =>
        rw [hn] at e
        have en : n = y.1 := by simpa using hn
        rw [hc'] at e
        rw [en, hc']
        exact e
      | false => rw [hn] at e; exact hc n c e
    · rw [if_neg hf] at e
      exact hc n c e
theorem clsOf_has {env : Env} : ∀ (ns : List (Str × NameKind)) (cs : List (Str × Addr)) (n : Str), ((n, NameKind.free) ∈ ns ∨ ∃ c, cs.lookup n = some c) → ∃ c, (clsOf env ns cs).lookup n = some c
  | [], cs, n, h => by
    rcases h with h | h
    · cases h
    · exact h
  | y :: r, cs, n, h => by
    refine clsOf_has r _ n ?_
    rcases h with h | ⟨c, h⟩
    · rcases List.mem_cons.mp h with e | h
      · refine .inr ⟨(env.cells.lookup n).getD 0, ?_⟩
        have e2 : y.2 = .free := by rw [← e]
        have e1 : y.1 = n := by rw [← e]
        rw [if_pos (by rw [e2]; rfl), e1, List.lookup_cons]
        simp
      · exact .inl h
    · refine .inr ?_
      by_cases hf : (y.2 == NameKind.free) = true
      · rw [if_pos hf, List.lookup_cons]
        cases hn : n == y.1 with
        | true => exact ⟨_, rfl⟩
        | false => exact ⟨c, h⟩
      · rw [if_neg hf]; exact ⟨c, h⟩
noncomputable def rlOf (env : Env) (y : Str × NameKind) : Str × NameKind := if (y.2 == NameKind.free && env.scope.kind == .function && env.kindOf y.1 == some .cell) = true then (y.1, NameKind.cell) else (y.1, y.2)
theorem rl_look {env : Env} : ∀ {names : List (Str × NameKind)} {x : Str} {k' : NameKind}, (names.map (rlOf env)).lookup x = some k' →
    ∃ k, (x, k) ∈ names ∧ names.lookup x = some k ∧ (k' = k ∨ (k = .free ∧ k' = .cell))
  | [], _, _, h => by simp at h
  | (n, k) :: r, x, k', h => by
    have ih := @rl_look env r x k'
    rw [List.map_cons] at h
    unfold rlOf at h
    dsimp only at h
    cases hx : x == n with
    | true =>
      have en : x = n := by simpa using hx
      refine ⟨k, by rw [en]; exact List.mem_cons_self, by simp [List.lookup_cons, hx], ?_⟩
      by_cases hc : (k == NameKind.free && env.scope.kind == .function && env.kindOf n == some .cell) = true
      · rw [if_pos hc, List.lookup_cons, hx] at h
        have hk : k = .free := by
          have := (Bool.and_eq_true_iff.mp (Bool.and_eq_true_iff.mp hc).1).1
          simpa using this
        exact .inr ⟨hk, by cases h; rfl⟩
      · rw [if_neg hc, List.lookup_cons, hx] at h
        exact .inl (by cases h; rfl)
    | false =>
      have h' : (r.map (rlOf env)).lookup x = some k' := by
        by_cases hc : (k == NameKind.free && env.scope.kind == .function && env.kindOf n == some .cell) = true
        · rw [if_pos hc, List.lookup_cons, hx] at h; exact h
        · rw [if_neg hc, List.lookup_cons, hx] at h; exact h
      obtain ⟨k, h1, h2, h3⟩ := ih h'
      exact ⟨k, List.mem_cons_of_mem _ h1, by rw [List.lookup_cons, hx]; exact h2, h3⟩
theorem rl_has {env : Env} : ∀ {names : List (Str × NameKind)} {x : Str} {k : NameKind}, names.lookup x = some k → ∃ k', (names.map (rlOf env)).lookup x = some k'
  | [], _, _, h => by simp at h
  | (n, k0) :: r, x, k, h => by
    have ih := @rl_has env r x k
    rw [List.map_cons]
    have e1 : (rlOf env (n, k0)).1 = n := by unfold rlOf; split <;> rfl
    have e0 : rlOf env (n, k0) = (n, (rlOf env (n, k0)).2) := by rw [Prod.ext_iff]; exact ⟨e1, rfl⟩
    rw [e0, List.lookup_cons]
    cases hx : x == n with
    | true => exact ⟨_, rfl⟩
    | false =>
      rw [List.lookup_cons, hx] at h
      exact ih h

noncomputable def cmpX (X : Cx) (nv : List Str) (ix : List (Str × Nat)) (scope : Scope) (C : Addr) (s₀ : Shared) (H₀ : Hp) (fp : List Addr) : Cx :=
  { X with N := nv ++ ix.map (·.1), s₀ := s₀, H₀ := H₀, env := compEnvC scope (clsOf X.env scope.names []) C X.env, outer := X.stack, stack := X.stack, ex := fp, fn := fun _ => false, pn := [], xe := fun _ _ => False }
noncomputable def frV (σ : St) (ix : List (Str × Nat)) : St := ix.map fun p => (σ[p.2]?).join
noncomputable def st0 (nv : List Str) (ix : List (Str × Nat)) (σ : St) : St := nv.map (fun _ => none) ++ frV σ ix
structure CompOk (X : Cx) (nv : List Str) (ix : List (Str × Nat)) (scope : Scope) : Prop where
  kind : scope.kind = .function
  nocell : ∀ y ∈ scope.names, y.2 ≠ .cell
  names : ∀ y ∈ scope.names, y.2 = .local → scope.names.lookup y.1 = some .local
  free : (scope.names.all fun y => !(y.2 == NameKind.free) || (X.env.kindOf y.1 == some NameKind.cell || X.env.kindOf y.1 == some NameKind.free)) = true
  ix : (ix.all fun p => (scope.names.lookup p.1 == some NameKind.free) && (X.N[p.2]? == some p.1)) = true
section
variable {X : Cx} {nv : List Str} {ix : List (Str × Nat)} {scope : Scope} {pins : List (Addr × Obj)} {σ : St} {H : Hp} {s : Shared}
theorem CompOk.fk (co : CompOk X nv ix scope) {y : Str × NameKind} (hy : y ∈ scope.names) (hf : y.2 = .free) : X.env.kindOf y.1 = some .cell ∨ X.env.kindOf y.1 = some .free := by
  have q := List.all_eq_true.mp co.free y hy
  rw [hf] at q
  simpa using q
theorem CompOk.cells (co : CompOk X nv ix scope) (ok : X.Ok) : ∀ y ∈ scope.names, y.2 = .free → ∃ c, X.env.cells.lookup y.1 = some c := fun y hy hf => ok.has y.1 (co.fk hy hf)
theorem CompOk.look (co : CompOk X nv ix scope) (ok : X.Ok) {n : Str} {c : Addr} (h : (clsOf X.env scope.names []).lookup n = some c) : X.env.cells.lookup n = some c :=
  clsOf_look _ _ (co.cells ok) (fun _ _ e => by cases e) n c h
theorem CompOk.ixp (co : CompOk X nv ix scope) {p : Str × Nat} (hp : p ∈ ix) : scope.names.lookup p.1 = some .free ∧ X.N[p.2]? = some p.1 := by
  have q := Bool.and_eq_true_iff.mp (List.all_eq_true.mp co.ix p hp)
  exact ⟨by simpa using q.1, by simpa using q.2⟩
theorem lookup_mem {α : Type} : ∀ {l : List (Str × α)} {n : Str} {k : α}, l.lookup n = some k → (n, k) ∈ l
  | [], _, _, h => by cases h
  | (m, j) :: r, n, k, h => by
    rw [List.lookup_cons] at h
    cases e : n == m with
    | true => rw [e] at h; cases h; have : n = m := by simpa using e
              rw [this]; exact List.mem_cons_self
    | false => rw [e] at h; exact List.mem_cons_of_mem _ (lookup_mem h)
theorem cmpX_ok (co : CompOk X nv ix scope) (I : Inv X pins σ H s) {fp : List Addr} {C : Addr} (hC : s.heap.objs.size ≤ C) (hf : ∀ b ∈ fp, FpOk X pins H b) (hlt : ∀ b ∈ fp, b < s.heap.objs.size) : (cmpX X nv ix scope C s H fp).Ok where
  mod := I.mod
  kind := co.kind
  glob := I.ok.glob
  blt := I.ok.blt
  above := hC
  inj := fun x y c a b => I.ok.inj x y c (co.look I.ok a) (co.look I.ok b)
  has := fun x hk => by
    have z : ∃ k, (x, k) ∈ scope.names ∧ k = .free := by
      rcases hk with hk | hk
      · obtain ⟨k, h1, _, h3⟩ := rl_look (env := X.env) (names := scope.names) hk
        rcases h3 with h3 | ⟨h3, _⟩
        · exact absurd h3.symm (co.nocell _ h1)
        · exact ⟨k, h1, h3⟩
      · obtain ⟨k, h1, _, h3⟩ := rl_look (env := X.env) (names := scope.names) hk
        rcases h3 with h3 | ⟨_, h3⟩
        · exact ⟨k, h1, h3.symm⟩
        · cases h3
    obtain ⟨k, h1, rfl⟩ := z
    exact clsOf_has _ _ x (.inl h1)
  cab := fun x c h _ => by cases h
  hd := I.ok.hd
  frames := I.ok.frames
  stk := .inl rfl
  exf := fun b hb => ⟨Nat.ne_of_lt (Nat.lt_of_lt_of_le (hlt b hb) hC), fun x c e => (hf b hb).2.2.2.2.1 x c (co.look I.ok e)⟩
  bs := fun b o e => I.bs b o e
  bsz := Nat.le_trans I.ok.bsz I.sz
  noex := fun b o e hb => by
    rcases (hf b hb).2.2.2.1 with z | z
    · exact I.ok.noex b o e z
    · exact absurd (Nat.lt_of_lt_of_le (Heap.lt_size e) (Nat.le_trans I.ok.bsz z)) (Nat.lt_irrefl _)
  exfs := fun b hb hs => by
    rcases List.mem_cons.mp (I.stkSub b hs) with e | h
    · exact (hf b hb).2.1 e
    · exact (hf b hb).2.2.1 h
  funs := I.stack
  frf := I.stkFree
noncomputable abbrev lobj (its : List Value) (k : Nat) : Obj := { cls := .type "list", data := .seq its.toArray k }
theorem join_some {o : Option (Option V)} {v : V} (h : o.join = some v) : o = some (some v) := by
  cases o with
  | none => cases h
  | some o' => exact congrArg some h
theorem cmp_start (co : CompOk X nv ix scope) (I : Inv X pins σ H s) {fp : List Addr} {h₁ : Heap} {tk : Nat} {m : Str → Option Value} (hf : ∀ b ∈ fp, FpOk X pins H b) (hlt : ∀ b ∈ fp, b < s.heap.objs.size)
    (hn : h₁.Ns (s.heap.objs.size + 1) m) (old : ∀ b o, s.heap.get? b = some o → h₁.get? b = some o) (hD : h₁.get? s.heap.objs.size = some (lobj [] 0)) :
    Inv (cmpX X nv ix scope (s.heap.objs.size + 1) s H fp) [(s.heap.objs.size, lobj [] 0)] (st0 nv ix σ) H { s with heap := h₁, toks := tk } where
  ok := cmpX_ok co I (Nat.le_succ _) hf hlt
  os := rfl
  bare := I.bare
  base := Un.kept old
  loc := by
    refine ⟨m, hn, fun i x v e1 e2 hv => ?_⟩
    obtain ⟨m₀, _, hl⟩ := I.loc
    have e1' : (nv ++ ix.map (·.1))[i]? = some x := e1
    unfold st0 at e2
    by_cases hi : i < nv.length
    · rw [List.getElem?_append_left (by rw [List.length_map]; exact hi), List.getElem?_map] at e2
      cases q : nv[i]? with
      | none => rw [q] at e2; cases e2
      | some z => rw [q] at e2; cases e2
    · have hi' : nv.length ≤ i := Nat.not_lt.mp hi
      rw [List.getElem?_append_right hi', List.getElem?_map] at e1'
      rw [List.getElem?_append_right (by rw [List.length_map]; exact hi'), List.length_map] at e2
      unfold frV at e2
      rw [List.getElem?_map] at e2
      cases q : ix[i - nv.length]? with
      | none => rw [q] at e1'; cases e1'
      | some p =>
        rw [q] at e1' e2
        have hp : p ∈ ix := List.mem_of_getElem? q
        have ex : p.1 = x := Option.some.inj e1'
        have ev : σ[p.2]? = some (some v) := join_some (Option.some.inj e2)
        obtain ⟨f1, f2⟩ := co.ixp hp
        have hk := co.fk (lookup_mem f1) rfl
        obtain ⟨u, r, l⟩ := hl p.2 p.1 v f2 ev (hk.elim (fun z => .inr (.inl z)) fun z => .inr (.inr z))
        refine ⟨u, r, .inr ⟨?_, ?_⟩⟩
        · obtain ⟨k', hk'⟩ := rl_has (env := X.env) f1
          obtain ⟨k, h1, h2, h3⟩ := rl_look hk'
          rw [f1] at h2
          cases h2
          rw [← ex]
          rcases h3 with h3 | ⟨_, h3⟩
          · exact .inr (hk'.trans (congrArg some h3))
          · exact .inl (hk'.trans (congrArg some h3))
        · obtain ⟨c, hc⟩ := clsOf_has (env := X.env) scope.names [] p.1 (.inl (lookup_mem f1))
          refine ⟨c, by rw [← ex]; exact hc, ?_⟩
          have hc' := co.look I.ok hc
          rcases l with ⟨z, _⟩ | ⟨_, c', z1, o, z2, z3⟩
          · have z' : X.env.kindOf p.1 = some .local := z
            rcases hk with hk | hk
            · have hk' : X.env.kindOf p.1 = some .cell := hk
              rw [z'] at hk'; cases hk'
            · have hk' : X.env.kindOf p.1 = some .free := hk
              rw [z'] at hk'; cases hk'
          · rw [hc'] at z1
            cases z1
            exact ⟨o, old _ _ z2, z3⟩
  cell := fun x c e => by
    obtain ⟨v, o, h1, h2⟩ := I.cell x c (co.look I.ok e)
    exact ⟨v, o, old _ _ h1, h2⟩
  free := I.hok.fresh (Nat.le_succ _)
  freeC := fun x c e => I.freeC x c (co.look I.ok e)
  pin := fun p hp => by
    have e : p = (s.heap.objs.size, lobj [] 0) := by simpa [cmpX] using hp
    subst e
    refine ⟨hD, I.hok.fresh (Nat.le_refl _), Nat.ne_of_lt (Nat.lt_succ_self _), fun hb => ?_, fun v z => by cases z⟩
    rcases List.mem_cons.mp (I.stkSub _ hb) with e | h
    · exact absurd I.lt (by rw [← e]; exact Nat.lt_irrefl _)
    · exact I.nofs (Nat.le_refl _) h
  hok := I.hok.kept old
  len := by
    show (nv.map (fun _ => none) ++ frV σ ix).length = (nv ++ ix.map (·.1)).length
    unfold frV
    simp
theorem Inv.track {D : Addr} {ys its : List _} {k : Nat} (I : Inv X pins σ H s) (rv : Vals ys its) (hz : ys.length ≤ sizeLine) (e : s.heap.get? D = some (lobj its k)) (hn : H D = none) (hd : FpOk X pins H D) : Inv X pins σ (upd H D (.lst ys)) s := by
  have nD : ∀ b u, H b = some u → b ≠ D := fun b u q z => by rw [z, hn] at q; cases q
  obtain ⟨h1, h2, h3, h4, h5, h6⟩ := hd
  refine I.step (s := s) (h' := s.heap) (g' := s.gens) (t' := s.toks) (d' := s.drawn) (ch := [D]) (fun b hb => ?_) (fun b o _ _ _ q _ => q) (fun b o _ _ _ q _ => ⟨o.slots, q⟩) (fun b o hb _ q => ?_) (fun b o _ q => ⟨o, q⟩)
    (fun b xs q => by rw [upd_ne (nD b _ q)]; exact q) (fun b o u q => by rw [upd_ne (nD b _ q)]; exact q) (fun b ps q => ⟨#[], by rw [upd_ne (nD b _ q), q]; simp⟩) (fun m hm => hm) (fun b u q => ?_) I.bare
  · have e : b = D := by simpa using hb
    subst e
    exact ⟨h4, h2, h5, h6⟩
  · rw [upd_ne (fun z => hb (by simp [z]))]; exact q
  · by_cases hb : b = D
    · subst hb
      rw [upd_same] at q
      cases q
      exact ⟨hz, its, k, rv, e⟩
    · rw [upd_ne hb] at q
      exact (I.hok b u q).stay (fun c v _ r => r) (fun c r => by rw [upd_ne (nD c _ r)]; exact r) fun c xs r => by rw [upd_ne (nD c _ r)]; exact r
theorem cmp_end {ps2 : List (Addr × Obj)} {σ2 : St} {H' : Hp} {s' : Shared} {fp : List Addr} {C : Addr} (I : Inv X pins σ H s) (hf : ∀ b ∈ fp, FpOk X pins H b) (Ic : Inv (cmpX X nv ix scope C s H fp) ps2 σ2 H' s') : Inv X pins σ H' s' :=
  I.call' (ch := fp) Ic.os Ic.base Ic.hok Ic.bare fun b hb => ⟨(hf b hb).2.2.2.1, (hf b hb).2.1, (hf b hb).2.2.2.2.1, (hf b hb).2.2.2.2.2⟩

noncomputable def PIf (X : Cx) (ifs : List Expr) (t : TT) : Prop :=
  ∀ (pins : List (Addr × Obj)) (s : Shared) (σ : St) (H : Hp) (Q : Bool → Hp → Prop), Inv X pins σ H s → t σ H Q →
    wpAny (model X.prog X.w) X.A (forIn ifs true fun c r => if r = true then do let ok ← isTrue c X.env (eval c X.env); pure (ForInStep.yield ok) else pure (ForInStep.yield r)) (TP X pins σ Q) X.xe s
@[irreducible] noncomputable def ZIf (X : Cx) (ifs : List Expr) (t : TT) : Prop := PIf X ifs t
noncomputable def tYes : TT := fun _ H Q => Q true H
theorem pif_nil : PIf X [] tYes := fun _ _ _ H _ I h => wpAny_tests_nil ⟨H, I, h⟩
theorem zif_nil : ZIf X [] tYes := by with_unfolding_all exact pif_nil 
theorem pif_one {c : Expr} {t : TT} (h : PT X c t) : PIf X [c] t := fun pins s σ H Q I q => wpAny_tests_one (h pins s σ H Q I q)
theorem zif_one {c : Expr} {t : TT} (h : ZT X c t) : ZIf X [c] t := by with_unfolding_all exact pif_one h
end
section
variable {prog : Program} {w : World} {A : Around} {E : Value → Shared → Prop} {R : Result → Shared → Prop} {s : Shared}
theorem compLoop_go {elt target iter : Expr} {ifs : List Expr} {scope : Scope} {pos : Pos} {it acc : Value} {env : Env} (I : Nat → Shared → Prop)
    (turn : ∀ n s, I n s → wpAny (model prog w) A (pyNext it) (fun r s₁ => match r with
      | none => R (.ok .next) s₁
      | some v => wpAny (model prog w) A (letOwnedTupleGo target it v) (fun _ s₁' => wpAny (model prog w) A (assign target env v) (fun _ s₂ =>
          wpAny (model prog w) A (forIn ifs true fun c r => if r = true then do let ok ← isTrue c env (eval c env); pure (ForInStep.yield ok) else pure (ForInStep.yield r)) (fun ok s₃ =>
            if ok = true then wpAny (model prog w) A (eval elt env) (fun x s₄ =>
              wpAny (model prog w) A (call (.builtin "list.append") [acc, x]) (fun _ s₅ => ∃ m, m < n ∧ I m s₅) (fun _ _ => False) s₄) (fun _ _ => False) s₃
            else ∃ m, m < n ∧ I m s₃) (fun _ _ => False) s₂) (fun _ _ => False) s₁') (fun _ _ => False) s₁) (fun _ _ => False) s)
    (n : Nat) (h : I n s) :
    codeAny (model prog w) A (.compLoop (.ListComp elt [⟨target, iter, ifs, 0⟩] scope pos) 0 it acc env) R s := by
  refine codeAny_loop rfl I (fun n s hI => ?_) n h
  show wpAny _ A ((compTurn (.ListComp elt [⟨target, iter, ifs, 0⟩] scope pos) 0 it acc env).onRaise (fun x => do noteFrame x env; theTreesLotGoes x)) _ _ s
  refine wpAny_noted ?_
  rw [compTurn_list]
  refine wpAny_bind (wpAny_standAt (wpAny_bind (wpAny_mono (turn n s hI) (fun r s₁ h₁ => ?_) fun _ _ h' => h'.elim)))
  cases r with
  | none => exact wpAny_pure h₁
  | some v =>
    refine wpAny_bind (wpAny_mono h₁ (fun _ s₁' h₁' => ?_) fun _ _ h' => h'.elim)
    refine wpAny_bind (wpAny_mono h₁' (fun _ s₂ h₂ => wpAny_bind (wpAny_mono h₂ (fun ok s₃ h₃ => ?_) fun _ _ h' => h'.elim)) fun _ _ h' => h'.elim)
    cases ok with
    | false => exact wpAny_pure ⟨rfl, h₃⟩
    | true =>
      exact wpAny_bind (wpAny_bind (wpAny_mono h₃ (fun x s₄ h₄ => wpAny_bind (wpAny_mono h₄ (fun _ s₅ h₅ => wpAny_pure (wpAny_pure ⟨rfl, h₅⟩)) fun _ _ h' => h'.elim)) fun _ _ h' => h'.elim))
end
section
variable {X : Cx} {nv : List Str} {ix : List (Str × Nat)} {scope : Scope} {pins : List (Addr × Obj)} {σ : St} {H : Hp} {s : Shared} {elt tg iter : Expr} {ifs : List Expr} {pos : Pos}
noncomputable def Kp (σ σ2 : St) : Prop := σ.length = σ2.length ∧ ∀ (i : Nat) v, σ[i]? = some (some v) → σ2[i]? = some (some v)
noncomputable def KpG (nv : List Str) (g : TG) : Prop := ∀ (fr : St) (v : V) (H : Hp) (Q : St → Hp → Prop), g v (nv.map (fun _ => none) ++ fr) H Q → g v (nv.map (fun _ => none) ++ fr) H fun σ2 H2 => Kp (nv.map (fun _ => none) ++ fr) σ2 ∧ Q σ2 H2
theorem kpg_name {x : Str} : KpG [x] (gName 0) := fun fr v H Q h => by
  refine ⟨⟨by simp, fun i w e => ?_⟩, h⟩
  cases i with
  | zero => cases e
  | succ i => exact e
noncomputable def CmpW (nv : List Str) (ix : List (Str × Nat)) (g : TG) (ti : TT) (te : TE) (σ : St) (J : It) (Fin : List V → Hp → Prop) (H1 : Hp) : Prop :=
  ∃ W : Nat → Nat → List V → Hp → Prop, (∃ m, W 0 m [] H1) ∧ ∀ i m ys H, W i m ys H →
    (J.stop i H ∧ Fin ys H) ∨ (J.go i H ∧ ys.length < sizeLine ∧ ∃ N : List V → Hp → Prop, (∀ ys' H', N ys' H' → ∃ m', m' < m ∧ W (i + 1) m' ys' H') ∧
      ∀ x H', J.yld i H x H' → g x (st0 nv ix σ) H' fun σ2 H2 => ti σ2 H2 fun b H3 => if b = true then te σ2 H3 fun y H4 => N (ys ++ [y]) H4 else N ys H3)
theorem comp_run {J : It} {fp : List Addr} {it : Addr} {tn : Nat → Heap → Prop} {g : TG} {ti : TT} {te : TE} {Fin : List V → Hp → Prop} {E : Value → Shared → Prop} {RR : Value → Addr → Result → Shared → Prop}
    (co : CompOk X nv ix scope) (hc : X.calm = true) (I : Inv X pins σ H s) (T : Turn X.prog X.w X.K tg J fp it tn) (st : tn 0 s.heap) (hf : ∀ b ∈ fp, FpOk X pins H b)
    (kg : KpG nv g) (hg : ∀ C s₀ H₀ fp, PG (cmpX X nv ix scope C s₀ H₀ fp) tg g) (hi : ∀ C s₀ H₀ fp, PIf (cmpX X nv ix scope C s₀ H₀ fp) ifs ti) (he : ∀ C s₀ H₀ fp, PE (cmpX X nv ix scope C s₀ H₀ fp) elt te)
    (q : CmpW nv ix g ti te σ J Fin H)
    (fin : ∀ D C s' H' ys, Inv X pins σ (upd H' D (.lst ys)) s' → H' D = none → Fin ys H' → (∃ m, s'.heap.Ns C m) → FpOk X pins (upd H' D (.lst ys)) C → RR (.ref D) C (.ok .next) s') :
    wpAny (model X.prog X.w) X.A (newList []) (fun acc s₃ => wpAny (model X.prog X.w) X.A (newFunctionEnv scope X.env.globals (clsOf X.env scope.names []) [] X.env.qual none .none (some X.env)) (fun cenv s₄ =>
      codeAny (model X.prog X.w) X.A (.compStart (.ListComp elt [⟨tg, iter, ifs, 0⟩] scope pos) 0 (.ref it) acc { cenv with scope := relabel scope X.env }) (RR acc cenv.locals) s₄) E s₃) E s := by
  obtain ⟨W, ⟨m0, w0⟩, turn⟩ := q
  refine wpAny_newObj_type (wpAny_newFunctionEnv co.nocell (by intro y hy; simp at hy) (fun h₁ hns₁ hsb₁ => ?_) co.kind)
  dsimp only at hns₁ hsb₁ ⊢
  generalize hH2 : s.heap.push { cls := .type "list", dict := none, data := .seq ([] : List Value).toArray } = H2 at hns₁ hsb₁ ⊢
  have hC : H2.objs.size = s.heap.objs.size + 1 := by rw [← hH2, Heap.size_push]
  rw [hC] at hns₁ hsb₁ ⊢
  have hDC : s.heap.objs.size ≠ s.heap.objs.size + 1 := Nat.ne_of_lt (Nat.lt_succ_self _)
  have below : ∀ b, b < s.heap.objs.size → b ≠ s.heap.objs.size + 1 ∧ b ≠ s.heap.objs.size := fun b hb => ⟨Nat.ne_of_lt (Nat.lt_succ_of_lt hb), Nat.ne_of_lt hb⟩
  have old : ∀ b o, s.heap.get? b = some o → h₁.get? b = some o := fun b o e => hsb₁.extBut b o (below b (Heap.lt_size e)).1 (Heap.get?_push_of_some _ (hH2 ▸ Heap.get?_push_of_some _ e))
  have hacc : h₁.get? s.heap.objs.size = some (lobj [] 0) := hsb₁.extBut _ _ hDC (Heap.get?_push_of_some _ (hH2 ▸ Heap.get?_push_size _ rfl))
  have hlt : ∀ b ∈ fp, b < s.heap.objs.size := fun b hb => by
    obtain ⟨o, e, _⟩ := T.obj 0 _ st b hb
    exact Heap.lt_size e
  have I₁ := fun tk => cmp_start (tk := tk) co I hf hlt hns₁ old hacc
  have st₁ : tn 0 h₁ := T.keep 0 _ _ st fun b _ o e => old b o e
  have fpD : ∀ {H' : Hp}, H' s.heap.objs.size = none → FpOk X pins H' s.heap.objs.size := fun hn => I.fpOk (Nat.le_refl _) hn
  have loop : ∀ tk : Nat, codeAny (model X.prog X.w) X.A (.compLoop (.ListComp elt [⟨tg, iter, ifs, 0⟩] scope pos) 0 (.ref it) (.ref s.heap.objs.size) (compEnvC scope (clsOf X.env scope.names []) (s.heap.objs.size + 1) X.env))
      (RR (.ref s.heap.objs.size) (s.heap.objs.size + 1)) { s with heap := h₁, toks := tk } := by
    intro tk
    refine compLoop_go (fun n s' => ∃ i H' ys its k, Inv (cmpX X nv ix scope (s.heap.objs.size + 1) s H fp) [(s.heap.objs.size, lobj its k)] (st0 nv ix σ) H' s' ∧ Vals ys its ∧ ys.length ≤ sizeLine ∧ tn i s'.heap ∧ (∀ b ∈ fp, H' b = none) ∧ W i n ys H')
      ?_ m0 ⟨0, H, [], [], 0, I₁ tk, .nil, Nat.zero_le _, st₁, fun b hb => (hf b hb).1, w0⟩
    rintro n s3 ⟨i, H3, ys, its, k, I3, rv, hz, st3, fr3, w3⟩
    have fpc : ∀ {H' : Hp} {its : List Value} {k : Nat}, (∀ b ∈ fp, H' b = none) → ∀ b ∈ fp, FpOk (cmpX X nv ix scope (s.heap.objs.size + 1) s H fp) [(s.heap.objs.size, lobj its k)] H' b := fun {H' its k} hn b hb => by
      refine ⟨hn b hb, (below b (hlt b hb)).1, fun hs => ?_, .inl hb, fun x c e => (hf b hb).2.2.2.2.1 x c (co.look I.ok e), fun p hp z => ?_⟩
      · rcases List.mem_cons.mp (I.stkSub b hs) with e | h
        · exact (hf b hb).2.1 e
        · exact (hf b hb).2.2.1 h
      · have e : p = (s.heap.objs.size, lobj its k) := by simpa [cmpX] using hp
        subst e
        exact (below b (hlt b hb)).2 z.symm
    have pD := fun {ps : List (Addr × Obj)} {σ' : St} {H' : Hp} {s' : Shared} (I' : Inv (cmpX X nv ix scope (s.heap.objs.size + 1) s H fp) ((s.heap.objs.size, lobj its k) :: ps) σ' H' s') =>
      I'.pin (s.heap.objs.size, lobj its k) (List.mem_append_right _ List.mem_cons_self)
    rcases turn i n ys H3 w3 with ⟨stop, fin0⟩ | ⟨go, hlt', N, hN, step⟩
    · refine thn (T.done (cmpX X nv ix scope (s.heap.objs.size + 1) s H fp) rfl rfl rfl hc i _ s3 _ H3 _ I3 (fpc fr3) st3 stop) fun r s4 ⟨hr, I4⟩ => ?_
      subst hr
      obtain ⟨p1, p2, _⟩ := pD I4
      have I5 := (cmp_end I hf I4).track rv hz p1 p2 (fpD p2)
      obtain ⟨mC, hmC, _⟩ := I4.loc
      exact fin _ _ s4 H3 ys I5 p2 fin0 ⟨mC, hmC⟩ (I.fpOk (Nat.le_succ _) (by rw [upd_ne (Ne.symm hDC)]; exact I4.free))
    · refine thn (T.item (cmpX X nv ix scope (s.heap.objs.size + 1) s H fp) rfl rfl rfl hc i _ s3 _ H3 _ I3 (fpc fr3) st3 go) fun r s4 ⟨u, hr, h4⟩ => ?_
      subst hr
      refine thn h4 fun _ s5 ⟨x, H5, I5, r5, y5, st5, fr5⟩ => ?_
      have I5' := I5.pinned (fpc fr5) (T.obj _ _ st5)
      refine thn (hg _ _ _ _ _ s5 _ H5 x u _ I5' r5 (kg _ _ _ _ (step x H5 y5))) fun _ s6 ⟨σ6, H6, I6, kp, q6⟩ => ?_
      refine thn (hi _ _ _ _ _ s6 σ6 H6 _ I6 q6) fun b s7 ⟨H7, I7, q7⟩ => ?_
      have again : ∀ {s7 : Shared} {H7 : Hp} {ys' its' : List _} {k' : Nat}, Inv (cmpX X nv ix scope (s.heap.objs.size + 1) s H fp) ([(s.heap.objs.size, lobj its' k')] ++ pinsAt fp s5.heap) σ6 H7 s7 → Vals ys' its' → ys'.length ≤ sizeLine → N ys' H7 →
          ∃ m, m < n ∧ ∃ i H' ys its k, Inv (cmpX X nv ix scope (s.heap.objs.size + 1) s H fp) [(s.heap.objs.size, lobj its k)] (st0 nv ix σ) H' s7 ∧ Vals ys its ∧ ys.length ≤ sizeLine ∧ tn i s7.heap ∧ (∀ b ∈ fp, H' b = none) ∧ W i m ys H' := fun {s7 H7 ys' its' k'} I8 rv' hz' n8 => by
        obtain ⟨m', hm, w8⟩ := hN _ _ n8
        have pn := fun (b : Addr) (o : Obj) (hb : b ∈ fp) (e : s5.heap.get? b = some o) => I8.pin (b, o) (List.mem_append_right _ (List.mem_append_right _ (mem_pinsAt hb e)))
        refine ⟨m', hm, i + 1, H7, ys', its', k', (I8.unpinned).weak kp.1 kp.2, rv', hz', T.keep _ _ _ st5 fun b hb o e => (pn b o hb e).1, fun b hb => ?_, w8⟩
        obtain ⟨o, e, d⟩ := T.obj _ _ st5 b hb
        exact (pn b o hb e).2.1
      cases b with
      | false =>
        rw [if_neg Bool.false_ne_true] at q7 ⊢
        exact again I7 rv hz q7
      | true =>
        rw [if_pos rfl] at q7 ⊢
        refine thn (he _ _ _ _ _ s7 σ6 H7 _ I7 q7) fun u8 s8 ⟨y, H8, I8, r8, q8⟩ => ?_
        obtain ⟨p1, p2, p3, p4, p5⟩ := pD I8
        refine append_at (hsz := by rw [List.size_toArray, ← rv.length]; exact Nat.le_of_lt hlt') p1 fun h9 hs9 hD9 => ?_
        have I9 : Inv (cmpX X nv ix scope (s.heap.objs.size + 1) s H fp) (pinsAt fp s5.heap) σ6 H8 { s8 with heap := h9 } := by
          have Iu : Inv (cmpX X nv ix scope (s.heap.objs.size + 1) s H fp) (pinsAt fp s5.heap) σ6 H8 s8 := I8.pins_of fun p hp => I8.pin p (List.mem_append_right _ (List.mem_append_right _ hp))
          refine Iu.turned (t' := s8.toks) (it := s.heap.objs.size) (fun b o hb e => (hs9.2 b hb).trans e) p2 p3 (.inr (Nat.le_refl _)) (fun x c e z => ?_) fun p hp z => ?_
          · obtain ⟨v, o, e1, _⟩ := I.cell x c (co.look I.ok e)
            exact absurd (Heap.lt_size e1) (by rw [z]; exact Nat.lt_irrefl _)
          · have hp' : p ∈ pinsAt fp s5.heap := by simpa [cmpX] using hp
            obtain ⟨hb, _⟩ := of_pinsAt hp'
            exact (below _ (hlt _ hb)).2 z
        have I10 : Inv (cmpX X nv ix scope (s.heap.objs.size + 1) s H fp) ([(s.heap.objs.size, lobj (its ++ [u8]) (k + 1))] ++ pinsAt fp s5.heap) σ6 H8 { s8 with heap := h9 } :=
          I9.pins_of fun p hp => by
            rcases List.mem_append.mp hp with hp | hp
            · have e : p = (s.heap.objs.size, lobj (its ++ [u8]) (k + 1)) := by simpa using hp
              subst e
              refine ⟨?_, p2, p3, p4, fun v z => by cases z⟩
              rw [List.push_toArray] at hD9
              exact hD9
            · exact I9.pin p (List.mem_append_right _ hp)
        exact again I10 (rv.append (.cons r8 .nil)) (by rw [List.length_append, List.length_singleton]; exact hlt') q8
  exact codeAny_compStart_list (loop _) (T.self _ 0 _ _ _ st₁ (loop _))

noncomputable def tComp (nv : List Str) (ix : List (Str × Nat)) (wi : TI) (g : TG) (ti : TT) (te : TE) : TE := fun σ H Q => wi σ H fun J H1 => CmpW nv ix g ti te σ J (fun ys H2 => ∀ D, H2 D = none → Q (.ref D) (upd H2 D (.lst ys))) H1
theorem pe_comp {wi : TI} {g : TG} {ti : TT} {te : TE} (nv : List Str) (ix : List (Str × Nat)) (hc : X.calm = true) (co : CompOk X nv ix scope) (hit : PI X tg iter wi) (kg : KpG nv g) (hg : ∀ C s₀ H₀ fp, PG (cmpX X nv ix scope C s₀ H₀ fp) tg g)
    (hi : ∀ C s₀ H₀ fp, PIf (cmpX X nv ix scope C s₀ H₀ fp) ifs ti) (he : ∀ C s₀ H₀ fp, PE (cmpX X nv ix scope C s₀ H₀ fp) elt te)
    (hs : ∀ x, foldedSetIterable iter X.env x = pure x := by intro _; rfl) : PE X (.ListComp elt [⟨tg, iter, ifs, 0⟩] scope pos) (tComp nv ix wi g ti te) := by
  intro pins s σ H Q I h
  rw [eval_ListComp]
  refine wpAny_comprehension_free (use := none) rfl hs (closure_ok (co.cells I.ok)) co.kind co.names (thn (hit pins s σ H _ I h) fun v s1 h1 => thn h1 fun itv s2 h2 => ?_)
  obtain ⟨it, fp, tn, J, H2, e, I2, T, st2, f2, q⟩ := h2
  subst e
  refine comp_run co hc I2 T st2 f2 kg hg hi he q fun D C s' H' ys I' hD fin ⟨m, hm⟩ hC => ?_
  obtain ⟨c0, c1, c2, c3, c4, c5⟩ := hC
  exact ⟨m, hm, fun h' hs' => ⟨.ref D, _, I'.turned (t' := s'.toks) (fun b o hb e => (hs'.2 b hb).trans e) c0 c1 c3 c4 c5, rfl, fin D hD⟩⟩
theorem ze_comp {wi : TI} {g : TG} {ti : TT} {te : TE} (nv : List Str) (ix : List (Str × Nat)) (hc : X.calm = true) (co : CompOk X nv ix scope) (hit : ZI X tg iter wi) (kg : KpG nv g) (hg : ∀ C s₀ H₀ fp, ZG (cmpX X nv ix scope C s₀ H₀ fp) tg g)
    (hi : ∀ C s₀ H₀ fp, ZIf (cmpX X nv ix scope C s₀ H₀ fp) ifs ti) (he : ∀ C s₀ H₀ fp, ZE (cmpX X nv ix scope C s₀ H₀ fp) elt te)
    (hs : ∀ x, foldedSetIterable iter X.env x = pure x := by intro _; rfl) : ZE X (.ListComp elt [⟨tg, iter, ifs, 0⟩] scope pos) (tComp nv ix wi g ti te) := by with_unfolding_all exact pe_comp nv ix hc co hit kg hg hi he hs
theorem ps_setcomp {wi : TI} {g : TG} {ti : TT} {te : TE} {i : Nat} {y : Str} {py spos : Pos} (nv : List Str) (ix : List (Str × Nat)) (hc : X.calm = true) (hN : X.N.Nodup) (hi' : X.N[i]? = some y) (hy : Loc X.env.scope y) (co : CompOk X nv ix scope) (hit : PI X tg iter wi) (kg : KpG nv g)
    (hg : ∀ C s₀ H₀ fp, PG (cmpX X nv ix scope C s₀ H₀ fp) tg g) (hi : ∀ C s₀ H₀ fp, PIf (cmpX X nv ix scope C s₀ H₀ fp) ifs ti) (he : ∀ C s₀ H₀ fp, PE (cmpX X nv ix scope C s₀ H₀ fp) elt te)
    (hsw : swapsWith (.ListComp elt [⟨tg, iter, ifs, 0⟩] scope pos) (some (.Name y py)) spos.line X.env = pure true := by rfl)
    (hs : ∀ x, foldedSetIterable iter X.env x = pure x := by intro _; rfl) (hfn : X.fn y = true ∨ X.env.scope.names.lookup y = some .local := by first | exact .inl rfl | exact .inr rfl | assumption) :
    PS X (.Assign [.Name y py] (.ListComp elt [⟨tg, iter, ifs, 0⟩] scope pos) spos) (tAsg (tComp nv ix wi g ti te) (gName i)) := by
  intro pins s σ H D I h
  rw [exec_Assign_Name_used _ _ _ _ hsw]
  refine wpAny_bind (wpAny_standAt (wpAny_bind ?_))
  show wpAny _ X.A (do let _ ← comprehension (.ListComp elt [⟨tg, iter, ifs, 0⟩] scope pos) scope X.env _ (newList []) false (eval iter X.env) (some (assign (.Name y py) X.env))) _ _ s
  refine wpAny_bind (wpAny_mono (wpAny_comprehension_free (use := some (assign (.Name y py) X.env)) (Q := fun _ s' => SP X pins D .next s') rfl hs (closure_ok (co.cells I.ok)) co.kind co.names
    (thn (hit pins s σ H _ I h) fun v s1 h1 => thn h1 fun itv s2 h2 => ?_)) (fun _ s' hq => wpAny_pure (wpAny_pure hq)) fun _ _ e => e)
  obtain ⟨it, fp, tn, J, H2, e, I2, T, st2, f2, q⟩ := h2
  subst e
  refine comp_run co hc I2 T st2 f2 kg hg hi he q fun DD C s' H' ys I' hD fin ⟨m, hm⟩ hC => ?_
  obtain ⟨c0, c1, c2, c3, c4, c5⟩ := hC
  show wpAny _ X.A (assign (.Name y py) X.env (.ref DD)) _ _ s'
  refine wpAny_assign_Name (store_ok2 I' hN hi' hy (show RelV (.ref DD) (.ref DD) from rfl) (fun s'' I'' ⟨a, sb, ha⟩ => ?_) hfn)
  have hCa : C ≠ a := by
    rcases ha with rfl | ha
    · exact c1
    · exact fun z => c4 y a ha z.symm
  refine ⟨m, hm.sameBut sb hCa, fun h' hs' => ⟨_, _, I''.turned (t' := s''.toks) (fun b o hb e => (hs'.2 b hb).trans e) c0 c1 c3 c4 c5, fin DD hD⟩⟩
theorem zs_setcomp {wi : TI} {g : TG} {ti : TT} {te : TE} {i : Nat} {y : Str} {py spos : Pos} (nv : List Str) (ix : List (Str × Nat)) (hc : X.calm = true) (hN : X.N.Nodup) (hi' : X.N[i]? = some y) (hy : Loc X.env.scope y) (co : CompOk X nv ix scope) (hit : ZI X tg iter wi) (kg : KpG nv g)
    (hg : ∀ C s₀ H₀ fp, ZG (cmpX X nv ix scope C s₀ H₀ fp) tg g) (hi : ∀ C s₀ H₀ fp, ZIf (cmpX X nv ix scope C s₀ H₀ fp) ifs ti) (he : ∀ C s₀ H₀ fp, ZE (cmpX X nv ix scope C s₀ H₀ fp) elt te)
    (hsw : swapsWith (.ListComp elt [⟨tg, iter, ifs, 0⟩] scope pos) (some (.Name y py)) spos.line X.env = pure true := by rfl)
    (hs : ∀ x, foldedSetIterable iter X.env x = pure x := by intro _; rfl) (hfn : X.fn y = true ∨ X.env.scope.names.lookup y = some .local := by first | exact .inl rfl | exact .inr rfl | assumption) :
    ZS X (.Assign [.Name y py] (.ListComp elt [⟨tg, iter, ifs, 0⟩] scope pos) spos) (tAsg (tComp nv ix wi g ti te) (gName i)) := by with_unfolding_all exact ps_setcomp nv ix hc hN hi' hy co hit kg hg hi he hsw hs hfn
end
section
variable {nv : List Str} {ix : List (Str × Nat)} {σ : St} {H : Hp} {g : TG} {ti : TT} {te : TE} {Fin : List V → Hp → Prop} {K : PySem.W.Frag} {a : Addr} {xs : List V}
theorem cmp_list (Pv : Nat → List V → Hp → Prop) (h0 : Pv 0 [] H) (hl : ∀ i ys H, i ≤ xs.length → Pv i ys H → SqL K H a xs)
    (hs : ∀ i x ys H, xs[i]? = some x → Pv i ys H → ys.length < sizeLine ∧ g x (st0 nv ix σ) H fun σ2 H2 => ti σ2 H2 fun b H3 => if b = true then te σ2 H3 fun y H4 => Pv (i + 1) (ys ++ [y]) H4 else Pv (i + 1) ys H3)
    (hd : ∀ ys H, Pv xs.length ys H → Fin ys H) : CmpW nv ix g ti te σ (Itl K a) Fin H := by
  refine ⟨fun i m ys H => m = xs.length - i ∧ i ≤ xs.length ∧ Pv i ys H, ⟨xs.length, by simp, Nat.zero_le _, h0⟩, ?_⟩
  rintro i m ys H ⟨rfl, hi, p⟩
  have q := hl i ys H hi p
  by_cases hlt : i < xs.length
  · have e := hs i xs[i] ys H (by simp [hlt]) p
    refine .inr ⟨⟨xs, xs[i], q, by simp [hlt]⟩, e.1, Pv (i + 1), fun σ' H' p' => ⟨xs.length - (i + 1), by omega, rfl, hlt, p'⟩, fun x H' y => ?_⟩
    obtain ⟨e', y⟩ := y
    subst e'
    exact (hs i x ys _ (y xs q) p).2
  · have e : i = xs.length := by omega
    subst e
    exact .inl ⟨⟨xs, q, Nat.le_refl _⟩, hd ys H p⟩
theorem cmp_tup (Pv : Nat → List V → Hp → Prop) (h0 : Pv 0 [] H) (hl : ∀ i ys H, i ≤ xs.length → Pv i ys H → SqT K H a xs)
    (hs : ∀ i x ys H, xs[i]? = some x → Pv i ys H → ys.length < sizeLine ∧ g x (st0 nv ix σ) H fun σ2 H2 => ti σ2 H2 fun b H3 => if b = true then te σ2 H3 fun y H4 => Pv (i + 1) (ys ++ [y]) H4 else Pv (i + 1) ys H3)
    (hd : ∀ ys H, Pv xs.length ys H → Fin ys H) : CmpW nv ix g ti te σ (Itt K a) Fin H := by
  refine ⟨fun i m ys H => m = xs.length - i ∧ i ≤ xs.length ∧ Pv i ys H, ⟨xs.length, by simp, Nat.zero_le _, h0⟩, ?_⟩
  rintro i m ys H ⟨rfl, hi, p⟩
  have q := hl i ys H hi p
  by_cases hlt : i < xs.length
  · have e := hs i xs[i] ys H (by simp [hlt]) p
    refine .inr ⟨⟨xs, xs[i], q, by simp [hlt]⟩, e.1, Pv (i + 1), fun σ' H' p' => ⟨xs.length - (i + 1), by omega, rfl, hlt, p'⟩, fun x H' y => ?_⟩
    obtain ⟨e', y⟩ := y
    subst e'
    exact (hs i x ys _ (y xs q) p).2
  · have e : i = xs.length := by omega
    subst e
    exact .inl ⟨⟨xs, q, Nat.le_refl _⟩, hd ys H p⟩
theorem cmp_range {lo : Int} {n : Nat} (Pv : Nat → List V → Hp → Prop) (h0 : Pv 0 [] H)
    (hs : ∀ i ys H, i < n → Pv i ys H → ys.length < sizeLine ∧ g (.int (lo + i)) (st0 nv ix σ) H fun σ2 H2 => ti σ2 H2 fun b H3 => if b = true then te σ2 H3 fun y H4 => Pv (i + 1) (ys ++ [y]) H4 else Pv (i + 1) ys H3)
    (hd : ∀ ys H, Pv n ys H → Fin ys H) : CmpW nv ix g ti te σ (Itr lo n) Fin H := by
  refine ⟨fun i m ys H => m = n - i ∧ i ≤ n ∧ Pv i ys H, ⟨n, by simp, Nat.zero_le _, h0⟩, ?_⟩
  rintro i m ys H ⟨rfl, hi, p⟩
  by_cases hlt : i < n
  · refine .inr ⟨hlt, (hs i ys H hlt p).1, Pv (i + 1), fun σ' H' p' => ⟨n - (i + 1), by omega, rfl, hlt, p'⟩, fun x H' y => ?_⟩
    obtain ⟨e', y⟩ := y
    subst e' y
    exact (hs i ys _ hlt p).2
  · have e : i = n := by omega
    subst e
    exact .inl ⟨Nat.le_refl _, hd ys H p⟩
end
end L2
set_option Elab.async false
set_option linter.all false
set_option maxRecDepth 100000
set_option maxHeartbeats 4000000
namespace L2
open PySem PySem.Spec PyProof.Rows
theorem Same.new {H : Hp} {p : Addr} (h : H p = none) (o : HO) : Same H (upd H p o) := fun b u q => by rw [upd_ne (ne_of_none q h)]; exact q

section
variable {X : Cx} {a b c : Expr} {ta tb tc : TE} {pos : Pos}
theorem op_mulB : OpR X (binaryOp .Mult) (rI (fun i j => IntMulOk i j) fun i j => .int (i * j)) := opI fun _ _ _ _ _ _ _ hc q => mul_int q hc

end
end L2
set_option Elab.async false
set_option linter.all false
set_option maxRecDepth 100000
set_option maxHeartbeats 4000000
namespace L2
open PySem PySem.Spec PyProof.Rows
section
variable {prog : Program} {w : World} {A : Around} {E : Value → Shared → Prop} {s : Shared}
theorem getItem_tuple_whole {t sl : Addr} {items : Array Value} {vl vu : Value} {lo hi : Option Int} {Q : Value → Shared → Prop} (ht : IsTup s.heap t items) (hs : s.heap.IsSliceOf sl vl vu .none) (pl : IsPart vl lo) (pu : IsPart vu hi)
    (hw : HT.sIx items.size 0 lo = 0 ∧ HT.sIx items.size items.size hi = items.size)
    (h : Q (.ref t) s) : wpAny (model prog w) A (getItem (.ref t) (.ref sl)) Q E s := by
  obtain ⟨os, hos, hcs, hds⟩ := id hs
  have hTs : s.TypeIs (.ref sl) "slice" := ⟨os, hos, hcs⟩
  unfold getItem
  try with_reducible refine wpAny_holding ?_
  first | refine wpAny_bind (wpAny_pure ?_) | skip
  refine wpAny_bind (wpAny_sequenceKey ht.typeIs (by decide) ?_)
  refine wpAny_bind (wpAny_callSpecial?_slot (name := Str.ofString "__getitem__") ht.typeIs PyProof.Rows.slot_tuple_getitem
    (wpAny_call_entry PyProof.Rows.slot_tuple_getitem ht.typeIs entry_tuple_getitem ?_ (args_tuple_getitem _ _)))
  show wpAny _ _ (Builtin.Tuple.tupleItemsOf (.ref t) >>= _) _ _ s
  refine wpAny_bind (tupleItemsOf_ ht ?_)
  refine wpAny_bind (wpAny_typeOf hTs ?_)
  rw [if_pos (by decide)]
  refine wpAny_bind (HT.sliceApplied_gen hs pl pu ?_)
  have hyes : ((((HT.sIx items.size 0 lo : Nat) : Int) == 0 && (1 : Int) == 1 && (HT.sIx items.size items.size hi - HT.sIx items.size 0 lo) == items.size) = true) := by
    rw [hw.1, hw.2]
    simp
  show wpAny _ _ (if (((HT.sIx items.size 0 lo : Nat) : Int) == 0 && (1 : Int) == 1 && (HT.sIx items.size items.size hi - HT.sIx items.size 0 lo) == items.size) = true then _ else _) _ _ s
  rw [if_pos hyes]
  refine wpAny_bind (m := Builtin.Tuple.tupleIsExact _) ?_
  unfold Builtin.Tuple.tupleIsExact
  refine wpAny_bind (wpAny_typeOf ht.typeIs (wpAny_pure ?_))
  rw [if_pos (by decide)]
  exact wpAny_bind (wpAny_rule (wpAny_pure ⟨_, rfl, wpAny_pure h⟩))
end
section
variable {X : Cx} {a b c : Expr} {ta tb tc : TE} {pos : Pos}
noncomputable def rSlP (K : PySem.W.Frag) : V → Option Int → Option Int → Hp → VK → Prop := fun x lo hi H Q => ∃ a, x = .ref a ∧ ((∃ xs, H a = some (.tup xs) ∧ ∀ r H', Same H H' → H' r = some (.tup (cutV xs lo hi)) → Q (.ref r) H') ∨
  ∃ xs, SqL K H a xs ∧ ∀ p, H p = none → Q (.ref p) (upd H p (.lst (cutV xs lo hi))))
theorem sl_P : SlR X (rSlP X.K) := by
  intro pins s σ H x v vl vu lo hi sl Q I rx hs pl pu h
  obtain ⟨a, rfl, ⟨xs, hx, q⟩ | ⟨xs, hx, q⟩⟩ := h
  · by_cases hw : HT.sIx xs.length 0 lo = 0 ∧ HT.sIx xs.length xs.length hi = xs.length
    · cases rx
      obtain ⟨its, r, ht, hz⟩ := I.tuple (SqT.of hx)
      have hlen : its.toArray.size = xs.length := by rw [List.size_toArray]; exact r.length.symm
      refine ⟨"tuple", _, PyProof.Rows.slot_tuple_getitem.lookup, ht.typeIs, ?_⟩
      refine getItem_tuple_whole ht hs pl pu (by rw [hlen]; exact hw) ⟨.ref a, H, I, rfl, q a H (Same.refl H) ?_⟩
      rw [hx]
      unfold cutV
      rw [hw.1, hw.2, List.drop_zero, Nat.sub_zero, List.take_of_length_le (Nat.le_refl _)]
    · exact sl_tup pins s σ H _ v vl vu lo hi sl Q I rx hs pl pu ⟨a, xs, rfl, SqT.of hx, hw, fun p hp => q p _ (Same.new hp _) upd_same⟩
  · exact sl_list pins s σ H _ v vl vu lo hi sl Q I rx hs pl pu ⟨a, xs, rfl, hx, q⟩
theorem PE.imp {e : Expr} {t t' : TE} (h : PE X e t) (i : ∀ σ H Q, t' σ H Q → t σ H Q) : PE X e t' := fun pins s σ H Q I q => h pins s σ H Q I (i σ H Q q)
theorem OpR.imp {f : Value → Value → Sem Value} {r r' : R2} (h : OpR X f r) (i : ∀ x y H Q, r' x y H Q → r x y H Q) : OpR X f r' := fun pins s σ H x y v u Q I rx ry q => h pins s σ H x y v u Q I rx ry (i x y H Q q)
noncomputable def tV (i : Nat) : TE := fun σ H Q => match σ[i]? with | some (some v) => Q v H | _ => False
theorem tV_var {i : Nat} (σ : St) (H : Hp) (Q : VK) (h : tV i σ H Q) : tVar i σ H Q := by
  unfold tV at h
  split at h
  · exact ⟨_, by assumption, h⟩
  · exact h.elim
theorem pn (i : Nat) {x : Str} {pos : Pos} (hN : X.N[i]? = some x := by rfl) (hv : Vis X.env.scope x := by first | exact Or.inl rfl | exact Or.inr (Or.inl rfl) | exact Or.inr (Or.inr rfl)) (hd : (x == ("__debug__" : Str)) = false := by decide)
    (hcd : (x == ("__classdict__" : Str)) = false := by decide) : PE X (.Name x pos) (tV i) := (pe_var hN hv hd hcd).imp tV_var
theorem zn (i : Nat) {x : Str} {pos : Pos} (hN : X.N[i]? = some x := by rfl) (hv : Vis X.env.scope x := by first | exact Or.inl rfl | exact Or.inr (Or.inl rfl) | exact Or.inr (Or.inr rfl)) (hd : (x == ("__debug__" : Str)) = false := by decide)
    (hcd : (x == ("__classdict__" : Str)) = false := by decide) : ZE X (.Name x pos) (tV i) := by with_unfolding_all exact pn i hN hv hd hcd
noncomputable def rAddP (K : PySem.W.Frag) : R2 := fun x y H Q => match x, y with
  | .int i, .int j => Q (.int (i + j)) H
  | .str i, .str j => i.length + j.length ≤ sizeLine ∧ Q (.str (i ++ j)) H
  | .ref a, .ref b => (∃ xs ys, H a = some (.lst xs) ∧ H b = some (.lst ys) ∧ xs.length + ys.length ≤ sizeLine ∧ ∀ p, H p = none → Q (.ref p) (upd H p (.lst (xs ++ ys)))) ∨
      ∃ xs ys, H a = some (.tup xs) ∧ H b = some (.tup ys) ∧ xs.length + ys.length ≤ sizeLine ∧ ∀ r H', Same H H' → H' r = some (.tup (xs ++ ys)) → Q (.ref r) H'
  | _, _ => False
theorem op_catA' : OpR X (binaryOp .Add) (fun x y H Q => ∃ a b xs ys, x = .ref a ∧ y = .ref b ∧ H a = some (.tup xs) ∧ H b = some (.tup ys) ∧ xs.length + ys.length ≤ sizeLine ∧ ∀ r H', Same H H' → H' r = some (.tup (xs ++ ys)) → Q (.ref r) H') := by
  intro pins s σ H x y v u Q I rx ry h
  obtain ⟨a, b, xs, ys, rfl, rfl, ha, hb, hz, q⟩ := h
  by_cases hx : xs = []
  · subst hx
    cases rx
    cases ry
    obtain ⟨its, r1, p1, _⟩ := I.tuple (SqT.of ha)
    obtain ⟨its2, r2, p2, _⟩ := I.tuple (SqT.of hb)
    cases r1
    obtain ⟨⟨cls, dd, data, sl⟩, ho, hc, n, hd⟩ := id p1
    obtain ⟨⟨cls2, dd2, data2, sl2⟩, ho2, hc2, n2, hd2⟩ := id p2
    simp only at hc hd hc2 hd2
    subst hc hd hc2 hd2
    exact concat_meets ⟨_, ho, rfl⟩ ⟨_, ho2, rfl⟩ noFill_tuple_add seq_tuple_add PySem.F.slot_tuple_add PySem.F.entry_tuple_add (PySem.F.args_tuple_add_2 _ _)
      (tuple_addW0 a b _ _ n n2 dd dd2 sl sl2 (by rfl)) ⟨ho, ho2, ⟨.ref b, H, I, rfl, q b H (Same.refl H) hb⟩⟩
  · refine op_catT pins s σ H _ _ v u Q I rx ry ⟨a, b, xs, ys, rfl, rfl, SqT.of ha, SqT.of hb, hx, hz, fun e => ?_, fun e p hp => ?_⟩
    · subst e
      exact q a H (Same.refl H) (by rw [List.append_nil]; exact ha)
    · exact q p _ (Same.new hp _) upd_same
theorem op_addP : OpR X (binaryOp .Add) (rAddP X.K) := by
  intro pins s σ H x y v u Q I rx ry h
  unfold rAddP at h
  split at h
  · exact op_add pins s σ H _ _ v u Q I rx ry ⟨_, _, rfl, rfl, h⟩
  · exact op_add_str pins s σ H _ _ v u Q I rx ry ⟨_, _, rfl, rfl, h⟩
  · rcases h with ⟨xs, ys, h1, h2, h3, q⟩ | ⟨xs, ys, h1, h2, h3, q⟩
    · exact op_cat pins s σ H _ _ v u Q I rx ry ⟨_, _, xs, ys, rfl, rfl, h1, h2, h3, q⟩
    · exact op_catA' pins s σ H _ _ v u Q I rx ry ⟨_, _, xs, ys, rfl, rfl, h1, h2, h3, q⟩
  · exact h.elim
noncomputable def rP (C : Int → Int → Prop) (g : Int → Int → V) : R2 := fun x y H Q => match x, y with | .int i, .int j => C i j ∧ Q (g i j) H | _, _ => False
noncomputable def rP0 (g : Int → Int → V) : R2 := fun x y H Q => match x, y with | .int i, .int j => Q (g i j) H | _, _ => False
theorem rP_rI {C : Int → Int → Prop} {g : Int → Int → V} (x y : V) (H : Hp) (Q : VK) (h : rP C g x y H Q) : rI C g x y H Q := by
  unfold rP at h
  split at h
  · exact ⟨_, _, rfl, rfl, h⟩
  · exact h.elim
theorem rP0_rI0 {g : Int → Int → V} (x y : V) (H : Hp) (Q : VK) (h : rP0 g x y H Q) : rI0 g x y H Q := by
  unfold rP0 at h
  split at h
  · exact ⟨_, _, rfl, rfl, h⟩
  · exact h.elim
theorem op_subP : OpR X (binaryOp .Sub) (rP0 fun i j => .int (i - j)) := op_sub.imp rP0_rI0
theorem op_modP : OpR X (binaryOp .Mod) (rP (fun _ j => 0 < j) fun i j => .int (i % j)) := op_mod.imp rP_rI
theorem op_fdivP : OpR X (binaryOp .FloorDiv) (rP CDiv fun i j => .int (i / j)) := op_fdiv.imp rP_rI
theorem op_powP : OpR X (binaryOp .Pow) (rP CPow fun i j => .int (i ^ j.toNat)) := op_pow.imp rP_rI
theorem op_ltP : OpR X (compareOp .Lt) (rP0 fun i j => .bl (decide (i < j))) := op_lt.imp rP0_rI0
theorem op_leP : OpR X (compareOp .LtE) (rP0 fun i j => .bl (decide (i ≤ j))) := op_le.imp rP0_rI0
theorem op_gtP : OpR X (compareOp .Gt) (rP0 fun i j => .bl (decide (j < i))) := op_gt.imp rP0_rI0
theorem op_geP : OpR X (compareOp .GtE) (rP0 fun i j => .bl (decide (j ≤ i))) := op_ge.imp rP0_rI0
end
end L2
set_option Elab.async false
set_option linter.all false
set_option maxRecDepth 100000
set_option maxHeartbeats 4000000
namespace L2
open PySem PySem.Spec PyProof.Rows
mutual
inductive DatV (H : Hp) : V → PyData → Prop where
  | non : DatV H .non .none
  | bl (b : Bool) : DatV H (.bl b) (.bool b)
  | int (i : Int) : DatV H (.int i) (.int i)
  | str (x : Str) : DatV H (.str x) (.str x)
  | lst {a : Addr} {xs : List V} {ds : List PyData} (e : H a = some (.lst xs)) (r : DatAll H xs ds) : DatV H (.ref a) (.list ds)
  | tup {a : Addr} {xs : List V} {ds : List PyData} (e : H a = some (.tup xs)) (r : DatAll H xs ds) : DatV H (.ref a) (.tuple ds)
inductive DatAll (H : Hp) : List V → List PyData → Prop where
  | nil : DatAll H [] []
  | cons {x : V} {d : PyData} {xs : List V} {ds : List PyData} (h : DatV H x d) (r : DatAll H xs ds) : DatAll H (x :: xs) (d :: ds)
end
theorem DatAll.ints {H : Hp} : ∀ ns : List Int, DatAll H (ns.map V.int) (ns.map PyData.int)
  | [] => .nil
  | n :: r => .cons (.int n) (DatAll.ints r)
section
variable {X : Cx} {pins : List (Addr × Obj)} {σ : St} {H : Hp} {s : Shared}
mutual
theorem DatV.reads (I : Inv X pins σ H s) : ∀ {x : V} {d : PyData} {v : Value}, DatV H x d → RelV x v → ∃ as, Reads s.heap v d as
  | _, _, _, .non, r => by cases r; exact ⟨_, .none⟩
  | _, _, _, .bl b, r => by cases r; exact ⟨_, .bool b⟩
  | _, _, _, .int i, r => by obtain ⟨t, rfl⟩ := r; exact ⟨_, .int i t⟩
  | _, _, _, .str x, r => by obtain ⟨t, rfl⟩ := r; exact ⟨_, .str x t⟩
  | _, _, _, .lst e q, r => by
    cases r
    obtain ⟨_, its, n, rv, h⟩ := I.lstM e
    obtain ⟨_, h⟩ := h
    obtain ⟨as, z⟩ := DatAll.reads I q rv
    exact ⟨_, reads_list_at h rfl rfl z⟩
  | _, _, _, .tup e q, r => by
    cases r
    obtain ⟨its, rv, ⟨o, h1, h2, n, h3⟩, _⟩ := I.tuple (SqT.of e)
    obtain ⟨as, z⟩ := DatAll.reads I q rv
    exact ⟨_, reads_tuple_at h1 h2 h3 z⟩
theorem DatAll.reads (I : Inv X pins σ H s) : ∀ {xs : List V} {ds : List PyData} {vs : List Value}, DatAll H xs ds → Vals xs vs → ∃ as, ReadsAll s.heap vs ds as
  | _, _, _, .nil, r => by cases r; exact ⟨_, .nil⟩
  | _, _, _, .cons h q, r => by
    cases r with
    | cons r1 r2 =>
      obtain ⟨as, z⟩ := DatV.reads I h r1
      obtain ⟨bs, y⟩ := DatAll.reads I q r2
      exact ⟨_, .cons z y⟩
end
end
section
variable {X : Cx} {a b c : Expr} {ta tb tc : TE} {pos : Pos}
noncomputable def rEqD (neg : Bool) : R2 := fun x y H Q => match scal x y with
  | true => Q (.bl (if neg then !decide (x = y) else decide (x = y))) H
  | false => ∃ d e, DatV H x d ∧ DatV H y e ∧ SeqAt.shaped d = true ∧ SeqAt.shaped e = true ∧ Q (.bl (if neg then !PyData.eqv d e else PyData.eqv d e)) H
theorem op_eqD (hu : X.A.units + 64 < cLine) : OpR X (compareOp .Eq) (rEqD false) := by
  intro pins s σ H x y v u Q I rx ry h
  unfold rEqD at h
  split at h
  · exact op_eq pins s σ H x y v u Q I rx ry ⟨by assumption, h⟩
  · obtain ⟨d, e, h1, h2, h3, h4, q⟩ := h
    obtain ⟨as, r1⟩ := h1.reads I rx
    obtain ⟨bs, r2⟩ := h2.reads I ry
    exact eq_dataH r1 r2 h3 h4 hu ⟨.bl _, H, I, rfl, q⟩
theorem op_neD (hu : X.A.units + 64 < cLine) : OpR X (compareOp .NotEq) (rEqD true) := by
  intro pins s σ H x y v u Q I rx ry h
  unfold rEqD at h
  split at h
  · exact op_ne pins s σ H x y v u Q I rx ry ⟨by assumption, h⟩
  · obtain ⟨d, e, h1, h2, h3, h4, q⟩ := h
    obtain ⟨as, r1⟩ := h1.reads I rx
    obtain ⟨bs, r2⟩ := h2.reads I ry
    exact ne_dataH r1 r2 h3 h4 hu ⟨.bl _, H, I, rfl, q⟩
noncomputable def tBlP (t : TE) : TT := fun σ H Q => t σ H fun x H1 => match x with | .bl c => Q c H1 | _ => False
theorem blP {x : V} {P : Bool → Prop} (h : match x with | .bl c => P c | _ => False) : ∃ c, x = .bl c ∧ P c := by
  cases x <;> first | exact ⟨_, rfl, h⟩ | exact h.elim
theorem pt_cmpP {op : CmpOp} {r : R2} (ho : OpR X (compareOp op) r) (ha : PE X a ta) (hb : PE X b tb) (hm : behindInMarks op b = false) : PT X (.Compare a [op] [b] pos) (tBlP (tOp r ta tb)) := by
  intro pins s σ H Q I h
  refine wpAny_isTrue_Compare1 (binT ha hb I h fun v u s2 x y H2 I2 rx ry q => ?_) hm
  refine thn (ho pins s2 σ H2 x y v u _ I2 rx ry q) fun z s3 ⟨w', H3, I3, r3, q3⟩ => ?_
  obtain ⟨k, rfl, q3⟩ := blP q3
  cases r3
  exact wpAny_truthy_bool ⟨H3, I3, q3⟩
theorem zt_cmpP {op : CmpOp} {r : R2} (ho : OpR X (compareOp op) r) (ha : ZE X a ta) (hb : ZE X b tb) (hm : behindInMarks op b = false) : ZT X (.Compare a [op] [b] pos) (tBlP (tOp r ta tb)) := by with_unfolding_all exact pt_cmpP ho ha hb hm
theorem pt_valP {e : Expr} {t : TE} (h : PE X e t) (he : ∀ whole, isTrue e X.env whole = (do let v ← whole; standAt e.pos; holding [v] (truthy v)) := by intro _; rfl) : PT X e (tBlP t) := by
  intro pins s σ H Q I q
  refine isTrue_plain (thn (h pins s σ H _ I q) fun v s1 ⟨x, H1, I1, r1, q1⟩ => ?_) (he _)
  obtain ⟨k, rfl, q1⟩ := blP q1
  cases r1
  exact wpAny_truthy_bool ⟨H1, I1, q1⟩
theorem zt_valP {e : Expr} {t : TE} (h : ZE X e t) (he : ∀ whole, isTrue e X.env whole = (do let v ← whole; standAt e.pos; holding [v] (truthy v)) := by intro _; rfl) : ZT X e (tBlP t) := by with_unfolding_all exact pt_valP h he
noncomputable def tAndP (ta tb : TE) : TE := fun σ H Q => ta σ H fun x H1 => match x with | .bl c => if c = true then tb σ H1 Q else Q (.bl false) H1 | _ => False
noncomputable def tOrP (ta tb : TE) : TE := fun σ H Q => ta σ H fun x H1 => match x with | .bl c => if c = true then Q (.bl true) H1 else tb σ H1 Q | _ => False
noncomputable def tNotP (ta : TE) : TE := fun σ H Q => ta σ H fun x H1 => match x with | .bl c => Q (.bl (!c)) H1 | _ => False
variable {rest : List Expr}
theorem pe_andP (ha : PE X a ta) (hb : PE X (.BoolOp .And (b :: rest) pos) tb) : PE X (.BoolOp .And (a :: b :: rest) pos) (tAndP ta tb) := by
  intro pins s σ H Q I h
  refine BoolOp_and (thn (ha pins s σ H _ I h) fun v s1 ⟨x, H1, I1, r1, q1⟩ => ?_)
  obtain ⟨c, rfl, q1⟩ := blP q1
  cases r1
  refine wpAny_truthy_bool ?_
  cases c with
  | true => exact hb pins s1 σ H1 Q I1 q1
  | false => exact ⟨.bl false, H1, I1, rfl, q1⟩
theorem ze_andP (ha : ZE X a ta) (hb : ZE X (.BoolOp .And (b :: rest) pos) tb) : ZE X (.BoolOp .And (a :: b :: rest) pos) (tAndP ta tb) := by with_unfolding_all exact pe_andP ha hb
theorem pe_orP (ha : PE X a ta) (hb : PE X (.BoolOp .Or (b :: rest) pos) tb) : PE X (.BoolOp .Or (a :: b :: rest) pos) (tOrP ta tb) := by
  intro pins s σ H Q I h
  refine BoolOp_or (thn (ha pins s σ H _ I h) fun v s1 ⟨x, H1, I1, r1, q1⟩ => ?_)
  obtain ⟨c, rfl, q1⟩ := blP q1
  cases r1
  refine wpAny_truthy_bool ?_
  cases c with
  | false => exact hb pins s1 σ H1 Q I1 q1
  | true => exact ⟨.bl true, H1, I1, rfl, q1⟩
theorem ze_orP (ha : ZE X a ta) (hb : ZE X (.BoolOp .Or (b :: rest) pos) tb) : ZE X (.BoolOp .Or (a :: b :: rest) pos) (tOrP ta tb) := by with_unfolding_all exact pe_orP ha hb
theorem pe_notP (ha : PE X a ta) : PE X (.UnaryOp .Not a pos) (tNotP ta) := by
  intro pins s σ H Q I h
  refine UnaryOp_ (thn (ha pins s σ H _ I h) fun v s1 ⟨x, H1, I1, r1, q1⟩ => ?_)
  obtain ⟨c, rfl, q1⟩ := blP q1
  cases r1
  exact not_of (wpAny_truthy_bool ⟨.bl (!c), H1, I1, rfl, q1⟩)
theorem ze_notP (ha : ZE X a ta) : ZE X (.UnaryOp .Not a pos) (tNotP ta) := by with_unfolding_all exact pe_notP ha

noncomputable def rIxP (K : PySem.W.Frag) : R2 := fun x y H Q => match x, y with
  | .ref p, .int i => (∃ xs, (SqL K H p xs ∨ H p = some (.tup xs)) ∧ ∃ v, atI xs i = some v ∧ Q v H)
  | _, _ => False
theorem ix_P : IxR X (rIxP X.K) := by
  intro value slice pins s σ H x y v u Q I rx ry h hs
  unfold rIxP at h
  split at h
  · obtain ⟨xs, h1 | h1, w, e, q⟩ := h
    · exact ix_list value slice pins s σ H _ _ v u Q I rx ry ⟨_, xs, _, w, rfl, rfl, h1, e, q⟩ hs
    · exact ix_tup value slice pins s σ H _ _ v u Q I rx ry ⟨_, xs, _, w, rfl, rfl, SqT.of h1, e, q⟩ hs
  · exact h.elim

theorem CallR.imp {f : Value} {r r' : List V → Hp → VK → Prop} (h : CallR X f r) (i : ∀ xs H Q, r' xs H Q → r xs H Q) : CallR X f r' := fun pins s σ H xs us Q I rs q => h pins s σ H xs us Q I rs (i xs H Q q)
noncomputable def rLenP (K : PySem.W.Frag) : List V → Hp → VK → Prop := fun xs H Q => match xs with
  | [.ref p] => ∃ ys, (SqL K H p ys ∨ H p = some (.tup ys)) ∧ Q (.int ys.length) H
  | _ => False
theorem call_lenP : CallR X (.builtin "len") (rLenP X.K) := call_len_seq.imp fun xs H Q h => by
  unfold rLenP at h
  split at h
  · obtain ⟨ys, h1 | h1, q⟩ := h
    · exact ⟨_, ys, rfl, .inl h1, q⟩
    · exact ⟨_, ys, rfl, .inr (SqT.of h1), q⟩
  · exact h.elim
noncomputable def tyName (H : Hp) : V → Option String
  | .non => some "NoneType"
  | .bl _ => some "bool"
  | .int _ => some "int"
  | .str _ => some "str"
  | .ref a => match H a with
    | some (.lst _) => some "list"
    | some (.tup _) => some "tuple"
    | some (.dK _) => some "dict"
    | _ => none
  | _ => none
noncomputable def subTy (t c : String) : Bool := t == c || (t == "bool" && c == "int")
theorem tyOf_name {K : PySem.W.Frag} {H : Hp} {x : V} {t : String} (h : tyName H x = some t) : TyOf K H x (.type t) := by
  unfold tyName at h
  split at h
  all_goals first | (cases h; constructor) | skip
  · split at h
    all_goals first | (cases h; constructor; assumption) | cases h
  · cases h
noncomputable def rIsiP : List V → Hp → VK → Prop := fun xs H Q => match xs with
  | [x, .ty c] => ∃ t, tyName H x = some t ∧ (c == "int" || c == "bool" || c == "tuple" || c == "str" || c == "list") = true ∧ Q (.bl (subTy t c)) H
  | _ => False
theorem kit_of {K : PySem.W.Frag} {H : Hp} {x : V} {t c : String} (h : tyName H x = some t) (hc : (c == "int" || c == "bool" || c == "tuple" || c == "str" || c == "list") = true) : PySem.W.kitOne K (.type t) (.type c) = some (subTy t c) := by
  have ht : t ∈ ["NoneType", "bool", "int", "str", "list", "tuple", "dict"] := by
    unfold tyName at h
    split at h
    all_goals first | (cases h; decide) | skip
    · split at h
      all_goals first | (cases h; decide) | cases h
    · cases h
  have hc' : c ∈ ["int", "bool", "tuple", "str", "list"] := by
    simp only [Bool.or_eq_true, beq_iff_eq] at hc
    simp only [List.mem_cons, List.not_mem_nil, or_false]
    rcases hc with (((hc | hc) | hc) | hc) | hc <;> simp [hc]
  have all : (["NoneType", "bool", "int", "str", "list", "tuple", "dict"].all fun t => ["int", "bool", "tuple", "str", "list"].all fun c => decide (PySem.W.kitOne [] (.type t) (.type c) = some (subTy t c))) = true := by decide +kernel
  have e : PySem.W.kitOne K (.type t) (.type c) = PySem.W.kitOne [] (.type t) (.type c) := rfl
  rw [e]
  exact of_decide_eq_true (List.all_eq_true.mp (List.all_eq_true.mp all t ht) c hc')
theorem call_isiP : CallR X (.builtin "isinstance") rIsiP := by
  intro pins s σ H xs us Q I r h
  unfold rIsiP at h
  split at h
  · obtain ⟨t, h1, h2, q⟩ := h
    obtain ⟨u, w', rfl, r1, r2⟩ := vals2 r
    cases r2
    exact isinst_ok I r1 (tyOf_name h1) (kit_of h1 h2) fun tk => ⟨.bl _, H, I.tok tk, rfl, q⟩
  · exact h.elim
noncomputable def rTupP (K : PySem.W.Frag) : List V → Hp → VK → Prop := fun xs H Q => match xs with
  | [.ref p] => ∃ ys, (SqL K H p ys ∨ H p = some (.tup ys)) ∧ ∀ r H', Same H H' → H' r = some (.tup ys) → Q (.ref r) H'
  | _ => False
theorem call_tupP : CallR X (.type "tuple") (rTupP X.K) := call_tuple_of.imp fun xs H Q h => by
  unfold rTupP at h
  split at h
  · obtain ⟨ys, h1 | h1, q⟩ := h
    · exact ⟨_, ys, rfl, .inl ⟨h1, fun l hl => q l _ (Same.new hl _) upd_same⟩⟩
    · exact ⟨_, ys, rfl, .inr ⟨SqT.of h1, q _ H (Same.refl H) h1⟩⟩
  · exact h.elim
noncomputable def rLstP (K : PySem.W.Frag) : List V → Hp → VK → Prop := fun xs H Q => match xs with
  | [.ref p] => ∃ ys, (SqL K H p ys ∨ H p = some (.tup ys)) ∧ ∀ l, H l = none → Q (.ref l) (upd H l (.lst ys))
  | _ => False
theorem call_lstP : CallR X (.type "list") (rLstP X.K) := call_list_of.imp fun xs H Q h => by
  unfold rLstP at h
  split at h
  · obtain ⟨ys, h1 | h1, q⟩ := h
    · exact ⟨_, ys, rfl, .inl h1, q⟩
    · exact ⟨_, ys, rfl, .inr (SqT.of h1), q⟩
  · exact h.elim
noncomputable def rStrP : List V → Hp → VK → Prop := fun xs H Q => match xs with
  | [.int i] => i.natAbs.log2 < 1920 ∧ Q (.str (toString i)) H
  | _ => False
theorem call_strP : CallR X (.type "str") rStrP := call_str_int.imp fun xs H Q h => by
  unfold rStrP at h
  split at h
  · exact ⟨_, rfl, h⟩
  · exact h.elim
noncomputable def rMinP : List V → Hp → VK → Prop := fun xs H Q => match xs with
  | [.int i, .int j] => Q (.int (if j < i then j else i)) H
  | _ => False
theorem call_minP (hc : X.calm = true) : CallR X (.builtin "min") rMinP := (call_min2 hc).imp fun xs H Q h => by
  unfold rMinP at h
  split at h
  · exact ⟨_, _, rfl, h⟩
  · exact h.elim

structure FnA (P : Program) (w : World) (K : PySem.W.Frag) (mg : Str → Option Value) (base : Heap) (x : Str) (k : Nat) (ps : List Str) (sp : Sp) : Prop where
  ex : ∃ f fd, FnOk P w K mg base CX0 k f fd ps sp ∧ Binds K fd ps [] ∧ PySem.W.keepIn K (.ref f) = true ∧ mg x = some (.ref f)
noncomputable def tFn (sp : Sp) (t : TA) : TE := fun σ H Q => t σ H fun vs H1 => sp vs H1 Q E0
theorem pe_fn {x : Str} {k k' : Nat} {ps : List Str} {sp : Sp} {e : Expr} {es : List Expr} {t : TA} {p : Pos} (F : FnA X.prog X.w X.K X.mg X.base x k ps sp) (hr : Room k' X.A) (hk : k ≤ k') (hg : Gl X x)
    (ha : PA X (e :: es) t) (hdb : (x == ("__debug__" : Str)) = false := by decide) (he : starEach (e :: es) X.env = (false, eval e X.env) :: starEach es X.env := by rfl) (hpl : (backTo pos (starEach es X.env)).any (·.1) = false := by rfl) :
    PE X (.Call (.Name x p) (e :: es) [] pos) (tFn sp t) := by
  obtain ⟨f, fd, F1, b1, k1, m1⟩ := F.ex
  refine (pe_call (F1.mono hk) hr hg m1 k1 b1 .nil pass0 ha hdb he hpl).imp fun σ H Q h => ?_
  have e : (fun (vs : List V) (H1 : Hp) => sp (vs ++ []) H1 Q E0) = fun vs H1 => sp vs H1 Q E0 := by
    funext vs H1
    rw [List.append_nil]
  show t σ H fun vs H1 => sp (vs ++ []) H1 Q E0
  rw [e]
  exact h
theorem ze_fn {x : Str} {k k' : Nat} {ps : List Str} {sp : Sp} {e : Expr} {es : List Expr} {t : TA} {p : Pos} (F : FnA X.prog X.w X.K X.mg X.base x k ps sp) (hr : Room k' X.A) (hk : k ≤ k') (hg : Gl X x)
    (ha : ZA X (e :: es) t) (hdb : (x == ("__debug__" : Str)) = false := by decide) (he : starEach (e :: es) X.env = (false, eval e X.env) :: starEach es X.env := by rfl) (hpl : (backTo pos (starEach es X.env)).any (·.1) = false := by rfl) :
    ZE X (.Call (.Name x p) (e :: es) [] pos) (tFn sp t) := by with_unfolding_all exact pe_fn F hr hk hg ha hdb he hpl
end
end L2
set_option Elab.async false
set_option linter.all false
set_option maxRecDepth 100000
set_option maxHeartbeats 4000000
namespace L2
open PySem PySem.Spec PyProof.Rows
theorem pe_ty {X : Cx} {x : Str} {T : String} {pos : Pos} (hg : Gl X x) (hm : X.mg x = none) (hv : bootBuiltins x = some (.type T)) (hn : x ≠ "__name__" := by decide) (hd : (x == ("__debug__" : Str)) = false := by decide) : PE X (.Name x pos) (tC (.ty T)) :=
  pe_bltn hg hm hv (show RelV (.ty T) (.type T) from rfl) hn hd
theorem iteD {p : Prop} [Decidable p] {A B : Prop} (h1 : p → A) (h2 : ¬ p → B) : if decide p = true then A else B := by
  by_cases h : p
  · rw [decide_eq_true h]; exact iteT (h1 h)
  · rw [decide_eq_false h]; exact iteF (h2 h)
theorem iteB {b : Bool} {A B : Prop} (h1 : b = true → A) (h2 : b = false → B) : if b = true then A else B := by
  cases b with
  | true => exact iteT (h1 rfl)
  | false => exact iteF (h2 rfl)
theorem boot_isinstance : bootBuiltins "isinstance" = some (.builtin "isinstance") := by decide +kernel
theorem boot_sorted' : bootBuiltins "sorted" = some (.builtin "sorted") := by decide +kernel
theorem boot_min' : bootBuiltins "min" = some (.builtin "min") := by decide +kernel
theorem boot_all' : bootBuiltins "all" = some (.builtin "all") := by decide +kernel
theorem boot_int' : bootBuiltins "int" = some (.type "int") := by decide +kernel
theorem boot_bool' : bootBuiltins "bool" = some (.type "bool") := by decide +kernel
theorem boot_tuple' : bootBuiltins "tuple" = some (.type "tuple") := by decide +kernel
theorem boot_list' : bootBuiltins "list" = some (.type "list") := by decide +kernel
theorem boot_str' : bootBuiltins "str" = some (.type "str") := by decide +kernel
end L2
namespace L2
open PySem PySem.Spec PyProof.Rows
noncomputable def rAllP (K : PySem.W.Frag) : List V → Hp → VK → Prop := fun xs H Q => match xs with
  | [.ref p] => ∃ bs : List Bool, SqL K H p (bs.map V.bl) ∧ Q (.bl (bs.all id)) H
  | _ => False
theorem call_allP {X : Cx} (hc : X.calm = true) : CallR X (.builtin "all") (rAllP X.K) := by
  intro pins s σ H xs us Q I r h
  unfold rAllP at h
  split at h
  · rename_i p
    obtain ⟨bs, hq, q⟩ := h
    obtain ⟨u, rfl, rx⟩ := vals1 r
    cases rx
    obtain ⟨its, rv, pl, hz⟩ := I.list hq
    have hlen : its.length = bs.length := by rw [← rv.length, List.length_map]
    have hlt : p < s.heap.objs.size := by
      obtain ⟨_, e, _⟩ := pl.isList
      exact Heap.lt_size e
    refine call_all_walk (wpAny_pyIter_list pl.isList ?_)
    have W : Walks X.prog X.w X.A.in1 s.heap.objs.size [s.heap.objs.size, p] [s.heap.objs.size] its.toArray.size _ _ := Walks.list (show X.A.in1.handled = none from I.ok.hd hc) s.heap.objs.size p (Nat.ne_of_lt hlt) its.toArray
    refine ⟨s.heap.objs.size, _, _, _, _, _, fun i => bs.getD i false, rfl, W, ⟨⟨_, Heap.get?_push_size _ rfl, rfl, rfl⟩, pl.isList.push _⟩, ?_, fun h' tk hk => ?_⟩
    · intro i v s' Q' E' hP hQ
      have hP' : its[i]? = some v := by simpa using hP
      have hi : i < bs.length := by rw [← hlen]; exact (List.getElem?_eq_some_iff.mp hP').1
      obtain ⟨w', e1, e2⟩ := rv.get (i := i) (x := .bl bs[i]) (by rw [List.getElem?_map, List.getElem?_eq_getElem hi]; rfl)
      rw [hP'] at e1
      cases e1
      cases e2
      refine wpAny_truthy_bool ?_
      have e : bs.getD i false = bs[i] := by rw [List.getD_eq_getElem?_getD, List.getElem?_eq_getElem hi]; rfl
      have hQ' : Q' (bs.getD i false) s' := hQ
      rw [e] at hQ'
      exact hQ'
    · have I1 : Inv X pins σ H { s with heap := h', toks := tk } := I.kept fun b o e => hk b o (by simpa using Nat.ne_of_lt (Heap.lt_size e)) (Heap.get?_push_of_some _ e)
      refine ⟨.bl _, H, I1, rfl, ?_⟩
      have e : (List.range its.toArray.size).all (fun i => bs.getD i false) = bs.all id := by
        rw [List.size_toArray, hlen]
        have key : ∀ l : List Bool, (List.range l.length).all (fun i => l.getD i false) = l.all id := by
          intro l
          rw [Bool.eq_iff_iff, List.all_eq_true, List.all_eq_true]
          constructor
          · intro h x hx
            obtain ⟨i, hi, rfl⟩ := List.mem_iff_getElem.mp hx
            have := h i (List.mem_range.mpr hi)
            rw [List.getD_eq_getElem?_getD, List.getElem?_eq_getElem hi] at this
            exact this
          · intro h i hi
            have hi' := List.mem_range.mp hi
            rw [List.getD_eq_getElem?_getD, List.getElem?_eq_getElem hi']
            exact h _ (List.getElem_mem hi')
        exact key bs
      rw [e]
      exact q
  · exact h.elim
end L2
namespace L2
open PySem PySem.Spec PyProof.Rows
section
variable {X : Cx} {e : Expr} {es : List Expr} {t : TA} {p pos : Pos}
theorem pcb_len (hg : Gl X "len") (hm : X.mg "len" = none) (ha : PA X (e :: es) t) (he : starEach (e :: es) X.env = (false, eval e X.env) :: starEach es X.env) (hpl : (backTo pos (starEach es X.env)).any (·.1) = false) :
    PE X (.Call (.Name "len" p) (e :: es) [] pos) (tCB (rLenP X.K) t) := pe_callB call_lenP hg hm PySem.boot_len ha (by decide) (by decide) he hpl
theorem zcb_len (hg : Gl X "len") (hm : X.mg "len" = none) (ha : ZA X (e :: es) t) (he : starEach (e :: es) X.env = (false, eval e X.env) :: starEach es X.env) (hpl : (backTo pos (starEach es X.env)).any (·.1) = false) :
    ZE X (.Call (.Name "len" p) (e :: es) [] pos) (tCB (rLenP X.K) t) := by with_unfolding_all exact pcb_len hg hm ha he hpl
theorem pcb_isinstance (hg : Gl X "isinstance") (hm : X.mg "isinstance" = none) (ha : PA X (e :: es) t) (he : starEach (e :: es) X.env = (false, eval e X.env) :: starEach es X.env) (hpl : (backTo pos (starEach es X.env)).any (·.1) = false) :
    PE X (.Call (.Name "isinstance" p) (e :: es) [] pos) (tCB rIsiP t) := pe_callB call_isiP hg hm boot_isinstance ha (by decide) (by decide) he hpl
theorem zcb_isinstance (hg : Gl X "isinstance") (hm : X.mg "isinstance" = none) (ha : ZA X (e :: es) t) (he : starEach (e :: es) X.env = (false, eval e X.env) :: starEach es X.env) (hpl : (backTo pos (starEach es X.env)).any (·.1) = false) :
    ZE X (.Call (.Name "isinstance" p) (e :: es) [] pos) (tCB rIsiP t) := by with_unfolding_all exact pcb_isinstance hg hm ha he hpl
theorem pcb_min (hc : X.calm = true) (hg : Gl X "min") (hm : X.mg "min" = none) (ha : PA X (e :: es) t) (he : starEach (e :: es) X.env = (false, eval e X.env) :: starEach es X.env) (hpl : (backTo pos (starEach es X.env)).any (·.1) = false) :
    PE X (.Call (.Name "min" p) (e :: es) [] pos) (tCB rMinP t) := pe_callB (call_minP hc) hg hm boot_min' ha (by decide) (by decide) he hpl
theorem zcb_min (hc : X.calm = true) (hg : Gl X "min") (hm : X.mg "min" = none) (ha : ZA X (e :: es) t) (he : starEach (e :: es) X.env = (false, eval e X.env) :: starEach es X.env) (hpl : (backTo pos (starEach es X.env)).any (·.1) = false) :
    ZE X (.Call (.Name "min" p) (e :: es) [] pos) (tCB rMinP t) := by with_unfolding_all exact pcb_min hc hg hm ha he hpl
theorem pcb_all (hc : X.calm = true) (hg : Gl X "all") (hm : X.mg "all" = none) (ha : PA X (e :: es) t) (he : starEach (e :: es) X.env = (false, eval e X.env) :: starEach es X.env) (hpl : (backTo pos (starEach es X.env)).any (·.1) = false) :
    PE X (.Call (.Name "all" p) (e :: es) [] pos) (tCB (rAllP X.K) t) := pe_callB (call_allP hc) hg hm boot_all' ha (by decide) (by decide) he hpl
theorem zcb_all (hc : X.calm = true) (hg : Gl X "all") (hm : X.mg "all" = none) (ha : ZA X (e :: es) t) (he : starEach (e :: es) X.env = (false, eval e X.env) :: starEach es X.env) (hpl : (backTo pos (starEach es X.env)).any (·.1) = false) :
    ZE X (.Call (.Name "all" p) (e :: es) [] pos) (tCB (rAllP X.K) t) := by with_unfolding_all exact pcb_all hc hg hm ha he hpl
theorem pcb_tuple (hg : Gl X "tuple") (hm : X.mg "tuple" = none) (ha : PA X (e :: es) t) (he : starEach (e :: es) X.env = (false, eval e X.env) :: starEach es X.env) (hpl : (backTo pos (starEach es X.env)).any (·.1) = false) :
    PE X (.Call (.Name "tuple" p) (e :: es) [] pos) (tCB (rTupP X.K) t) := pe_callTy call_tupP hg hm boot_tuple' ha (by decide) (by decide) he hpl
theorem zcb_tuple (hg : Gl X "tuple") (hm : X.mg "tuple" = none) (ha : ZA X (e :: es) t) (he : starEach (e :: es) X.env = (false, eval e X.env) :: starEach es X.env) (hpl : (backTo pos (starEach es X.env)).any (·.1) = false) :
    ZE X (.Call (.Name "tuple" p) (e :: es) [] pos) (tCB (rTupP X.K) t) := by with_unfolding_all exact pcb_tuple hg hm ha he hpl
theorem pcb_list (hg : Gl X "list") (hm : X.mg "list" = none) (ha : PA X (e :: es) t) (he : starEach (e :: es) X.env = (false, eval e X.env) :: starEach es X.env) (hpl : (backTo pos (starEach es X.env)).any (·.1) = false) :
    PE X (.Call (.Name "list" p) (e :: es) [] pos) (tCB (rLstP X.K) t) := pe_callTy call_lstP hg hm boot_list' ha (by decide) (by decide) he hpl
theorem zcb_list (hg : Gl X "list") (hm : X.mg "list" = none) (ha : ZA X (e :: es) t) (he : starEach (e :: es) X.env = (false, eval e X.env) :: starEach es X.env) (hpl : (backTo pos (starEach es X.env)).any (·.1) = false) :
    ZE X (.Call (.Name "list" p) (e :: es) [] pos) (tCB (rLstP X.K) t) := by with_unfolding_all exact pcb_list hg hm ha he hpl
theorem pcb_str (hg : Gl X "str") (hm : X.mg "str" = none) (ha : PA X (e :: es) t) (he : starEach (e :: es) X.env = (false, eval e X.env) :: starEach es X.env) (hpl : (backTo pos (starEach es X.env)).any (·.1) = false) :
    PE X (.Call (.Name "str" p) (e :: es) [] pos) (tCB rStrP t) := pe_callTy call_strP hg hm boot_str' ha (by decide) (by decide) he hpl
theorem zcb_str (hg : Gl X "str") (hm : X.mg "str" = none) (ha : ZA X (e :: es) t) (he : starEach (e :: es) X.env = (false, eval e X.env) :: starEach es X.env) (hpl : (backTo pos (starEach es X.env)).any (·.1) = false) :
    ZE X (.Call (.Name "str" p) (e :: es) [] pos) (tCB rStrP t) := by with_unfolding_all exact pcb_str hg hm ha he hpl
theorem pty_int (hg : Gl X "int") (hm : X.mg "int" = none) : PE X (.Name "int" pos) (tC (.ty "int")) := pe_ty hg hm boot_int' (by decide) (by decide)
theorem zty_int (hg : Gl X "int") (hm : X.mg "int" = none) : ZE X (.Name "int" pos) (tC (.ty "int")) := by with_unfolding_all exact pty_int hg hm
theorem pty_bool (hg : Gl X "bool") (hm : X.mg "bool" = none) : PE X (.Name "bool" pos) (tC (.ty "bool")) := pe_ty hg hm boot_bool' (by decide) (by decide)
theorem zty_bool (hg : Gl X "bool") (hm : X.mg "bool" = none) : ZE X (.Name "bool" pos) (tC (.ty "bool")) := by with_unfolding_all exact pty_bool hg hm
theorem pty_tuple (hg : Gl X "tuple") (hm : X.mg "tuple" = none) : PE X (.Name "tuple" pos) (tC (.ty "tuple")) := pe_ty hg hm boot_tuple' (by decide) (by decide)
theorem zty_tuple (hg : Gl X "tuple") (hm : X.mg "tuple" = none) : ZE X (.Name "tuple" pos) (tC (.ty "tuple")) := by with_unfolding_all exact pty_tuple hg hm
end
end L2
set_option Elab.async false
set_option linter.all false
set_option maxRecDepth 100000
set_option maxHeartbeats 4000000
namespace L2
open PySem PySem.Spec PyProof.Rows
end L2
set_option Elab.async false
set_option linter.all false
set_option maxRecDepth 100000
set_option maxHeartbeats 4000000
namespace L2
open PySem PySem.Spec PyProof.Rows
section
variable {X : Cx}
theorem ints_at {ns : List Int} {its : List Value} (rv : Vals (ns.map V.int) its) {i : Nat} {v : Value} (h : its.toArray[i]? = some v) : ∃ t, v = .int (ns.getD i 0) t := by
  have h' : its[i]? = some v := by simpa using h
  have hl : its.length = ns.length := by rw [← rv.length, List.length_map]
  have hi : i < ns.length := by rw [← hl]; exact (List.getElem?_eq_some_iff.mp h').1
  obtain ⟨w', e1, t, e2⟩ := rv.get (i := i) (x := .int ns[i]) (by rw [List.getElem?_map, List.getElem?_eq_getElem hi]; rfl)
  rw [h'] at e1
  cases e1
  refine ⟨t, ?_⟩
  rw [e2, List.getD_eq_getElem?_getD, List.getElem?_eq_getElem hi]
  rfl
noncomputable def rCountP : V → List V → Hp → VK → Prop := fun x vs H Q => match x, vs with
  | .ref a, [.int k] => ∃ ns : List Int, H a = some (.tup (ns.map V.int)) ∧ Q (.int (ns.count k)) H
  | _, _ => False
noncomputable def isK (k : Int) : Value → Bool
  | .int i _ => i == k
  | _ => false
theorem countK (k : Int) : ∀ {ns : List Int} {its : List Value}, Vals (ns.map V.int) its → its.countP (isK k) = ns.count k
  | [], _, r => by cases r; rfl
  | n :: ns, _, r => by
    cases r with
    | cons r1 r2 =>
      obtain ⟨t, rfl⟩ := r1
      rw [List.countP_cons, List.count_cons, countK k r2]
      rfl
theorem mt_count : MtM X "tuple.count" rCountP := by
  intro pins s σ H x vs v us Q I rx rv h
  unfold rCountP at h
  split at h
  · rename_i a k
    obtain ⟨ns, hH, q⟩ := h
    cases rx
    obtain ⟨u, rfl, t, rfl⟩ := rv.one
    obtain ⟨z, its, r, n, e⟩ := I.hok a _ hH
    refine call_meets F.slot_tuple_count ⟨_, e, rfl⟩ F.entry_tuple_count (F.args_tuple_count_2 _ _) (MeetsSeq2.tuple_count a its.toArray n (.int k t) (isK k) (fun y hy => ?_)) ⟨e, ?_⟩
    · have hy' : y ∈ its := by simpa using hy
      obtain ⟨i, hi, rfl⟩ := List.mem_iff_getElem.mp hy'
      obtain ⟨t', e'⟩ := ints_at r (i := i) (v := its[i]) (by simp [hi])
      rw [e']
      exact MeetsSeq.EqGives.int _ k t' t
    · refine ⟨.int _, H, I.tok _, ⟨_, rfl⟩, ?_⟩
      rw [show its.toArray.toList = its from rfl, countK k r]
      exact q
  · exact h.elim
theorem noFill_tuple_mul : fillsNumberSlot (.type "tuple") "mul" = pure false :=
  PySem.fillsNumberSlot_seq (id := "tuple.__mul__") (r := some (.builtin "tuple.__rmul__")) F.slot_tuple_mul.lookup (by decide +kernel) F.slot_tuple_rmul.lookup (by decide +kernel)
theorem repeat_tuple : seqRepeat? (.type "tuple") = pure (some (.builtin "tuple.__mul__")) := by
  unfold seqRepeat?
  rw [PySem.seqSlot_of (T := "tuple") (name := "__mul__") (id := "tuple.__mul__") F.slot_tuple_mul.lookup (by decide +kernel), PySem.seqSlot_of (T := "tuple") (name := "__rmul__") (id := "tuple.__rmul__") F.slot_tuple_rmul.lookup (by decide +kernel)]
  rfl

theorem int_rmul_tuple (a : Int) (t : Tok) (l : Addr) (items : Array Value) (n : Nat) :
    Meets (Builtin.«int.__rmul__» ⟨[.int a t, .ref l], []⟩) (fun _ R s => s.heap.get? l = some { cls := .type "tuple", dict := none, data := .seq items n, slots := #[] } ∧ R (.ok (.ret Value.notImplemented)) s) :=
  .of_wp fun prog w A R s h => by obtain ⟨hp, g, d, tk, os⟩ := s; obtain ⟨hl, h⟩ := h; wp_walk; exact ⟨_, rfl, h⟩
theorem tuple_mul_same (l : Addr) (items : Array Value) (n : Nat) (x : Int) (u : Tok) (h1 : (decide (x < -(2 ^ 63)) || decide (x ≥ 2 ^ 63)) = false) (h2 : (items.isEmpty || x == 1) = true) :
    Meets (Builtin.«tuple.__mul__» ⟨[.ref l, .int x u], []⟩) (fun _ R s => s.heap.get? l = some { cls := .type "tuple", dict := none, data := .seq items n, slots := #[] } ∧ R (.ok (.ret (.ref l))) s) :=
  .of_wp fun prog w A R s h => by
    obtain ⟨hp, g, d, tk, os⟩ := s; obtain ⟨hl, h⟩ := h
    wp_walk; refine wpAny_ite_false (by rw [h1]; rfl) ?_; wp_walk; exact ⟨_, rfl, h⟩
theorem tuple_mul_none (l : Addr) (items : Array Value) (n : Nat) (x : Int) (u : Tok) (h1 : (decide (x < -(2 ^ 63)) || decide (x ≥ 2 ^ 63)) = false) (h2 : (items.isEmpty || x == 1) = false) (h3 : (decide (x ≤ 0) || items.isEmpty) = true) :
    Meets (Builtin.«tuple.__mul__» ⟨[.ref l, .int x u], []⟩) (fun _ R s => s.heap.get? l = some { cls := .type "tuple", dict := none, data := .seq items n, slots := #[] } ∧ R (.ok (.ret (.ref s.heap.objs.size))) { s with heap := s.heap.push { cls := .type "tuple", data := .seq #[] } }) :=
  .of_wp fun prog w A R s h => by
    obtain ⟨hp, g, d, tk, os⟩ := s; obtain ⟨hl, h⟩ := h
    wp_walk; refine wpAny_ite_false (by rw [h1]; rfl) ?_; wp_walk; exact ⟨_, rfl, h⟩
theorem tuple_mul_many (l : Addr) (items : Array Value) (n : Nat) (x : Int) (u : Tok) (h1 : (decide (x < -(2 ^ 63)) || decide (x ≥ 2 ^ 63)) = false) (h2 : (items.isEmpty || x == 1) = false) (h3 : (decide (x ≤ 0) || items.isEmpty) = false) (h4 : decide ((items.size : Int) * x > (2 ^ 63 - 1) / 8) = false) (h5 : Builtin.Tuple.tupleTooMany ((items.size : Int) * x) = false) (hz : ((List.replicate x.toNat items).foldl (· ++ ·) #[]).size ≤ sizeLine) :
    Meets (Builtin.«tuple.__mul__» ⟨[.ref l, .int x u], []⟩) (fun _ R s => s.heap.get? l = some { cls := .type "tuple", dict := none, data := .seq items n, slots := #[] } ∧ R (.ok (.ret (.ref s.heap.objs.size))) { s with heap := s.heap.push { cls := .type "tuple", data := .seq ((List.replicate x.toNat items).foldl (· ++ ·) #[]) } }) :=
  .of_wp fun prog w A R s h => by
    obtain ⟨hp, g, d, tk, os⟩ := s; obtain ⟨hl, h⟩ := h
    wp_walk; refine wpAny_ite_false (by rw [h1]; rfl) ?_; wp_walk; refine wpAny_ite_false h4 ?_; wp_walk; exact ⟨_, rfl, h⟩
end
end L2
set_option Elab.async false
set_option linter.all false
set_option maxRecDepth 100000
set_option maxHeartbeats 4000000
namespace L2
open PySem PySem.Spec PyProof.Rows
section
variable {X : Cx}
noncomputable def rMulQ : R2 := fun x y H Q => match x, y with
  | .int i, .int j => IntMulOk i j ∧ Q (.int (i * j)) H
  | .ref a, .int k => (-(2 ^ 63) ≤ k ∧ k < 2 ^ 63) ∧ ((∃ xs, H a = some (.lst xs) ∧ xs.length * k.toNat ≤ sizeLine ∧ ∀ p, H p = none → Q (.ref p) (upd H p (.lst (List.replicate k.toNat xs).flatten))) ∨
      ∃ xs, H a = some (.tup xs) ∧ xs.length * k.toNat ≤ sizeLine ∧ ∀ r H', Same H H' → H' r = some (.tup (List.replicate k.toNat xs).flatten) → Q (.ref r) H')
  | _, _ => False
theorem op_mulQ : OpR X (binaryOp .Mult) rMulQ := by
  intro pins s σ H x y v u Q I rx ry h
  unfold rMulQ at h
  split at h
  · exact op_mulB pins s σ H _ _ v u Q I rx ry ⟨_, _, rfl, rfl, h⟩
  · obtain ⟨⟨hk1, hk2⟩, ⟨xs, h1, h4, q⟩ | ⟨xs, hH, hz, q⟩⟩ := h
    · exact op_rep pins s σ H _ _ v u Q I rx ry ⟨_, _, xs, rfl, rfl, h1, hk1, hk2, h4, q⟩
    rename_i l k
    cases rx
    obtain ⟨t, rfl⟩ := ry
    obtain ⟨z, its, r, n, e⟩ := I.hok l _ hH
    have hl : its.length = xs.length := r.length.symm
    have hemp : its.toArray.isEmpty = xs.isEmpty := by
      cases r <;> rfl
    have g1 : (decide (k < -(2 ^ 63)) || decide (k ≥ 2 ^ 63)) = false := by
      rw [Bool.or_eq_false_iff]
      exact ⟨decide_eq_false (by omega), decide_eq_false (by omega)⟩
    refine wpAny_binaryOp_repeat_ref (T := "tuple") (U := "int") (by decide) ⟨_, e, rfl⟩ (fun s' => typeIs_int s' k t) noFill_tuple_mul F.fills_int_mul F.slot_int_rmul repeat_tuple F.slot_int_index.lookup
      (call_meets F.slot_int_rmul (typeIs_int s k t) F.entry_int_rmul (F.args_int_rmul_2 _ _) (int_rmul_tuple k t l its.toArray n) ⟨e, rfl, ⟨_, e, rfl⟩, ?_⟩)
    by_cases c1 : (its.toArray.isEmpty || k == 1) = true
    · refine call_meets F.slot_tuple_mul ⟨_, e, rfl⟩ F.entry_tuple_mul (F.args_tuple_mul_2 _ _) (tuple_mul_same l its.toArray n k t g1 c1) ⟨e, ?_⟩
      refine ⟨.ref l, H, I, rfl, q l H (Same.refl H) ?_⟩
      rw [hH]
      rw [Bool.or_eq_true] at c1
      rcases c1 with c1 | c1
      · rw [hemp, List.isEmpty_iff] at c1
        subst c1
        have : (List.replicate k.toNat ([] : List V)).flatten = [] := by
          induction k.toNat with
          | zero => rfl
          | succ m ih => rw [List.replicate_succ, List.flatten_cons, ih]; rfl
        rw [this]
      · have : k = 1 := by simpa using c1
        subst this
        show some (HO.tup xs) = some (.tup (List.replicate 1 xs).flatten)
        simp
    · have c1' : (its.toArray.isEmpty || k == 1) = false := by simpa using c1
      have he : its.toArray.isEmpty = false := (Bool.or_eq_false_iff.mp c1').1
      by_cases c2 : k ≤ 0
      · refine call_meets F.slot_tuple_mul ⟨_, e, rfl⟩ F.entry_tuple_mul (F.args_tuple_mul_2 _ _) (tuple_mul_none l its.toArray n k t g1 c1' (by rw [decide_eq_true c2]; rfl)) ⟨e, ?_⟩
        have e0 : (List.replicate k.toNat xs).flatten = [] := by
          have : k.toNat = 0 := by omega
          rw [this]; rfl
        have I2 : Inv X pins σ (upd H s.heap.objs.size (.tup [])) { s with heap := s.heap.push { cls := .type "tuple", data := .seq #[] } } :=
          I.laid (t' := s.toks) (o := .tup []) (fun b ob q => Heap.get?_push_of_some _ q) (Nat.le_refl _) ⟨Nat.zero_le _, [], .nil, TupD.new _ _⟩
        exact ⟨.ref s.heap.objs.size, _, I2, rfl, q _ _ (Same.new (I.hok.fresh (Nat.le_refl _)) _) (by rw [e0]; exact upd_same)⟩
      · have hcast : (its.toArray.size : Int) * k = ((xs.length * k.toNat : Nat) : Int) := by
          rw [List.size_toArray, hl]
          have : k = (k.toNat : Int) := by omega
          conv => lhs; rw [this]
          norm_cast
        have hb : (sizeLine : Nat) ≤ (2 ^ 63 - 1) / 8 := by decide
        have g4 : decide ((its.toArray.size : Int) * k > (2 ^ 63 - 1) / 8) = false := by
          refine decide_eq_false ?_
          rw [hcast]
          omega
        have g5 : Builtin.Tuple.tupleTooMany ((its.toArray.size : Int) * k) = false := by
          unfold Builtin.Tuple.tupleTooMany
          rw [hcast]
          exact decide_eq_false (by omega)
        have f0 : List.foldl (fun x1 x2 => x1 ++ x2) #[] (List.replicate k.toNat its.toArray) = (List.replicate k.toNat its).flatten.toArray := by
          have := foldl_rep its k.toNat []
          rw [List.nil_append] at this
          exact this
        refine call_meets F.slot_tuple_mul ⟨_, e, rfl⟩ F.entry_tuple_mul (F.args_tuple_mul_2 _ _) (tuple_mul_many l its.toArray n k t g1 c1' (by rw [decide_eq_false c2, he]; rfl) g4 g5 (by rw [f0, List.size_toArray, len_rep, hl, Nat.mul_comm]; exact hz)) ⟨e, ?_⟩
        rw [f0]
        have I2 : Inv X pins σ (upd H s.heap.objs.size (.tup (List.replicate k.toNat xs).flatten)) { s with heap := s.heap.push { cls := .type "tuple", data := .seq (List.replicate k.toNat its).flatten.toArray } } :=
          I.laid (t' := s.toks) (o := .tup (List.replicate k.toNat xs).flatten) (fun b ob q => Heap.get?_push_of_some _ q) (Nat.le_refl _) ⟨by rw [len_rep, Nat.mul_comm]; exact hz, _, r.rep k.toNat, TupD.new _ _⟩
        exact ⟨.ref s.heap.objs.size, _, I2, rfl, q _ _ (Same.new (I.hok.fresh (Nat.le_refl _)) _) upd_same⟩
  · exact h.elim
noncomputable def tTruP (K : PySem.W.Frag) (te : TE) : TT := fun σ H Q => te σ H fun x H1 => match x with
  | .bl c => Q c H1
  | .int i => Q (i != 0) H1
  | .ref p => ∃ xs, (SqL K H1 p xs ∨ H1 p = some (.tup xs)) ∧ Q (!xs.isEmpty) H1
  | _ => False
theorem pt_truP {a : Expr} {ta : TE} (ha : PE X a ta) (he : ∀ whole, isTrue a X.env whole = (do let v ← whole; standAt a.pos; holding [v] (truthy v)) := by intro _; rfl) : PT X a (tTruP X.K ta) := by
  intro pins s σ H Q I h
  refine isTrue_plain (thn (ha pins s σ H _ I h) fun v s1 ⟨x, H1, I1, r1, q1⟩ => ?_) (he _)
  refine tru_ok pins s1 σ H1 x v Q I1 r1 ?_
  dsimp only at q1
  split at q1
  · exact ⟨_, rfl, q1⟩
  · exact ⟨_, rfl, q1⟩
  · obtain ⟨xs, h1 | h1, q⟩ := q1
    · exact ⟨_, .inl ⟨xs, h1, rfl⟩, q⟩
    · exact ⟨_, .inr (.inl ⟨xs, SqT.of h1, rfl⟩), q⟩
  · exact q1.elim
theorem zt_truP {a : Expr} {ta : TE} (ha : ZE X a ta) (he : ∀ whole, isTrue a X.env whole = (do let v ← whole; standAt a.pos; holding [v] (truthy v)) := by intro _; rfl) : ZT X a (tTruP X.K ta) := by with_unfolding_all exact pt_truP ha he
noncomputable def Itrs (lo c : Int) (n : Nat) : It := ⟨fun i _ => i < n, fun i H x H' => H' = H ∧ x = .int (lo + i * c), fun i _ => n ≤ i⟩
theorem turn_rangeS {P : Program} {w : World} {K : PySem.W.Frag} {tg : Expr} (it : Addr) (lo c : Int) (n : Nat) : Turn P w K tg (Itrs lo c n) [it] it (fun i h => IsRangeIter h it (lo + (i : Nat) * c) ((n : Int) - (i : Nat)) c) where
  mem := by simp
  obj := fun i h st b hb => by
    have e : b = it := by simpa using hb
    subst e
    exact ⟨_, st, fun v z => by
      have z' : Data.fields _ = Data.cell v := z
      cases z'⟩
  keep := fun i h h' st k => k it (by simp) _ st
  item := by
    intro X hP hw hK hc i pins s σ H E I hf st hg
    subst hP hw hK
    obtain ⟨f0, f1, f2, f3, f4, f5⟩ := hf it (by simp)
    have W := Walks.range (prog := X.prog) (w := X.w) (I.ok.hd hc) it lo c n
    refine W.item i s _ _ hg st fun v h' tk hv st' kk => ?_
    obtain ⟨t, rfl⟩ := hv
    have I1 : Inv X pins σ H { s with heap := h', toks := tk } := I.turned (fun b o hb e => kk b o (by simpa using hb) e) f0 f1 f3 f4 f5
    exact ⟨_, rfl, go_of (s := { s with heap := h', toks := tk }) (n := "range_iterator") st' rfl rfl (by decide) ⟨.int (lo + i * c), H, I1, ⟨t, rfl⟩, ⟨rfl, rfl⟩, st', fun b hb => (hf b hb).1⟩⟩
  done := by
    intro X hP hw hK hc i pins s σ H E I hf st hg
    subst hP hw hK
    obtain ⟨f0, f1, f2, f3, f4, f5⟩ := hf it (by simp)
    exact wpAny_pyNext_range_end (I.ok.hd hc) st (by have : n ≤ i := hg; omega) fun h' eb => ⟨rfl, I.turned (t' := s.toks) (fun b o hb e => eb b o hb e) f0 f1 f3 f4 f5⟩
  self := fun _ _ _ _ _ st h => wpAny_pyIter_rangeiter st h
theorem size_nonneg {a b c : Int} (hc : c ≠ 0) : 0 ≤ Builtin.Range.rangeSize a b c := by
  unfold Builtin.Range.rangeSize
  split
  · split
    · have := Int.ediv_nonneg (a := b - a - 1) (b := c) (by omega) (by omega); omega
    · omega
  · split
    · have := Int.ediv_nonneg (a := a - b - 1) (b := -c) (by omega) (by omega); omega
    · omega
noncomputable def iRng3 {tg : Expr} (ta : TA) : TI := fun σ H R => ta σ H fun vs H1 => ∃ i j c : Int, vs = [.int i, .int j, .int c] ∧ (c ≠ 0 ∧ (c < 2 ^ 29 ∧ -(2 ^ 29) < c) ∧ Builtin.Range.small i j c = true) ∧ R (Itrs i c (Builtin.Range.rangeSize i j c).toNat) H1
theorem pi_range3 {tg : Expr} {a b d : Expr} {ta : TA} {p pos : Pos} (hg : Gl X "range") (hm : X.mg "range" = none) (ha : PA X [a, b, d] ta) (hs : starEach [a, b, d] X.env = [(false, eval a X.env), (false, eval b X.env), (false, eval d X.env)] := by rfl) (hs2 : starEach [b, d] X.env = [(false, eval b X.env), (false, eval d X.env)] := by rfl) :
    PI X tg (.Call (.Name "range" p) [a, b, d] [] pos) (iRng3 (tg := tg) ta) := by
  intro pins s σ H R I h
  refine Call_ (ld_blt I hg hm boot_range (PyProof.Rows.callWith_type1 (thn (ha pos pins s σ H _ I h) fun us s1 ⟨vs, H1, I1, r1, q1⟩ => ?_) (by rw [hs, hs2]) (by rw [hs2]; rfl)))
  obtain ⟨i, j, c, e, ⟨hc0, ⟨hcb, hcb2⟩, hsm⟩, q⟩ := q1
  subst e
  cases r1 with
  | cons r rr =>
    cases rr with
    | cons r' rr =>
      cases rr with
      | cons r'' rr =>
        cases rr
        obtain ⟨t, rfl⟩ := r
        obtain ⟨t', rfl⟩ := r'
        obtain ⟨t'', rfl⟩ := r''
        refine PySem.call_range_3 hc0 ?_ (Or.inl (PyProof.noPylong_small (by omega)))
        refine wpAny_pyIter_range (IsRange.new ..) hsm ?_
        have I2 : Inv X pins σ H1 { s1 with heap := s1.heap.push { cls := .type "range", data := .fields #[.int i t, .int j t', .int c t''] } } := I1.kept (t' := s1.toks) fun b o e => Heap.get?_push_of_some _ e
        refine ⟨(s1.heap.push { cls := .type "range", data := .fields #[.int i t, .int j t', .int c t''] }).objs.size, [(s1.heap.push { cls := .type "range", data := .fields #[.int i t, .int j t', .int c t''] }).objs.size], _, _, H1, rfl,
          I2.kept (t' := s1.toks) fun b o e => Heap.get?_push_of_some _ e, turn_rangeS _ i c (Builtin.Range.rangeSize i j c).toNat, ?_, fun b hb => ?_, q⟩
        · have e1 : i + ((0 : Nat) : Int) * c = i := by simp
          have e2 : (((Builtin.Range.rangeSize i j c).toNat : Nat) : Int) - ((0 : Nat) : Int) = Builtin.Range.rangeSize i j c := by have := size_nonneg (a := i) (b := j) hc0; omega
          show IsRangeIter _ _ (i + ((0 : Nat) : Int) * c) ((((Builtin.Range.rangeSize i j c).toNat : Nat) : Int) - ((0 : Nat) : Int)) c
          rw [e1, e2]
          exact Heap.get?_push_size _ rfl
        · have e : b = (s1.heap.push { cls := .type "range", data := .fields #[.int i t, .int j t', .int c t''] }).objs.size := by simpa using hb
          subst e
          exact I2.fpOk (Nat.le_refl _) (I2.hok.fresh (Nat.le_refl _))
theorem zi_range3 {tg : Expr} {a b d : Expr} {ta : TA} {p pos : Pos} (hg : Gl X "range") (hm : X.mg "range" = none) (ha : ZA X [a, b, d] ta) (hs : starEach [a, b, d] X.env = [(false, eval a X.env), (false, eval b X.env), (false, eval d X.env)] := by rfl) (hs2 : starEach [b, d] X.env = [(false, eval b X.env), (false, eval d X.env)] := by rfl) :
    ZI X tg (.Call (.Name "range" p) [a, b, d] [] pos) (iRng3 (tg := tg) ta) := by with_unfolding_all exact pi_range3 hg hm ha hs hs2
theorem for_rangeS {lo c : Int} {n : Nat} {g : TG} {tb : TS} {D : Ends} {σ : St} {H : Hp} (Pv : Nat → St → Hp → Prop) (h0 : Pv 0 σ H)
    (hs : ∀ i σ H, i < n → Pv i σ H → g (.int (lo + i * c)) σ H fun σ2 H2 => tb { D with nx := Pv (i + 1), ct := Pv (i + 1), bk := D.nx } σ2 H2) (hd : ∀ σ H, Pv n σ H → D.nx σ H) :
    ∃ W : Nat → Nat → St → Hp → Prop, (∃ m, W 0 m σ H) ∧ ∀ i m σ H, W i m σ H →
      ((Itrs lo c n).stop i H ∧ D.nx σ H) ∨ ((Itrs lo c n).go i H ∧ ∃ N : St → Hp → Prop, (∀ σ' H', N σ' H' → ∃ m', m' < m ∧ W (i + 1) m' σ' H') ∧ ∀ x H', (Itrs lo c n).yld i H x H' → g x σ H' fun σ2 H2 => tb { D with nx := N, ct := N, bk := D.nx } σ2 H2) := by
  refine ⟨fun i m σ H => m = n - i ∧ i ≤ n ∧ Pv i σ H, ⟨n, by simp, Nat.zero_le _, h0⟩, ?_⟩
  rintro i m σ H ⟨rfl, hi, p⟩
  by_cases hlt : i < n
  · refine .inr ⟨hlt, Pv (i + 1), fun σ' H' p' => ⟨n - (i + 1), by omega, rfl, hlt, p'⟩, fun x H' y => ?_⟩
    obtain ⟨e, y⟩ := y
    subst e y
    exact hs i σ _ hlt p
  · have e : i = n := by omega
    subst e
    exact .inl ⟨Nat.le_refl _, hd σ H p⟩
theorem size_down {a b : Int} : (Builtin.Range.rangeSize a b (-1)).toNat = (a - b).toNat := by
  unfold Builtin.Range.rangeSize
  rw [if_neg (by decide)]
  split
  · have : (- -1 : Int) = 1 := by decide
    rw [this, Int.ediv_one]; omega
  · omega
theorem small_down {a b : Int} (ha : -(2 ^ 62) ≤ a) (ha' : a < 2 ^ 62) (hb : -(2 ^ 62) ≤ b) (hb' : b < 2 ^ 62) : Builtin.Range.small a b (-1) = true := by
  have e : Builtin.Range.rangeSize a b (-1) = if a > b then a - b else 0 := by
    unfold Builtin.Range.rangeSize
    rw [if_neg (by decide)]
    have : (- -1 : Int) = 1 := by decide
    rw [this]
    split
    · rw [Int.ediv_one]; omega
    · rfl
  unfold Builtin.Range.small
  rw [e]
  simp only [Builtin.Range.rangeFitsLong, Bool.and_eq_true, Bool.or_eq_true, decide_eq_true_eq, beq_iff_eq, show ¬ ((-1 : Int) > 0) by decide, if_false]
  split <;> omega
end
section
variable {X : Cx} {e : Expr} {es : List Expr} {t : TA} {p pos : Pos}
theorem boot_abs' : bootBuiltins "abs" = some (.builtin "abs") := by decide +kernel
noncomputable def rAbsP : List V → Hp → VK → Prop := fun xs H Q => match xs with
  | [.int i] => Q (.int (if i < 0 then -i else i)) H
  | _ => False
theorem call_absP : CallR X (.builtin "abs") rAbsP := call_abs.imp fun xs H Q h => by
  unfold rAbsP at h
  split at h
  · exact ⟨_, rfl, h⟩
  · exact h.elim
theorem pcb_abs (hg : Gl X "abs") (hm : X.mg "abs" = none) (ha : PA X (e :: es) t) (he : starEach (e :: es) X.env = (false, eval e X.env) :: starEach es X.env) (hpl : (backTo pos (starEach es X.env)).any (·.1) = false) :
    PE X (.Call (.Name "abs" p) (e :: es) [] pos) (tCB rAbsP t) := pe_callB call_absP hg hm boot_abs' ha (by decide) (by decide) he hpl
theorem zcb_abs (hg : Gl X "abs") (hm : X.mg "abs" = none) (ha : ZA X (e :: es) t) (he : starEach (e :: es) X.env = (false, eval e X.env) :: starEach es X.env) (hpl : (backTo pos (starEach es X.env)).any (·.1) = false) :
    ZE X (.Call (.Name "abs" p) (e :: es) [] pos) (tCB rAbsP t) := by with_unfolding_all exact pcb_abs hg hm ha he hpl
noncomputable def rAppP : V → List V → Hp → VK → Prop := fun x vs H Q => match x, vs with
  | .ref l, [y] => ∃ xs, H l = some (.lst xs) ∧ xs.length < sizeLine ∧ Q .non (upd H l (.lst (xs ++ [y])))
  | _, _ => False
theorem mt_appP : MtM X "list.append" rAppP := fun pins s σ H x vs v us Q I rx rv h => by
  unfold rAppP at h
  split at h
  · obtain ⟨xs, h1, h2, q⟩ := h
    exact mt_append pins s σ H _ _ v us Q I rx rv ⟨_, xs, _, rfl, rfl, h1, h2, q⟩
  · exact h.elim
variable {o : Expr} {to : TE} {apos cpos : Pos}
theorem pm_append (ho : PE X o to) (ha : PA X (e :: es) t) (hbase : attributeBase o "append" X.env (eval o X.env) = eval o X.env := by rfl)
    (hfew : ((backTo cpos (starEach (e :: es) X.env)).all (fun x => !x.1) && (backToKw cpos (keywordEach [] X.env)).all (fun x => x.1.isSome)
      && decide ((e :: es).length + ([] : List Keyword).length + (if ([] : List Keyword).isEmpty then 0 else 1) < 30)) = true := by rfl)
    (hline : (apos.endLine == cpos.line) = true := by rfl) (hs : starEach (e :: es) X.env = (false, eval e X.env) :: starEach es X.env := by rfl) (hplain : (backTo cpos (starEach es X.env)).any (·.1) = false := by rfl) :
    PE X (.Call (.Attribute o "append" apos) (e :: es) [] cpos) (fun σ H Q => to σ H fun x H1 => tyV X.K "list" x H1 ∧ t σ H1 fun xs H2 => rAppP x xs H2 Q) :=
  pe_bm PySem.F.plainAttrs_list PySem.F.slot_list_append PySem.F.type_list_append mt_appP ho ha hbase hfew hline hs hplain
theorem zm_append (ho : ZE X o to) (ha : ZA X (e :: es) t) (hbase : attributeBase o "append" X.env (eval o X.env) = eval o X.env := by rfl)
    (hfew : ((backTo cpos (starEach (e :: es) X.env)).all (fun x => !x.1) && (backToKw cpos (keywordEach [] X.env)).all (fun x => x.1.isSome)
      && decide ((e :: es).length + ([] : List Keyword).length + (if ([] : List Keyword).isEmpty then 0 else 1) < 30)) = true := by rfl)
    (hline : (apos.endLine == cpos.line) = true := by rfl) (hs : starEach (e :: es) X.env = (false, eval e X.env) :: starEach es X.env := by rfl) (hplain : (backTo cpos (starEach es X.env)).any (·.1) = false := by rfl) :
    ZE X (.Call (.Attribute o "append" apos) (e :: es) [] cpos) (fun σ H Q => to σ H fun x H1 => tyV X.K "list" x H1 ∧ t σ H1 fun xs H2 => rAppP x xs H2 Q) := by with_unfolding_all exact pm_append ho ha hbase hfew hline hs hplain
theorem pm_count (ho : PE X o to) (ha : PA X (e :: es) t) (hbase : attributeBase o "count" X.env (eval o X.env) = eval o X.env := by rfl)
    (hfew : ((backTo cpos (starEach (e :: es) X.env)).all (fun x => !x.1) && (backToKw cpos (keywordEach [] X.env)).all (fun x => x.1.isSome)
      && decide ((e :: es).length + ([] : List Keyword).length + (if ([] : List Keyword).isEmpty then 0 else 1) < 30)) = true := by rfl)
    (hline : (apos.endLine == cpos.line) = true := by rfl) (hs : starEach (e :: es) X.env = (false, eval e X.env) :: starEach es X.env := by rfl) (hplain : (backTo cpos (starEach es X.env)).any (·.1) = false := by rfl) :
    PE X (.Call (.Attribute o "count" apos) (e :: es) [] cpos) (fun σ H Q => to σ H fun x H1 => tyV X.K "tuple" x H1 ∧ t σ H1 fun xs H2 => rCountP x xs H2 Q) :=
  pe_bm PySem.F.plainAttrs_tuple PySem.F.slot_tuple_count PySem.F.type_tuple_count mt_count ho ha hbase hfew hline hs hplain
theorem tyL {K : PySem.W.Frag} {H : Hp} {l : Addr} {xs : List V} (h : H l = some (.lst xs)) : tyV K "list" (.ref l) H := .inl ⟨rfl, xs, SqL.of h⟩
theorem tyT {K : PySem.W.Frag} {H : Hp} {l : Addr} {xs : List V} (h : H l = some (.tup xs)) : tyV K "tuple" (.ref l) H := .inr (.inr (.inr (.inr ⟨rfl, xs, h⟩)))
end
end L2
set_option Elab.async false
set_option linter.all false
set_option maxRecDepth 100000
set_option maxHeartbeats 4000000
namespace L2
open PySem PySem.Spec PyProof.Rows
theorem log2_small {i : Int} {n : Nat} (h : i.natAbs < 2 ^ n) : i.natAbs.log2 < n ∨ i.natAbs = 0 := by
  by_cases h0 : i.natAbs = 0
  · exact .inr h0
  · exact .inl ((Nat.log2_lt h0).mpr h)
theorem DatV.ints {H : Hp} {a : Addr} {ns : List Int} (e : H a = some (.tup (ns.map V.int))) : DatV H (.ref a) (.tuple (ns.map PyData.int)) := .tup e (DatAll.ints ns)
noncomputable def PrAt (H : Hp) (v : V) (p : Int × Int) : Prop := ∃ b, v = .ref b ∧ H b = some (.tup [.int p.1, .int p.2])
inductive Prs (H : Hp) : List V → List (Int × Int) → Prop where
  | nil : Prs H [] []
  | cons {v p vs ps} : PrAt H v p → Prs H vs ps → Prs H (v :: vs) (p :: ps)
theorem Prs.same {H H' : Hp} (y : Same H H') : ∀ {vs ps}, Prs H vs ps → Prs H' vs ps
  | _, _, .nil => .nil
  | _, _, .cons ⟨b, e, h⟩ r => .cons ⟨b, e, y _ _ h⟩ (Prs.same y r)
theorem Prs.length {H : Hp} : ∀ {vs ps}, Prs H vs ps → vs.length = ps.length
  | _, _, .nil => rfl
  | _, _, .cons _ r => by rw [List.length_cons, List.length_cons, Prs.length r]
theorem Prs.get {H : Hp} : ∀ {vs ps} {i : Nat} {v : V}, Prs H vs ps → vs[i]? = some v → ∃ p, ps[i]? = some p ∧ PrAt H v p
  | _, _, _, _, .nil, h => by simp at h
  | _, _, 0, _, .cons h _, e => by simp at e; subst e; exact ⟨_, rfl, h⟩
  | _, _, i + 1, _, .cons _ r, e => by
    obtain ⟨p, h1, h2⟩ := Prs.get (i := i) r (by simpa using e)
    exact ⟨p, by simpa using h1, h2⟩
theorem Prs.snoc {H : Hp} {v : V} {p : Int × Int} (h : PrAt H v p) : ∀ {vs ps}, Prs H vs ps → Prs H (vs ++ [v]) (ps ++ [p])
  | _, _, .nil => .cons h .nil
  | _, _, .cons q r => .cons q (Prs.snoc h r)
theorem Prs.set {H : Hp} {v : V} {p : Int × Int} (h : PrAt H v p) : ∀ {vs ps} (i : Nat), Prs H vs ps → Prs H (vs.set i v) (ps.set i p)
  | _, _, _, .nil => .nil
  | _, _, 0, .cons _ r => .cons h r
  | _, _, i + 1, .cons q r => .cons q (Prs.set h i r)
theorem Same.updN {H H' : Hp} {t : Addr} {o : HO} (y : Same H H') (h : H t = none) : Same H (upd H' t o) := fun b u e => by
  rw [upd_ne (ne_of_none e h)]
  exact y b u e
theorem Prs.updL {H : Hp} {t : Addr} {xs ys : List V} (h : H t = some (.lst xs)) : ∀ {us ps}, Prs H us ps → Prs (upd H t (.lst ys)) us ps
  | _, _, .nil => .nil
  | _, _, .cons ⟨b, e, hb⟩ r => .cons ⟨b, e, by rw [upd_ne (ne_of hb h (by intro z; cases z))]; exact hb⟩ (Prs.updL h r)
theorem Prs.nilOf {H : Hp} {us ps} (r : Prs H us ps) : us.isEmpty = ps.isEmpty := by cases r <;> rfl
theorem Prs.split {H : Hp} {us : List V} {i : List (Int × Int)} {q : Int × Int} (r : Prs H us (i ++ [q])) : ∃ vs b, us = vs ++ [.ref b] ∧ vs.length = i.length ∧ H b = some (.tup [.int q.1, .int q.2]) := by
  have hl := r.length
  rw [List.length_append, List.length_singleton] at hl
  have hne : us ≠ [] := by intro e; subst e; simp at hl
  have e := List.dropLast_concat_getLast hne
  have hd : us.dropLast.length = i.length := by rw [List.length_dropLast]; omega
  obtain ⟨p, h1, b, h2, h3⟩ := r.get (i := i.length) (v := us.getLast hne) (by
    rw [List.getLast_eq_getElem, List.getElem?_eq_getElem (by omega)]
    congr 2
    omega)
  have : p = q := by simpa using h1.symm
  subst this
  exact ⟨us.dropLast, b, by rw [← h2]; exact e.symm, hd, h3⟩
end L2
namespace L2
open PySem PySem.Spec PyProof.Rows
theorem canInts : ∀ ns : List Int, PyData.canLayAll0 (ns.map PyData.int) = true ∧ PyData.depthAll (ns.map PyData.int) ≤ 1
  | [] => ⟨by simp [PyData.canLayAll0], by simp [PyData.depthAll]⟩
  | n :: r => by
    obtain ⟨h1, h2⟩ := canInts r
    refine ⟨by simp only [List.map_cons, PyData.canLayAll0, PyData.canLay0, h1, Bool.and_self], ?_⟩
    simp only [List.map_cons, PyData.depthAll, PyData.depth]
    omega
theorem shaped_ints (ns : List Int) : SeqAt.shaped (.tuple (ns.map PyData.int)) = true := by
  obtain ⟨h1, h2⟩ := canInts ns
  unfold SeqAt.shaped
  rw [Bool.and_eq_true]
  exact ⟨by simp only [PyData.canLay0]; exact h1, decide_eq_true (by simp only [PyData.depth]; omega)⟩
theorem shaped_list_ints (ns : List Int) : SeqAt.shaped (.list (ns.map PyData.int)) = true := by
  obtain ⟨h1, h2⟩ := canInts ns
  unfold SeqAt.shaped
  rw [Bool.and_eq_true]
  exact ⟨by simp only [PyData.canLay0]; exact h1, decide_eq_true (by simp only [PyData.depth]; omega)⟩
end L2
namespace L2
open PySem PySem.Spec PyProof.Rows
theorem SqL.same {K : PySem.W.Frag} {H H' : Hp} {a : Addr} {xs : List V} (e : Same H H') (h : SqL K H a xs) : SqL K H' a xs := by
  rcases h with (h | ⟨o, h⟩) | h
  · exact .inl (.inl (e _ _ h))
  · exact .inl (.inr ⟨o, e _ _ h⟩)
  · exact .inr h
end L2
namespace L2
open PySem PySem.Spec PyProof.Rows
theorem while_by2 {c : TT} {tb : TS} {D : Ends} {σ : St} {H : Hp} (Pv : Nat → St → Hp → Prop) (m0 : Nat) (h0 : Pv m0 σ H)
    (hs : ∀ m σ H, Pv m σ H → c σ H fun b H1 => if b = true then ∃ N : St → Hp → Prop, (∀ σ' H', N σ' H' → ∃ m', m' < m ∧ Pv m' σ' H') ∧ tb { D with nx := N, ct := N, bk := D.nx } σ H1 else D.nx σ H1) : tWhile c tb D σ H := ⟨Pv, ⟨m0, h0⟩, hs⟩
end L2
set_option Elab.async false
set_option linter.all false
set_option maxRecDepth 100000
set_option maxHeartbeats 4000000
namespace L2
open PySem PySem.Spec PyProof.Rows
section
variable {X : Cx}
noncomputable def rGetL (K : PySem.W.Frag) : V → V → Hp → VK → Prop := fun x y H Q => match x, y with
  | .ref p, .int i => ∃ xs v, SqL K H p xs ∧ 0 ≤ i ∧ xs[i.toNat]? = some v ∧ Q v H
  | _, _ => False
theorem get_list : PGet X (rGetL X.K) := by
  intro pins s σ H x y v u Q I rx ry h
  unfold rGetL at h
  split at h
  · rename_i p i
    obtain ⟨xs, z, hq, h0, he, q⟩ := h
    cases rx
    obtain ⟨t, rfl⟩ := ry
    obtain ⟨its, r, pl, hz⟩ := I.list hq
    obtain ⟨w, ew, rw'⟩ := r.get he
    have hl := r.length
    have hn := line63
    have hi : i.toNat < its.length := (List.getElem?_eq_some_iff.mp ew).1
    exact wpAny_getItem_list pl.isList h0 (by omega) (by simpa using ew) ⟨z, H, I, rw', q⟩
  · exact h.elim
noncomputable def ipP (f : Int → Int → Int) : TIp := fun x y H Q => match x, y with
  | .int i, .int j => Q (.int (f i j)) H
  | _, _ => False
theorem ipP_I {f : Int → Int → Int} {x y : V} {H : Hp} {Q : VK} (h : ipP f x y H Q) : ipI f x y H Q := by
  unfold ipP at h
  split at h
  · exact ⟨_, _, rfl, rfl, h⟩
  · exact h.elim
theorem ip_addP : PIp X .Add (ipP fun i j => i + j) := fun pins s σ H x y v u Q I r1 r2 h => ip_add pins s σ H x y v u Q I r1 r2 (ipP_I h)
theorem ip_subP : PIp X .Sub (ipP fun i j => i - j) := fun pins s σ H x y v u Q I r1 r2 h => ip_sub pins s σ H x y v u Q I r1 r2 (ipP_I h)
noncomputable def rSetP : V → V → V → Hp → (Hp → Prop) → Prop := fun o i v H Q => match o, i with
  | .ref p, .int k => ∃ xs, H p = some (.lst xs) ∧ 0 ≤ k ∧ k.toNat < xs.length ∧ Q (upd H p (.lst (xs.set k.toNat v)))
  | _, _ => False
theorem set_listP : PSet X rSetP := fun pins s σ H o i v ov iv u Q I r1 r2 r3 h => by
  unfold rSetP at h
  split at h
  · obtain ⟨xs, h1, h2, h3, q⟩ := h
    refine set_list pins s σ H _ _ v ov iv u Q I r1 r2 r3 ⟨_, xs, _, _, rfl, rfl, h1, ?_, q⟩
    unfold ixN
    rw [if_pos h2, if_pos (by omega)]
  · exact h.elim
end
section
variable {X : Cx} {e : Expr} {es : List Expr} {t : TA} {o : Expr} {to : TE} {apos cpos : Pos}
end
end L2
namespace L2
open PySem PySem.Spec PyProof.Rows
inductive Tps (H : Hp) : List V → List (List Int) → Prop where
  | nil : Tps H [] []
  | cons {b : Addr} {ls : List Int} {vs lss} : H b = some (.tup (ls.map V.int)) → Tps H vs lss → Tps H (.ref b :: vs) (ls :: lss)
theorem Tps.same {H H' : Hp} (y : Same H H') : ∀ {vs ps}, Tps H vs ps → Tps H' vs ps
  | _, _, .nil => .nil
  | _, _, .cons h r => .cons (y _ _ h) (Tps.same y r)
theorem Tps.length {H : Hp} : ∀ {vs ps}, Tps H vs ps → vs.length = ps.length
  | _, _, .nil => rfl
  | _, _, .cons _ r => by rw [List.length_cons, List.length_cons, Tps.length r]
theorem Tps.get {H : Hp} : ∀ {vs ps} {i : Nat} {v : V}, Tps H vs ps → vs[i]? = some v → ∃ ls b, ps[i]? = some ls ∧ v = .ref b ∧ H b = some (.tup (ls.map V.int))
  | _, _, _, _, .nil, h => by simp at h
  | _, _, 0, _, .cons h _, e => by simp at e; exact ⟨_, _, rfl, e.symm, h⟩
  | _, _, i + 1, _, .cons _ r, e => by
    obtain ⟨ls, b, h1, h2⟩ := Tps.get (i := i) r (by simpa using e)
    exact ⟨ls, b, by simpa using h1, h2⟩
theorem Tps.snoc {H : Hp} {b : Addr} {ls : List Int} (h : H b = some (.tup (ls.map V.int))) : ∀ {vs ps}, Tps H vs ps → Tps H (vs ++ [.ref b]) (ps ++ [ls])
  | _, _, .nil => .cons h .nil
  | _, _, .cons q r => .cons q (Tps.snoc h r)
theorem Tps.updL {H : Hp} {t : Addr} {xs ys : List V} (h : H t = some (.lst xs)) : ∀ {us ps}, Tps H us ps → Tps (upd H t (.lst ys)) us ps
  | _, _, .nil => .nil
  | _, _, .cons hb r => .cons (by rw [upd_ne (ne_of hb h (by intro z; cases z))]; exact hb) (Tps.updL h r)
end L2
namespace L2
open PySem PySem.Spec PyProof.Rows
section
variable {X : Cx} {e : Expr} {es : List Expr} {t : TA} {p pos : Pos} {K : PySem.W.Frag} {o : Expr} {to : TE} {apos cpos : Pos}
theorem pcb_len' (hg : Gl X "len") (hm : X.mg "len" = none) (ha : PA X (e :: es) t) (he : starEach (e :: es) X.env = (false, eval e X.env) :: starEach es X.env) (hpl : (backTo pos (starEach es X.env)).any (·.1) = false) (hK : X.K = K) :
    PE X (.Call (.Name "len" p) (e :: es) [] pos) (tCB (rLenP K) t) := by subst hK; exact pcb_len hg hm ha he hpl
theorem zcb_len' (hg : Gl X "len") (hm : X.mg "len" = none) (ha : ZA X (e :: es) t) (he : starEach (e :: es) X.env = (false, eval e X.env) :: starEach es X.env) (hpl : (backTo pos (starEach es X.env)).any (·.1) = false) (hK : X.K = K) :
    ZE X (.Call (.Name "len" p) (e :: es) [] pos) (tCB (rLenP K) t) := by with_unfolding_all exact pcb_len' hg hm ha he hpl hK
theorem pm_count' (ho : PE X o to) (ha : PA X (e :: es) t) (hK : X.K = K) (hbase : attributeBase o "count" X.env (eval o X.env) = eval o X.env := by rfl)
    (hfew : ((backTo cpos (starEach (e :: es) X.env)).all (fun x => !x.1) && (backToKw cpos (keywordEach [] X.env)).all (fun x => x.1.isSome)
      && decide ((e :: es).length + ([] : List Keyword).length + (if ([] : List Keyword).isEmpty then 0 else 1) < 30)) = true := by rfl)
    (hline : (apos.endLine == cpos.line) = true := by rfl) (hs : starEach (e :: es) X.env = (false, eval e X.env) :: starEach es X.env := by rfl) (hplain : (backTo cpos (starEach es X.env)).any (·.1) = false := by rfl) :
    PE X (.Call (.Attribute o "count" apos) (e :: es) [] cpos) (fun σ H Q => to σ H fun x H1 => tyV K "tuple" x H1 ∧ t σ H1 fun xs H2 => rCountP x xs H2 Q) := by subst hK; exact pm_count ho ha hbase hfew hline hs hplain
theorem zm_count' (ho : ZE X o to) (ha : ZA X (e :: es) t) (hK : X.K = K) (hbase : attributeBase o "count" X.env (eval o X.env) = eval o X.env := by rfl)
    (hfew : ((backTo cpos (starEach (e :: es) X.env)).all (fun x => !x.1) && (backToKw cpos (keywordEach [] X.env)).all (fun x => x.1.isSome)
      && decide ((e :: es).length + ([] : List Keyword).length + (if ([] : List Keyword).isEmpty then 0 else 1) < 30)) = true := by rfl)
    (hline : (apos.endLine == cpos.line) = true := by rfl) (hs : starEach (e :: es) X.env = (false, eval e X.env) :: starEach es X.env := by rfl) (hplain : (backTo cpos (starEach es X.env)).any (·.1) = false := by rfl) :
    ZE X (.Call (.Attribute o "count" apos) (e :: es) [] cpos) (fun σ H Q => to σ H fun x H1 => tyV K "tuple" x H1 ∧ t σ H1 fun xs H2 => rCountP x xs H2 Q) := by with_unfolding_all exact pm_count' ho ha hK hbase hfew hline hs hplain
end
end L2
namespace L2
open PySem
end L2
set_option Elab.async false
set_option linter.all false
set_option maxRecDepth 100000
set_option maxHeartbeats 4000000
namespace L2
open PySem PySem.Spec PyProof.Rows
section
variable {X : Cx} {pins : List (Addr × Obj)} {σ : St} {H : Hp} {s : Shared}
end
section
variable {X : Cx}
noncomputable def IntG (mg : Str → Option Value) (x : Str) (i : Int) : Prop := ∃ t, mg x = some (.int i t)
theorem pe_ig {x : Str} {i : Int} {pos : Pos} (hg : Gl X x) (hm : IntG X.mg x i) (hd : (x == ("__debug__" : Str)) = false := by decide) : PE X (.Name x pos) (tC (.int i)) := by
  obtain ⟨t, e⟩ := hm
  exact pe_glob hg e ⟨t, rfl⟩ hd
theorem ze_ig {x : Str} {i : Int} {pos : Pos} (hg : Gl X x) (hm : IntG X.mg x i) (hd : (x == ("__debug__" : Str)) = false := by decide) : ZE X (.Name x pos) (tC (.int i)) := by with_unfolding_all exact pe_ig hg hm hd
end
end L2
set_option Elab.async false
set_option linter.all false
set_option maxRecDepth 100000
set_option maxHeartbeats 4000000
namespace L2
open PySem PySem.Spec PyProof.Rows
section
variable {M : Model} {A : Around} {E : Value → Shared → Prop} {s : Shared}
theorem newEnv1 {scope : Scope} {globals : Addr} {cl : List (Str × Addr)} {qual : Str} {env : Env} {x : Str} {Q : Env → Shared → Prop}
    (hcl : ∀ n acc, cellsFrom n scope.names acc = (x, n) :: acc) (hpc : ∀ h : Heap, pushCells h scope.names = h.push { cls := .type "cell", data := .cell none })
    (h : Q { scope, locals := s.heap.objs.size, globals, cells := (x, s.heap.objs.size + 1) :: cl, qual, func := none, code := env.code, frame := env.frame, builtins := env.builtins }
      { s with heap := (s.heap.push { cls := .type "dict", data := .dict #[] }).push { cls := .type "cell", data := .cell none } }) :
    wpAny M A (newFunctionEnv scope globals cl [] qual none .none (some env)) Q E s := by
  simp only [newFunctionEnv, Option.isSome_some, if_true]
  refine wpAny_bind (wpAny_alloc ?_)
  refine wpAny_bind (wpAny_layCells _ (fun name kind cells => by cases hkc : kind == NameKind.cell <;> simp [hkc]) _ _ _ _ ?_)
  rw [hcl, hpc, show ({ s with heap := s.heap.push { cls := .type "dict", data := .dict #[] } } : Shared).heap.objs.size = s.heap.objs.size + 1 from Heap.size_push ..]
  rw [List.forIn_nil]
  exact wpAny_bind (wpAny_pure (wpAny_pure h))
end
noncomputable def cells1 (X : Cx) (x : Str) (scope : Scope) (C : Addr) : List (Str × Addr) := (x, C + 1) :: clsOf X.env scope.names []
noncomputable def cmpX1 (X : Cx) (x : Str) (nv : List Str) (ix : List (Str × Nat)) (scope : Scope) (C : Addr) (s₀ : Shared) (H₀ : Hp) (fp : List Addr) : Cx :=
  { X with N := nv ++ ix.map (·.1), s₀ := s₀, H₀ := H₀, env := { compEnvC scope (clsOf X.env scope.names []) C X.env with cells := cells1 X x scope C }, outer := X.stack, stack := X.stack, ex := fp, fn := fun y => y == x, pn := [], xe := fun _ _ => False }
structure CompOk1 (X : Cx) (x : Str) (nv : List Str) (ix : List (Str × Nat)) (scope : Scope) : Prop where
  kind : scope.kind = .function
  names : ∀ y ∈ scope.names, y.2 = .local → scope.names.lookup y.1 = some .local
  free : (scope.names.all fun y => !(y.2 == NameKind.free) || ((X.env.kindOf y.1 == some NameKind.cell || X.env.kindOf y.1 == some NameKind.free) && !(y.1 == x))) = true
  ix : (ix.all fun p => (scope.names.lookup p.1 == some NameKind.free) && (X.N[p.2]? == some p.1)) = true
  cl : ∀ n acc, cellsFrom n scope.names acc = (x, n) :: acc
  pc : ∀ h : Heap, pushCells h scope.names = h.push { cls := .type "cell", data := .cell none }
  own : (scope.names.all fun y => !(y.2 == NameKind.cell) || (y.1 == x)) = true
section
variable {X : Cx} {x : Str} {nv : List Str} {ix : List (Str × Nat)} {scope : Scope} {pins : List (Addr × Obj)} {σ : St} {H : Hp} {s : Shared}
theorem CompOk1.fk (co : CompOk1 X x nv ix scope) {y : Str × NameKind} (hy : y ∈ scope.names) (hf : y.2 = .free) : (X.env.kindOf y.1 = some .cell ∨ X.env.kindOf y.1 = some .free) ∧ y.1 ≠ x := by
  have q := List.all_eq_true.mp co.free y hy
  rw [hf] at q
  simpa using q
theorem CompOk1.cells (co : CompOk1 X x nv ix scope) (ok : X.Ok) : ∀ y ∈ scope.names, y.2 = .free → ∃ c, X.env.cells.lookup y.1 = some c := fun y hy hf => ok.has y.1 (co.fk hy hf).1
theorem CompOk1.look0 (co : CompOk1 X x nv ix scope) (ok : X.Ok) {n : Str} {c : Addr} (h : (clsOf X.env scope.names []).lookup n = some c) : X.env.cells.lookup n = some c :=
  clsOf_look _ _ (co.cells ok) (fun _ _ e => by cases e) n c h
theorem CompOk1.look (co : CompOk1 X x nv ix scope) (ok : X.Ok) {n : Str} {c C : Addr} (h : (cells1 X x scope C).lookup n = some c) : (n = x ∧ c = C + 1) ∨ X.env.cells.lookup n = some c := by
  unfold cells1 at h
  rw [List.lookup_cons] at h
  cases e : n == x with
  | true => rw [e] at h; cases h; exact .inl ⟨by simpa using e, rfl⟩
  | false => rw [e] at h; exact .inr (co.look0 ok h)
theorem CompOk1.ixp (co : CompOk1 X x nv ix scope) {p : Str × Nat} (hp : p ∈ ix) : scope.names.lookup p.1 = some .free ∧ X.N[p.2]? = some p.1 := by
  have q := Bool.and_eq_true_iff.mp (List.all_eq_true.mp co.ix p hp)
  exact ⟨by simpa using q.1, by simpa using q.2⟩
theorem CompOk1.isx (co : CompOk1 X x nv ix scope) {y : Str} (hy : (y, NameKind.cell) ∈ scope.names) : y = x := by
  have q := List.all_eq_true.mp co.own _ hy
  simpa using q
theorem cells1_has (co : CompOk1 X x nv ix scope) {y : Str} {C : Addr} (hy : (y, NameKind.free) ∈ scope.names) : ∃ c, (cells1 X x scope C).lookup y = some c := by
  unfold cells1
  rw [List.lookup_cons]
  cases e : y == x with
  | true => exact ⟨_, rfl⟩
  | false => exact clsOf_has _ _ y (.inl hy)
theorem cmpX1_ok (co : CompOk1 X x nv ix scope) (I : Inv X pins σ H s) {fp : List Addr} {C : Addr} (hC : s.heap.objs.size ≤ C) (hf : ∀ b ∈ fp, FpOk X pins H b) (hlt : ∀ b ∈ fp, b < s.heap.objs.size) : (cmpX1 X x nv ix scope C s H fp).Ok where
  mod := I.mod
  kind := co.kind
  glob := I.ok.glob
  blt := I.ok.blt
  above := hC
  inj := fun y z c a b => by
    have low : ∀ {n : Str}, X.env.cells.lookup n = some c → c = C + 1 → False := fun {n} e q => by
      obtain ⟨v, o, e1, _⟩ := I.cell n c e
      have := Heap.lt_size e1
      rw [q] at this
      exact Nat.lt_irrefl _ (Nat.lt_of_lt_of_le (Nat.lt_of_succ_lt this) hC)
    rcases co.look I.ok a with ⟨h1, h2⟩ | h1 <;> rcases co.look I.ok b with ⟨g1, g2⟩ | g1
    · rw [h1, g1]
    · exact (low g1 h2).elim
    · exact (low h1 g2).elim
    · exact I.ok.inj y z c h1 g1
  has := fun y hk => by
    have z : (y, NameKind.free) ∈ scope.names ∨ y = x := by
      rcases hk with hk | hk
      · obtain ⟨k, h1, _, h3⟩ := rl_look (env := X.env) (names := scope.names) hk
        rcases h3 with h3 | ⟨h3, _⟩
        · rw [← h3] at h1; exact .inr (co.isx h1)
        · rw [h3] at h1; exact .inl h1
      · obtain ⟨k, h1, _, h3⟩ := rl_look (env := X.env) (names := scope.names) hk
        rcases h3 with h3 | ⟨_, h3⟩
        · rw [← h3] at h1; exact .inl h1
        · cases h3
    rcases z with z | rfl
    · exact cells1_has co z
    · refine ⟨C + 1, ?_⟩
      show (cells1 X y scope C).lookup y = _
      unfold cells1
      simp
  cab := fun y c h e => by
    rcases co.look I.ok e with ⟨_, h2⟩ | h2
    · rw [h2]; exact Nat.le_succ_of_le hC
    · have hy : y = x := by simpa [cmpX1] using h
      have e' : (cells1 X x scope C).lookup y = some c := e
      unfold cells1 at e'
      rw [hy] at e'
      have : c = C + 1 := by simpa using e'.symm
      rw [this]; exact Nat.le_succ_of_le hC
  hd := I.ok.hd
  frames := I.ok.frames
  stk := .inl rfl
  exf := fun b hb => ⟨Nat.ne_of_lt (Nat.lt_of_lt_of_le (hlt b hb) hC), fun y c e => by
    rcases co.look I.ok e with ⟨_, h2⟩ | h2
    · have := hlt b hb
      intro z
      rw [← z, h2] at this
      exact Nat.lt_irrefl _ (Nat.lt_of_lt_of_le (Nat.lt_of_succ_lt this) hC)
    · exact (hf b hb).2.2.2.2.1 y c h2⟩
  bs := fun b o e => I.bs b o e
  bsz := Nat.le_trans I.ok.bsz I.sz
  noex := fun b o e hb => by
    rcases (hf b hb).2.2.2.1 with z | z
    · exact I.ok.noex b o e z
    · exact absurd (Nat.lt_of_lt_of_le (Heap.lt_size e) (Nat.le_trans I.ok.bsz z)) (Nat.lt_irrefl _)
  exfs := fun b hb hs => by
    rcases List.mem_cons.mp (I.stkSub b hs) with e | h
    · exact (hf b hb).2.1 e
    · exact (hf b hb).2.2.1 h
  funs := I.stack
  frf := I.stkFree
theorem cmp_start1 (co : CompOk1 X x nv ix scope) (I : Inv X pins σ H s) {fp : List Addr} {h₁ : Heap} {tk : Nat} {m : Str → Option Value} (hf : ∀ b ∈ fp, FpOk X pins H b) (hlt : ∀ b ∈ fp, b < s.heap.objs.size)
    (hn : h₁.Ns (s.heap.objs.size + 1) m) (old : ∀ b o, s.heap.get? b = some o → h₁.get? b = some o) (hD : h₁.get? s.heap.objs.size = some (lobj [] 0)) (hce : h₁.IsCell (s.heap.objs.size + 1 + 1) none) :
    Inv (cmpX1 X x nv ix scope (s.heap.objs.size + 1) s H fp) [(s.heap.objs.size, lobj [] 0)] (st0 nv ix σ) H { s with heap := h₁, toks := tk } where
  ok := cmpX1_ok co I (Nat.le_succ _) hf hlt
  os := rfl
  bare := I.bare
  base := Un.kept old
  loc := by
    refine ⟨m, hn, fun i y v e1 e2 hv => ?_⟩
    obtain ⟨m₀, _, hl⟩ := I.loc
    have e1' : (nv ++ ix.map (·.1))[i]? = some y := e1
    unfold st0 at e2
    by_cases hi : i < nv.length
    · rw [List.getElem?_append_left (by rw [List.length_map]; exact hi), List.getElem?_map] at e2
      cases q : nv[i]? with
      | none => rw [q] at e2; cases e2
      | some z => rw [q] at e2; cases e2
    · have hi' : nv.length ≤ i := Nat.not_lt.mp hi
      rw [List.getElem?_append_right hi', List.getElem?_map] at e1'
      rw [List.getElem?_append_right (by rw [List.length_map]; exact hi'), List.length_map] at e2
      unfold frV at e2
      rw [List.getElem?_map] at e2
      cases q : ix[i - nv.length]? with
      | none => rw [q] at e1'; cases e1'
      | some p =>
        rw [q] at e1' e2
        have hp : p ∈ ix := List.mem_of_getElem? q
        have ex : p.1 = y := Option.some.inj e1'
        have ev : σ[p.2]? = some (some v) := join_some (Option.some.inj e2)
        obtain ⟨f1, f2⟩ := co.ixp hp
        obtain ⟨hk, hpx⟩ := co.fk (lookup_mem f1) rfl
        obtain ⟨u, r, l⟩ := hl p.2 p.1 v f2 ev (hk.elim (fun z => .inr (.inl z)) fun z => .inr (.inr z))
        refine ⟨u, r, .inr ⟨?_, ?_⟩⟩
        · obtain ⟨k', hk'⟩ := rl_has (env := X.env) f1
          obtain ⟨k, h1, h2, h3⟩ := rl_look hk'
          rw [f1] at h2
          cases h2
          rw [← ex]
          rcases h3 with h3 | ⟨_, h3⟩
          · exact .inr (hk'.trans (congrArg some h3))
          · exact .inl (hk'.trans (congrArg some h3))
        · obtain ⟨c, hc⟩ := cells1_has (C := s.heap.objs.size + 1) co (lookup_mem f1)
          refine ⟨c, by rw [← ex]; exact hc, ?_⟩
          have hc' : X.env.cells.lookup p.1 = some c := by
            rcases co.look I.ok hc with ⟨z, _⟩ | z
            · exact absurd z hpx
            · exact z
          rcases l with ⟨z, _⟩ | ⟨_, c', z1, o, z2, z3⟩
          · have z' : X.env.kindOf p.1 = some .local := z
            rcases hk with hk | hk
            · have hk' : X.env.kindOf p.1 = some .cell := hk
              rw [z'] at hk'; cases hk'
            · have hk' : X.env.kindOf p.1 = some .free := hk
              rw [z'] at hk'; cases hk'
          · rw [hc'] at z1
            cases z1
            exact ⟨o, old _ _ z2, z3⟩
  cell := fun y c e => by
    rcases co.look I.ok e with ⟨_, h2⟩ | h2
    · rw [h2]; exact ⟨_, hce⟩
    · obtain ⟨v, o, h1, h2⟩ := I.cell y c h2
      exact ⟨v, o, old _ _ h1, h2⟩
  free := I.hok.fresh (Nat.le_succ _)
  freeC := fun y c e => by
    rcases co.look I.ok e with ⟨_, h2⟩ | h2
    · rw [h2]; exact I.hok.fresh (by omega)
    · exact I.freeC y c h2
  pin := fun p hp => by
    have e : p = (s.heap.objs.size, lobj [] 0) := by simpa [cmpX1] using hp
    subst e
    refine ⟨hD, I.hok.fresh (Nat.le_refl _), Nat.ne_of_lt (Nat.lt_succ_self _), fun hb => ?_, fun v z => by cases z⟩
    rcases List.mem_cons.mp (I.stkSub _ hb) with e | h
    · exact absurd I.lt (by rw [← e]; exact Nat.lt_irrefl _)
    · exact I.nofs (Nat.le_refl _) h
  hok := I.hok.kept old
  len := by
    show (nv.map (fun _ => none) ++ frV σ ix).length = (nv ++ ix.map (·.1)).length
    unfold frV
    simp
theorem cmp_end1 {ps2 : List (Addr × Obj)} {σ2 : St} {H' : Hp} {s' : Shared} {fp : List Addr} {C : Addr} (I : Inv X pins σ H s) (hf : ∀ b ∈ fp, FpOk X pins H b) (Ic : Inv (cmpX1 X x nv ix scope C s H fp) ps2 σ2 H' s') : Inv X pins σ H' s' :=
  I.call' (ch := fp) Ic.os Ic.base Ic.hok Ic.bare fun b hb => ⟨(hf b hb).2.2.2.1, (hf b hb).2.1, (hf b hb).2.2.2.2.1, (hf b hb).2.2.2.2.2⟩
end
section
variable {X : Cx} {x : Str} {nv : List Str} {ix : List (Str × Nat)} {scope : Scope} {pins : List (Addr × Obj)} {σ : St} {H : Hp} {s : Shared} {elt tg iter : Expr} {ifs : List Expr} {pos : Pos}
theorem comp_run1 {J : It} {fp : List Addr} {it : Addr} {tn : Nat → Heap → Prop} {g : TG} {ti : TT} {te : TE} {Fin : List V → Hp → Prop} {E : Value → Shared → Prop} {RR : Value → Addr → Result → Shared → Prop}
    (co : CompOk1 X x nv ix scope) (hc : X.calm = true) (I : Inv X pins σ H s) (T : Turn X.prog X.w X.K tg J fp it tn) (st : tn 0 s.heap) (hf : ∀ b ∈ fp, FpOk X pins H b)
    (kg : KpG nv g) (hg : ∀ C s₀ H₀ fp, PG (cmpX1 X x nv ix scope C s₀ H₀ fp) tg g) (hi : ∀ C s₀ H₀ fp, PIf (cmpX1 X x nv ix scope C s₀ H₀ fp) ifs ti) (he : ∀ C s₀ H₀ fp, PE (cmpX1 X x nv ix scope C s₀ H₀ fp) elt te)
    (q : CmpW nv ix g ti te σ J Fin H)
    (fin : ∀ D C s' H' ys, Inv X pins σ (upd H' D (.lst ys)) s' → H' D = none → Fin ys H' → (∃ m, s'.heap.Ns C m) → FpOk X pins (upd H' D (.lst ys)) C → RR (.ref D) C (.ok .next) s') :
    wpAny (model X.prog X.w) X.A (newList []) (fun acc s₃ => wpAny (model X.prog X.w) X.A (newFunctionEnv scope X.env.globals (clsOf X.env scope.names []) [] X.env.qual none .none (some X.env)) (fun cenv s₄ =>
      codeAny (model X.prog X.w) X.A (.compStart (.ListComp elt [⟨tg, iter, ifs, 0⟩] scope pos) 0 (.ref it) acc { cenv with scope := relabel scope X.env }) (RR acc cenv.locals) s₄) E s₃) E s := by
  obtain ⟨W, ⟨m0, w0⟩, turn⟩ := q
  refine wpAny_newObj_type (newEnv1 (x := x) co.cl co.pc ?_)
  dsimp only
  generalize hH2 : s.heap.push { cls := .type "list", dict := none, data := .seq ([] : List Value).toArray } = H2
  have hC : H2.objs.size = s.heap.objs.size + 1 := by rw [← hH2, Heap.size_push]
  rw [hC]
  generalize hh1 : (H2.push { cls := .type "dict", data := .dict #[] }).push { cls := .type "cell", data := .cell none } = h₁
  have hns₁ : h₁.Ns (s.heap.objs.size + 1) (fun _ => none) := by
    rw [← hh1, ← hC]
    exact (Heap.Ns.new H2 (.type "dict")).keeps fun b o e => Heap.get?_push_of_some _ e
  have hcell : h₁.IsCell (s.heap.objs.size + 1 + 1) none := by
    rw [← hh1, ← hC]
    have e : (H2.push { cls := .type "dict", data := .dict #[] }).objs.size = H2.objs.size + 1 := Heap.size_push ..
    rw [← e]
    exact ⟨_, Heap.get?_push_size _ rfl, rfl⟩
  have hDC : s.heap.objs.size ≠ s.heap.objs.size + 1 := Nat.ne_of_lt (Nat.lt_succ_self _)
  have below : ∀ b, b < s.heap.objs.size → b ≠ s.heap.objs.size + 1 ∧ b ≠ s.heap.objs.size := fun b hb => ⟨Nat.ne_of_lt (Nat.lt_succ_of_lt hb), Nat.ne_of_lt hb⟩
  have old : ∀ b o, s.heap.get? b = some o → h₁.get? b = some o := fun b o e => by
    rw [← hh1, ← hH2]
    exact Heap.get?_push_of_some _ (Heap.get?_push_of_some _ (Heap.get?_push_of_some _ e))
  have hacc : h₁.get? s.heap.objs.size = some (lobj [] 0) := by
    rw [← hh1, ← hH2]
    exact Heap.get?_push_of_some _ (Heap.get?_push_of_some _ (Heap.get?_push_size _ rfl))
  have hlt : ∀ b ∈ fp, b < s.heap.objs.size := fun b hb => by
    obtain ⟨o, e, _⟩ := T.obj 0 _ st b hb
    exact Heap.lt_size e
  have I₁ := fun tk => cmp_start1 (tk := tk) co I hf hlt hns₁ old hacc hcell
  have st₁ : tn 0 h₁ := T.keep 0 _ _ st fun b _ o e => old b o e
  have fpD : ∀ {H' : Hp}, H' s.heap.objs.size = none → FpOk X pins H' s.heap.objs.size := fun hn => I.fpOk (Nat.le_refl _) hn
  have loop : ∀ tk : Nat, codeAny (model X.prog X.w) X.A (.compLoop (.ListComp elt [⟨tg, iter, ifs, 0⟩] scope pos) 0 (.ref it) (.ref s.heap.objs.size) (cmpX1 X x nv ix scope (s.heap.objs.size + 1) s H fp).env)
      (RR (.ref s.heap.objs.size) (s.heap.objs.size + 1)) { s with heap := h₁, toks := tk } := by
    intro tk
    refine compLoop_go (fun n s' => ∃ i H' ys its k, Inv (cmpX1 X x nv ix scope (s.heap.objs.size + 1) s H fp) [(s.heap.objs.size, lobj its k)] (st0 nv ix σ) H' s' ∧ Vals ys its ∧ ys.length ≤ sizeLine ∧ tn i s'.heap ∧ (∀ b ∈ fp, H' b = none) ∧ W i n ys H')
      ?_ m0 ⟨0, H, [], [], 0, I₁ tk, .nil, Nat.zero_le _, st₁, fun b hb => (hf b hb).1, w0⟩
    rintro n s3 ⟨i, H3, ys, its, k, I3, rv, hz, st3, fr3, w3⟩
    have fpc : ∀ {H' : Hp} {its : List Value} {k : Nat}, (∀ b ∈ fp, H' b = none) → ∀ b ∈ fp, FpOk (cmpX1 X x nv ix scope (s.heap.objs.size + 1) s H fp) [(s.heap.objs.size, lobj its k)] H' b := fun {H' its k} hn b hb => by
      refine ⟨hn b hb, (below b (hlt b hb)).1, fun hs => ?_, .inl hb, fun y c e => ?_, fun p hp z => ?_⟩
      · rcases List.mem_cons.mp (I.stkSub b hs) with e | h
        · exact (hf b hb).2.1 e
        · exact (hf b hb).2.2.1 h
      · rcases co.look I.ok e with ⟨_, h2⟩ | h2
        · have := hlt b hb
          intro z
          rw [← z, h2] at this
          exact Nat.lt_irrefl _ (Nat.lt_of_succ_lt (Nat.lt_of_succ_lt this))
        · exact (hf b hb).2.2.2.2.1 y c h2
      · have e : p = (s.heap.objs.size, lobj its k) := by simpa [cmpX1] using hp
        subst e
        exact (below b (hlt b hb)).2 z.symm
    have pD := fun {ps : List (Addr × Obj)} {σ' : St} {H' : Hp} {s' : Shared} (I' : Inv (cmpX1 X x nv ix scope (s.heap.objs.size + 1) s H fp) ((s.heap.objs.size, lobj its k) :: ps) σ' H' s') =>
      I'.pin (s.heap.objs.size, lobj its k) (List.mem_append_right _ List.mem_cons_self)
    rcases turn i n ys H3 w3 with ⟨stop, fin0⟩ | ⟨go, hlt', N, hN, step⟩
    · refine thn (T.done (cmpX1 X x nv ix scope (s.heap.objs.size + 1) s H fp) rfl rfl rfl hc i _ s3 _ H3 _ I3 (fpc fr3) st3 stop) fun r s4 ⟨hr, I4⟩ => ?_
      subst hr
      obtain ⟨p1, p2, _⟩ := pD I4
      have I5 := (cmp_end1 I hf I4).track rv hz p1 p2 (fpD p2)
      obtain ⟨mC, hmC, _⟩ := I4.loc
      exact fin _ _ s4 H3 ys I5 p2 fin0 ⟨mC, hmC⟩ (I.fpOk (Nat.le_succ _) (by rw [upd_ne (Ne.symm hDC)]; exact I4.free))
    · refine thn (T.item (cmpX1 X x nv ix scope (s.heap.objs.size + 1) s H fp) rfl rfl rfl hc i _ s3 _ H3 _ I3 (fpc fr3) st3 go) fun r s4 ⟨u, hr, h4⟩ => ?_
      subst hr
      refine thn h4 fun _ s5 ⟨z, H5, I5, r5, y5, st5, fr5⟩ => ?_
      have I5' := I5.pinned (fpc fr5) (T.obj _ _ st5)
      refine thn (hg _ _ _ _ _ s5 _ H5 z u _ I5' r5 (kg _ _ _ _ (step z H5 y5))) fun _ s6 ⟨σ6, H6, I6, kp, q6⟩ => ?_
      refine thn (hi _ _ _ _ _ s6 σ6 H6 _ I6 q6) fun b s7 ⟨H7, I7, q7⟩ => ?_
      have again : ∀ {s7 : Shared} {H7 : Hp} {ys' its' : List _} {k' : Nat}, Inv (cmpX1 X x nv ix scope (s.heap.objs.size + 1) s H fp) ([(s.heap.objs.size, lobj its' k')] ++ pinsAt fp s5.heap) σ6 H7 s7 → Vals ys' its' → ys'.length ≤ sizeLine → N ys' H7 →
          ∃ m, m < n ∧ ∃ i H' ys its k, Inv (cmpX1 X x nv ix scope (s.heap.objs.size + 1) s H fp) [(s.heap.objs.size, lobj its k)] (st0 nv ix σ) H' s7 ∧ Vals ys its ∧ ys.length ≤ sizeLine ∧ tn i s7.heap ∧ (∀ b ∈ fp, H' b = none) ∧ W i m ys H' := fun {s7 H7 ys' its' k'} I8 rv' hz' n8 => by
        obtain ⟨m', hm, w8⟩ := hN _ _ n8
        have pn := fun (b : Addr) (o : Obj) (hb : b ∈ fp) (e : s5.heap.get? b = some o) => I8.pin (b, o) (List.mem_append_right _ (List.mem_append_right _ (mem_pinsAt hb e)))
        refine ⟨m', hm, i + 1, H7, ys', its', k', (I8.unpinned).weak kp.1 kp.2, rv', hz', T.keep _ _ _ st5 fun b hb o e => (pn b o hb e).1, fun b hb => ?_, w8⟩
        obtain ⟨o, e, d⟩ := T.obj _ _ st5 b hb
        exact (pn b o hb e).2.1
      cases b with
      | false =>
        rw [if_neg Bool.false_ne_true] at q7 ⊢
        exact again I7 rv hz q7
      | true =>
        rw [if_pos rfl] at q7 ⊢
        refine thn (he _ _ _ _ _ s7 σ6 H7 _ I7 q7) fun u8 s8 ⟨y, H8, I8, r8, q8⟩ => ?_
        obtain ⟨p1, p2, p3, p4, p5⟩ := pD I8
        refine append_at (hsz := by rw [List.size_toArray, ← rv.length]; exact Nat.le_of_lt hlt') p1 fun h9 hs9 hD9 => ?_
        have I9 : Inv (cmpX1 X x nv ix scope (s.heap.objs.size + 1) s H fp) (pinsAt fp s5.heap) σ6 H8 { s8 with heap := h9 } := by
          have Iu : Inv (cmpX1 X x nv ix scope (s.heap.objs.size + 1) s H fp) (pinsAt fp s5.heap) σ6 H8 s8 := I8.pins_of fun p hp => I8.pin p (List.mem_append_right _ (List.mem_append_right _ hp))
          refine Iu.turned (t' := s8.toks) (it := s.heap.objs.size) (fun b o hb e => (hs9.2 b hb).trans e) p2 p3 (.inr (Nat.le_refl _)) (fun y c e z => ?_) fun p hp z => ?_
          · rcases co.look I.ok e with ⟨_, h2⟩ | h2
            · rw [h2] at z
              exact Nat.lt_irrefl s.heap.objs.size (by have : s.heap.objs.size < s.heap.objs.size + 1 + 1 := Nat.lt_succ_of_lt (Nat.lt_succ_self _); rw [z] at this; exact this)
            · obtain ⟨v, o, e1, _⟩ := I.cell y c h2
              exact absurd (Heap.lt_size e1) (by rw [z]; exact Nat.lt_irrefl _)
          · have hp' : p ∈ pinsAt fp s5.heap := by simpa [cmpX1] using hp
            obtain ⟨hb, _⟩ := of_pinsAt hp'
            exact (below _ (hlt _ hb)).2 z
        have I10 : Inv (cmpX1 X x nv ix scope (s.heap.objs.size + 1) s H fp) ([(s.heap.objs.size, lobj (its ++ [u8]) (k + 1))] ++ pinsAt fp s5.heap) σ6 H8 { s8 with heap := h9 } :=
          I9.pins_of fun p hp => by
            rcases List.mem_append.mp hp with hp | hp
            · have e : p = (s.heap.objs.size, lobj (its ++ [u8]) (k + 1)) := by simpa using hp
              subst e
              refine ⟨?_, p2, p3, p4, fun v z => by cases z⟩
              rw [List.push_toArray] at hD9
              exact hD9
            · exact I9.pin p (List.mem_append_right _ hp)
        exact again I10 (rv.append (.cons r8 .nil)) (by rw [List.length_append, List.length_singleton]; exact hlt') q8
  exact codeAny_compStart_list (loop _) (T.self _ 0 _ _ _ st₁ (loop _))
theorem pe_comp1 {wi : TI} {g : TG} {ti : TT} {te : TE} (x : Str) (nv : List Str) (ix : List (Str × Nat)) (hc : X.calm = true) (co : CompOk1 X x nv ix scope) (hit : PI X tg iter wi) (kg : KpG nv g) (hg : ∀ C s₀ H₀ fp, PG (cmpX1 X x nv ix scope C s₀ H₀ fp) tg g)
    (hi : ∀ C s₀ H₀ fp, PIf (cmpX1 X x nv ix scope C s₀ H₀ fp) ifs ti) (he : ∀ C s₀ H₀ fp, PE (cmpX1 X x nv ix scope C s₀ H₀ fp) elt te)
    (hs : ∀ y, foldedSetIterable iter X.env y = pure y := by intro _; rfl) : PE X (.ListComp elt [⟨tg, iter, ifs, 0⟩] scope pos) (tComp nv ix wi g ti te) := by
  intro pins s σ H Q I h
  rw [eval_ListComp]
  refine wpAny_comprehension_free (use := none) rfl hs (closure_ok (co.cells I.ok)) co.kind co.names (thn (hit pins s σ H _ I h) fun v s1 h1 => thn h1 fun itv s2 h2 => ?_)
  obtain ⟨it, fp, tn, J, H2, e, I2, T, st2, f2, q⟩ := h2
  subst e
  refine comp_run1 co hc I2 T st2 f2 kg hg hi he q fun D C s' H' ys I' hD fin ⟨m, hm⟩ hC => ?_
  obtain ⟨c0, c1, c2, c3, c4, c5⟩ := hC
  exact ⟨m, hm, fun h' hs' => ⟨.ref D, _, I'.turned (t' := s'.toks) (fun b o hb e => (hs'.2 b hb).trans e) c0 c1 c3 c4 c5, rfl, fin D hD⟩⟩
theorem ze_comp1 {wi : TI} {g : TG} {ti : TT} {te : TE} (x : Str) (nv : List Str) (ix : List (Str × Nat)) (hc : X.calm = true) (co : CompOk1 X x nv ix scope) (hit : ZI X tg iter wi) (kg : KpG nv g) (hg : ∀ C s₀ H₀ fp, ZG (cmpX1 X x nv ix scope C s₀ H₀ fp) tg g)
    (hi : ∀ C s₀ H₀ fp, ZIf (cmpX1 X x nv ix scope C s₀ H₀ fp) ifs ti) (he : ∀ C s₀ H₀ fp, ZE (cmpX1 X x nv ix scope C s₀ H₀ fp) elt te)
    (hs : ∀ y, foldedSetIterable iter X.env y = pure y := by intro _; rfl) : ZE X (.ListComp elt [⟨tg, iter, ifs, 0⟩] scope pos) (tComp nv ix wi g ti te) := by with_unfolding_all exact pe_comp1 x nv ix hc co hit kg hg hi he hs
end
end L2
namespace L2
open PySem PySem.Spec PyProof.Rows
section
variable {X : Cx} {K : PySem.W.Frag}
theorem ix_P' (h : X.K = K) : IxR X (rIxP K) := by subst h; exact ix_P
theorem pi_tup' {tg l : Expr} {tl : TE} (hl : PE X l tl) (h : X.K = K) : PI X tg l (iTup K tl) := by subst h; exact pi_tup hl
theorem zi_tup' {tg l : Expr} {tl : TE} (hl : ZE X l tl) (h : X.K = K) : ZI X tg l (iTup K tl) := by with_unfolding_all exact pi_tup' hl h
end
end L2
set_option Elab.async false
set_option linter.all false
set_option maxRecDepth 100000
set_option maxHeartbeats 4000000
namespace L2
open PySem PySem.Spec PyProof.Rows
section
variable {prog : Program} {w : World} {A : Around} {E : Value → Shared → Prop} {s : Shared}
end
section
variable {X : Cx} {pins : List (Addr × Obj)} {σ : St} {H : Hp} {s : Shared}
noncomputable def rngO (p : Addr) (i j c : Int) : HO := .ext fun h => ∃ t u v, IsRange h p i j c t u v
theorem rng_laid {pins : List (Addr × Obj)} {σ : St} {H : Hp} {s : Shared} {i j c : Int} {t u v : Tok} {tk : Nat} (I : Inv X pins σ H s) : Inv X pins σ (upd H s.heap.objs.size (rngO s.heap.objs.size i j c)) { s with heap := s.heap.push { cls := .type "range", data := .fields #[.int i t, .int j u, .int c v] }, toks := tk } := by
  refine I.laid (fun b o e => Heap.get?_push_of_some _ e) (Nat.le_refl _) ⟨⟨t, u, v, IsRange.new ..⟩, ⟨_, Heap.get?_push_size _ rfl⟩, ?_⟩
  rintro h1 h2 ⟨t, u, v, e⟩ k
  exact ⟨t, u, v, k _ e⟩
noncomputable def rRng : List V → Hp → VK → Prop := fun vs H1 Q => match vs with
  | [.int i, .int j] => ∀ p, H1 p = none → Q (.ref p) (upd H1 p (rngO p i j 1))
  | [.int i, .int j, .int c] => (c ≠ 0 ∧ c < 2 ^ 29 ∧ -(2 ^ 29) < c) ∧ ∀ p, H1 p = none → Q (.ref p) (upd H1 p (rngO p i j c))
  | _ => False
theorem call_rng : CallR X (.type "range") rRng := by
  intro pins s σ H xs us Q I r h
  unfold rRng at h
  split at h
  · obtain ⟨u1, u2, rfl, ⟨t1, rfl⟩, t2, rfl⟩ := vals2 r
    exact call_range_2 ⟨.ref s.heap.objs.size, _, rng_laid I, rfl, h _ (I.hok.fresh (Nat.le_refl _))⟩
  · obtain ⟨⟨h1, h2, h3⟩, q⟩ := h
    cases r with
    | cons a1 r =>
      cases r with
      | cons a2 r =>
        cases r with
        | cons a3 r =>
          cases r
          obtain ⟨t1, rfl⟩ := a1
          obtain ⟨t2, rfl⟩ := a2
          obtain ⟨t3, rfl⟩ := a3
          exact PySem.call_range_3 h1 ⟨.ref s.heap.objs.size, _, rng_laid I, rfl, q _ (I.hok.fresh (Nat.le_refl _))⟩ (Or.inl (PyProof.noPylong_small (by omega)))
  · exact h.elim
noncomputable def rLstR : List V → Hp → VK → Prop := fun vs H Q => match vs with
  | [.ref p] => ∃ i j c, H p = some (rngO p i j c) ∧ Builtin.Range.small i j c = true ∧ c ≠ 0 ∧ (Builtin.Range.rangeSize i j c).toNat ≤ 1000000 ∧ ∀ l, H l = none → Q (.ref l) (upd H l (.lst (((List.range (Builtin.Range.rangeSize i j c).toNat).map fun (k : Nat) => i + (k : Int) * c).map V.int)))
  | _ => False
theorem vals_of_items {F : Nat → Int} : ∀ (n : Nat) {us : List Value}, us.length = n → (∀ (j : Nat) (v : Value), us[j]? = some v → ∃ t, v = .int (F j) t) → Vals (((List.range n).map F).map V.int) us := by
  intro n us hl h
  have : ∀ (us : List Value) (G : Nat → Int), (∀ (j : Nat) (v : Value), us[j]? = some v → ∃ t, v = .int (G j) t) → Vals (((List.range us.length).map G).map V.int) us := by
    intro us
    induction us with
    | nil => intro G _; exact .nil
    | cons u r ih =>
      intro G hG
      rw [List.length_cons, List.range_succ_eq_map, List.map_cons, List.map_cons]
      refine .cons (hG 0 u rfl) ?_
      have := ih (fun j => G (j + 1)) fun j v e => hG (j + 1) v (by simpa using e)
      have e : ((List.range r.length).map Nat.succ).map G = (List.range r.length).map (fun j => G (j + 1)) := by rw [List.map_map]; rfl
      rw [e]
      exact this
  have := this us F h
  rw [hl] at this
  exact this
theorem call_lrng (hc : X.calm = true) : CallR X (.type "list") rLstR := by
  intro pins s σ H xs us Q I r h
  unfold rLstR at h
  split at h
  · rename_i p
    obtain ⟨i, j, c, hp, hs, hc0, hn, q⟩ := h
    obtain ⟨u, rfl, rx⟩ := vals1 r
    cases rx
    obtain ⟨⟨t, u, v, hr⟩, _⟩ := I.hok p _ hp
    have h0 := size_nonneg (a := i) (b := j) hc0
    refine call_list_range (I.ok.hd hc) hr hs (n := (Builtin.Range.rangeSize i j c).toNat) (by omega) (by omega) fun h' tk acc' c' hk hS hit => ?_
    have rv : Vals (((List.range (Builtin.Range.rangeSize i j c).toNat).map fun (k : Nat) => i + (k : Int) * c).map V.int) acc'.toList := vals_of_items _ (by rw [Array.length_toList]; exact hit.1) fun k v e => hit.2 k v (by simpa using e)
    refine ⟨.ref s.heap.objs.size, _, I.laid (t' := tk) hk (Nat.le_refl _) (show ObjOk X.prog X.w _ h' _ (.lst (((List.range (Builtin.Range.rangeSize i j c).toNat).map fun (k : Nat) => i + (k : Int) * c).map V.int)) from ⟨?_, acc'.toList, c', rv, hS⟩), rfl, q _ (I.hok.fresh (Nat.le_refl _))⟩
    rw [List.length_map, List.length_map, List.length_range, sizeLine_eq]
    omega
  · exact h.elim
theorem boot_list'' : bootBuiltins "list" = some (.type "list") := by decide +kernel
variable {e : Expr} {es : List Expr} {t : TA} {p pos : Pos}
theorem pcb_range (hg : Gl X "range") (hm : X.mg "range" = none) (ha : PA X (e :: es) t) (he : starEach (e :: es) X.env = (false, eval e X.env) :: starEach es X.env) (hpl : (backTo pos (starEach es X.env)).any (·.1) = false) :
    PE X (.Call (.Name "range" p) (e :: es) [] pos) (tCB rRng t) := pe_callTy call_rng hg hm boot_range ha (by decide) (by decide) he hpl
theorem zcb_range (hg : Gl X "range") (hm : X.mg "range" = none) (ha : ZA X (e :: es) t) (he : starEach (e :: es) X.env = (false, eval e X.env) :: starEach es X.env) (hpl : (backTo pos (starEach es X.env)).any (·.1) = false) :
    ZE X (.Call (.Name "range" p) (e :: es) [] pos) (tCB rRng t) := by with_unfolding_all exact pcb_range hg hm ha he hpl
theorem pcb_lrange (hc : X.calm = true) (hg : Gl X "list") (hm : X.mg "list" = none) (ha : PA X (e :: es) t) (he : starEach (e :: es) X.env = (false, eval e X.env) :: starEach es X.env) (hpl : (backTo pos (starEach es X.env)).any (·.1) = false) :
    PE X (.Call (.Name "list" p) (e :: es) [] pos) (tCB rLstR t) := pe_callTy (call_lrng hc) hg hm boot_list'' ha (by decide) (by decide) he hpl
theorem zcb_lrange (hc : X.calm = true) (hg : Gl X "list") (hm : X.mg "list" = none) (ha : ZA X (e :: es) t) (he : starEach (e :: es) X.env = (false, eval e X.env) :: starEach es X.env) (hpl : (backTo pos (starEach es X.env)).any (·.1) = false) :
    ZE X (.Call (.Name "list" p) (e :: es) [] pos) (tCB rLstR t) := by with_unfolding_all exact pcb_lrange hc hg hm ha he hpl
end
end L2
set_option Elab.async false
set_option linter.all false
set_option maxRecDepth 100000
set_option maxHeartbeats 4000000
namespace L2
open PySem PySem.Spec PyProof.Rows
section
variable {prog : Program} {w : World} {A : Around} {E : Value → Shared → Prop} {s : Shared}
end
section
variable {prog : Program} {w : World} {A : Around} {E : Value → Shared → Prop} {s : Shared}
end
section
variable {X : Cx} {pins : List (Addr × Obj)} {σ : St} {H : Hp} {s : Shared}
noncomputable def SqK (H : Hp) (c : Bool) (a : Addr) (xs : List V) : Prop := H a = some (if c = true then HO.tup xs else HO.lst xs)
theorem SqK.tup {a : Addr} {xs : List V} (h : H a = some (.tup xs)) : SqK H true a xs := h
theorem kpg_two {K : PySem.W.Frag} {x y : Str} : KpG [x, y] (gTup K 2 (gCons (gName 0) (gCons (gName 1) gNil))) := fun fr v H Q h => by
  obtain ⟨a, xs, e, hq, hl, v1, r1, e1, v2, r2, e2, e3, q⟩ := h
  refine ⟨a, xs, e, hq, hl, v1, r1, e1, v2, r2, e2, e3, ⟨by simp, fun i w e => ?_⟩, q⟩
  match i, e with
  | 0, e => cases e
  | 1, e => cases e
  | i + 2, e => exact e
end
end L2
set_option Elab.async false
set_option linter.all false
set_option maxRecDepth 100000
set_option maxHeartbeats 4000000
namespace SRV
open PySem
open PyProof.Rows hiding K SortedTo K_bubble K_mirror K_congr K_mirror_equal
section
variable {prog : Program} {w : World} {A : Around} {E : Value → Shared → Prop}
end
end SRV
set_option Elab.async false
set_option linter.all false
set_option maxRecDepth 100000
set_option maxHeartbeats 4000000
namespace SRV
open PySem
open PyProof.Rows hiding K SortedTo K_bubble K_mirror K_congr K_mirror_equal
end SRV
set_option Elab.async false
set_option linter.all false
set_option maxRecDepth 100000
set_option maxHeartbeats 4000000
namespace SRV
open PySem
open PyProof.Rows hiding K SortedTo K_bubble K_mirror K_congr K_mirror_equal
section
variable {A B : List Keyed} {o : List Keyed} {ia ib : Nat}
end
section
variable {prog : Program} {w : World} {A : Around} {E : Value → Shared → Prop}
end
end SRV
set_option Elab.async false
set_option linter.all false
set_option maxRecDepth 100000
set_option maxHeartbeats 4000000
namespace SRV
open PySem
open PyProof.Rows hiding K SortedTo K_bubble K_mirror K_congr K_mirror_equal
section
variable {α β γ δ ε ζ κ μ : Type} {A : Prop} {c : κ} {G : κ → Prop}
variable {ω : Type} {g : μ → ω → κ} {R : μ → Prop}
end
section
variable {prog : Program} {w : World} {A : Around} {E : Value → Shared → Prop}
end
end SRV
set_option Elab.async false
set_option linter.all false
set_option maxRecDepth 100000
set_option maxHeartbeats 4000000
namespace SRV
open PySem
open PyProof.Rows hiding K SortedTo K_bubble K_mirror K_congr K_mirror_equal
section
variable {xa xb ou : Array Keyed} {na nb : Nat}
end
end SRV
set_option Elab.async false
set_option linter.all false
set_option maxRecDepth 100000
set_option maxHeartbeats 4000000
namespace SRV
open PySem
open PyProof.Rows hiding K SortedTo K_bubble K_mirror K_congr K_mirror_equal
section
variable {prog : Program} {w : World} {A : Around} {E : Value → Shared → Prop}
end
end SRV
set_option Elab.async false
set_option linter.all false
set_option maxRecDepth 100000
set_option maxHeartbeats 4000000
namespace SRV
open PySem
open PyProof.Rows hiding K SortedTo K_bubble K_mirror K_congr K_mirror_equal
end SRV
set_option Elab.async false
set_option linter.all false
set_option maxRecDepth 100000
set_option maxHeartbeats 4000000
namespace SRV
open PySem
open PyProof.Rows hiding K SortedTo K_bubble K_mirror K_congr K_mirror_equal
section
variable {prog : Program} {w : World} {A : Around} {E : Value → Shared → Prop}
end
end SRV
set_option Elab.async false
set_option linter.all false
set_option maxRecDepth 100000
set_option maxHeartbeats 4000000
namespace SRV
open PySem
open PyProof.Rows hiding K SortedTo K_bubble K_mirror K_congr K_mirror_equal
section
variable {prog : Program} {w : World} {A : Around} {E : Value → Shared → Prop} {a₀ : Array Keyed} {lo : Nat} {st₀ : SortSt}
end
end SRV
set_option Elab.async false
set_option linter.all false
set_option maxRecDepth 100000
set_option maxHeartbeats 4000000
namespace SRV
open PySem
open PyProof.Rows hiding K SortedTo K_bubble K_mirror K_congr K_mirror_equal
section
variable {prog : Program} {w : World} {A : Around} {E : Value → Shared → Prop} {a₀ : Array Keyed} {lo : Nat} {st₀ : SortSt}
end
end SRV
set_option Elab.async false
set_option linter.all false
set_option maxRecDepth 100000
set_option maxHeartbeats 4000000
namespace SRV
open PySem
open PyProof.Rows hiding K SortedTo K_bubble K_mirror K_congr K_mirror_equal
section
variable {prog : Program} {w : World} {A : Around} {E : Value → Shared → Prop} {a₀ : Array Keyed}
end
end SRV
set_option Elab.async false
set_option linter.all false
set_option maxRecDepth 100000
set_option maxHeartbeats 4000000
namespace SRV
open PySem
open PyProof.Rows hiding K SortedTo K_bubble K_mirror K_congr K_mirror_equal
section
variable {prog : Program} {w : World} {A : Around} {E : Value → Shared → Prop} {a₀ : Array Keyed}
end
end SRV
set_option Elab.async false
set_option linter.all false
set_option maxRecDepth 100000
set_option maxHeartbeats 4000000
namespace SRT
open PySem PyProof.Rows
noncomputable def core (a : Addr) (e1 : Nat) (ar : Array Value) (b : Bool) : Sem Fin := do
  let knd ← if ar.size < 2 then pure general' else keyKind' ar
  let ((), z) ← (if ar.size < 2 then pure () else sortRuns').run (SortSt.mk' knd (if b then (ar.zip ar).reverse else ar.zip ar) #[] 7 none)
  let srt := (arrOf z).map (·.2)
  let tch := (← seqEpoch a) != e1
  Builtin.List.listUpdate (.ref a) fun _ => if b then srt.reverse else srt
  if let some e := failedOf z then rule "list.sort.comparison-raised"; throw e
  if tch then rule "list.sort.modified"; raiseError "ValueError" "list modified during sort"
  ret .none
theorem plain_core (a : Addr) : Builtin.«list.sort» ⟨[.ref a], []⟩ = (do
    let ar ← Builtin.List.listItems (.ref a)
    Builtin.List.listUpdate (.ref a) fun _ => #[]
    let e1 ← seqEpoch a
    let t ← newTuple ar.toList
    let l ← newList []
    holding [t, l] (core a e1 ar false)) := by rw [list_sort_plain]; rfl
section
variable {prog : Program} {w : World} {A : Around} {E : Value → Shared → Prop} {s : Shared}
theorem w_start {a : Addr} {vs : List Value} {n : Nat} {P : Fin → Shared → Prop} {f : Nat → Array Value → Sem Fin} (hA : s.heap.get? a = some (seqObj "list" vs.toArray n)) (hz : vs.length ≤ sizeLine)
    (h : ∀ (s' : Shared) e1, s' = { s with heap := ((s.heap.update a (Obj.mapSeq fun _ => #[])).push (seqObj "tuple" vs.toArray 0)).push (seqObj "list" #[] 0) } → s'.heap.get? a = some (seqObj "list" #[] e1) → wpAny (model prog w) A (f e1 vs.toArray) P E s') :
    wpAny (model prog w) A (do
      let ar ← Builtin.List.listItems (.ref a)
      Builtin.List.listUpdate (.ref a) fun _ => #[]
      let e1 ← seqEpoch a
      let t ← newTuple ar.toList
      let l ← newList []
      holding [t, l] (f e1 ar)) P E s := by
  have ha : a < s.heap.objs.size := Heap.lt_size hA
  refine wpAny_bind (listItems_at hA rfl (wpAny_bind (listUpdate_at hA rfl ?_ (hsz := by rw [List.size_toArray]; exact hz))))
  obtain ⟨e1, hE⟩ : ∃ e1, (s.heap.update a (Obj.mapSeq fun _ => #[])).get? a = some (seqObj "list" #[] e1) := ⟨_, get?_update_seq hA fun _ => #[]⟩
  refine wpAny_bind (seqEpoch_at hE rfl (wpAny_bind (wpAny_newTuple (wpAny_bind (wpAny_newList (wpAny_holding ?_)) ) ?hs)))
  case hs => exact hz
  refine h _ e1 rfl ?_
  show (((s.heap.update a (Obj.mapSeq fun _ => #[])).push (seqObj "tuple" vs.toArray 0)).push (seqObj "list" #[] 0)).get? a = _
  rw [Heap.get?_push_ne _ _ _ (by rw [size_push', Heap.size_update]; exact fun e => absurd ha (by rw [e]; exact Nat.not_lt.mpr (Nat.le_succ _))), Heap.get?_push_ne _ _ _ (by rw [Heap.size_update]; exact fun e => absurd ha (by rw [e]; exact Nat.lt_irrefl _))]
  exact hE
theorem w_collect {l : Addr} {vs : List Value} {o : Obj} {T : String} {n : Nat} {Q : List Value → Shared → Prop} (ho : s.heap.get? l = some o) (hc : o.cls = .type T) (hd : o.data = .seq vs.toArray n) (hT : T = "list" ∨ T = "tuple") (hz : vs.length ≤ sizeLine)
    (h : Q vs { s with heap := (s.heap.push (seqObj "list" #[] 0)).update s.heap.objs.size (Obj.mapSeq (· ++ vs.toArray)) }) : wpAny (model prog w) A (collect (.ref l)) Q E s := by
  unfold collect
  refine wpAny_bind (wpAny_runValue (codeAny_builtin entry_proto_collect' ?mk))
  case mk =>
  show wpAny _ _ (do again (.builtin "list.__iadd__" ⟨[← newList [], .ref l], []⟩)) _ _ _
  refine wpAny_bind (wpAny_newList (wpAny_pure (And.intro (Code.quiet_builtin _ (by decide +kernel)) (codeAny_builtin entry_list_iadd' ?_))))
  show wpAny (model prog w) _ (Builtin.List.listExtendWith (.ref s.heap.objs.size) (.ref l) (.ref s.heap.objs.size)) _ _ { s with heap := s.heap.push (seqObj "list" #[] 0) }
  unfold Builtin.List.listExtendWith
  have hO' : (s.heap.push (seqObj "list" #[] 0)).get? l = some o := Heap.get?_push_of_some _ ho
  have hN : (s.heap.push (seqObj "list" #[] 0)).get? s.heap.objs.size = some (seqObj "list" #[] 0) := Heap.get?_push_size _ rfl
  refine wpAny_bind (wpAny_typeOf (T := T) ⟨o, hO', hc⟩ ?_)
  have e1 : (Value.type "list" == Value.type "list") = true := by rfl
  have e2 : (Value.type "tuple" == Value.type "tuple") = true := by rfl
  rw [if_pos (by rcases hT with rfl | rfl <;> simp [e1, e2])]
  refine wpAny_bind (listItems_at hO' hd (wpAny_bind (listItems_at hN rfl ?_)))
  rw [if_neg (by simp)]
  refine wpAny_bind (listUpdate_at hN rfl (wpAny_pure ?_) (Nat.zero_le _) (by rw [Array.size_append, List.size_toArray]; show 0 + vs.length ≤ _; omega))
  show wpAny (model prog w) A (do
      let z ← load s.heap.objs.size
      match z.data with
      | .seq xs _ => pure xs.toList
      | _ => unsupported "internal:collect") Q E ⟨(s.heap.push (seqObj "list" #[] 0)).update s.heap.objs.size (Obj.mapSeq (· ++ vs.toArray)), s.gens, s.drawn, s.toks, s.os⟩
  refine wpAny_bind (wpAny_load (get?_update_seq hN _) ?_)
  show wpAny (model prog w) _ (pure ((#[] : Array Value) ++ vs.toArray).toList) Q E _
  have e3 : ((#[] : Array Value) ++ vs.toArray).toList = vs := by simp
  rw [e3]
  exact wpAny_pure h
end
end SRT
set_option Elab.async false
set_option linter.all false
set_option maxRecDepth 100000
set_option maxHeartbeats 4000000
namespace L2
open PySem PySem.Spec PyProof.Rows
section
variable {X : Cx}
variable {e : Expr} {es : List Expr} {t : TA} {p pos : Pos}
variable {o : Expr} {to : TE} {apos cpos : Pos}
end
end L2
set_option Elab.async false
set_option linter.all false
set_option maxRecDepth 100000
set_option maxHeartbeats 4000000
namespace MXD
open PySem
section
variable {prog : Program} {w : World} {A : Around} {R : Result → Shared → Prop} {I : Addr} {fp wr : List Addr} {n : Nat} {P : Nat → Value → Prop} {St : Nat → Heap → Prop}
end
section
variable {prog : Program} {w : World} {A : Around} {E : Value → Shared → Prop} {s : Shared}
end
end MXD
namespace L2
open PySem PySem.Spec PyProof.Rows
section
variable {X : Cx}
variable {e : Expr} {es : List Expr} {t : TA} {p pos : Pos}
noncomputable def rIntT : List V → Hp → VK → Prop := fun xs H Q => match xs with
  | [.str x] => ∃ n, intText? x = some n ∧ x.length ≤ 640 ∧ Q (.int n) H
  | _ => False
theorem call_intT : CallR X (.type "int") rIntT := by
  intro pins s σ H xs us Q I r h
  unfold rIntT at h
  split at h
  · obtain ⟨n, h1, h2, q⟩ := h
    obtain ⟨u, rfl, r1⟩ := vals1 r
    obtain ⟨t, rfl⟩ := r1
    exact PySem.W.KIN.call_text h1 h2 ⟨.int n, H, I.tok _, ⟨_, rfl⟩, q⟩
  · exact h.elim
theorem pcb_intT (hg : Gl X "int") (hm : X.mg "int" = none) (ha : PA X (e :: es) t) (he : starEach (e :: es) X.env = (false, eval e X.env) :: starEach es X.env) (hpl : (backTo pos (starEach es X.env)).any (·.1) = false) :
    PE X (.Call (.Name "int" p) (e :: es) [] pos) (tCB rIntT t) := pe_callTy call_intT hg hm boot_int' ha (by decide) (by decide) he hpl
theorem zcb_intT (hg : Gl X "int") (hm : X.mg "int" = none) (ha : ZA X (e :: es) t) (he : starEach (e :: es) X.env = (false, eval e X.env) :: starEach es X.env) (hpl : (backTo pos (starEach es X.env)).any (·.1) = false) :
    ZE X (.Call (.Name "int" p) (e :: es) [] pos) (tCB rIntT t) := by with_unfolding_all exact pcb_intT hg hm ha he hpl
noncomputable def rExtP : V → List V → Hp → VK → Prop := fun x vs H Q => match x, vs with
  | .ref l, [.ref b] => ∃ xs zs, H l = some (.lst xs) ∧ H b = some (.lst zs) ∧ xs.length + zs.length ≤ sizeLine ∧ Q .non (upd H l (.lst (xs ++ zs)))
  | _, _ => False
theorem mt_extP : MtM X "list.extend" rExtP := fun pins s σ H x vs v us Q I rx rv h => by
  unfold rExtP at h
  split at h
  · obtain ⟨xs, zs, h1, h2, h3, q⟩ := h
    exact mt_extend pins s σ H _ _ v us Q I rx rv ⟨_, _, xs, zs, rfl, rfl, h1, h2, h3, q⟩
  · exact h.elim
variable {o : Expr} {to : TE} {apos cpos : Pos}
theorem pm_extend (ho : PE X o to) (ha : PA X (e :: es) t) (hbase : attributeBase o "extend" X.env (eval o X.env) = eval o X.env := by rfl)
    (hfew : ((backTo cpos (starEach (e :: es) X.env)).all (fun x => !x.1) && (backToKw cpos (keywordEach [] X.env)).all (fun x => x.1.isSome)
      && decide ((e :: es).length + ([] : List Keyword).length + (if ([] : List Keyword).isEmpty then 0 else 1) < 30)) = true := by rfl)
    (hline : (apos.endLine == cpos.line) = true := by rfl) (hs : starEach (e :: es) X.env = (false, eval e X.env) :: starEach es X.env := by rfl) (hplain : (backTo cpos (starEach es X.env)).any (·.1) = false := by rfl) :
    PE X (.Call (.Attribute o "extend" apos) (e :: es) [] cpos) (fun σ H Q => to σ H fun x H1 => tyV X.K "list" x H1 ∧ t σ H1 fun xs H2 => rExtP x xs H2 Q) :=
  pe_bm PySem.F.plainAttrs_list PySem.F.slot_list_extend PySem.F.type_list_extend mt_extP ho ha hbase hfew hline hs hplain
theorem zm_extend (ho : ZE X o to) (ha : ZA X (e :: es) t) (hbase : attributeBase o "extend" X.env (eval o X.env) = eval o X.env := by rfl)
    (hfew : ((backTo cpos (starEach (e :: es) X.env)).all (fun x => !x.1) && (backToKw cpos (keywordEach [] X.env)).all (fun x => x.1.isSome)
      && decide ((e :: es).length + ([] : List Keyword).length + (if ([] : List Keyword).isEmpty then 0 else 1) < 30)) = true := by rfl)
    (hline : (apos.endLine == cpos.line) = true := by rfl) (hs : starEach (e :: es) X.env = (false, eval e X.env) :: starEach es X.env := by rfl) (hplain : (backTo cpos (starEach es X.env)).any (·.1) = false := by rfl) :
    ZE X (.Call (.Attribute o "extend" apos) (e :: es) [] cpos) (fun σ H Q => to σ H fun x H1 => tyV X.K "list" x H1 ∧ t σ H1 fun xs H2 => rExtP x xs H2 Q) := by with_unfolding_all exact pm_extend ho ha hbase hfew hline hs hplain
end
end L2
set_option Elab.async false
set_option linter.all false
set_option maxRecDepth 100000
set_option maxHeartbeats 4000000
namespace L2
open PySem PySem.Spec PyProof.Rows
section
variable {X : Cx} {e : Expr} {es : List Expr} {t : TA} {p pos : Pos}
theorem pty_str (hg : Gl X "str") (hm : X.mg "str" = none) : PE X (.Name "str" pos) (tC (.ty "str")) := pe_ty hg hm boot_str' (by decide) (by decide)
theorem zty_str (hg : Gl X "str") (hm : X.mg "str" = none) : ZE X (.Name "str" pos) (tC (.ty "str")) := by with_unfolding_all exact pty_str hg hm
end
theorem rep_snoc (j : Nat) : (List.replicate j true).map V.bl ++ [V.bl true] = (List.replicate (j + 1) true).map V.bl := by
  rw [List.replicate_succ', List.map_append]; rfl
theorem rep_all (n : Nat) : (List.replicate n true).all id = true := by
  rw [List.all_eq_true]; intro x hx; exact List.eq_of_mem_replicate hx
noncomputable def seqT (c : Bool) : String := match c with | true => "tuple" | false => "list"
theorem SqK.ty {H : Hp} {c : Bool} {a : Addr} {xs : List V} (h : SqK H c a xs) : tyName H (.ref a) = some (seqT c) := by
  cases c with
  | true => unfold tyName; dsimp only; rw [show H a = some (.tup xs) from h]; rfl
  | false => unfold tyName; dsimp only; rw [show H a = some (.lst xs) from h]; rfl
end L2
set_option Elab.async false
set_option linter.all false
set_option maxRecDepth 100000
set_option maxHeartbeats 4000000
namespace L2
open PySem PySem.Spec PyProof.Rows
theorem strs_are : ∀ {ys : List Str} {its : List Value}, Vals (ys.map V.str) its → StrsAre its ys
  | [], _, r => by cases r; exact .nil
  | y :: ys, _, r => by
    cases r with
    | cons a b =>
      obtain ⟨t, rfl⟩ := (show ∃ t, _ = Value.str y t from a)
      exact .cons y t (strs_are b)
theorem vals_strs : ∀ (tk : Nat) (ys : List Str), Vals (ys.map V.str) (strsFrom tk ys)
  | _, [] => .nil
  | tk, y :: ys => .cons ⟨tk, rfl⟩ (vals_strs (tk + 1) ys)
section
variable {X : Cx} {e : Expr} {es : List Expr} {t : TA} {p pos : Pos} {o : Expr} {to : TE} {apos cpos : Pos}
noncomputable def rJoinP (K : PySem.W.Frag) : V → List V → Hp → VK → Prop := fun x vs H Q => match x, vs with
  | .str z, [.ref a] => ∃ ys : List Str, SqL K H a (ys.map V.str) ∧ (ys.map (·.length)).sum + ys.length * z.length ≤ 16777216 ∧ Q (.str (Txt.join z ys)) H
  | _, _ => False
theorem mt_join : MtR X "str.join" (rJoinP X.K) := by
  intro pins s σ H x xs v us Q I rx rs h
  unfold rJoinP at h
  split at h
  · obtain ⟨ys, hq, hz, q⟩ := h
    obtain ⟨tk, rfl⟩ := rx
    obtain ⟨u, rfl, ru⟩ := vals1 rs
    cases ru
    obtain ⟨its, rv, pl, _⟩ := I.list hq
    exact join_list pl.isList (by simpa using strs_are rv) hz fun t' k => ⟨.str _, H, I.tok k, ⟨_, rfl⟩, q⟩
  · exact h.elim
noncomputable def rSplitP : V → List V → Hp → VK → Prop := fun x vs H Q => match x, vs with
  | .str z, [.str y] => z.length ≤ 10000 ∧ (y.length == 0) = false ∧ ∀ a, H a = none → Q (.ref a) (upd H a (.lst ((Txt.split z y).map V.str)))
  | _, _ => False
theorem mt_split : MtR X "str.split" rSplitP := by
  intro pins s σ H x xs v us Q I rx rs h
  unfold rSplitP at h
  split at h
  · rename_i z y
    obtain ⟨hz, hy, q⟩ := h
    obtain ⟨tk, rfl⟩ := rx
    obtain ⟨u, rfl, ru⟩ := vals1 rs
    obtain ⟨tk2, rfl⟩ := ru
    have hn : H s.heap.objs.size = none := I.hok.fresh (Nat.le_refl _)
    have sl : (10000 : Nat) + 2 ≤ sizeLine := by rw [sizeLine_eq]; decide
    have lay : ∀ (ys : List Str) (its : List Value) (k : Nat), Txt.split z y = ys → Vals (ys.map V.str) its → EP X pins σ Q (.ref s.heap.objs.size) { s with heap := s.heap.push { cls := .type "list", data := .seq its.toArray }, toks := k } := by
      intro ys its k e rv
      have hl : (ys.map V.str).length ≤ sizeLine := by
        rw [List.length_map, ← e]
        exact Nat.le_trans (split_le z y) (by omega)
      refine ⟨.ref s.heap.objs.size, _, I.laid (t' := k) (o := .lst (ys.map V.str)) (fun b ob q => Heap.get?_push_of_some _ q) (Nat.le_refl _) ⟨hl, its, 0, rv, Heap.get?_push_size _ rfl⟩, rfl, ?_⟩
      have := q _ hn
      rw [e] at this
      exact this
    cases h1 : (decide (z.length < y.length) || decide (Builtin.Str.strKind z < Builtin.Str.strKind y))
    · cases hf : (Builtin.Str.occurrences z y 0 z.length (z.length + 1)).isEmpty
      · have e : Txt.split z y = Builtin.Str.partsBetween z (Builtin.Str.occurrences z y 0 z.length (z.length + 1)) y.length := (if_neg (ne_true_of_eq_false h1)).trans (if_neg (ne_true_of_eq_false hf))
        have hn2 : (Builtin.Str.partsBetween z (Builtin.Str.occurrences z y 0 z.length (z.length + 1)) y.length).length ≤ sizeLine := by rw [← e]; exact Nat.le_trans (split_le z y) (by omega)
        exact call_meets F.slot_str_split (typeIs_str _ _ _) F.entry_str_split (F.args_str_split_2 _ _) (meets_str_split_sep z y tk tk2 h1 hy hf (by omega) hn2) (lay _ _ _ e (vals_strs _ _))
      · have e : Txt.split z y = [z] := (if_neg (ne_true_of_eq_false h1)).trans (if_pos hf)
        exact call_meets F.slot_str_split (typeIs_str _ _ _) F.entry_str_split (F.args_str_split_2 _ _) (meets_str_split_not_found z y tk tk2 h1 hy hf) (lay [z] [.str z tk] s.toks e (.cons ⟨tk, rfl⟩ .nil))
    · have e : Txt.split z y = [z] := if_pos h1
      exact call_meets F.slot_str_split (typeIs_str _ _ _) F.entry_str_split (F.args_str_split_2 _ _) (meets_str_split_cannot_occur z y tk tk2 h1) (lay [z] [.str z tk] s.toks e (.cons ⟨tk, rfl⟩ .nil))
  · exact h.elim
theorem pm_join (ho : PE X o to) (ha : PA X (e :: es) t) (hbase : attributeBase o "join" X.env (eval o X.env) = eval o X.env := by rfl)
    (hfew : ((backTo cpos (starEach (e :: es) X.env)).all (fun x => !x.1) && (backToKw cpos (keywordEach [] X.env)).all (fun x => x.1.isSome)
      && decide ((e :: es).length + ([] : List Keyword).length + (if ([] : List Keyword).isEmpty then 0 else 1) < 30)) = true := by rfl)
    (hline : (apos.endLine == cpos.line) = true := by rfl) (hs : starEach (e :: es) X.env = (false, eval e X.env) :: starEach es X.env := by rfl) (hplain : (backTo cpos (starEach es X.env)).any (·.1) = false := by rfl) :
    PE X (.Call (.Attribute o "join" apos) (e :: es) [] cpos) (fun σ H Q => to σ H fun x H1 => tyV X.K "str" x H1 ∧ t σ H1 fun xs H2 => rJoinP X.K x xs H2 Q) :=
  pe_bm PySem.F.plainAttrs_str PySem.F.slot_str_join PySem.F.type_str_join mt_join ho ha hbase hfew hline hs hplain
theorem zm_join (ho : ZE X o to) (ha : ZA X (e :: es) t) (hbase : attributeBase o "join" X.env (eval o X.env) = eval o X.env := by rfl)
    (hfew : ((backTo cpos (starEach (e :: es) X.env)).all (fun x => !x.1) && (backToKw cpos (keywordEach [] X.env)).all (fun x => x.1.isSome)
      && decide ((e :: es).length + ([] : List Keyword).length + (if ([] : List Keyword).isEmpty then 0 else 1) < 30)) = true := by rfl)
    (hline : (apos.endLine == cpos.line) = true := by rfl) (hs : starEach (e :: es) X.env = (false, eval e X.env) :: starEach es X.env := by rfl) (hplain : (backTo cpos (starEach es X.env)).any (·.1) = false := by rfl) :
    ZE X (.Call (.Attribute o "join" apos) (e :: es) [] cpos) (fun σ H Q => to σ H fun x H1 => tyV X.K "str" x H1 ∧ t σ H1 fun xs H2 => rJoinP X.K x xs H2 Q) := by with_unfolding_all exact pm_join ho ha hbase hfew hline hs hplain
theorem pm_split (ho : PE X o to) (ha : PA X (e :: es) t) (hbase : attributeBase o "split" X.env (eval o X.env) = eval o X.env := by rfl)
    (hfew : ((backTo cpos (starEach (e :: es) X.env)).all (fun x => !x.1) && (backToKw cpos (keywordEach [] X.env)).all (fun x => x.1.isSome)
      && decide ((e :: es).length + ([] : List Keyword).length + (if ([] : List Keyword).isEmpty then 0 else 1) < 30)) = true := by rfl)
    (hline : (apos.endLine == cpos.line) = true := by rfl) (hs : starEach (e :: es) X.env = (false, eval e X.env) :: starEach es X.env := by rfl) (hplain : (backTo cpos (starEach es X.env)).any (·.1) = false := by rfl) :
    PE X (.Call (.Attribute o "split" apos) (e :: es) [] cpos) (fun σ H Q => to σ H fun x H1 => tyV X.K "str" x H1 ∧ t σ H1 fun xs H2 => rSplitP x xs H2 Q) :=
  pe_bm PySem.F.plainAttrs_str PySem.F.slot_str_split PySem.F.type_str_split mt_split ho ha hbase hfew hline hs hplain
theorem zm_split (ho : ZE X o to) (ha : ZA X (e :: es) t) (hbase : attributeBase o "split" X.env (eval o X.env) = eval o X.env := by rfl)
    (hfew : ((backTo cpos (starEach (e :: es) X.env)).all (fun x => !x.1) && (backToKw cpos (keywordEach [] X.env)).all (fun x => x.1.isSome)
      && decide ((e :: es).length + ([] : List Keyword).length + (if ([] : List Keyword).isEmpty then 0 else 1) < 30)) = true := by rfl)
    (hline : (apos.endLine == cpos.line) = true := by rfl) (hs : starEach (e :: es) X.env = (false, eval e X.env) :: starEach es X.env := by rfl) (hplain : (backTo cpos (starEach es X.env)).any (·.1) = false := by rfl) :
    ZE X (.Call (.Attribute o "split" apos) (e :: es) [] cpos) (fun σ H Q => to σ H fun x H1 => tyV X.K "str" x H1 ∧ t σ H1 fun xs H2 => rSplitP x xs H2 Q) := by with_unfolding_all exact pm_split ho ha hbase hfew hline hs hplain
noncomputable def rPopK : V → List V → Hp → VK → Prop := fun x vs H Q => match x, vs with
  | .ref l, [.int i] => ∃ xs k y, H l = some (.lst xs) ∧ (-(2 ^ 63) ≤ i ∧ i < 2 ^ 63) ∧ seqIndex? i xs.length = some k ∧ xs[k]? = some y ∧ Q y (upd H l (.lst (xs.eraseIdx k)))
  | _, _ => False
theorem mt_popK : MtM X "list.pop" rPopK := fun pins s σ H x vs v us Q I rx rv h => by
  unfold rPopK at h
  split at h
  · obtain ⟨xs, k, y, h1, ⟨h2, h3⟩, h4, h5, q⟩ := h
    exact mt_popAt pins s σ H _ _ v us Q I rx rv ⟨_, xs, _, k, y, rfl, rfl, h1, h2, h3, h4, h5, q⟩
  · exact h.elim
theorem pm_popK (ho : PE X o to) (ha : PA X (e :: es) t) (hbase : attributeBase o "pop" X.env (eval o X.env) = eval o X.env := by rfl)
    (hfew : ((backTo cpos (starEach (e :: es) X.env)).all (fun x => !x.1) && (backToKw cpos (keywordEach [] X.env)).all (fun x => x.1.isSome)
      && decide ((e :: es).length + ([] : List Keyword).length + (if ([] : List Keyword).isEmpty then 0 else 1) < 30)) = true := by rfl)
    (hline : (apos.endLine == cpos.line) = true := by rfl) (hs : starEach (e :: es) X.env = (false, eval e X.env) :: starEach es X.env := by rfl) (hplain : (backTo cpos (starEach es X.env)).any (·.1) = false := by rfl) :
    PE X (.Call (.Attribute o "pop" apos) (e :: es) [] cpos) (fun σ H Q => to σ H fun x H1 => tyV X.K "list" x H1 ∧ t σ H1 fun xs H2 => rPopK x xs H2 Q) :=
  pe_bm PySem.F.plainAttrs_list PySem.F.slot_list_pop PySem.F.type_list_pop mt_popK ho ha hbase hfew hline hs hplain
theorem zm_popK (ho : ZE X o to) (ha : ZA X (e :: es) t) (hbase : attributeBase o "pop" X.env (eval o X.env) = eval o X.env := by rfl)
    (hfew : ((backTo cpos (starEach (e :: es) X.env)).all (fun x => !x.1) && (backToKw cpos (keywordEach [] X.env)).all (fun x => x.1.isSome)
      && decide ((e :: es).length + ([] : List Keyword).length + (if ([] : List Keyword).isEmpty then 0 else 1) < 30)) = true := by rfl)
    (hline : (apos.endLine == cpos.line) = true := by rfl) (hs : starEach (e :: es) X.env = (false, eval e X.env) :: starEach es X.env := by rfl) (hplain : (backTo cpos (starEach es X.env)).any (·.1) = false := by rfl) :
    ZE X (.Call (.Attribute o "pop" apos) (e :: es) [] cpos) (fun σ H Q => to σ H fun x H1 => tyV X.K "list" x H1 ∧ t σ H1 fun xs H2 => rPopK x xs H2 Q) := by with_unfolding_all exact pm_popK ho ha hbase hfew hline hs hplain
noncomputable def rLenT : List V → Hp → VK → Prop := fun xs H Q => match xs with
  | [.str z] => z.length ≤ sizeLine ∧ Q (.int z.length) H
  | _ => False
theorem call_lenT : CallR X (.builtin "len") rLenT := call_len_str.imp fun xs H Q h => by
  unfold rLenT at h
  split at h
  · exact ⟨_, rfl, h⟩
  · exact h.elim
theorem pcb_lenT (hg : Gl X "len") (hm : X.mg "len" = none) (ha : PA X (e :: es) t) (he : starEach (e :: es) X.env = (false, eval e X.env) :: starEach es X.env) (hpl : (backTo pos (starEach es X.env)).any (·.1) = false) :
    PE X (.Call (.Name "len" p) (e :: es) [] pos) (tCB rLenT t) := pe_callB call_lenT hg hm PySem.boot_len ha (by decide) (by decide) he hpl
theorem zcb_lenT (hg : Gl X "len") (hm : X.mg "len" = none) (ha : ZA X (e :: es) t) (he : starEach (e :: es) X.env = (false, eval e X.env) :: starEach es X.env) (hpl : (backTo pos (starEach es X.env)).any (·.1) = false) :
    ZE X (.Call (.Name "len" p) (e :: es) [] pos) (tCB rLenT t) := by with_unfolding_all exact pcb_lenT hg hm ha he hpl
noncomputable def inT (y z : Str) : Bool := !(Builtin.Str.occurrences z y 0 z.length 1).isEmpty
noncomputable def rInT : R2 := fun x y H Q => match x, y with
  | .str i, .str j => Q (.bl (inT i j)) H
  | _, _ => False
theorem op_inT : OpR X (compareOp .In) rInT := op_in_str.imp fun x y H Q h => by
  unfold rInT at h
  split at h
  · exact ⟨_, _, rfl, rfl, h⟩
  · exact h.elim
noncomputable def rIxTx : R2 := fun x y H Q => match x, y with
  | .str z, .int i => ∃ c : Nat, z.length ≤ sizeLine ∧ atI z.cps.toList i = some c ∧ Q (.str ⟨#[c]⟩) H
  | _, _ => False
theorem ix_T : IxR X rIxTx := by
  intro value slice pins s σ H x y v u Q I rx ry h hs
  unfold rIxTx at h
  split at h
  · obtain ⟨c, h1, h2, q⟩ := h
    exact ix_str value slice pins s σ H _ _ v u Q I rx ry ⟨_, _, c, rfl, rfl, h1, h2, q⟩ hs
  · exact h.elim
noncomputable def ItS (z : Str) : It := ⟨fun i _ => i < z.cps.size, fun i H x H' => H' = H ∧ ∃ c, z.cps[i]? = some c ∧ x = .str ⟨#[c]⟩, fun i _ => z.cps.size ≤ i⟩
noncomputable def StI (h : Heap) (it : Addr) (z : Str) (t : Tok) (i : Nat) : Prop := h.IsStrIter it "str_ascii_iterator" z t i ∨ h.IsStrIter it "str_iterator" z t i
theorem turn_str {P : Program} {w : World} {K : PySem.W.Frag} {tg : Expr} (z : Str) (tk : Tok) (it : Addr) : Turn P w K tg (ItS z) [it] it (fun i h => StI h it z tk i) where
  mem := by simp
  obj := fun i h st b hb => by
    have e : b = it := by simpa using hb
    subst e
    rcases st with ⟨o, e, c, d⟩ | ⟨o, e, c, d⟩ <;> exact ⟨o, e, fun v z => by rw [d] at z; cases z⟩
  keep := fun i h h' st k => by
    rcases st with ⟨o, e, c⟩ | ⟨o, e, c⟩
    · exact .inl ⟨o, k it (by simp) o e, c⟩
    · exact .inr ⟨o, k it (by simp) o e, c⟩
  item := by
    intro X hP hw hK hc i pins s σ H E I hf st hg
    subst hP hw hK
    have hi : i < z.cps.size := hg
    obtain ⟨f0, f1, f2, f3, f4, f5⟩ := hf it (by simp)
    rcases st with st | st
    · refine wpAny_pyNext_ascii_item st (c := z.cps[i]) (by simp [hi]) fun h' st' sb => ?_
      have I1 : Inv X pins σ H { s with heap := h', toks := s.toks + 1 } := I.turned (t' := s.toks + 1) (fun b o hb e => (sb.2 b hb).trans e) f0 f1 f3 f4 f5
      obtain ⟨o, e, c, d⟩ := id st'
      exact ⟨_, rfl, go_of (s := { s with heap := h', toks := s.toks + 1 }) e c d (by decide) ⟨.str _, H, I1, ⟨_, rfl⟩, ⟨rfl, _, by simp [hi], rfl⟩, .inl st', fun b hb => (hf b hb).1⟩⟩
    · refine wpAny_pyNext_wide_item st (c := z.cps[i]) (by simp [hi]) fun h' st' sb => ?_
      have I1 : Inv X pins σ H { s with heap := h', toks := s.toks + 1 } := I.turned (t' := s.toks + 1) (fun b o hb e => (sb.2 b hb).trans e) f0 f1 f3 f4 f5
      obtain ⟨o, e, c, d⟩ := id st'
      exact ⟨_, rfl, go_of (s := { s with heap := h', toks := s.toks + 1 }) e c d (by decide) ⟨.str _, H, I1, ⟨_, rfl⟩, ⟨rfl, _, by simp [hi], rfl⟩, .inr st', fun b hb => (hf b hb).1⟩⟩
  done := by
    intro X hP hw hK hc i pins s σ H E I hf st hg
    subst hP hw hK
    have hi : z.cps.size ≤ i := hg
    obtain ⟨f0, f1, f2, f3, f4, f5⟩ := hf it (by simp)
    rcases st with st | st
    · exact wpAny_pyNext_ascii_end (I.ok.hd hc) st (by simp; omega) fun h' eb => ⟨rfl, I.turned (t' := s.toks) (fun b o hb e => eb b o hb e) f0 f1 f3 f4 f5⟩
    · exact wpAny_pyNext_wide_end (I.ok.hd hc) st (by simp; omega) fun h' eb => ⟨rfl, I.turned (t' := s.toks) (fun b o hb e => eb b o hb e) f0 f1 f3 f4 f5⟩
  self := fun _ _ _ _ _ st h => by
    rcases st with st | st
    · exact wpAny_pyIter_striter_ascii st h
    · exact wpAny_pyIter_striter_wide st h
noncomputable def iStr (tl : TE) : TI := fun σ H R => tl σ H fun x H1 => match x with
  | .str z => R (ItS z) H1
  | _ => False
theorem pi_str {tg l : Expr} {tl : TE} (hl : PE X l tl) : PI X tg l (iStr tl) := by
  intro pins s σ H R I h
  refine thn (hl pins s σ H _ I h) fun v s1 ⟨x, H1, I1, r1, q1⟩ => ?_
  dsimp only at q1
  split at q1
  · rename_i z
    obtain ⟨tk, rfl⟩ := r1
    have fp : ∀ b ∈ [s1.heap.objs.size], FpOk X pins H1 b := fun b hb => by
      have e : b = s1.heap.objs.size := by simpa using hb
      subst e
      exact I1.fpOk (Nat.le_refl _) (I1.hok.fresh (Nat.le_refl _))
    cases ha : z.cps.all (· < 128)
    · exact wpAny_pyIter_wide ha ⟨s1.heap.objs.size, [s1.heap.objs.size], _, _, H1, rfl, I1.kept (t' := s1.toks) fun b o e => Heap.get?_push_of_some _ e, turn_str z tk _, .inr ⟨_, Heap.get?_push_size _ rfl, rfl, rfl⟩, fp, q1⟩
    · exact wpAny_pyIter_ascii ha ⟨s1.heap.objs.size, [s1.heap.objs.size], _, _, H1, rfl, I1.kept (t' := s1.toks) fun b o e => Heap.get?_push_of_some _ e, turn_str z tk _, .inl ⟨_, Heap.get?_push_size _ rfl, rfl, rfl⟩, fp, q1⟩
  · exact q1.elim
theorem zi_str {tg l : Expr} {tl : TE} (hl : ZE X l tl) : ZI X tg l (iStr tl) := by with_unfolding_all exact pi_str hl
theorem cmp_str {nv : List Str} {ix : List (Str × Nat)} {σ : St} {H : Hp} {g : TG} {ti : TT} {te : TE} {Fin : List V → Hp → Prop} {z : Str} (Pv : Nat → List V → Hp → Prop) (h0 : Pv 0 [] H)
    (hs : ∀ i c zs H, z.cps[i]? = some c → Pv i zs H → zs.length < sizeLine ∧ g (.str ⟨#[c]⟩) (st0 nv ix σ) H fun σ2 H2 => ti σ2 H2 fun b H3 => if b = true then te σ2 H3 fun y H4 => Pv (i + 1) (zs ++ [y]) H4 else Pv (i + 1) zs H3)
    (hd : ∀ zs H, Pv z.cps.size zs H → Fin zs H) : CmpW nv ix g ti te σ (ItS z) Fin H := by
  refine ⟨fun i m zs H => m = z.cps.size - i ∧ i ≤ z.cps.size ∧ Pv i zs H, ⟨_, rfl, Nat.zero_le _, h0⟩, ?_⟩
  rintro i m zs H ⟨rfl, hi, p⟩
  by_cases hlt : i < z.cps.size
  · refine .inr ⟨hlt, (hs i z.cps[i] zs H (by simp [hlt]) p).1, Pv (i + 1), fun σ' H' p' => ⟨_, by omega, rfl, hlt, p'⟩, fun x H' y => ?_⟩
    obtain ⟨rfl, c, hc, rfl⟩ := y
    exact (hs i c zs _ hc p).2
  · have e : i = z.cps.size := by omega
    subst e
    exact .inl ⟨Nat.le_refl _, hd zs H p⟩
noncomputable def StrG (mg : Str → Option Value) (x : Str) (z : Str) : Prop := ∃ t, mg x = some (.str z t)
theorem pe_sg {x z : Str} {pos : Pos} (hg : Gl X x) (hm : StrG X.mg x z) (hd : (x == ("__debug__" : Str)) = false := by decide) : PE X (.Name x pos) (tC (.str z)) := by
  obtain ⟨t, hm⟩ := hm
  exact pe_glob hg hm ⟨t, rfl⟩ hd
theorem ze_sg {x z : Str} {pos : Pos} (hg : Gl X x) (hm : StrG X.mg x z) (hd : (x == ("__debug__" : Str)) = false := by decide) : ZE X (.Name x pos) (tC (.str z)) := by with_unfolding_all exact pe_sg hg hm hd
noncomputable def tNo : TS := fun _ _ _ => False
theorem ps_no {st : Stmt} : PS X st tNo := fun _ _ _ _ _ _ h => h.elim
theorem zs_no {st : Stmt} : ZS X st tNo := by with_unfolding_all exact ps_no 
end
end L2
set_option Elab.async false
set_option linter.all false
set_option maxRecDepth 100000
set_option maxHeartbeats 4000000
namespace K72
open PySem L2
noncomputable def top (i : Nat) : Stmt := PySem.Challenge.pw_partrests_k72_counts_and_lists_answered.main.body.getD i (.Pass ⟨0, 0, 0, 0⟩)
noncomputable def Hand (H : Hp) (a L : Addr) (n : Nat) : Prop := ∃ (gs : List Int) (s c : Int), H a = some (.lst [.ref L, .int s, .int c]) ∧ H L = some (.lst (gs.map V.int)) ∧ (∀ g ∈ gs, (0 : Int) ≤ g) ∧ gs.length ≤ 63 ∧ 0 ≤ s ∧ s < 2305843009213693951 ∧ 0 ≤ c ∧ c ≤ n ∧ a ≠ L
noncomputable def Step (a L : Addr) (n : Nat) (H H' : Hp) : Prop := (∀ b o, b ≠ a → b ≠ L → H b = some o → H' b = some o) ∧ Hand H' a L n
theorem Hand.mono {H : Hp} {a L : Addr} {n m : Nat} (h : Hand H a L n) (k : n ≤ m) : Hand H a L m := let ⟨g, s, c, e, e2, h1, h2, h3, h4, h5, h6, h7⟩ := h; ⟨g, s, c, e, e2, h1, h2, h3, h4, h5, by omega, h7⟩
theorem Hand.same {H H' : Hp} {a L : Addr} {n : Nat} (h : Hand H a L n) (y : Same H H') : Hand H' a L n := let ⟨g, s, c, e, e2, r⟩ := h; ⟨g, s, c, y _ _ e, y _ _ e2, r⟩
theorem Hand.ne {H : Hp} {a L b : Addr} {n : Nat} (h : Hand H a L n) (hb : H b = none) : b ≠ a ∧ b ≠ L := by
  obtain ⟨g, s, c, e, e2, _⟩ := h
  exact ⟨fun z => (by rw [z, e] at hb; cases hb), fun z => (by rw [z, e2] at hb; cases hb)⟩
theorem Step.trans {a L : Addr} {n m : Nat} {H H1 H2 : Hp} (x : Step a L n H H1) (y : Step a L m H1 H2) : Step a L m H H2 := ⟨fun b o k k2 e => y.1 b o k k2 (x.1 b o k k2 e), y.2⟩
theorem Step.same {a L : Addr} {n : Nat} {H H1 H2 : Hp} (x : Step a L n H H1) (y : Same H1 H2) : Step a L n H H2 := ⟨fun b o k k2 e => y b o (x.1 b o k k2 e), x.2.same y⟩
theorem Step.mono {a L : Addr} {n m : Nat} {H H' : Hp} (x : Step a L n H H') (k : n ≤ m) : Step a L m H H' := ⟨x.1, x.2.mono k⟩
theorem Step.tup {a L b : Addr} {n m : Nat} {H H1 : Hp} {xs : List V} (h : Hand H a L m) (x : Step a L n H H1) (e : H b = some (.tup xs)) : H1 b = some (.tup xs) := by
  obtain ⟨g, s, c, e', e2, _⟩ := h
  exact x.1 b _ (ne_of e e' (by intro z; cases z)) (ne_of e e2 (by intro z; cases z)) e
theorem Step.lst {a L b : Addr} {n : Nat} {H H1 : Hp} {xs : List V} (x : Step a L n H H1) (k : b ≠ a ∧ b ≠ L) (e : H b = some (.lst xs)) : H1 b = some (.lst xs) := x.1 b _ k.1 k.2 e
theorem atI_of {xs : List V} {k : Int} {j : Nat} {v : V} (h : k = (j : Int)) (hx : xs[j]? = some v) : atI xs k = some v := by subst h; exact atI_nat hx
theorem getI {ns : List Int} {j : Nat} (h : j < ns.length) : (ns.map V.int)[j]? = some (.int ns[j]) := by rw [List.getElem?_map, List.getElem?_eq_getElem h]; rfl
theorem rep_flat (n : Nat) (x : Int) : (List.replicate n [V.int x]).flatten = (List.replicate n x).map V.int := by
  induction n with
  | zero => rfl
  | succ n ih => rw [List.replicate_succ, List.flatten_cons, ih, List.replicate_succ, List.map_cons]; rfl
theorem le_line {n : Nat} (h : n ≤ 1000) : n ≤ sizeLine := Nat.le_of_lt (small1000 h)
theorem mulR {a b : Int} (h1 : -(2 ^ 64) < b) (h2 : b < 2 ^ 64) : IntMulOk a b := IntMulOk.of_right (intBits_le_64 h1 h2)
theorem mulL {a b : Int} (h1 : -(2 ^ 64) < a) (h2 : a < 2 ^ 64) : IntMulOk a b := IntMulOk.of_left (intBits_le_64 h1 h2)
theorem ix0 {n : Nat} (h : 0 < n) : ixN n 0 = some 0 := by
  unfold ixN
  rw [if_pos (Int.le_refl _), if_pos (by omega)]; rfl
theorem cut_ints (ns : List Int) (k : Int) : ∃ ms : List Int, cutV (ns.map V.int) none (some k) = ms.map V.int ∧ ms.length ≤ ns.length := by
  refine ⟨(ns.drop (HT.sIx (ns.map V.int).length 0 none)).take (HT.sIx (ns.map V.int).length (ns.map V.int).length (some k) - HT.sIx (ns.map V.int).length 0 none), ?_, ?_⟩
  · unfold cutV
    rw [List.map_take, List.map_drop]
  · rw [List.length_take, List.length_drop]
    omega
section
variable {P : Program} {w : World} {K : PySem.W.Frag} {mg : Str → Option Value} {base : Heap} {f : Addr} {fd : FuncData}
theorem sc_spool : FnScope ["_law_script", "_law_seed", "_law_cell"] ["_law_script"] (defScope (top 157)) := ⟨rfl, rfl, rfl, by decide +kernel, rfl, by decide +kernel, by decide +kernel⟩
noncomputable def sp_spool (K : PySem.W.Frag) : Sp := fun vs H Q _ => ∃ (a : Addr) (ns : List Int), vs = [.ref a] ∧ SqL K H a (ns.map V.int) ∧ ns.length ≤ 63 ∧ ∀ p L H', Same H H' → Hand H' p L 0 → Q (.ref p) H'
theorem ok_spool (F : Fun K "_law_spool" "_law_spool" (top 157) f fd) (m_abs : mg "abs" = none) (m_len : mg "len" = none) : FnOk P w K mg base CX0 1 f fd ["_law_script"] (sp_spool K) := by
  refine F.okz sc_spool (fun vs H Q E h => ?_) (fun cdv A outer s H vs Q E hr h => ?_)
  · obtain ⟨a, ns, rfl, _⟩ := h; rfl
  obtain ⟨a, ns, rfl, hS, hl, q⟩ := h
  have nd := sc_spool.nd
  have hu := hr.units
  obtain ⟨ms, em, lm⟩ := cut_ints ns 63
  refine ⟨_, (zss_cons (zs_set (i := 1) nd rfl (Or.inl rfl) (ze_op op_addP (ze_op op_mulQ ze_int (zcb_len rfl m_len (za_cons (zn 0) za_nil) rfl rfl)) ze_int))
      (zss_cons (zs_for PassesOwn.never rfl (zi_list (ze_slice sl_P (zn 0) zo_none (zo_some ze_int))) (zg_name (i := 2) nd rfl (Or.inl rfl)) (zss_one (zs_set (i := 1) nd rfl (Or.inl rfl) (ze_op op_modP (ze_op op_addP (ze_op op_mulQ (zn 1) ze_int) (zn 2)) ze_int))))
      (zss_one (zs_ret (ze_lst (za_cons (ze_comp ["_law_cell"] [] rfl ⟨rfl, by decide +kernel, by decide +kernel, rfl, rfl⟩ (zi_list (ze_slice sl_P (zn 0) zo_none (zo_some ze_int))) kpg_name (fun _ _ _ _ => zg_name (i := 0) (show List.Nodup (["_law_cell"] : List Str) by decide +kernel) rfl (Or.inl rfl)) (fun _ _ _ _ => (zif_one (zt_cmpP op_geP (zcb_abs rfl m_abs (za_cons (zn 0) za_nil) rfl rfl) (ze_op op_powP ze_int ze_int) (nomark _)))) (fun _ _ _ _ => (zcb_abs rfl m_abs (za_cons (zn 0) za_nil) rfl rfl))) (za_cons (zn 1) (za_cons ze_int za_nil)))))))), ?_⟩
  refine ⟨_, .inl hS, mulL (by decide) (by decide), ?_⟩
  rw [List.length_map]
  refine ⟨_, rfl, a, rfl, .inr ⟨_, hS, fun d hd => ?_⟩⟩
  rw [em]
  have yd := Same.new hd (.lst (ms.map V.int))
  refine ⟨d, rfl, ⟨_, SqL.of upd_same⟩, for_list (xs := ms.map V.int) (fun i σ H' => H' = upd H d (.lst (ms.map V.int)) ∧ ∃ (z : Int) (x2 : Option V), σ = [some (.ref a), some (.int z), x2] ∧ 0 ≤ z ∧ z < 2305843009213693951) ⟨rfl, _, _, rfl, by omega, by omega⟩ ?_ ?_ ?_⟩
  · rintro i σ H' _ ⟨rfl, _⟩
    exact SqL.of upd_same
  · rintro i x σ H' hx ⟨rfl, z, x2, rfl, z0, z1⟩
    have hi : i < ms.length := by
      have := (List.getElem?_eq_some_iff.mp hx).1
      rw [List.length_map] at this
      exact this
    have ex : x = .int ms[i] := by rw [getI hi] at hx; exact (Option.some.inj hx).symm
    subst ex
    refine ⟨mulR (by decide) (by decide), (show (0 : Int) < 2305843009213693951 by decide), ?_⟩
    exact ⟨rfl, _, _, rfl, Int.emod_nonneg _ (by decide), Int.emod_lt_of_pos _ (by decide)⟩
  · rintro σ H' ⟨rfl, z, x2, rfl, z0, z1⟩
    refine ⟨_, rfl, a, rfl, .inr ⟨_, SqL.same yd hS, fun d2 hd2 => ?_⟩⟩
    rw [em]
    have y2 := Same.new hd2 (.lst (ms.map V.int))
    refine ⟨d2, rfl, ⟨_, SqL.of upd_same⟩, cmp_list (xs := ms.map V.int) (fun i ys H' => H' = upd (upd H d (.lst (ms.map V.int))) d2 (.lst (ms.map V.int)) ∧ ∃ gs : List Int, ys = gs.map V.int ∧ gs.length ≤ i ∧ ∀ g ∈ gs, (0 : Int) ≤ g) ⟨rfl, [], rfl, Nat.le_refl _, by simp⟩ ?_ ?_ ?_⟩
    · rintro i ys H' _ ⟨rfl, _⟩
      exact SqL.of upd_same
    · rintro i x ys H' hx ⟨rfl, gs, rfl, hg, h0⟩
      have hi : i < ms.length := by
        have := (List.getElem?_eq_some_iff.mp hx).1
        rw [List.length_map] at this
        exact this
      have ex : x = .int ms[i] := by rw [getI hi] at hx; exact (Option.some.inj hx).symm
      subst ex
      refine ⟨by rw [List.length_map]; exact small1000 (by omega), ?_⟩
      refine ⟨⟨by decide, by decide, by decide⟩, ?_⟩
      refine iteD (fun c => ?_) (fun c => ?_)
      · refine ⟨rfl, gs ++ [if ms[i] < 0 then -ms[i] else ms[i]], by rw [List.map_append]; rfl, by rw [List.length_append]; show gs.length + 1 ≤ i + 1; omega, fun g hg' => ?_⟩
        rcases List.mem_append.mp hg' with hg' | hg'
        · exact h0 g hg'
        · have : g = if ms[i] < 0 then -ms[i] else ms[i] := by simpa using hg'
          rw [this]
          split <;> omega
      · exact ⟨rfl, gs, rfl, by omega, h0⟩
    · rintro ys H' ⟨rfl, gs, rfl, hg, h0⟩ L hL
      rw [List.length_map] at hg
      refine ⟨by show 3 ≤ sizeLine; decide, fun p hp => ?_⟩
      have yL := Same.new hL (.lst (gs.map V.int))
      have yp := Same.new hp (.lst [V.ref L, .int z, .int 0])
      have hpL : p ≠ L := fun e => by rw [e, upd_same] at hp; cases hp
      exact q p L _ (((yd.trans y2).trans yL).trans yp) ⟨gs, z, 0, upd_same, yp _ _ upd_same, h0, by omega, z0, z1, by decide, by decide, hpL⟩
theorem sc_take : FnScope ["_law_spool_here", "_law_many", "_law_digit", "_law_once", "_law_twice"] ["_law_spool_here", "_law_many"] (defScope (top 158)) := ⟨rfl, rfl, rfl, by decide +kernel, rfl, by decide +kernel, by decide +kernel⟩
noncomputable def sp_take : Sp := fun vs H Q _ => ∃ (a L : Addr) (m : Int) (n : Nat), vs = [.ref a, .int m] ∧ Hand H a L n ∧ n < 1000000000 ∧ 0 < m ∧ m < 1073741824 ∧ ∀ r H', 0 ≤ r → r < m → Step a L (n + 1) H H' → Q (.int r) H'
theorem ok_take (F : Fun K "_law_take" "_law_take" (top 158) f fd) : FnOk P w K mg base CX0 1 f fd ["_law_spool_here", "_law_many"] sp_take := by
  refine F.okz sc_take (fun vs H Q E h => ?_) (fun cdv A outer s H vs Q E hr h => ?_)
  · obtain ⟨a, L, m, n, rfl, _⟩ := h; rfl
  obtain ⟨a, L, m, n, rfl, hh, n1, m0, m1, q⟩ := h
  have nd := sc_take.nd
  have hu := hr.units
  obtain ⟨gs, z, c, ha, hL, g0, gl, z0, z1, c0, c1, aL⟩ := hh
  have rest : ∃ t, ZSs (cxOf CX0 P w K mg base ["_law_spool_here", "_law_many", "_law_digit", "_law_once", "_law_twice"] "_law_take" (defScope (top 158)) f cdv A outer s H E).nox ((defBody (top 158)).drop 1) t ∧
      ∀ (H1 : Hp) (gs : List Int), (∀ b o, b ≠ a → b ≠ L → H b = some o → H1 b = some o) → H1 a = some (.lst [.ref L, .int z, .int c]) → H1 L = some (.lst (gs.map V.int)) → (∀ g ∈ gs, (0 : Int) ≤ g) → gs.length ≤ 63 → t { nx := fun _ H' => Q .non H', rt := Q } [some (.ref a), some (.int m), none, none, none] H1 := by
    refine ⟨_, (zss_cons (zs_if (zt_cmpP (op_neD hu) (ze_ix ix_P (zn 0) ze_int (fun _ _ => rfl)) (ze_lst za_nil) (nomark _)) (zss_cons (zs_set (i := 2) nd rfl (Or.inl rfl) (ze_op op_modP (ze_ix ix_P (ze_ix ix_P (zn 0) ze_int (fun _ _ => rfl)) ze_int (fun _ _ => rfl)) (zn 1)))
      (zss_cons (zs_asg (ze_op op_fdivP (ze_ix ix_P (ze_ix ix_P (zn 0) ze_int (fun _ _ => rfl)) ze_int (fun _ _ => rfl)) (zn 1)) (zg_sub (ze_ix ix_P (zn 0) ze_int (fun _ _ => rfl)) ze_int set_list))
      (zss_one (zs_ret (zn 2))))) zss_nil)
      (zss_cons (zs_asg (ze_op op_addP (ze_ix ix_P (zn 0) ze_int (fun _ _ => rfl)) ze_int) (zg_sub (zn 0) ze_int set_list))
      (zss_cons (zs_set (i := 3) nd rfl (Or.inl rfl) (ze_op op_modP (ze_op op_addP (ze_ix ix_P (zn 0) ze_int (fun _ _ => rfl)) (ze_op op_mulQ ze_int (ze_ix ix_P (zn 0) ze_int (fun _ _ => rfl)))) ze_int))
      (zss_cons (zs_set (i := 4) nd rfl (Or.inl rfl) (ze_op op_modP (ze_op op_addP (ze_op op_powP (zn 3) ze_int) (ze_op op_mulQ ze_int (ze_ix ix_P (zn 0) ze_int (fun _ _ => rfl)))) ze_int))
      (zss_one (zs_ret (ze_op op_modP (ze_op op_fdivP (zn 4) ze_int) (zn 1)))))))), ?_⟩
    intro H1 gs kp ha hL g0 gl
    refine ⟨_, .inl (SqL.of ha), .ref L, rfl, ?_⟩
    refine ⟨Nat.zero_le _, fun d hd => ?_⟩
    have yd := Same.new hd (.lst [])
    refine ⟨_, _, .lst (yd _ _ hL) (DatAll.ints gs), .lst (xs := []) upd_same .nil, shaped_list_ints _, shaped_list_ints [], ?_⟩
    have ha' := yd _ _ ha
    have hL' := yd _ _ hL
    have kp' : ∀ b o, b ≠ a → b ≠ L → H b = some o → upd H1 d (.lst []) b = some o := fun b o n1 n2 e => yd _ _ (kp b o n1 n2 e)
    generalize upd H1 d (.lst []) = H2 at ha' hL' kp'
    cases gs with
    | nil =>
      refine ⟨_, .inl (SqL.of ha'), .int c, rfl, ?_⟩
      refine ⟨a, _, _, _, rfl, rfl, ha', rfl, ?_⟩
      refine ⟨_, .inl (SqL.of upd_same), .int z, rfl, ?_⟩
      refine ⟨_, .inl (SqL.of upd_same), .int (c + 1), rfl, mulL (by decide) (by decide), (show (0 : Int) < 2305843009213693951 by decide), ?_⟩
      have e1 : 0 ≤ (z + 104729 * (c + 1)) % 2305843009213693951 := Int.emod_nonneg _ (by decide)
      have e2 : (z + 104729 * (c + 1)) % 2305843009213693951 < 2305843009213693951 := Int.emod_lt_of_pos _ (by decide)
      refine ⟨⟨by decide, by decide, by omega⟩, ?_⟩
      refine ⟨_, .inl (SqL.of upd_same), .int (c + 1), rfl, mulL (by decide) (by decide), (show (0 : Int) < 2305843009213693951 by decide), ?_⟩
      refine ⟨⟨by decide, by decide⟩, m0, ?_⟩
      refine q _ _ (Int.emod_nonneg _ (by omega)) (Int.emod_lt_of_pos _ m0) ⟨fun b o k1 k2 e => ?_, [], z, c + 1, upd_same, ?_, g0, gl, z0, z1, by omega, by omega, aL⟩
      · rw [upd_ne k1]; exact kp' b o k1 k2 e
      · rw [upd_ne (Ne.symm aL)]; exact hL'
    | cons g r =>
      refine ⟨_, .inl (SqL.of ha'), .ref L, rfl, ?_⟩
      refine ⟨_, .inl (SqL.of hL'), .int g, atI_of (j := 0) rfl rfl, m0, ?_⟩
      refine ⟨_, .inl (SqL.of ha'), .ref L, rfl, ?_⟩
      refine ⟨_, .inl (SqL.of hL'), .int g, atI_of (j := 0) rfl rfl, ⟨m0, m1⟩, ?_⟩
      refine ⟨_, .inl (SqL.of ha'), .ref L, rfl, ?_⟩
      refine ⟨L, _, _, 0, rfl, rfl, hL', ix0 (by rw [List.length_map]; exact Nat.succ_pos _), ?_⟩
      have hg0 := g0 g List.mem_cons_self
      refine q _ _ (Int.emod_nonneg _ (by omega)) (Int.emod_lt_of_pos _ m0) ⟨fun b o k1 k2 e => ?_, (g / m) :: r, z, c, ?_, upd_same, fun x hx => ?_, gl, z0, z1, c0, by omega, aL⟩
      · rw [upd_ne k2]; exact kp' b o k1 k2 e
      · rw [upd_ne aL]; exact ha'
      · rcases List.mem_cons.mp hx with rfl | hx
        · exact Int.ediv_nonneg hg0 (by omega)
        · exact g0 x (List.mem_cons_of_mem _ hx)
  obtain ⟨t2, ht2, rest⟩ := rest
  refine ⟨_, (zss_cons (zs_while PassesOwn.never (ZW.zt (zw_and (zt_cmpP (op_neD hu) (ze_ix ix_P (zn 0) ze_int (fun _ _ => rfl)) (ze_lst za_nil) (nomark _)) (zw_and1 (zt_cmpP (op_eqD hu) (ze_ix ix_P (ze_ix ix_P (zn 0) ze_int (fun _ _ => rfl)) ze_int (fun _ _ => rfl)) ze_int (nomark _))))) (zss_one (zs_expr (zm_popK (ze_ix ix_P (zn 0) ze_int (fun _ _ => rfl)) (za_cons ze_int za_nil)))))
      ht2), ?_⟩
  refine while_by2 (fun k σ H' => ∃ gs : List Int, k = gs.length ∧ σ = [some (.ref a), some (.int m), none, none, none] ∧ (∀ b o, b ≠ a → b ≠ L → H b = some o → H' b = some o) ∧ H' a = some (.lst [.ref L, .int z, .int c]) ∧ H' L = some (.lst (gs.map V.int)) ∧ (∀ g ∈ gs, (0 : Int) ≤ g) ∧ gs.length ≤ 63) gs.length ⟨gs, rfl, rfl, fun _ _ _ _ e => e, ha, hL, g0, gl⟩ ?_
  rintro k σ H' ⟨gs, rfl, rfl, kp, ha, hL, g0, gl⟩
  refine ⟨_, .inl (SqL.of ha), .ref L, rfl, ?_⟩
  refine ⟨Nat.zero_le _, fun d hd => ?_⟩
  have yd := Same.new hd (.lst [])
  refine ⟨_, _, .lst (yd _ _ hL) (DatAll.ints gs), .lst (xs := []) upd_same .nil, shaped_list_ints _, shaped_list_ints [], ?_⟩
  have ha' := yd _ _ ha
  have hL' := yd _ _ hL
  have kp' : ∀ b o, b ≠ a → b ≠ L → H b = some o → upd H' d (.lst []) b = some o := fun b o n1 n2 e => yd _ _ (kp b o n1 n2 e)
  generalize upd H' d (.lst []) = H2 at ha' hL' kp'
  cases gs with
  | nil => exact rest H2 [] kp' ha' hL' g0 gl
  | cons g r =>
    refine ⟨_, .inl (SqL.of ha'), .ref L, rfl, ?_⟩
    refine ⟨_, .inl (SqL.of hL'), .int g, atI_of (j := 0) rfl rfl, ?_⟩
    refine iteD (fun cc => ?_) (fun cc => ?_)
    · refine ⟨fun σ' H' => ∃ gs' : List Int, gs'.length < (g :: r).length ∧ σ' = [some (.ref a), some (.int m), none, none, none] ∧ (∀ b o, b ≠ a → b ≠ L → H b = some o → H' b = some o) ∧ H' a = some (.lst [.ref L, .int z, .int c]) ∧ H' L = some (.lst (gs'.map V.int)) ∧ (∀ g ∈ gs', (0 : Int) ≤ g) ∧ gs'.length ≤ 63, ?_, ?_⟩
      · rintro σ' H' ⟨gs', hlt, r'⟩
        exact ⟨_, hlt, gs', rfl, r'⟩
      refine ⟨_, .inl (SqL.of ha'), .ref L, rfl, ?_⟩
      refine ⟨tyL hL', _, 0, .int g, hL', ⟨by decide, by decide⟩, (ixN_seq (ix0 (by rw [List.length_map]; exact Nat.succ_pos _))).1, rfl, ?_⟩
      refine ⟨r, Nat.lt_succ_self _, rfl, fun b o k1 k2 e => ?_, ?_, upd_same, fun x hx => g0 x (List.mem_cons_of_mem _ hx), by have : (g :: r).length = r.length + 1 := rfl
                                                                                                                                omega⟩
      · rw [upd_ne k2]; exact kp' b o k1 k2 e
      · rw [upd_ne aL]; exact ha'
    · exact rest H2 (g :: r) kp' ha' hL' g0 gl
end
end K72
set_option Elab.async false
set_option linter.all false
set_option maxRecDepth 100000
set_option maxHeartbeats 4000000
namespace L2
open PySem PySem.Spec PyProof.Rows
section
variable {prog : Program} {w : World} {A : Around} {E : Value → Shared → Prop} {R : Result → Shared → Prop} {s : Shared}
end
section
variable {X : Cx} {nv : List Str} {ix : List (Str × Nat)} {scope : Scope} {pins : List (Addr × Obj)} {σ : St} {H : Hp} {s : Shared} {elt t1 i1 t2 i2 : Expr} {c1 c2 : List Expr} {pos : Pos}
end
end L2
set_option Elab.async false
set_option linter.all false
set_option maxRecDepth 100000
set_option maxHeartbeats 4000000
namespace L2
open PySem PySem.Spec PyProof.Rows
section
variable {X : Cx} {e v₁ v₂ : Expr} {es : List Expr} {te : TE} {pos : Pos}
end
end L2
set_option Elab.async false
set_option linter.all false
set_option maxRecDepth 100000
set_option maxHeartbeats 4000000
namespace M67
open PySem
noncomputable def jl (c : Nat) : List (List Nat) → List Nat
  | [] => []
  | [x] => x
  | x :: y :: r => x ++ c :: jl c (y :: r)
theorem app_list (a b : Str) : (a ++ b).cps.toList = a.cps.toList ++ b.cps.toList := by
  show (a.cps ++ b.cps).toList = _
  exact Array.toList_append
theorem join_list (c : Nat) : ∀ ys : List Str, (Str.join ⟨#[c]⟩ ys).cps.toList = jl c (ys.map fun y => y.cps.toList)
  | [] => rfl
  | [x] => rfl
  | x :: y :: r => by
    show ((x ++ ⟨#[c]⟩ ++ Str.join ⟨#[c]⟩ (y :: r) : Str)).cps.toList = _
    rw [app_list, app_list, join_list c (y :: r)]
    show x.cps.toList ++ [c] ++ _ = x.cps.toList ++ c :: _
    simp
theorem cut_at {c : Nat} : ∀ {a b r s : List Nat}, c ∉ a → c ∉ b → a ++ c :: r = b ++ c :: s → a = b ∧ r = s
  | [], [], _, _, _, _, e => ⟨rfl, (List.cons.inj e).2⟩
  | [], y :: b, _, _, _, hb, e => absurd (by rw [(List.cons.inj e).1]; exact List.mem_cons_self) hb
  | x :: a, [], _, _, ha, _, e => absurd (by rw [← (List.cons.inj e).1]; exact List.mem_cons_self) ha
  | x :: a, y :: b, _, _, ha, hb, e => by
    obtain ⟨e1, e2⟩ := List.cons.inj e
    obtain ⟨h1, h2⟩ := cut_at (fun h => ha (List.mem_cons_of_mem _ h)) (fun h => hb (List.mem_cons_of_mem _ h)) e2
    exact ⟨by rw [e1, h1], h2⟩
theorem jl_inj {c : Nat} : ∀ {xs ys : List (List Nat)}, xs ≠ [] → ys ≠ [] → (∀ x ∈ xs, c ∉ x) → (∀ y ∈ ys, c ∉ y) → jl c xs = jl c ys → xs = ys
  | [], _, h, _, _, _, _ => absurd rfl h
  | _ :: _, [], _, h, _, _, _ => absurd rfl h
  | [x], [y], _, _, _, _, e => by rw [show x = y from e]
  | [x], y :: z :: r, _, _, hx, _, e => by
    have : c ∈ x := by rw [show x = y ++ c :: jl c (z :: r) from e]; simp
    exact absurd this (hx x List.mem_cons_self)
  | x :: w :: q, [y], _, _, _, hy, e => by
    have : c ∈ y := by rw [← show x ++ c :: jl c (w :: q) = y from e]; simp
    exact absurd this (hy y List.mem_cons_self)
  | x :: w :: q, y :: z :: r, _, _, hx, hy, e => by
    obtain ⟨e1, e2⟩ := cut_at (hx x List.mem_cons_self) (hy y List.mem_cons_self) (show x ++ c :: jl c (w :: q) = y ++ c :: jl c (z :: r) from e)
    rw [e1, jl_inj (List.cons_ne_nil _ _) (List.cons_ne_nil _ _) (fun u hu => hx u (List.mem_cons_of_mem _ hu)) (fun u hu => hy u (List.mem_cons_of_mem _ hu)) e2]
theorem str_ext {a b : Str} (h : a.cps.toList = b.cps.toList) : a = b := by
  cases a; cases b
  congr 1
  exact Array.toList_inj.mp h
theorem map_inj_str : ∀ {xs ys : List Str}, xs.map (fun y => y.cps.toList) = ys.map (fun y => y.cps.toList) → xs = ys
  | [], [], _ => rfl
  | [], _ :: _, e => by cases e
  | _ :: _, [], e => by cases e
  | x :: xs, y :: ys, e => by
    obtain ⟨e1, e2⟩ := List.cons.inj e
    rw [str_ext e1, map_inj_str e2]
theorem split_join {c : Nat} {ys : List Str} (hn : ys ≠ []) (h : ∀ y ∈ ys, c ∉ y.cps.toList) : Txt.split (Txt.join ⟨#[c]⟩ ys) ⟨#[c]⟩ = ys := by
  have e0 : Txt.join ⟨#[c]⟩ ys = Str.join ⟨#[c]⟩ ys := StrLaws.glued_eq_join _ _
  rw [e0]
  have e1 := StrLaws.join_split (Str.join ⟨#[c]⟩ ys) ⟨#[c]⟩
  have hf := StrLaws.split_free (Str.join ⟨#[c]⟩ ys) c
  have hp := PyProof.Rows.split_pos (Str.join ⟨#[c]⟩ ys) ⟨#[c]⟩
  generalize Txt.split (Str.join ⟨#[c]⟩ ys) ⟨#[c]⟩ = zs at e1 hf hp
  have hz : zs ≠ [] := fun z => by rw [z] at hp; exact absurd hp (by decide)
  refine map_inj_str (jl_inj (c := c) (by simpa using hz) (by simpa using hn) ?_ ?_ ?_)
  · intro x hx
    obtain ⟨y, hy, rfl⟩ := List.mem_map.mp hx
    exact hf y hy
  · intro x hx
    obtain ⟨y, hy, rfl⟩ := List.mem_map.mp hx
    exact h y hy
  · rw [← join_list, ← join_list, e1]
noncomputable def nt (n : Int) : Str := Str.ofString (toString n)
theorem nt_signs (m : Nat) : (nt (m : Int)).cps.toList = (Nat.toDigits 10 m).map Char.toNat := PySem.W.KIN.signs_num m
theorem dig_range {ch : Char} (h : ch.isDigit = true) : 48 ≤ ch.toNat ∧ ch.toNat ≤ 57 := by
  unfold Char.isDigit at h
  rw [Bool.and_eq_true, decide_eq_true_iff, decide_eq_true_iff] at h
  exact ⟨h.1, h.2⟩
theorem nt_digit {n : Int} (h0 : 0 ≤ n) : ∀ c ∈ (nt n).cps.toList, 48 ≤ c ∧ c ≤ 57 := by
  obtain ⟨m, rfl⟩ := Int.eq_ofNat_of_zero_le h0
  intro c hc
  rw [nt_signs] at hc
  obtain ⟨ch, hch, rfl⟩ := List.mem_map.mp hc
  exact dig_range (Nat.isDigit_of_mem_toDigits (by decide) (by decide) hch)
theorem td_step {m : Nat} (h : 10 ≤ m) : Nat.toDigits 10 m = Nat.toDigits 10 (m / 10) ++ [Nat.digitChar (m % 10)] := by
  have hm : m % 10 < 10 := Nat.mod_lt m (by decide)
  have t : Nat.toDigits 10 (m / 10) ++ Nat.toDigits 10 (m % 10) = Nat.toDigits 10 (10 * (m / 10) + m % 10) := Nat.toDigits_append_toDigits (by decide) (by omega) hm
  rw [Nat.div_add_mod] at t
  rw [← t, Nat.toDigits_of_lt_base hm]
theorem td_len : ∀ (k m : Nat), m < 10 ^ (k + 1) → 1 ≤ (Nat.toDigits 10 m).length ∧ (Nat.toDigits 10 m).length ≤ k + 1
  | 0, m, h => by rw [Nat.toDigits_of_lt_base (by simpa using h)]; exact ⟨Nat.le_refl 1, Nat.le_refl 1⟩
  | k + 1, m, h => by
    by_cases hm : m < 10
    · rw [Nat.toDigits_of_lt_base hm]; exact ⟨Nat.le_refl 1, by show 1 ≤ _; omega⟩
    · rw [td_step (by omega), List.length_append]
      have hlt : m / 10 < 10 ^ (k + 1) := by
        rw [Nat.pow_succ] at h
        omega
      have := td_len k (m / 10) hlt
      show 1 ≤ _ + 1 ∧ _ + 1 ≤ _
      omega
theorem td_first : ∀ (m : Nat), 1 ≤ m → ∃ ch r, Nat.toDigits 10 m = ch :: r ∧ ch.toNat ≠ 48 := by
  intro m
  induction m using Nat.strongRecOn with
  | _ m ih =>
    intro h
    by_cases hm : m < 10
    · rw [Nat.toDigits_of_lt_base hm]
      refine ⟨_, _, rfl, ?_⟩
      have : ∀ d : Nat, d < 10 → 1 ≤ d → (Nat.digitChar d).toNat ≠ 48 := by decide
      exact this m hm h
    · obtain ⟨ch, r, e, hc⟩ := ih (m / 10) (by omega) (by omega)
      rw [td_step (by omega), e]
      exact ⟨ch, _, rfl, hc⟩
theorem nt_len {n : Int} (h0 : 0 ≤ n) (h1 : n < 1000000) : 1 ≤ (nt n).length ∧ (nt n).length ≤ 6 := by
  obtain ⟨m, rfl⟩ := Int.eq_ofNat_of_zero_le h0
  have t6 : (10 : Nat) ^ (5 + 1) = 1000000 := by decide
  have := td_len 5 m (by omega)
  have e : (nt (m : Int)).length = (Nat.toDigits 10 m).length := by
    show (nt (m : Int)).cps.size = _
    rw [← Array.length_toList, nt_signs, List.length_map]
  omega
theorem nt_first {n : Int} (h : 1 ≤ n) : ∃ c, (nt n).cps.toList[0]? = some c ∧ c ≠ 48 := by
  obtain ⟨m, rfl⟩ := Int.eq_ofNat_of_zero_le (show 0 ≤ n by omega)
  obtain ⟨ch, r, e, hc⟩ := td_first m (by omega)
  refine ⟨ch.toNat, ?_, hc⟩
  rw [nt_signs, e]
  rfl
theorem ten10 : (10 : Int) ^ 10 = 10000000000 := by decide
theorem nt_reads {n : Int} (h0 : 0 ≤ n) (h1 : n < 1000000) : intText? (nt n) = some n := PySem.W.KIN.num_reads h0 (by rw [ten10]; omega)
theorem nt_nosep {n : Int} {c : Nat} (h0 : 0 ≤ n) (hc : c < 48) : c ∉ (nt n).cps.toList := fun h => by
  have := nt_digit h0 c h
  omega
end M67
set_option Elab.async false
set_option linter.all false
set_option maxRecDepth 100000
set_option maxHeartbeats 4000000
namespace M68
open PySem M67
inductive Kd where
  | bare (w : Str)
  | one (w : Str) (n : Int)
  | box (a b : Int)
  | rests (m : Int) (rs : List Int)
noncomputable def Kd.Ok : Kd → Prop
  | .bare w => w = Str.ofString "all" ∨ w = Str.ofString "own"
  | .one w n => ((w = Str.ofString "most" ∨ w = Str.ofString "few" ∨ w = Str.ofString "off") ∧ 1 ≤ n ∧ n ≤ 600) ∨ (w = Str.ofString "times" ∧ 2 ≤ n ∧ n ≤ 60)
  | .box a b => (1 ≤ a ∧ a ≤ 600) ∧ 1 ≤ b ∧ b ≤ 600
  | .rests m rs => (2 ≤ m ∧ m ≤ 60) ∧ rs ≠ [] ∧ rs.Pairwise (· < ·) ∧ (∀ r ∈ rs, 0 ≤ r ∧ r < m) ∧ rs.length ≤ 60
noncomputable def Kd.words : Kd → List Str
  | .bare w => [w]
  | .one w n => [w, nt n]
  | .box a b => [Str.ofString "box", nt a, nt b]
  | .rests m rs => [Str.ofString "rests", nt m, Txt.join (Str.ofString ",") (rs.map nt)]
noncomputable def Kd.text (k : Kd) : Str := Txt.join (Str.ofString " ") k.words
theorem sp_is : (Str.ofString " ") = ⟨#[32]⟩ := by decide +kernel
theorem comma_is : (Str.ofString ",") = ⟨#[44]⟩ := by decide +kernel
theorem joinE (z : Str) (ys : List Str) : Txt.join z ys = Str.join z ys := StrLaws.glued_eq_join _ _
theorem jl_mem {c d : Nat} : ∀ {xs : List (List Nat)}, d ∈ jl c xs → d = c ∨ ∃ x ∈ xs, d ∈ x
  | [], h => by cases h
  | [x], h => .inr ⟨x, List.mem_cons_self, h⟩
  | x :: y :: r, h => by
    have h' : d ∈ x ++ c :: jl c (y :: r) := h
    rcases List.mem_append.mp h' with h1 | h1
    · exact .inr ⟨x, List.mem_cons_self, h1⟩
    · rcases List.mem_cons.mp h1 with h2 | h2
      · exact .inl h2
      · rcases jl_mem h2 with h3 | ⟨z, hz, h3⟩
        · exact .inl h3
        · exact .inr ⟨z, List.mem_cons_of_mem _ hz, h3⟩
theorem rs_nosp {rs : List Int} (h : ∀ r ∈ rs, (0 : Int) ≤ r) : 32 ∉ (Txt.join (Str.ofString ",") (rs.map nt)).cps.toList := fun z => by
  rw [comma_is, joinE, join_list] at z
  rcases jl_mem z with z | ⟨x, hx, z⟩
  · exact absurd z (by decide)
  · rw [List.map_map] at hx
    obtain ⟨r, hr, rfl⟩ := List.mem_map.mp hx
    exact nt_nosep (h r hr) (by decide) z
theorem words_nosp {k : Kd} (h : k.Ok) : ∀ y ∈ k.words, 32 ∉ y.cps.toList := by
  intro y hy
  cases k with
  | bare w =>
    have e : y = w := by simpa [Kd.words] using hy
    subst e
    rcases h with rfl | rfl <;> decide +kernel
  | one w n =>
    have e : y = w ∨ y = nt n := by simpa [Kd.words] using hy
    rcases e with rfl | rfl
    · rcases h with ⟨rfl | rfl | rfl, _⟩ | ⟨rfl, _⟩ <;> decide +kernel
    · exact nt_nosep (by rcases h with ⟨_, h, _⟩ | ⟨_, h, _⟩ <;> omega) (by decide)
  | box a b =>
    have e : y = Str.ofString "box" ∨ y = nt a ∨ y = nt b := by simpa [Kd.words] using hy
    obtain ⟨⟨h1, _⟩, h2, _⟩ := h
    rcases e with rfl | rfl | rfl
    · decide +kernel
    · exact nt_nosep (by omega) (by decide)
    · exact nt_nosep (by omega) (by decide)
  | rests m rs =>
    obtain ⟨⟨h1, _⟩, _, _, h4, _⟩ := h
    have e : y = Str.ofString "rests" ∨ y = nt m ∨ y = Txt.join (Str.ofString ",") (rs.map nt) := by simpa [Kd.words] using hy
    rcases e with rfl | rfl | rfl
    · decide +kernel
    · exact nt_nosep (by omega) (by decide)
    · exact rs_nosp fun r hr => (h4 r hr).1
theorem text_split {k : Kd} (h : k.Ok) : Txt.split k.text (Str.ofString " ") = k.words := by
  unfold Kd.text
  rw [sp_is]
  refine split_join ?_ (words_nosp h)
  cases k <;> exact List.cons_ne_nil _ _
theorem rs_split {rs : List Int} (hn : rs ≠ []) (h : ∀ r ∈ rs, (0 : Int) ≤ r) : Txt.split (Txt.join (Str.ofString ",") (rs.map nt)) (Str.ofString ",") = rs.map nt := by
  rw [comma_is]
  refine split_join (by simpa using hn) fun y hy => ?_
  obtain ⟨r, hr, rfl⟩ := List.mem_map.mp hy
  exact nt_nosep (h r hr) (by decide)
theorem app_len (a b : Str) : (a ++ b).length = a.length + b.length := by
  show (a.cps ++ b.cps).size = _
  rw [Array.size_append]
  rfl
theorem join_len (c : Nat) : ∀ ys : List Str, (Str.join ⟨#[c]⟩ ys).length ≤ (ys.map (·.length)).sum + ys.length
  | [] => Nat.zero_le _
  | [x] => by show x.length ≤ _; simp
  | x :: y :: r => by
    have := join_len c (y :: r)
    show ((x ++ ⟨#[c]⟩ ++ Str.join ⟨#[c]⟩ (y :: r) : Str)).length ≤ _
    rw [app_len, app_len, show (⟨#[c]⟩ : Str).length = 1 from rfl]
    simp only [List.map_cons, List.sum_cons, List.length_cons] at this ⊢
    omega
theorem nts_sum {ns : List Int} {k : Nat} (h : ∀ n ∈ ns, (nt n).length ≤ k) : ((ns.map nt).map (·.length)).sum ≤ ns.length * k := by
  induction ns with
  | nil => simp
  | cons x r ih =>
    have := ih fun n hn => h n (List.mem_cons_of_mem _ hn)
    have := h x List.mem_cons_self
    simp only [List.map_cons, List.sum_cons, List.length_cons]
    rw [Nat.add_mul, Nat.one_mul]
    omega
theorem rs_len {rs : List Int} (h : ∀ r ∈ rs, 0 ≤ r ∧ r < 1000000) : (Txt.join (Str.ofString ",") (rs.map nt)).length ≤ rs.length * 7 := by
  rw [comma_is, joinE]
  have h1 := join_len 44 (rs.map nt)
  have h2 := nts_sum (ns := rs) (k := 6) fun r hr => (nt_len (h r hr).1 (h r hr).2).2
  rw [List.length_map] at h1
  omega
theorem words_len {k : Kd} (h : k.Ok) : (k.words.map (·.length)).sum ≤ 440 ∧ k.words.length ≤ 3 := by
  cases k with
  | bare w =>
    refine ⟨?_, by show 1 ≤ 3; decide⟩
    show w.length + 0 ≤ 440
    have : w.length ≤ 3 := by rcases h with rfl | rfl <;> decide +kernel
    omega
  | one w n =>
    refine ⟨?_, by show 2 ≤ 3; decide⟩
    show w.length + ((nt n).length + 0) ≤ 440
    have : w.length ≤ 5 := by rcases h with ⟨rfl | rfl | rfl, _⟩ | ⟨rfl, _⟩ <;> decide +kernel
    have := (nt_len (n := n) (by rcases h with ⟨_, h, _⟩ | ⟨_, h, _⟩ <;> omega) (by rcases h with ⟨_, _, h⟩ | ⟨_, _, h⟩ <;> omega)).2
    omega
  | box a b =>
    obtain ⟨⟨h1, h2⟩, h3, h4⟩ := h
    refine ⟨?_, by show 3 ≤ 3; decide⟩
    show (Str.ofString "box").length + ((nt a).length + ((nt b).length + 0)) ≤ 440
    have : (Str.ofString "box").length = 3 := by decide +kernel
    have := (nt_len (n := a) (by omega) (by omega)).2
    have := (nt_len (n := b) (by omega) (by omega)).2
    omega
  | rests m rs =>
    obtain ⟨⟨h1, h2⟩, h3, h4, h5, h6⟩ := h
    refine ⟨?_, by show 3 ≤ 3; decide⟩
    show (Str.ofString "rests").length + ((nt m).length + ((Txt.join (Str.ofString ",") (rs.map nt)).length + 0)) ≤ 440
    have : (Str.ofString "rests").length = 5 := by decide +kernel
    have := (nt_len (n := m) (by omega) (by omega)).2
    have := rs_len (rs := rs) fun r hr => ⟨(h5 r hr).1, by have := (h5 r hr).2; omega⟩
    omega
theorem text_len {k : Kd} (h : k.Ok) : k.text.length ≤ 443 := by
  obtain ⟨h1, h2⟩ := words_len h
  have h3 := join_len 32 k.words
  unfold Kd.text
  rw [sp_is, joinE]
  omega
theorem join_fits {k : Kd} (h : k.Ok) : (k.words.map (·.length)).sum + k.words.length * (Str.ofString " ").length ≤ 16777216 := by
  obtain ⟨h1, h2⟩ := words_len h
  have : (Str.ofString " ").length = 1 := by decide +kernel
  rw [this]
  omega
theorem rs_fits {rs : List Int} (h : ∀ r ∈ rs, 0 ≤ r ∧ r < 1000000) (hl : rs.length ≤ 60) : ((rs.map nt).map (·.length)).sum + (rs.map nt).length * (Str.ofString ",").length ≤ 16777216 := by
  have h2 := nts_sum (ns := rs) (k := 6) fun r hr => (nt_len (h r hr).1 (h r hr).2).2
  have : (Str.ofString ",").length = 1 := by decide +kernel
  rw [this, List.length_map]
  omega
theorem nt_zero : nt 0 = Str.ofString "0" := by decide +kernel
end M68
set_option Elab.async false
set_option linter.all false
set_option maxRecDepth 100000
set_option maxHeartbeats 4000000
namespace K72
open PySem L2 M67 M68
noncomputable def KdAt (H : Hp) (c : Addr) : Kd → Prop
  | .bare w => H c = some (.tup [.str w])
  | .one w n => H c = some (.tup [.str w, .int n])
  | .box a b => H c = some (.tup [.str (Str.ofString "box"), .int a, .int b])
  | .rests m rs => ∃ d, H c = some (.tup [.str (Str.ofString "rests"), .int m, .ref d]) ∧ H d = some (.tup (rs.map V.int))
theorem KdAt.same {H H' : Hp} {c : Addr} {k : Kd} (h : KdAt H c k) (y : Same H H') : KdAt H' c k := by
  cases k with
  | bare w => exact y _ _ h
  | one w n => exact y _ _ h
  | box a b => exact y _ _ h
  | rests m rs => obtain ⟨d, h1, h2⟩ := h; exact ⟨d, y _ _ h1, y _ _ h2⟩
theorem pick3 {k a b c : Int} (h0 : 0 ≤ k) (h1 : k < 3) {lo hi : Int} (ha : lo ≤ a ∧ a ≤ hi) (hb : lo ≤ b ∧ b ≤ hi) (hc : lo ≤ c ∧ c ≤ hi) : ∃ m : Int, atI [V.int a, .int b, .int c] k = some (.int m) ∧ lo ≤ m ∧ m ≤ hi := by
  have : k = 0 ∨ k = 1 ∨ k = 2 := by omega
  rcases this with rfl | rfl | rfl
  · exact ⟨a, rfl, ha⟩
  · exact ⟨b, rfl, hb⟩
  · exact ⟨c, rfl, hc⟩
section
variable {P : Program} {w : World} {K : PySem.W.Frag} {mg : Str → Option Value} {base : Heap} {f : Addr} {fd : FuncData}
theorem sc_kind : FnScope ["_law_spool_here", "_law_most", "_law_way", "_law_far", "_law_number", "_law_word", "_law_m", "_law_some"] ["_law_spool_here", "_law_most"] (defScope (top 159)) := ⟨rfl, rfl, rfl, by decide +kernel, rfl, by decide +kernel, by decide +kernel⟩
noncomputable def sp_kind : Sp := fun vs H Q _ => ∃ (a L : Addr) (most : Int) (n : Nat), vs = [.ref a, .int most] ∧ Hand H a L n ∧ n < 900000000 ∧ 1 ≤ most ∧ most ≤ 8 ∧
  ∀ c H' (k : Kd), Step a L (n + 100) H H' → KdAt H' c k → k.Ok → Q (.ref c) H'
theorem ok_kind (F : Fun K "_law_kind" "_law_kind" (top 159) f fd) (m_range : mg "range" = none) (m_tuple : mg "tuple" = none) (F_law_take : FnA P w K mg base "_law_take" 1 ["_law_spool_here", "_law_many"] sp_take) : FnOk P w K mg base CX0 2 f fd ["_law_spool_here", "_law_most"] sp_kind := by
  refine F.okz sc_kind (fun vs H Q E h => ?_) (fun cdv A outer s H vs Q E hr h => ?_)
  · obtain ⟨a, L, m, n, rfl, _⟩ := h; rfl
  obtain ⟨a, L, most, n, rfl, hh, hn, m0, m1, q⟩ := h
  have nd := sc_kind.nd
  have hu := hr.units
  refine ⟨_, (zss_cons (zs_par (i := 2) (j := 3) rfl nd rfl rfl (by decide) rfl rfl (za_cons (ze_fn F_law_take hr (by decide) rfl (za_cons (zn 0) (za_cons (zn 1) za_nil))) (za_cons (ze_fn F_law_take hr (by decide) rfl (za_cons (zn 0) (za_cons ze_int za_nil))) za_nil)) rfl)
      (zss_cons (zs_set (i := 4) nd rfl (Or.inl rfl) (ze_op op_addP ze_int (ze_fn F_law_take hr (by decide) rfl (za_cons (zn 0) (za_cons (ze_ix ix_P (ze_lst (za_cons ze_int (za_cons ze_int (za_cons ze_int za_nil)))) (zn 3) (fun _ _ => rfl)) za_nil)))))
      (zss_cons (zs_if (zt_cmpP (op_eqD hu) (zn 2) ze_int (nomark _)) (zss_one (zs_ret (ze_tup (za_cons ze_str za_nil)))) zss_nil)
      (zss_cons (zs_if (zt_cmpP op_ltP (zn 2) ze_int (nomark _)) (zss_cons (zs_set (i := 5) nd rfl (Or.inl rfl) (ze_ix ix_P (ze_lst (za_cons ze_str (za_cons ze_str (za_cons ze_str (za_cons ze_str za_nil))))) (zn 2) (fun _ _ => rfl)))
      (zss_one (zs_ret (ze_tup (za_cons (zn 5) (za_cons (zn 4) za_nil)))))) zss_nil)
      (zss_cons (zs_if (zt_cmpP (op_eqD hu) (zn 2) ze_int (nomark _)) (zss_one (zs_ret (ze_tup (za_cons ze_str (za_cons (zn 4) (za_cons (ze_op op_addP ze_int (ze_fn F_law_take hr (by decide) rfl (za_cons (zn 0) (za_cons (ze_ix ix_P (ze_lst (za_cons ze_int (za_cons ze_int (za_cons ze_int za_nil)))) (ze_fn F_law_take hr (by decide) rfl (za_cons (zn 0) (za_cons ze_int za_nil))) (fun _ _ => rfl)) za_nil)))) za_nil)))))) zss_nil)
      (zss_cons (zs_if (zt_cmpP (op_eqD hu) (zn 2) ze_int (nomark _)) (zss_one (zs_ret (ze_tup (za_cons ze_str za_nil)))) zss_nil)
      (zss_cons (zs_set (i := 6) nd rfl (Or.inl rfl) (ze_op op_addP ze_int (ze_fn F_law_take hr (by decide) rfl (za_cons (zn 0) (za_cons (ze_ix ix_P (ze_lst (za_cons ze_int (za_cons ze_int (za_cons ze_int za_nil)))) (zn 3) (fun _ _ => rfl)) za_nil)))))
      (zss_cons (zs_if (zt_cmpP (op_eqD hu) (zn 2) ze_int (nomark _)) (zss_one (zs_ret (ze_tup (za_cons ze_str (za_cons (zn 6) za_nil))))) zss_nil)
      (zss_cons (zs_setcomp (i := 7) ["_law_rest"] [("_law_spool_here", 0)] rfl nd rfl (Or.inl rfl) ⟨rfl, by decide +kernel, by decide +kernel, rfl, rfl⟩ (zi_range1 rfl m_range (za_cons (zn 6) za_nil)) kpg_name (fun _ _ _ _ => zg_name (i := 0) (show List.Nodup (["_law_rest", "_law_spool_here"] : List Str) by decide +kernel) rfl (Or.inl rfl)) (fun _ _ _ _ => (zif_one (zt_cmpP (op_eqD hu) (ze_fn F_law_take hr (by decide) rfl (za_cons (zn 1) (za_cons ze_int za_nil))) ze_int (nomark _)))) (fun _ _ _ _ => (zn 0)))
      (zss_one (zs_ret (ze_tup (za_cons ze_str (za_cons (zn 6) (za_cons (ze_ifExp (zt_cmpP (op_neD hu) (zn 7) (ze_lst za_nil) (nomark _)) (zcb_tuple rfl m_tuple (za_cons (zn 7) za_nil) rfl rfl) (ze_tup (za_cons (ze_op op_modP (zn 4) (zn 6)) za_nil))) za_nil))))))))))))))), ?_⟩
  refine ⟨a, L, most, n, rfl, hh, by omega, by omega, by omega, fun way H1 w0 w1 st1 => ?_⟩
  refine ⟨a, L, 3, n + 1, rfl, st1.2, by omega, by decide, by decide, fun far H2 f0 f1 st2 => ?_⟩
  refine ⟨_, _, rfl, ?_⟩
  have t2 := st1.trans st2
  refine ⟨by show 3 ≤ sizeLine; decide, fun d3 hd3 => ?_⟩
  have y3 := Same.new hd3 (.lst [V.int 6, .int 30, .int 600])
  obtain ⟨x, ex, x0, x1⟩ := pick3 (a := 6) (b := 30) (c := 600) f0 f1 (lo := 1) (hi := 600) (by decide) (by decide) (by decide)
  refine ⟨_, .inl (SqL.of upd_same), .int x, ex, ?_⟩
  refine ⟨a, L, x, n + 1 + 1, rfl, (t2.same y3).2, by omega, by omega, by omega, fun nr H4 n0 n1 st4 => ?_⟩
  have t4 := (t2.same y3).trans st4
  have hnum : 1 ≤ 1 + nr ∧ 1 + nr ≤ 600 := by omega
  refine iteD (fun c => ?_) (fun c0 => ?_)
  · refine ⟨by show 1 ≤ sizeLine; decide, fun d5 hd5 => ?_⟩
    exact q d5 _ (.bare (Str.ofString "all")) ((t4.same (Same.new hd5 _)).mono (by omega)) upd_same (.inl rfl)
  refine iteD (fun c => ?_) (fun c4 => ?_)
  · refine ⟨by show 4 ≤ sizeLine; decide, fun d5 hd5 => ?_⟩
    have y5 := Same.new hd5 (.lst [V.str (Str.ofString "all"), .str (Str.ofString "most"), .str (Str.ofString "few"), .str (Str.ofString "off")])
    have : way = 1 ∨ way = 2 ∨ way = 3 := by
      have : way ≠ 0 := fun z => c0 (by rw [z])
      omega
    obtain ⟨wd, ewd, hwd⟩ : ∃ wd : Str, atI [V.str (Str.ofString "all"), .str (Str.ofString "most"), .str (Str.ofString "few"), .str (Str.ofString "off")] way = some (.str wd) ∧ (wd = Str.ofString "most" ∨ wd = Str.ofString "few" ∨ wd = Str.ofString "off") := by
      rcases this with rfl | rfl | rfl
      · exact ⟨_, rfl, .inl rfl⟩
      · exact ⟨_, rfl, .inr (.inl rfl)⟩
      · exact ⟨_, rfl, .inr (.inr rfl)⟩
    refine ⟨_, .inl (SqL.of upd_same), .str wd, ewd, ?_⟩
    refine ⟨by show 2 ≤ sizeLine; decide, fun d6 hd6 => ?_⟩
    exact q d6 _ (.one wd (1 + nr)) (((t4.same y5).same (Same.new hd6 _)).mono (by omega)) upd_same (.inl ⟨hwd, hnum⟩)
  refine iteD (fun c => ?_) (fun c5 => ?_)
  · refine ⟨by show 3 ≤ sizeLine; decide, fun d5 hd5 => ?_⟩
    have y5 := Same.new hd5 (.lst [V.int 6, .int 30, .int 600])
    have t5 := t4.same y5
    have ne5 := t4.2.ne hd5
    refine ⟨a, L, 3, _, rfl, t5.2, by omega, by decide, by decide, fun far2 H6 g0 g1 st6 => ?_⟩
    obtain ⟨u, eu, u0, u1⟩ := pick3 (a := 6) (b := 30) (c := 600) g0 g1 (lo := 1) (hi := 600) (by decide) (by decide) (by decide)
    refine ⟨_, .inl (SqL.of (st6.lst ne5 upd_same)), .int u, eu, ?_⟩
    refine ⟨a, L, u, _, rfl, st6.2, by omega, by omega, by omega, fun v H7 v0 v1 st7 => ?_⟩
    refine ⟨by show 3 ≤ sizeLine; decide, fun d8 hd8 => ?_⟩
    exact q d8 _ (.box (1 + nr) (1 + v)) ((((t5.trans st6).trans st7).same (Same.new hd8 _)).mono (by omega)) upd_same ⟨hnum, by omega, by omega⟩
  refine iteD (fun c => ?_) (fun c7 => ?_)
  · refine ⟨by show 1 ≤ sizeLine; decide, fun d5 hd5 => ?_⟩
    exact q d5 _ (.bare (Str.ofString "own")) ((t4.same (Same.new hd5 _)).mono (by omega)) upd_same (.inr rfl)
  refine ⟨by show 3 ≤ sizeLine; decide, fun d5 hd5 => ?_⟩
  have y5 := Same.new hd5 (.lst [V.int 4, .int 12, .int 59])
  obtain ⟨z, ez, z0, z1⟩ := pick3 (a := 4) (b := 12) (c := 59) f0 f1 (lo := 1) (hi := 59) (by decide) (by decide) (by decide)
  refine ⟨_, .inl (SqL.of upd_same), .int z, ez, ?_⟩
  refine ⟨a, L, z, _, rfl, (t4.same y5).2, by omega, by omega, by omega, fun mr H6 r0 r1 st6 => ?_⟩
  have t6 := (t4.same y5).trans st6
  have hm : 2 ≤ 2 + mr ∧ 2 + mr ≤ 60 := by omega
  refine iteD (fun c => ?_) (fun c8 => ?_)
  · refine ⟨by show 2 ≤ sizeLine; decide, fun d7 hd7 => ?_⟩
    exact q d7 _ (.one (Str.ofString "times") (2 + mr)) ((t6.same (Same.new hd7 _)).mono (by omega)) upd_same (.inr ⟨rfl, hm⟩)
  refine ⟨(2 + mr), rfl, by omega, by omega, cmp_range (fun i ys H' => Step a L (n + 1 + 1 + 1 + 1 + i) H H' ∧ ∃ rs : List Int, ys = rs.map V.int ∧ rs.length ≤ i ∧ rs.Pairwise (· < ·) ∧ ∀ r ∈ rs, 0 ≤ r ∧ r < i) ⟨t6, [], rfl, Nat.zero_le _, List.Pairwise.nil, fun r hr => (nomatch hr)⟩ ?_ ?_⟩
  · rintro i ys H' hi ⟨st, rs, rfl, rl, rp, rb⟩
    refine ⟨by rw [List.length_map]; exact small1000 (by omega), ?_⟩
    refine ⟨a, L, 2, _, rfl, st.2, by omega, by decide, by decide, fun b H7 b0 b1 st7 => ?_⟩
    refine iteD (fun c => ?_) (fun c => ?_)
    · refine ⟨(st.trans st7).mono (by omega), rs ++ [0 + (i : Int)], by rw [List.map_append]; rfl, by rw [List.length_append]; show rs.length + 1 ≤ i + 1; omega, ?_, fun r hr' => ?_⟩
      · refine List.pairwise_append.mpr ⟨rp, List.pairwise_singleton _ _, fun u hu v hv => ?_⟩
        have : v = 0 + (i : Int) := by simpa using hv
        have := rb u hu
        omega
      · rcases List.mem_append.mp hr' with h | h
        · have := rb r h
          omega
        · have : r = 0 + (i : Int) := by simpa using h
          omega
    · refine ⟨(st.trans st7).mono (by omega), rs, rfl, by omega, rp, fun r hr' => ?_⟩
      have := rb r hr'
      omega
  · rintro ys H' ⟨st, rs, rfl, rl, rp, rb⟩ D hD
    have yD := Same.new hD (.lst (rs.map V.int))
    refine ⟨Nat.zero_le _, fun e he => ?_⟩
    have ye := Same.new he (.lst [])
    refine ⟨_, _, .lst (ye _ _ upd_same) (DatAll.ints rs), .lst (xs := []) upd_same .nil, shaped_list_ints _, shaped_list_ints [], ?_⟩
    have hD1 := ye _ _ (show (upd H' D (.lst (rs.map V.int))) D = some (.lst (rs.map V.int)) from upd_same)
    have t7 := (st.same yD).same ye
    have hm' : ((2 + mr).toNat : Int) = 2 + mr := Int.toNat_of_nonneg (by omega)
    generalize upd (upd H' D (.lst (rs.map V.int))) e (.lst []) = H7 at hD1 t7
    cases rs with
    | nil =>
      refine ⟨by show (0 : Int) < (2 + mr); omega, ?_⟩
      refine ⟨by show 1 ≤ sizeLine; decide, fun g hg => ?_⟩
      have yg := Same.new hg (.tup [V.int ((1 + nr) % (2 + mr))])
      refine ⟨by show 3 ≤ sizeLine; decide, fun c hc => ?_⟩
      have yc := Same.new hc (.tup [V.str (Str.ofString "rests"), .int (2 + mr), .ref g])
      refine q c _ (.rests (2 + mr) [(1 + nr) % (2 + mr)]) (((t7.same yg).same yc).mono (by omega)) ⟨g, upd_same, yc _ _ upd_same⟩ ⟨hm, List.cons_ne_nil _ _, List.pairwise_singleton _ _, fun r hr' => ?_, by show 1 ≤ 60; decide⟩
      have : r = (1 + nr) % (2 + mr) := by simpa using hr'
      rw [this]
      exact ⟨Int.emod_nonneg _ (by omega), Int.emod_lt_of_pos _ (by omega)⟩
    | cons r0 rr =>
      refine ⟨_, .inl (SqL.of hD1), fun g H8 y8 hg => ?_⟩
      refine ⟨by show 3 ≤ sizeLine; decide, fun c hc => ?_⟩
      have yc := Same.new hc (.tup [V.str (Str.ofString "rests"), .int (2 + mr), .ref g])
      refine q c _ (.rests (2 + mr) (r0 :: rr)) (((t7.same y8).same yc).mono (by omega)) ⟨g, upd_same, yc _ _ hg⟩ ⟨hm, List.cons_ne_nil _ _, rp, fun r hr' => ?_, by omega⟩
      have := rb r hr'
      omega
end
end K72
set_option Elab.async false
set_option linter.all false
set_option maxRecDepth 100000
set_option maxHeartbeats 4000000
namespace L2
open PySem PySem.Spec PyProof.Rows
section
variable {κ : Type} [DecidableEq κ]
end
section
variable {P : Program} {w : World} {H : Hp} {h : Heap} {a : Addr}
end
section
variable {X : Cx} {pins : List (Addr × Obj)} {σ : St} {H : Hp} {s : Shared} {a : Addr} {y v : V} {u r : Value} {o : Option V} {A : Around} {E : Value → Shared → Prop}
end
section
variable {X : Cx} {pins : List (Addr × Obj)} {σ : St} {H : Hp} {s : Shared} {a : Addr} {kvs : List (Key × V)} {k : Key} {u : Value} {A : Around} {E : Value → Shared → Prop}
end
noncomputable def NoSl (i : Expr) : Prop := ∀ ov iv, subscripted i false ov iv = operate [ov, iv] (getItem ov iv)
theorem subD_of {prog : Program} {w : World} {A : Around} {E : Value → Shared → Prop} {s : Shared} {env : Env} {value slice : Expr} {pos : Pos} {T id : String} {Q : Value → Shared → Prop}
    (hl : typeLookup (.type T) "__getitem__" = pure (some (.builtin id))) (hs : NoSl slice)
    (h : wpAny (model prog w) A (eval value env) (fun o s₁ => wpAny (model prog w) A (eval slice env) (fun i s₂ => s₂.TypeIs o T ∧ wpAny (model prog w) A (getItem o i) Q E s₂) E s₁) E s) :
    wpAny (model prog w) A (eval (.Subscript value slice pos) env) Q E s := by
  refine Subscript_ (wpAny_mono h (fun o s₁ h₁ => wpAny_mono h₁ (fun i s₂ h₂ => ?_) fun _ _ x => x) fun _ _ x => x)
  obtain ⟨hT, h₂⟩ := h₂
  unfold subscriptTail
  refine wpAny_bind ?_
  rw [getitemInPython_of_ne hT.not_modules]
  refine wpAny_bind (wpAny_specialOf hT hl ?_)
  have fin : wpAny (model prog w) A (subscripted slice false o i) (fun r s₃ => wpAny (model prog w) A (letTemporaryGo value o r >>= fun _ => pure r) Q E s₃) E s₂ := by
    rw [hs o i]
    exact wpAny_operating (wpAny_mono h₂ (fun r s₃ h₃ => wpAny_bind (wpAny_letTemporaryGo (wpAny_pure h₃))) fun _ _ x => x)
  first
    | exact wpAny_pure (wpAny_bind fin)
    | exact wpAny_bind (wpAny_pure (wpAny_bind fin))
    | exact wpAny_bind fin

section
variable {X : Cx} {o i e value : Expr} {pos pos' tpos : Pos} {td ty tv : TE}
end
section
variable {X : Cx} {pos : Pos}
end
end L2
set_option Elab.async false
set_option linter.all false
set_option maxRecDepth 100000
set_option maxHeartbeats 4000000
namespace DCT
open PySem PyProof.Rows SRT L2
section
variable {prog : Program} {w : World} {A : Around} {E : Value → Shared → Prop} {s : Shared} {K : Type} [DecidableEq K] {knd : KeyKind prog w K}
end
end DCT
namespace L2
open PySem PySem.Spec PyProof.Rows
section
variable {X : Cx}
variable {e : Expr} {es : List Expr} {t : TA} {p pos : Pos}
end
end L2
set_option Elab.async false
set_option linter.all false
set_option maxRecDepth 100000
set_option maxHeartbeats 4000000
namespace PySem
open Sem (wp)
section
variable {prog : Program} {w : World} {A : Around} {E : Value → Shared → Prop} {K : Type} [DecidableEq K] {knd : KeyKind prog w K}
end
end PySem
namespace L2
open PySem PySem.Spec PyProof.Rows
section
variable {X : Cx}
variable {e : Expr} {es : List Expr} {t : TA} {p pos : Pos}
end
end L2
set_option Elab.async false
set_option linter.all false
set_option maxRecDepth 100000
set_option maxHeartbeats 4000000
namespace L2
open PySem PySem.Spec PyProof.Rows
section
variable {X : Cx} {pins : List (Addr × Obj)} {σ : St} {H : Hp} {s : Shared} {a : Addr} {y d : V} {u r : Value} {o : Option V} {A : Around} {E : Value → Shared → Prop}
end
section
variable {X : Cx} {o e f : Expr} {apos cpos : Pos} {td ty tx : TE}
end
end L2
set_option Elab.async false
set_option linter.all false
set_option maxRecDepth 100000
set_option maxHeartbeats 4000000
namespace L2
open PySem PySem.Spec PyProof.Rows
section
variable {X : Cx}
end
end L2
set_option Elab.async false
set_option linter.all false
set_option maxRecDepth 100000
set_option maxHeartbeats 4000000
namespace L2
open PySem PySem.Spec PyProof.Rows
section
variable {X : Cx}
variable {e : Expr} {es : List Expr} {t : TA} {p pos : Pos}
end
end L2
set_option Elab.async false
set_option linter.all false
set_option maxRecDepth 100000
set_option maxHeartbeats 4000000
namespace L2
open PySem PySem.Spec PyProof.Rows
section
variable {X : Cx}
variable {e : Expr} {es : List Expr} {t : TA} {p pos : Pos}
end
end L2
set_option Elab.async false
set_option linter.all false
set_option maxRecDepth 100000
set_option maxHeartbeats 4000000
namespace L2
open PySem PySem.Spec PyProof.Rows
section
variable {prog : Program} {w : World} {A : Around} {E : Value → Shared → Prop} {s : Shared}
variable {z TI TO i1 i2 i3 l1 l2 l3 : Addr} {k1 k2 k3 : Nat} {xs ys zs : Array Value}
end
section
variable {prog : Program} {w : World} {A : Around} {E : Value → Shared → Prop} {s : Shared}
end
section
variable {X : Cx} {pins : List (Addr × Obj)} {σ : St} {H : Hp} {s : Shared}
end
end L2
set_option Elab.async false
set_option linter.all false
set_option maxRecDepth 100000
set_option maxHeartbeats 4000000
namespace L2
open PySem PySem.Spec PyProof.Rows
section
variable {X : Cx}
variable {e : Expr} {es : List Expr} {t : TA} {p pos : Pos}
end
end L2
set_option Elab.async false
set_option linter.all false
set_option maxRecDepth 100000
set_option maxHeartbeats 4000000
namespace L2
open PySem PySem.Spec PyProof.Rows
section
variable {X : Cx} {e : Expr} {es : List Expr} {t : TA} {p pos : Pos}
end
end L2
set_option Elab.async false
set_option linter.all false
set_option maxRecDepth 100000
set_option maxHeartbeats 4000000
namespace L2
open PySem PySem.Spec PyProof.Rows
theorem eqv_tuple_nil (ds : List PyData) : PyData.eqv (.tuple ds) (.tuple []) = ds.isEmpty := by cases ds <;> simp [PyData.eqv, PyData.eqvAll]
end L2
set_option Elab.async false
set_option linter.all false
set_option maxRecDepth 100000
set_option maxHeartbeats 4000000
namespace L2
open PySem PySem.Spec PyProof.Rows
section
variable {X : Cx}
variable {e : Expr} {es : List Expr} {t : TA} {p pos : Pos}
end
end L2
set_option Elab.async false
set_option linter.all false
set_option maxRecDepth 100000
set_option maxHeartbeats 4000000
namespace HT
open PySem PyProof.Rows PySem.SeqAt
variable {prog : Program} {w : World} {A : Around} {E : Value → Shared → Prop} {s : Shared}
end HT
namespace L2
open PySem PySem.Spec PyProof.Rows
section
variable {X : Cx} {e lo hi : Expr} {te tl tk : TE} {pos p2 : Pos}
end
end L2
set_option Elab.async false
set_option linter.all false
set_option maxRecDepth 100000
set_option maxHeartbeats 4000000
namespace EN1
open PySem PyProof.Rows
section
variable {prog : Program} {w : World} {A : Around} {E : Value → Shared → Prop} {s : Shared}
end
end EN1
set_option Elab.async false
set_option linter.all false
set_option maxRecDepth 100000
set_option maxHeartbeats 4000000
namespace EN1
open PySem PyProof.Rows
section
end
end EN1
namespace L2
open PySem PySem.Spec PyProof.Rows
section
variable {X : Cx}
end
end L2
set_option Elab.async false
set_option linter.all false
set_option maxRecDepth 100000
set_option maxHeartbeats 4000000
namespace PySem
open PyProof.Rows
section
variable {prog : Program} {w : World} {A : Around} {E : Value → Shared → Prop} {s : Shared}
end
end PySem
namespace L2
open PySem PySem.Spec PyProof.Rows
section
variable {X : Cx}
theorem op_in_seq' {K : PySem.W.Frag} (h : X.K = K) : OpR X (compareOp .In) (rIn K false) := by subst h; exact op_in_seq
variable {e : Expr} {es : List Expr} {t : TA} {p pos : Pos}
end
end L2
namespace MRow
noncomputable def putN : Nat → (Nat → Int) → Nat → Nat → Int
  | 0, f, _, n => f n
  | k + 1, f, s, n => f n + (if s ≤ n then putN k f s (n - s) else 0)
noncomputable def put (f : Nat → Int) (s n : Nat) : Int := putN n f s n
theorem putN_more {f : Nat → Int} {s : Nat} (hs : 0 < s) : ∀ (k n : Nat), n ≤ k → putN k f s n = putN n f s n
  | 0, n, h => by have : n = 0 := by omega
                  subst this; rfl
  | k + 1, 0, _ => by
    show f 0 + (if s ≤ 0 then _ else 0) = f 0
    rw [if_neg (by omega)]; omega
  | k + 1, n + 1, h => by
    show f (n + 1) + (if s ≤ n + 1 then putN k f s (n + 1 - s) else 0) = f (n + 1) + (if s ≤ n + 1 then putN n f s (n + 1 - s) else 0)
    by_cases hn : s ≤ n + 1
    · rw [if_pos hn, if_pos hn, putN_more hs k _ (by omega), putN_more hs n _ (by omega)]
    · rw [if_neg hn, if_neg hn]
theorem put_eq (f : Nat → Int) {s : Nat} (hs : 0 < s) (n : Nat) : put f s n = f n + (if s ≤ n then put f s (n - s) else 0) := by
  unfold put
  rw [← putN_more hs (n + 1) n (by omega)]
  show f n + (if s ≤ n then putN n f s (n - s) else 0) = _
  by_cases hn : s ≤ n
  · rw [if_pos hn, if_pos hn, putN_more hs n _ (by omega)]
  · rw [if_neg hn, if_neg hn]
noncomputable def dl : Nat → Int := fun n => if n = 0 then 1 else 0
noncomputable def R : Nat → Nat → Int
  | 0 => dl
  | s + 1 => put (R s) (s + 1)
noncomputable def tb (f : Nat → Int) (L : Nat) : List Int := (List.range L).map f
theorem tb_len (f : Nat → Int) (L : Nat) : (tb f L).length = L := by simp [tb]
theorem tb_at {f : Nat → Int} {L j : Nat} (h : j < (tb f L).length) : (tb f L)[j] = f j := by simp [tb]
theorem tb_get {f : Nat → Int} {L j : Nat} (h : j < L) : (tb f L)[j]? = some (f j) := by
  rw [List.getElem?_eq_getElem (by rw [tb_len]; exact h), tb_at]
theorem tb_succ (f : Nat → Int) (L : Nat) : tb f (L + 1) = tb f L ++ [f L] := by simp [tb, List.range_succ]
theorem tb_ext {f g : Nat → Int} {L : Nat} (h : ∀ j, j < L → f j = g j) : tb f L = tb g L := by
  unfold tb
  exact List.map_congr_left fun j hj => h j (List.mem_range.mp hj)
theorem tb_dl (n : Nat) : tb dl (n + 1) = 1 :: List.replicate n 0 := by
  refine List.ext_getElem (by simp [tb]) fun i h1 h2 => ?_
  rw [tb_at]
  cases i with
  | zero => rfl
  | succ i => simp [dl]
noncomputable def up (f g : Nat → Int) (k : Nat) : Nat → Int := fun j => if j < k then g j else f j
theorem tb_set {f g : Nat → Int} {L k : Nat} (h : k < L) : (tb (up f g k) L).set k (g k) = tb (up f g (k + 1)) L := by
  refine List.ext_getElem (by rw [List.length_set, tb_len, tb_len]) fun i h1 h2 => ?_
  rw [List.getElem_set, tb_at h2]
  unfold up
  by_cases hk : k = i
  · subst hk; simp
  · rw [if_neg hk, tb_at]
    by_cases hi : i < k
    · rw [if_pos hi, if_pos (by omega)]
    · rw [if_neg hi, if_neg (by omega)]
theorem put_low (f : Nat → Int) {s n : Nat} (hs : 0 < s) (h : n < s) : put f s n = f n := by rw [put_eq f hs, if_neg (by omega)]; omega
theorem up_start (f : Nat → Int) {s : Nat} (hs : 0 < s) (L : Nat) : tb (up f (put f s) s) L = tb f L := tb_ext fun j _ => by
  unfold up
  by_cases h : j < s
  · rw [if_pos h, put_low f hs h]
  · rw [if_neg h]
theorem up_all (f g : Nat → Int) {k L : Nat} (h : L ≤ k) : tb (up f g k) L = tb g L := tb_ext fun j hj => by
  unfold up
  rw [if_pos (by omega)]
end MRow
set_option Elab.async false
set_option linter.all false
set_option maxRecDepth 100000
set_option exponentiation.threshold 3000
set_option maxHeartbeats 4000000
namespace M27
open PySem L2 MRow
theorem size_up {a b m : Int} (hm : 1 ≤ m) : Builtin.Range.rangeSize a b m = if a < b then (b - a - 1) / m + 1 else 0 := by
  unfold Builtin.Range.rangeSize
  rw [if_pos (by omega)]
theorem small_up {a b m : Int} (hm : 1 ≤ m) (hm' : m ≤ 1000000) (ha : 0 ≤ a) (ha' : a ≤ 1000000) (hb : 0 ≤ b) (hb' : b ≤ 1000000) : Builtin.Range.small a b m = true := by
  have e := size_up (a := a) (b := b) hm
  unfold Builtin.Range.small
  rw [e]
  by_cases hab : a < b
  · rw [if_pos hab]
    have h0 : 0 ≤ (b - a - 1) / m := Int.ediv_nonneg (by omega) (by omega)
    have h1 : (b - a - 1) / m ≤ b - a - 1 := Int.ediv_le_self _ (by omega)
    simp only [Builtin.Range.rangeFitsLong, Bool.and_eq_true, Bool.or_eq_true, decide_eq_true_eq, beq_iff_eq, show m > 0 by omega, if_true]
    generalize (b - a - 1) / m = k at h0 h1
    omega
  · rw [if_neg hab]
    simp only [Builtin.Range.rangeFitsLong, Bool.and_eq_true, Bool.or_eq_true, decide_eq_true_eq, beq_iff_eq, show m > 0 by omega, if_true]
    omega
noncomputable def bnd : Nat → Nat
  | 0 => 1
  | s + 1 => (600 / (s + 1) + 1) * bnd s
theorem put_in {f : Nat → Int} {s B : Nat} (hs : 0 < s) (h : ∀ n, n ≤ 600 → 0 ≤ f n ∧ f n ≤ (B : Int)) : ∀ (k n : Nat), n ≤ k → n ≤ 600 → 0 ≤ put f s n ∧ put f s n ≤ (((n / s + 1) * B : Nat) : Int) := by
  intro k
  induction k with
  | zero =>
    intro n hk hn
    have : n = 0 := by omega
    subst this
    rw [put_eq f hs, if_neg (by omega), Nat.zero_div]
    have := h 0 (by omega)
    omega
  | succ k ih =>
    intro n hk hn
    rw [put_eq f hs]
    have := h n hn
    by_cases hsn : s ≤ n
    · rw [if_pos hsn]
      have h2 := ih (n - s) (by omega) (by omega)
      have e : n / s = (n - s) / s + 1 := Nat.div_eq_sub_div hs hsn
      rw [e, Nat.succ_mul]
      omega
    · rw [if_neg hsn, Nat.div_eq_of_lt (by omega)]
      omega
theorem R_in : ∀ (s n : Nat), n ≤ 600 → 0 ≤ R s n ∧ R s n ≤ (bnd s : Int)
  | 0, n, _ => by
    show 0 ≤ dl n ∧ dl n ≤ ((1 : Nat) : Int)
    unfold dl
    split <;> omega
  | s + 1, n, hn => by
    have h := put_in (f := R s) (s := s + 1) (B := bnd s) (Nat.succ_pos s) (R_in s) n n (Nat.le_refl _) hn
    refine ⟨h.1, Int.le_trans h.2 ?_⟩
    show (((n / (s + 1) + 1) * bnd s : Nat) : Int) ≤ (((600 / (s + 1) + 1) * bnd s : Nat) : Int)
    have h1 : n / (s + 1) ≤ 600 / (s + 1) := Nat.div_le_div_right hn
    have := Nat.mul_le_mul_right (bnd s) (Nat.succ_le_succ h1)
    exact Int.ofNat_le.mpr this
theorem bnd_mono : ∀ (d s : Nat), bnd s ≤ bnd (s + d)
  | 0, s => Nat.le_refl _
  | d + 1, s => by
    refine Nat.le_trans (bnd_mono d s) ?_
    show bnd (s + d) ≤ (600 / (s + d + 1) + 1) * bnd (s + d)
    exact Nat.le_mul_of_pos_left _ (Nat.succ_pos _)
theorem bnd_600 : bnd 600 < 2 ^ 1300 := by decide +kernel
theorem R_small {s n : Nat} (hs : s ≤ 600) (hn : n ≤ 600) : (R s n).natAbs < 2 ^ 1300 := by
  have h := R_in s n hn
  have h1 : bnd s ≤ bnd 600 := by have := bnd_mono (600 - s) s; rwa [Nat.add_sub_cancel' hs] at this
  have h2 := bnd_600
  have h3 : (R s n).natAbs ≤ bnd s := by omega
  exact Nat.lt_of_le_of_lt (Nat.le_trans h3 h1) h2
end M27
set_option linter.all false
set_option maxRecDepth 100000
set_option maxHeartbeats 4000000
namespace M80
open MRow
noncomputable def off (g : Nat → Int) (s n : Nat) : Int := g n - if s ≤ n then g (n - s) else 0
theorem put_of {F c : Nat → Int} {s : Nat} (hs : 0 < s) (h : off F s = c) : F = put c s := by
  funext n
  induction n using Nat.strongRecOn with
  | ind n ih =>
    have e := congrFun h n
    unfold off at e
    rw [put_eq c hs]
    by_cases hn : s ≤ n
    · rw [if_pos hn] at e ⊢
      rw [← ih (n - s) (by omega)]
      omega
    · rw [if_neg hn] at e ⊢
      omega
theorem off_put (g : Nat → Int) {s : Nat} (hs : 0 < s) : off (put g s) s = g := by
  funext n
  unfold off
  rw [put_eq g hs n]
  omega
theorem put_off (g : Nat → Int) {s : Nat} (hs : 0 < s) : put (off g s) s = g := (put_of hs rfl).symm
theorem off_comm (g : Nat → Int) (a b : Nat) : off (off g a) b = off (off g b) a := by
  funext n
  unfold off
  by_cases ha : a ≤ n
  · by_cases hb : b ≤ n
    · by_cases hab : a + b ≤ n
      · rw [if_pos hb, if_pos ha, if_pos (show a ≤ n - b by omega), if_pos (show b ≤ n - a by omega), show n - b - a = n - a - b by omega]
        omega
      · rw [if_pos hb, if_pos ha, if_neg (show ¬ a ≤ n - b by omega), if_neg (show ¬ b ≤ n - a by omega)]
        omega
    · rw [if_neg hb, if_pos ha, if_neg (show ¬ b ≤ n - a by omega)]
      omega
  · by_cases hb : b ≤ n
    · rw [if_pos hb, if_neg ha, if_neg (show ¬ a ≤ n - b by omega)]
      omega
    · simp only [if_neg hb, if_neg ha]
theorem off_put_comm (g : Nat → Int) {a : Nat} (b : Nat) (ha : 0 < a) : off (put g a) b = put (off g b) a := by
  refine put_of ha ?_
  rw [off_comm, off_put g ha]
theorem put_comm (g : Nat → Int) {a b : Nat} (ha : 0 < a) (hb : 0 < b) : put (put g a) b = put (put g b) a := by
  refine put_of ha ?_
  rw [off_put_comm _ _ hb, off_put _ ha]
noncomputable def PL (g : Nat → Int) (ss : List Nat) : Nat → Int := ss.foldl put g
noncomputable def OL (g : Nat → Int) (ss : List Nat) : Nat → Int := ss.foldl off g
theorem PL_cons (g : Nat → Int) (s : Nat) (ss : List Nat) : PL g (s :: ss) = PL (put g s) ss := rfl
theorem OL_cons (g : Nat → Int) (s : Nat) (ss : List Nat) : OL g (s :: ss) = OL (off g s) ss := rfl
theorem PL_app (g : Nat → Int) (a b : List Nat) : PL g (a ++ b) = PL (PL g a) b := by unfold PL; rw [List.foldl_append]
theorem OL_app (g : Nat → Int) (a b : List Nat) : OL g (a ++ b) = OL (OL g a) b := by unfold OL; rw [List.foldl_append]
theorem PL_off : ∀ (ss : List Nat) (g : Nat → Int) (s : Nat), (∀ x ∈ ss, 0 < x) → PL (off g s) ss = off (PL g ss) s
  | [], _, _, _ => rfl
  | x :: ss, g, s, h => by rw [PL_cons, PL_cons, ← off_put_comm g s (h x List.mem_cons_self), PL_off ss (put g x) s fun y hy => h y (List.mem_cons_of_mem _ hy)]
theorem PL_perm {a b : List Nat} (p : a.Perm b) : ∀ (g : Nat → Int), (∀ x ∈ a, 0 < x) → PL g a = PL g b := by
  induction p with
  | nil => intro g _; rfl
  | cons x _ ih => intro g h; rw [PL_cons, PL_cons]; exact ih _ fun y hy => h y (List.mem_cons_of_mem _ hy)
  | swap x y l => intro g h; rw [PL_cons, PL_cons, PL_cons, PL_cons, put_comm g (h _ List.mem_cons_self) (h _ (List.mem_cons_of_mem _ List.mem_cons_self))]
  | trans p1 _ ih1 ih2 => intro g h; rw [ih1 g h]; exact ih2 g fun x hx => h x (p1.mem_iff.mpr hx)
theorem cancel : ∀ (ss : List Nat) (g : Nat → Int), (∀ x ∈ ss, 0 < x) → OL (PL g ss) ss = g
  | [], _, _ => rfl
  | x :: ss, g, h => by
    have h' : ∀ y ∈ ss, 0 < y := fun y hy => h y (List.mem_cons_of_mem _ hy)
    rw [PL_cons, OL_cons, ← PL_off ss _ _ h', off_put g (h x List.mem_cons_self)]
    exact cancel ss g h'
noncomputable def ups (n : Nat) : List Nat := (List.range n).map (· + 1)
theorem ups_succ (n : Nat) : ups (n + 1) = ups n ++ [n + 1] := by unfold ups; rw [List.range_succ, List.map_append]; rfl
theorem ups_pos {n x : Nat} (h : x ∈ ups n) : 0 < x ∧ x ≤ n := by
  obtain ⟨i, hi, rfl⟩ := List.mem_map.mp h
  have := List.mem_range.mp hi
  omega
theorem PL_ups : ∀ n, PL dl (ups n) = R n
  | 0 => rfl
  | n + 1 => by rw [ups_succ, PL_app, PL_ups n]; rfl
theorem filt_perm {α : Type} (p : α → Bool) : ∀ l : List α, List.Perm (l.filter (fun x => !p x) ++ l.filter p) l
  | [] => .nil
  | x :: l => by
    by_cases h : p x = true
    · rw [List.filter_cons_of_neg (by simp [h]), List.filter_cons_of_pos h]
      exact List.perm_middle.trans (.cons x (filt_perm p l))
    · rw [List.filter_cons_of_pos (by simp [h]), List.filter_cons_of_neg h]
      exact .cons x (filt_perm p l)
theorem R_less (far : Nat) (p : Nat → Bool) : OL (R far) ((ups far).filter p) = PL dl ((ups far).filter fun x => !p x) := by
  have h := PL_perm (filt_perm p (ups far)) dl fun x hx => by
    rcases List.mem_append.mp hx with h | h
    · exact (ups_pos (List.mem_filter.mp h).1).1
    · exact (ups_pos (List.mem_filter.mp h).1).1
  rw [← PL_ups, ← h, PL_app]
  exact cancel _ _ fun x hx => (ups_pos (List.mem_filter.mp hx).1).1
noncomputable def below (m : Nat) (ss : List Nat) (g : Nat → Int) : Nat → Int := ss.foldl (fun g s => off (put g s) (m * s)) g
theorem below_is (m : Nat) : ∀ (ss : List Nat) (g : Nat → Int), (∀ x ∈ ss, 0 < x) → below m ss g = OL (PL g ss) (ss.map (m * ·))
  | [], _, _ => rfl
  | s :: ss, g, h => by
    have h' : ∀ y ∈ ss, 0 < y := fun y hy => h y (List.mem_cons_of_mem _ hy)
    show below m ss (off (put g s) (m * s)) = OL (PL (put g s) ss) (m * s :: ss.map (m * ·))
    rw [below_is m ss _ h', PL_off ss _ _ h', OL_cons]
noncomputable def Al (N : Nat) (f g : Nat → Int) : Prop := ∀ j, j ≤ N → f j = g j
theorem Al.great {N : Nat} {f g : Nat → Int} (h : Al N f g) {s : Nat} (hs : N < s) : Al N (M80.off f s) g := fun j hj => by
  unfold M80.off
  rw [if_neg (by omega), h j hj, Int.sub_zero]
theorem OL_great {N : Nat} : ∀ (ss : List Nat) {f g : Nat → Int}, Al N f g → (∀ x ∈ ss, N < x) → Al N (OL f ss) g
  | [], _, _, h, _ => h
  | s :: ss, f, g, h, hs => OL_great ss (h.great (hs s List.mem_cons_self)) fun y hy => hs y (List.mem_cons_of_mem _ hy)
theorem Al.refl (N : Nat) (f : Nat → Int) : Al N f f := fun _ _ => rfl
theorem mults {m k far : Nat} (hm : 0 < m) (h1 : m * k ≤ far) (h2 : far < m * (k + 1)) : (ups far).filter (fun x => decide (x % m = 0)) = (ups k).map (m * ·) := by
  have key : ∀ far k, m * k ≤ far → far < m * (k + 1) → (ups far).filter (fun x => decide (x % m = 0)) = (ups k).map (m * ·) := by
    intro far
    induction far with
    | zero =>
      intro k h1 h2
      have hk : k = 0 := by
        cases k with
        | zero => rfl
        | succ k => rw [Nat.mul_succ] at h1; omega
      subst hk; rfl
    | succ far ih =>
      intro k h1 h2
      rw [ups_succ, List.filter_append]
      by_cases e : m * k = far + 1
      · obtain ⟨k', rfl⟩ : ∃ k', k = k' + 1 := ⟨k - 1, by cases k with
          | zero => rw [Nat.mul_zero] at e; omega
          | succ k => omega⟩
        rw [ih k' (by rw [Nat.mul_succ] at e; omega) (by omega), ups_succ, List.map_append, ← e]
        congr 1
        rw [List.filter_cons_of_pos (by simp)]
        rfl
      · rw [ih k (by omega) (by omega), List.filter_cons_of_neg, List.filter_nil, List.append_nil]
        intro z
        have z' := of_decide_eq_true z
        have : far + 1 = m * ((far + 1) / m) := by have := Nat.div_add_mod (far + 1) m; omega
        have h3 : (far + 1) / m = k := by
          have a1 : m * ((far + 1) / m) < m * (k + 1) := by omega
          have a2 : (far + 1) / m < k + 1 := Nat.lt_of_mul_lt_mul_left a1
          have a3 : m * k < m * ((far + 1) / m + 1) := by rw [Nat.mul_succ]; omega
          have a4 : k < (far + 1) / m + 1 := Nat.lt_of_mul_lt_mul_left a3
          omega
        rw [h3] at this
        exact e this.symm
  exact key far k h1 h2
theorem sieve0 {m k far : Nat} (hm : 0 < m) (h1 : m * k ≤ far) (h2 : far < m * (k + 1)) : OL (R far) ((ups k).map (m * ·)) = PL dl ((ups far).filter fun x => !decide (x % m = 0)) := by
  rw [← mults hm h1 h2, R_less]
theorem sieve1 {m k far : Nat} (hm : 0 < m) (hk : k ≤ far) (h2 : far < m * (k + 1)) : Al far (below m (ups far) dl) (OL (R far) ((ups k).map (m * ·))) := by
  rw [below_is m (ups far) dl fun x hx => (ups_pos hx).1, PL_ups]
  have e : ups far = ups k ++ (List.range (far - k)).map fun i => k + (i + 1) := by
    obtain ⟨d, rfl⟩ : ∃ d, far = k + d := ⟨far - k, by omega⟩
    rw [Nat.add_sub_cancel_left]
    clear h2 hk
    induction d with
    | zero => simp [ups]
    | succ d ih => rw [show k + (d + 1) = (k + d) + 1 by omega, ups_succ, ih, List.range_succ, List.map_append, ← List.append_assoc]; rfl
  rw [e, List.map_append, OL_app]
  refine OL_great _ (Al.refl _ _) fun x hx => ?_
  obtain ⟨y, hy, rfl⟩ := List.mem_map.mp hx
  obtain ⟨i, _, rfl⟩ := List.mem_map.mp hy
  have : m * (k + 1) ≤ m * (k + (i + 1)) := Nat.mul_le_mul_left _ (by omega)
  omega
end M80
set_option Elab.async false
set_option linter.all false
set_option maxRecDepth 100000
set_option maxHeartbeats 4000000
namespace K72
open PySem L2 MRow M27 M80
section
variable {P : Program} {w : World} {K : PySem.W.Frag} {mg : Str → Option Value} {base : Heap} {f : Addr} {fd : FuncData}
theorem sc_begun : FnScope ["most"] ["most"] (defScope (top 30)) := ⟨rfl, rfl, rfl, by decide +kernel, rfl, by decide +kernel, by decide +kernel⟩
noncomputable def sp_begun : Sp := fun vs H Q _ => ∃ n : Nat, vs = [.int n] ∧ n ≤ 1000 ∧ ∀ p H', H p = none → Same H H' → H' p = some (.lst ((tb dl (n + 1)).map V.int)) → Q (.ref p) H'
theorem fresh_back {H H' : Hp} {p : Addr} (y : Same H H') (h : H' p = none) : H p = none := by
  cases e : H p with
  | none => rfl
  | some o =>
    have := y _ _ e
    rw [h] at this
    cases this
theorem ok_begun (F : Fun K "begun" "begun" (top 30) f fd)  : FnOk P w K mg base CX0 1 f fd ["most"] sp_begun := by
  refine F.okz sc_begun (fun vs H Q E h => ?_) (fun cdv A outer s H vs Q E hr h => ?_)
  · obtain ⟨n, rfl, _⟩ := h; rfl
  obtain ⟨n, rfl, hn, q⟩ := h
  have nd := sc_begun.nd
  refine ⟨_, (zss_one (zs_ret (ze_op op_addP (ze_lst (za_cons ze_int za_nil)) (ze_op op_mulQ (ze_lst (za_cons ze_int za_nil)) (zn 0))))), ?_⟩
  refine ⟨by show 1 ≤ sizeLine; decide, fun d hd => ?_⟩
  have g1 := Same.new hd (.lst [.int 1])
  refine ⟨by show 1 ≤ sizeLine; decide, fun d2 hd2 => ?_⟩
  have g2 := Same.new hd2 (.lst [.int 0])
  refine ⟨⟨by omega, by omega⟩, .inl ⟨_, upd_same, le_line (by show 1 * (n : Int).toNat ≤ 1000; omega), fun d3 hd3 => ?_⟩⟩
  have g3 := Same.new hd3 (.lst (List.replicate (n : Int).toNat [V.int 0]).flatten)
  refine .inl ⟨_, _, g3 _ _ (g2 _ _ upd_same), upd_same, ?_, fun d4 hd4 => ?_⟩
  · rw [len_rep, sizeLine_eq]; show 1 + _ * 1 ≤ _; omega
  · refine q d4 _ (fresh_back ((g1.trans g2).trans g3) hd4) (((g1.trans g2).trans g3).trans (Same.new hd4 _)) ?_
    rw [upd_same, rep_flat, tb_dl]
    rfl
theorem sc_put_on : FnScope ["row", "size", "told", "n"] ["row", "size"] (defScope (top 31)) := ⟨rfl, rfl, rfl, by decide +kernel, rfl, by decide +kernel, by decide +kernel⟩
noncomputable def sp_put_on : Sp := fun vs H Q _ => ∃ (a : Addr) (s L : Nat) (g : Nat → Int), vs = [.ref a, .int s] ∧ 0 < s ∧ s ≤ 1000000 ∧ L ≤ 1000 ∧ H a = some (.lst ((tb g L).map V.int)) ∧ ∀ p H', H p = none → Same H H' → H' p = some (.lst ((tb (put g s) L).map V.int)) → Q (.ref p) H'
theorem ok_put_on (F : Fun K "put_on" "put_on" (top 31) f fd) (m_len : mg "len" = none) (m_list : mg "list" = none) (m_range : mg "range" = none) : FnOk P w K mg base CX0 1 f fd ["row", "size"] sp_put_on := by
  refine F.okz sc_put_on (fun vs H Q E h => ?_) (fun cdv A outer s H vs Q E hr h => ?_)
  · obtain ⟨a, z, L, g, rfl, _⟩ := h; rfl
  obtain ⟨a, z, L, g, rfl, hz, hz2, hL, ha, q⟩ := h
  have nd := sc_put_on.nd
  refine ⟨_, (zss_cons (zs_set (i := 2) nd rfl (Or.inl rfl) (zcb_list rfl m_list (za_cons (zn 0) za_nil) rfl rfl))
      (zss_cons (zs_for PassesOwn.never rfl (zi_range2 rfl m_range (za_cons (zn 1) (za_cons (zcb_len rfl m_len (za_cons (zn 0) za_nil) rfl rfl) za_nil))) (zg_name (i := 3) nd rfl (Or.inl rfl)) (zss_one (zs_augS (zn 2) (zn 3) get_list (ze_ix ix_P (zn 2) (ze_op op_subP (zn 3) (zn 1)) (fun _ _ => rfl)) ip_addP set_listP)))
      (zss_one (zs_ret (zn 2))))), ?_⟩
  refine ⟨_, .inl (SqL.of ha), fun p hp => ?_⟩
  have y0 := Same.new hp (.lst ((tb g L).map V.int))
  refine ⟨_, .inl (SqL.of (y0 _ _ ha)), ?_⟩
  rw [List.length_map, tb_len]
  refine ⟨(z : Int), (L : Int), rfl, ⟨by omega, by omega, by omega, by omega⟩, ?_⟩
  refine for_range (fun i σ H' => Same H H' ∧ H' p = some (.lst ((tb (up g (put g z) (z + i)) L).map V.int)) ∧ ∃ pp, σ = [some (.ref a), some (.int z), some (.ref p), pp]) ⟨y0, by rw [Nat.add_zero, up_start g hz]; exact upd_same, none, rfl⟩ ?_ ?_
  · rintro i σ H' hi ⟨y, hp', pp, rfl⟩
    have hn : z + i < L := by omega
    have hget : ∀ j, j < L → ((tb (up g (put g z) (z + i)) L).map V.int)[j]? = some (.int (up g (put g z) (z + i) j)) := fun j hj => by rw [List.getElem?_map, tb_get hj]; rfl
    have e1 : ((z : Int) + (i : Int)).toNat = z + i := by omega
    refine ⟨_, _, SqL.of hp', by omega, by rw [e1]; exact hget _ hn, ?_⟩
    refine ⟨_, .inl (SqL.of hp'), .int (up g (put g z) (z + i) i), atI_of (j := i) (by omega) (hget i (by omega)), ?_⟩
    refine ⟨_, hp', by omega, by rw [e1, List.length_map, tb_len]; exact hn, Same.updN y hp, ?_, _, rfl⟩
    rw [upd_same, e1]
    have e2 : up g (put g z) (z + i) (z + i) + up g (put g z) (z + i) i = put g z (z + i) := by
      unfold up
      rw [if_neg (Nat.lt_irrefl _), if_pos (by omega), put_eq g hz (z + i), if_pos (by omega), Nat.add_sub_cancel_left]
    dsimp only
    rw [e2, ← List.map_set, tb_set hn]
    rfl
  · rintro σ H' ⟨y, hp', pp, rfl⟩
    refine q p H' hp y ?_
    rw [hp', up_all _ _ (by omega)]
end
theorem tb_put {f : Nat → Int} {L n : Nat} (v : Int) (h : n < L) : (tb f L).set n v = tb (fun j => if j = n then v else f j) L := by
  refine List.ext_getElem (by rw [List.length_set, tb_len, tb_len]) fun j h1 h2 => ?_
  rw [List.getElem_set]
  by_cases e : n = j
  · rw [if_pos e, tb_at h2, if_pos e.symm]
  · rw [if_neg e, tb_at, tb_at, if_neg (Ne.symm e)]
section
variable {P : Program} {w : World} {K : PySem.W.Frag} {mg : Str → Option Value} {base : Heap} {f : Addr} {fd : FuncData}
theorem sc_to : FnScope ["row", "size", "told", "n"] ["row", "size"] (defScope (top 32)) := ⟨rfl, rfl, rfl, by decide +kernel, rfl, by decide +kernel, by decide +kernel⟩
noncomputable def sp_to : Sp := fun vs H Q _ => ∃ (a : Addr) (s L : Nat) (g : Nat → Int), vs = [.ref a, .int s] ∧ 0 < s ∧ s ≤ 1000000 ∧ L ≤ 1000 ∧ (H a = some (.lst ((tb g L).map V.int)) ∨ H a = some (.tup ((tb g L).map V.int))) ∧ ∀ p H', H p = none → Same H H' → H' p = some (.lst ((tb (off g s) L).map V.int)) → Q (.ref p) H'
theorem ok_to (F : Fun K "taken_off" "taken_off" (top 32) f fd) (m_len : mg "len" = none) (m_list : mg "list" = none) (m_range : mg "range" = none) : FnOk P w K mg base CX0 1 f fd ["row", "size"] sp_to := by
  refine F.okz sc_to (fun vs H Q E h => ?_) (fun cdv A outer s H vs Q E hr h => ?_)
  · obtain ⟨a, z, L, g, rfl, _⟩ := h; rfl
  obtain ⟨a, z, L, g, rfl, hz, hz2, hL, ha, q⟩ := h
  have nd := sc_to.nd
  refine ⟨_, (zss_cons (zs_set (i := 2) nd rfl (Or.inl rfl) (zcb_list rfl m_list (za_cons (zn 0) za_nil) rfl rfl))
      (zss_cons (zs_for PassesOwn.never rfl (zi_range3 rfl m_range (za_cons (ze_op op_subP (zcb_len rfl m_len (za_cons (zn 0) za_nil) rfl rfl) ze_int) (za_cons (ze_op op_subP (zn 1) ze_int) (za_cons (ze_un un_neg ze_int) za_nil)))) (zg_name (i := 3) nd rfl (Or.inl rfl)) (zss_one (zs_augS (zn 2) (zn 3) get_list (ze_ix ix_P (zn 2) (ze_op op_subP (zn 3) (zn 1)) (fun _ _ => rfl)) ip_subP set_listP)))
      (zss_one (zs_ret (zn 2))))), ?_⟩
  refine ⟨_, ha.elim (fun h => .inl (SqL.of h)) .inr, fun p hp => ?_⟩
  have y0 := Same.new hp (.lst ((tb g L).map V.int))
  refine ⟨_, ha.elim (fun h => .inl (SqL.of (y0 _ _ h))) (fun h => .inr (y0 _ _ h)), ?_⟩
  rw [List.length_map, tb_len]
  refine ⟨1, rfl, ?_⟩
  refine ⟨(L : Int) - 1, (z : Int) - 1, -1, rfl, ⟨by decide, ⟨by decide, by decide⟩, small_down (by omega) (by omega) (by omega) (by omega)⟩, ?_⟩
  rw [size_down]
  have eN : ((L : Int) - 1 - ((z : Int) - 1)).toNat = L - z := by omega
  rw [eN]
  refine for_rangeS (fun i σ H' => i ≤ L - z ∧ Same H H' ∧ H' p = some (.lst ((tb (fun n => if L ≤ n + i then off g z n else g n) L).map V.int)) ∧ ∃ pp, σ = [some (.ref a), some (.int z), some (.ref p), pp]) ⟨Nat.zero_le _, y0, ?_, none, rfl⟩ ?_ ?_
  · rw [upd_same]
    congr 3
    exact tb_ext fun j hj => by rw [if_neg (by omega)]
  · rintro i σ H' hi ⟨_, y, hp', pp, rfl⟩
    obtain ⟨n, en⟩ : ∃ n, L = n + 1 + i := ⟨L - 1 - i, by omega⟩
    have e0 : (L : Int) - 1 + (i : Int) * -1 = (n : Int) := by omega
    rw [e0]
    have hnz : z ≤ n := by omega
    have hget : ∀ j, j < L → ((tb (fun n => if L ≤ n + i then off g z n else g n) L).map V.int)[j]? = some (.int (if L ≤ j + i then off g z j else g j)) := fun j hj => by rw [List.getElem?_map, tb_get hj]; rfl
    have e1 : ((n : Int)).toNat = n := Int.toNat_natCast n
    refine ⟨_, _, SqL.of hp', by omega, by rw [e1]; exact hget n (by omega), ?_⟩
    refine ⟨_, .inl (SqL.of hp'), .int (if L ≤ (n - z) + i then off g z (n - z) else g (n - z)), atI_of (j := n - z) (by omega) (hget (n - z) (by omega)), ?_⟩
    refine ⟨_, hp', by omega, by rw [e1, List.length_map, tb_len]; omega, by omega, Same.updN y hp, ?_, _, rfl⟩
    rw [upd_same, e1]
    dsimp only
    rw [if_neg (by omega), if_neg (by omega), ← List.map_set, tb_put _ (by omega)]
    congr 3
    refine tb_ext fun j hj => ?_
    by_cases ej : j = n
    · rw [if_pos ej, if_pos (by omega), ej]
      unfold off
      rw [if_pos hnz]
    · rw [if_neg ej]
      by_cases h : L ≤ j + i
      · rw [if_pos h, if_pos (by omega)]
      · rw [if_neg h, if_neg (by omega)]
  · rintro σ H' ⟨_, y, hp', pp, rfl⟩
    refine q p H' hp y ?_
    rw [hp']
    congr 3
    refine tb_ext fun j hj => ?_
    by_cases h : L ≤ j + (L - z)
    · rw [if_pos h]
    · rw [if_neg h]
      unfold off
      rw [if_neg (by omega), Int.sub_zero]
noncomputable def nI (ss : List Nat) : List V := (ss.map fun (k : Nat) => (k : Int)).map V.int
theorem nI_len (ss : List Nat) : (nI ss).length = ss.length := by unfold nI; rw [List.length_map, List.length_map]
theorem nI_at {ss : List Nat} {i : Nat} {x : V} (h : (nI ss)[i]? = some x) : ∃ s, ss[i]? = some s ∧ x = .int (s : Int) := by
  unfold nI at h
  rw [List.getElem?_map, List.getElem?_map] at h
  cases e : ss[i]? with
  | none => rw [e] at h; cases h
  | some s => rw [e] at h; exact ⟨s, rfl, (Option.some.inj h).symm⟩
theorem sc_of_sizes : FnScope ["some", "most", "row", "size"] ["some", "most"] (defScope (top 34)) := ⟨rfl, rfl, rfl, by decide +kernel, rfl, by decide +kernel, by decide +kernel⟩
noncomputable def sp_of_sizes : Sp := fun vs H Q _ => ∃ (l : Addr) (ss : List Nat) (n : Nat), vs = [.ref l, .int n] ∧ (∀ x ∈ ss, 0 < x ∧ x ≤ 1000000) ∧ n ≤ 600 ∧ H l = some (.lst (nI ss)) ∧ ∀ p H', Same H H' → H' p = some (.lst ((tb (PL dl ss) (n + 1)).map V.int)) → Q (.ref p) H'
theorem ok_of_sizes (F : Fun K "of_sizes" "of_sizes" (top 34) f fd)  (F_begun : FnA P w K mg base "begun" 1 ["most"] sp_begun) (F_put_on : FnA P w K mg base "put_on" 1 ["row", "size"] sp_put_on) : FnOk P w K mg base CX0 2 f fd ["some", "most"] sp_of_sizes := by
  refine F.okz sc_of_sizes (fun vs H Q E h => ?_) (fun cdv A outer s H vs Q E hr h => ?_)
  · obtain ⟨l, ss, n, rfl, _⟩ := h; rfl
  obtain ⟨l, ss, n, rfl, hk, hn, hl, q⟩ := h
  have nd := sc_of_sizes.nd
  refine ⟨_, (zss_cons (zs_set (i := 2) nd rfl (Or.inl rfl) (ze_fn F_begun hr (by decide) rfl (za_cons (zn 1) za_nil)))
      (zss_cons (zs_for PassesOwn.never rfl (zi_list (zn 0)) (zg_name (i := 3) nd rfl (Or.inl rfl)) (zss_one (zs_set (i := 2) nd rfl (Or.inl rfl) (ze_fn F_put_on hr (by decide) rfl (za_cons (zn 2) (za_cons (zn 3) za_nil))))))
      (zss_one (zs_ret (zn 2))))), ?_⟩
  refine ⟨n, rfl, by omega, fun p H1 hp y1 hp1 => ?_⟩
  refine ⟨l, rfl, ⟨_, SqL.of (y1 _ _ hl)⟩, for_list (xs := nI ss) (fun i σ H' => Same H H' ∧ ∃ r p3, σ = [some (.ref l), some (.int n), some (.ref r), p3] ∧ H' r = some (.lst ((tb (PL dl (ss.take i)) (n + 1)).map V.int))) ⟨y1, p, _, rfl, hp1⟩ ?_ ?_ ?_⟩
  · rintro i σ H' _ ⟨y, _⟩
    exact SqL.of (y _ _ hl)
  · rintro i x σ H' hx ⟨y, r, p3, rfl, hr'⟩
    obtain ⟨z, hz, rfl⟩ := nI_at hx
    have hz2 := hk z (List.mem_of_getElem? hz)
    refine ⟨r, z, n + 1, PL dl (ss.take i), rfl, hz2.1, hz2.2, by omega, hr', fun p2 H2 hp2 y2 hp2' => ?_⟩
    refine ⟨y.trans y2, p2, _, rfl, ?_⟩
    rw [List.take_succ, hz, PL_app]
    exact hp2'
  · rintro σ H' ⟨y, r, p3, rfl, hr'⟩
    rw [nI_len, List.take_of_length_le (Nat.le_refl _)] at hr'
    exact q r H' y hr'
theorem sc_osb : FnScope ["some", "m", "most", "row", "size"] ["some", "m", "most"] (defScope (top 35)) := ⟨rfl, rfl, rfl, by decide +kernel, rfl, by decide +kernel, by decide +kernel⟩
noncomputable def sp_osb : Sp := fun vs H Q _ => ∃ (l : Addr) (ss : List Nat) (m n : Nat), vs = [.ref l, .int m, .int n] ∧ 0 < m ∧ m ≤ 1000 ∧ (∀ x ∈ ss, 0 < x ∧ x ≤ 1000) ∧ n ≤ 600 ∧ H l = some (.lst (nI ss)) ∧ ∀ p H', Same H H' → H' p = some (.lst ((tb (below m ss dl) (n + 1)).map V.int)) → Q (.ref p) H'
theorem below_app (m : Nat) (g : Nat → Int) (a b : List Nat) : below m (a ++ b) g = below m b (below m a g) := by unfold below; rw [List.foldl_append]
theorem ok_osb (F : Fun K "of_sizes_below" "of_sizes_below" (top 35) f fd)  (F_begun : FnA P w K mg base "begun" 1 ["most"] sp_begun) (F_put_on : FnA P w K mg base "put_on" 1 ["row", "size"] sp_put_on) (F_taken_off : FnA P w K mg base "taken_off" 1 ["row", "size"] sp_to) : FnOk P w K mg base CX0 2 f fd ["some", "m", "most"] sp_osb := by
  refine F.okz sc_osb (fun vs H Q E h => ?_) (fun cdv A outer s H vs Q E hr h => ?_)
  · obtain ⟨l, ss, m, n, rfl, _⟩ := h; rfl
  obtain ⟨l, ss, m, n, rfl, hm, hm2, hk, hn, hl, q⟩ := h
  have nd := sc_osb.nd
  refine ⟨_, (zss_cons (zs_set (i := 3) nd rfl (Or.inl rfl) (ze_fn F_begun hr (by decide) rfl (za_cons (zn 2) za_nil)))
      (zss_cons (zs_for PassesOwn.never rfl (zi_list (zn 0)) (zg_name (i := 4) nd rfl (Or.inl rfl)) (zss_one (zs_set (i := 3) nd rfl (Or.inl rfl) (ze_fn F_taken_off hr (by decide) rfl (za_cons (ze_fn F_put_on hr (by decide) rfl (za_cons (zn 3) (za_cons (zn 4) za_nil))) (za_cons (ze_op op_mulQ (zn 1) (zn 4)) za_nil))))))
      (zss_one (zs_ret (zn 3))))), ?_⟩
  refine ⟨n, rfl, by omega, fun p H1 hp y1 hp1 => ?_⟩
  refine ⟨l, rfl, ⟨_, SqL.of (y1 _ _ hl)⟩, for_list (xs := nI ss) (fun i σ H' => Same H H' ∧ ∃ r p4, σ = [some (.ref l), some (.int m), some (.int n), some (.ref r), p4] ∧ H' r = some (.lst ((tb (below m (ss.take i) dl) (n + 1)).map V.int))) ⟨y1, p, _, rfl, hp1⟩ ?_ ?_ ?_⟩
  · rintro i σ H' _ ⟨y, _⟩
    exact SqL.of (y _ _ hl)
  · rintro i x σ H' hx ⟨y, r, p4, rfl, hr'⟩
    obtain ⟨z, hz, rfl⟩ := nI_at hx
    have hz2 := hk z (List.mem_of_getElem? hz)
    refine ⟨r, z, n + 1, _, rfl, hz2.1, by omega, by omega, hr', fun p2 H2 hp2 y2 hp2' => ?_⟩
    refine ⟨mulL (by omega) (by omega), ?_⟩
    have e3 : (m : Int) * (z : Int) = ((m * z : Nat) : Int) := by rw [Int.natCast_mul]
    have h1 : m * z ≤ 1000 * 1000 := Nat.mul_le_mul hm2 hz2.2
    refine ⟨p2, m * z, n + 1, _, by rw [← e3], Nat.mul_pos hm hz2.1, by omega, by omega, .inl hp2', fun p3 H3 hp3 y3 hp3' => ?_⟩
    refine ⟨y.trans (y2.trans y3), p3, _, rfl, ?_⟩
    rw [List.take_succ, hz, below_app]
    exact hp3'
  · rintro σ H' ⟨y, r, p4, rfl, hr'⟩
    rw [nI_len, List.take_of_length_le (Nat.le_refl _)] at hr'
    exact q r H' y hr'
end
end K72
set_option Elab.async false
set_option linter.all false
set_option maxRecDepth 100000
set_option maxHeartbeats 4000000
namespace M17
open MRow M80
noncomputable def bx (l k : Nat) : Nat → Int := (ups k).foldl (fun g i => off (put g i) (l + i)) dl
theorem bx_succ (l k : Nat) : bx l (k + 1) = off (put (bx l k) (k + 1)) (l + (k + 1)) := by unfold bx; rw [ups_succ, List.foldl_append]; rfl
theorem fold_is (f : Nat → Nat) : ∀ (ss : List Nat) (g : Nat → Int), (∀ x ∈ ss, 0 < x) → ss.foldl (fun g s => off (put g s) (f s)) g = OL (PL g ss) (ss.map f)
  | [], _, _ => rfl
  | s :: ss, g, h => by
    have h1 := fun x hx => h x (List.mem_cons_of_mem s hx)
    rw [List.foldl_cons, fold_is f ss _ h1, PL_cons, List.map_cons, OL_cons, PL_off ss _ _ h1]
theorem bx_is (l k : Nat) : bx l k = OL (PL dl (ups k)) ((ups k).map (l + ·)) := fold_is (l + ·) (ups k) dl fun x hx => (ups_pos hx).1
theorem ups_add (l : Nat) : ∀ k, ups (l + k) = ups l ++ (ups k).map (l + ·)
  | 0 => by simp [ups]
  | k + 1 => by rw [← Nat.add_assoc, ups_succ, ups_add l k, ups_succ, List.map_append, List.append_assoc]; rfl
theorem bx_both (l k : Nat) : bx l k = OL (PL (PL dl (ups k)) (ups l)) (ups (l + k)) := by
  rw [ups_add, OL_app, cancel (ups l) _ fun x hx => (ups_pos hx).1, bx_is]
theorem bx_turn (l k : Nat) : bx l k = bx k l := by
  rw [bx_both, bx_both, ← PL_app, ← PL_app, PL_perm List.perm_append_comm dl fun x hx => ?_, Nat.add_comm]
  rcases List.mem_append.mp hx with h | h <;> exact (ups_pos h).1
theorem bx_big {l k j : Nat} (h : j ≤ l) : bx l k j = PL dl (ups k) j := by
  rw [bx_is]
  exact OL_great _ (Al.refl l _) (fun x hx => by obtain ⟨y, hy, rfl⟩ := List.mem_map.mp hx; have := ups_pos hy; show l < l + y; omega) j h
theorem R_succ (k : Nat) : PL dl (ups (k + 1)) = put (PL dl (ups k)) (k + 1) := by rw [ups_succ, PL_app]; rfl
theorem R_low {k j : Nat} (h : j ≤ k) : PL dl (ups (k + 1)) j = PL dl (ups k) j := by rw [R_succ, put_low _ (by omega) (by omega)]
theorem R_far {n j : Nat} (h : j ≤ n) : ∀ e, PL dl (ups (n + e)) j = PL dl (ups n) j
  | 0 => rfl
  | e + 1 => by rw [← Nat.add_assoc, R_low (by omega), R_far h e]
theorem R_min {k n j : Nat} (h : j ≤ n) : PL dl (ups (min k n)) j = PL dl (ups k) j := by
  by_cases c : k ≤ n
  · rw [Nat.min_eq_left c]
  · rw [Nat.min_eq_right (by omega), ← R_far h (k - n), show n + (k - n) = k by omega]
noncomputable def Ls (d : Nat) : Nat → Nat
  | 0 => 0
  | m + 1 => Ls d m + 1 + d * m
theorem Ls_ge (d : Nat) : ∀ m, m ≤ Ls d m
  | 0 => Nat.le_refl _
  | m + 1 => by have := Ls_ge d m; show m + 1 ≤ Ls d m + 1 + d * m; omega
theorem Ls_up (d : Nat) (m : Nat) : ∀ e, Ls d m ≤ Ls d (m + e)
  | 0 => Nat.le_refl _
  | e + 1 => Nat.le_trans (Ls_up d m e) (by show Ls d (m + e) ≤ Ls d (m + e) + 1 + d * (m + e); omega)
noncomputable def fq (d : Nat) : Nat → Nat → Int
  | 0, _ => 0
  | m + 1, j => fq d m j + if Ls d m ≤ j then PL dl (ups m) (j - Ls d m) else 0
theorem fq_far {d m n j : Nat} (hm : n < Ls d m) (h : j ≤ n) : ∀ e, fq d (m + e) j = fq d m j
  | 0 => rfl
  | e + 1 => by
    show (fq d (m + e) j + if Ls d (m + e) ≤ j then PL dl (ups (m + e)) (j - Ls d (m + e)) else 0) = _
    have := Ls_up d m e
    rw [if_neg (show ¬ Ls d (m + e) ≤ j by omega), fq_far hm h e, Int.add_zero]
noncomputable def fow (d : Nat) : Nat → Int := fq d 602
theorem fow_is {d m n j : Nat} (hm : n < Ls d m) (hm2 : m ≤ 602) (h : j ≤ n) : fq d m j = fow d j := by
  have := fq_far hm h (602 - m)
  rw [show m + (602 - m) = 602 by omega] at this
  exact this.symm
noncomputable def rsz (m : Nat) (rs : List Int) (n : Nat) : List Nat := (ups n).filter fun s => decide ((s : Int) % (m : Int) ∈ rs)
theorem times_is {m n : Nat} (hm : 0 < m) {rs : List Int} (hrs : ∀ x : Nat, (((x : Int) % (m : Int)) ∈ rs ↔ ¬ x % m = 0)) {j : Nat} (h : j ≤ n) : below m (ups n) dl j = PL dl (rsz m rs n) j := by
  have h1 : m * (n / m) ≤ n := Nat.mul_div_le n m
  have h2 : n < m * (n / m + 1) := by have := Nat.lt_mul_div_succ n hm; omega
  have s1 := sieve1 hm (Nat.div_le_self n m) h2 j h
  rw [s1, show R n = R n from rfl, sieve0 hm h1 h2]
  have e : ((ups n).filter fun x => !decide (x % m = 0)) = rsz m rs n := by
    unfold rsz
    refine List.filter_congr fun x _ => ?_
    by_cases c : x % m = 0
    · rw [decide_eq_true c, decide_eq_false (fun z => ((hrs x).mp z) c)]; rfl
    · rw [decide_eq_false c, decide_eq_true ((hrs x).mpr c)]; rfl
  rw [e]
end M17
set_option Elab.async false
set_option linter.all false
set_option maxRecDepth 100000
set_option maxHeartbeats 4000000
namespace M12
open MRow M80 M17
noncomputable def sh (e : Nat) (g : Nat → Int) (i : Nat) : Int := if e ≤ i then g (i - e) else 0
theorem sh_sh (a b : Nat) (g : Nat → Int) (i : Nat) : sh a (sh b g) i = sh (a + b) g i := by
  unfold sh
  by_cases h1 : a ≤ i
  · rw [if_pos h1]
    by_cases h2 : a + b ≤ i
    · rw [if_pos (by omega), if_pos h2, Nat.sub_sub]
    · rw [if_neg (by omega), if_neg h2]
  · rw [if_neg h1, if_neg (by omega)]
noncomputable def ex (d m j : Nat) : Nat := m * j + d * (m * (m - 1) / 2)
theorem tri (m : Nat) : (m + 1) * (m + 1 - 1) / 2 = m * (m - 1) / 2 + m := by
  cases m with
  | zero => rfl
  | succ k =>
    rw [Nat.add_sub_cancel, Nat.add_sub_cancel]
    have : (k + 1 + 1) * (k + 1) = (k + 1) * k + (k + 1) * 2 := by grind
    rw [this, Nat.add_mul_div_right _ _ (by decide)]
theorem ex_up (d m j : Nat) : ex d m (j + 1) = ex d m j + m := by unfold ex; rw [Nat.mul_add]; omega
theorem ex_in (d m j : Nat) : ex d (m + 1) j = j + ex d m (j + d) := by
  unfold ex
  rw [tri, Nat.mul_add d, Nat.mul_add m, Nat.add_mul, Nat.mul_comm m d]
  omega
theorem ls_ex (d : Nat) : ∀ m, Ls d m = ex d m 1
  | 0 => by unfold ex; simp [Ls]
  | m + 1 => by
    show Ls d m + 1 + d * m = _
    rw [ls_ex d m]
    unfold ex
    rw [tri, Nat.mul_add d]
    omega
end M12
set_option Elab.async false
set_option linter.all false
set_option maxRecDepth 100000
set_option maxHeartbeats 4000000
namespace M17
open MRow M80
noncomputable def blk (s : Nat) : Nat → List Int → List Int → List Int
  | 0, _, _ => []
  | f + 1, prev, l => match l with
    | [] => []
    | _ => List.zipWith (· + ·) (l.take s) prev ++ blk s f (List.zipWith (· + ·) (l.take s) prev) (l.drop s)
noncomputable def putL (L s : Nat) (l : List Int) : List Int := blk s (L / s + 1) (List.replicate s 0) l
noncomputable def tbf (g : Nat → Int) (p L : Nat) : List Int := (List.range L).map fun j => g (p + j)
theorem tbf_len (g : Nat → Int) (p L : Nat) : (tbf g p L).length = L := by unfold tbf; simp
theorem tbf_at {g : Nat → Int} {p L i : Nat} (h : i < (tbf g p L).length) : (tbf g p L)[i] = g (p + i) := by simp [tbf]
theorem tbf_take (g : Nat → Int) (p L s : Nat) : (tbf g p L).take s = tbf g p (min s L) := by
  unfold tbf; rw [← List.map_take, List.take_range]
theorem tbf_drop (g : Nat → Int) (p L s : Nat) : (tbf g p L).drop s = tbf g (p + s) (L - s) := by
  refine List.ext_getElem (by simp [tbf]) fun i h1 h2 => ?_
  rw [List.getElem_drop, tbf_at, tbf_at, Nat.add_assoc]
theorem tbf_app (g : Nat → Int) (p a b : Nat) : tbf g p a ++ tbf g (p + a) b = tbf g p (a + b) := by
  refine List.ext_getElem (by simp [tbf]) fun i h1 h2 => ?_
  rw [List.getElem_append]
  split
  · rw [tbf_at, tbf_at]
  · rename_i c
    have c' : ¬ i < a := by rw [tbf_len] at c; exact c
    rw [tbf_at, tbf_at]
    congr 1
    rw [tbf_len]
    omega
theorem zip_is {g : Nat → Int} {s p k : Nat} {prev : List Int} (hs : 0 < s) (hk : k ≤ s) (hl : prev.length = s) (hp : ∀ j, j < k → prev.getD j 0 = if s ≤ p + j then put g s (p + j - s) else 0) :
    List.zipWith (· + ·) (tbf g p k) prev = tbf (put g s) p k := by
  refine List.ext_getElem (by rw [List.length_zipWith, tbf_len, tbf_len]; omega) fun i h1 h2 => ?_
  have hi : i < k := by rw [tbf_len] at h2; exact h2
  rw [List.getElem_zipWith]
  have e := hp i hi
  rw [List.getD_eq_getElem?_getD, List.getElem?_eq_getElem (by omega)] at e
  have e : prev[i] = if s ≤ p + i then put g s (p + i - s) else 0 := e
  rw [e, tbf_at, tbf_at, put_eq g hs (p + i)]
theorem blk_ok {g : Nat → Int} {s : Nat} (hs : 0 < s) : ∀ (f p L : Nat) (prev : List Int), L < f * s → prev.length = s → (∀ j, j < min s L → prev.getD j 0 = if s ≤ p + j then put g s (p + j - s) else 0) → blk s f prev (tbf g p L) = tbf (put g s) p L
  | 0, p, L, prev, h, _, _ => by omega
  | f + 1, p, 0, prev, _, _, _ => rfl
  | f + 1, p, L + 1, prev, h, hl, hp => by
    have e0 : ∃ x r, tbf g p (L + 1) = x :: r := by
      cases e : tbf g p (L + 1) with
      | nil => have := tbf_len g p (L + 1); rw [e] at this; cases this
      | cons x r => exact ⟨x, r, rfl⟩
    obtain ⟨x, r, e0⟩ := e0
    have e1 : blk s (f + 1) prev (tbf g p (L + 1)) = List.zipWith (· + ·) ((tbf g p (L + 1)).take s) prev ++ blk s f (List.zipWith (· + ·) ((tbf g p (L + 1)).take s) prev) ((tbf g p (L + 1)).drop s) := by rw [e0]; rfl
    rw [e1, tbf_take, tbf_drop, zip_is hs (Nat.min_le_left _ _) hl hp]
    by_cases c : L + 1 ≤ s
    · have z : L + 1 - s = 0 := by omega
      rw [z, Nat.min_eq_right c]
      have : blk s f (tbf (put g s) p (L + 1)) (tbf g (p + s) 0) = [] := by cases f <;> rfl
      rw [this, List.append_nil]
    · rw [Nat.min_eq_left (by omega), blk_ok hs f (p + s) (L + 1 - s) (tbf (put g s) p s) (by rw [Nat.succ_mul] at h; omega) (tbf_len _ _ _) fun j hj => ?_, tbf_app, show s + (L + 1 - s) = L + 1 by omega]
      have hj' : j < s := by omega
      unfold tbf
      rw [List.getD_eq_getElem?_getD, List.getElem?_map, List.getElem?_range hj', if_pos (by omega), show p + s + j - s = p + j by omega]
      rfl
theorem tb_tbf (g : Nat → Int) (L : Nat) : tb g L = tbf g 0 L := by unfold tb tbf; exact List.map_congr_left fun j _ => by rw [Nat.zero_add]
theorem putL_ok (g : Nat → Int) {s : Nat} (hs : 0 < s) (L : Nat) : putL L s (tb g L) = tb (put g s) L := by
  unfold putL
  rw [tb_tbf, tb_tbf]
  refine blk_ok hs _ 0 L _ ?_ (List.length_replicate ..) fun j hj => ?_
  · have := Nat.lt_mul_div_succ L hs
    rw [Nat.mul_comm]
    exact this
  · rw [if_neg (by omega), List.getD_eq_getElem?_getD, List.getElem?_replicate, if_pos (by omega)]
    rfl
noncomputable def PLL (L : Nat) (l : List Int) (ss : List Nat) : List Int := ss.foldl (fun l s => putL L s l) l
theorem PLL_ok (L : Nat) : ∀ (ss : List Nat) (g : Nat → Int), (∀ x ∈ ss, 0 < x) → PLL L (tb g L) ss = tb (PL g ss) L
  | [], _, _ => rfl
  | s :: ss, g, h => by
    show PLL L (putL L s (tb g L)) ss = _
    rw [putL_ok g (h s List.mem_cons_self), PLL_ok L ss _ fun x hx => h x (List.mem_cons_of_mem s hx)]
    rfl
end M17
set_option Elab.async false
set_option linter.all false
set_option maxRecDepth 100000
set_option maxHeartbeats 4000000
namespace M21
open MRow
end M21
set_option Elab.async false
set_option linter.all false
set_option maxRecDepth 100000
set_option maxHeartbeats 4000000
namespace M12
open MRow M80 M17
noncomputable def odds (n : Nat) : List Nat := (List.range ((n + 1) / 2)).map fun k => 2 * k + 1
theorem odds_pos {n x : Nat} (h : x ∈ odds n) : 0 < x ∧ x ≤ n := by
  unfold odds at h
  obtain ⟨k, hk, rfl⟩ := List.mem_map.mp h
  have := List.mem_range.mp hk
  omega
theorem one_two (g : Nat → Int) {s : Nat} (hs : 0 < s) (j : Nat) : off (put g s) (2 * s) j = g j + if s ≤ j then g (j - s) else 0 := by
  unfold off
  rw [put_eq g hs j]
  by_cases h : s ≤ j
  · rw [if_pos h, if_pos h, put_eq g hs (j - s)]
    by_cases h2 : 2 * s ≤ j
    · rw [if_pos h2, if_pos (show s ≤ j - s by omega), show j - s - s = j - 2 * s by omega]; omega
    · rw [if_neg h2, if_neg (show ¬ s ≤ j - s by omega)]; omega
  · rw [if_neg h, if_neg h, if_neg (show ¬ 2 * s ≤ j by omega)]; omega
theorem below_app (m : Nat) (a b : List Nat) (g : Nat → Int) : below m (a ++ b) g = below m b (below m a g) := by unfold below; rw [List.foldl_append]
noncomputable def fl (p : Nat → Bool) (n : Nat) : List Nat := (ups n).filter p
theorem fl_succ (p : Nat → Bool) (n : Nat) : fl p (n + 1) = fl p n ++ if p (n + 1) = true then [n + 1] else [] := by
  unfold fl
  rw [ups_succ, List.filter_append]
  congr 1
  by_cases h : p (n + 1) = true
  · rw [if_pos h, List.filter_cons_of_pos h]; rfl
  · rw [if_neg h, List.filter_cons_of_neg h]; rfl
theorem fl_most (k : Nat) : ∀ n, fl (fun s => decide (s ≤ k)) n = ups (min k n)
  | 0 => by rw [Nat.min_zero]; rfl
  | n + 1 => by
    rw [fl_succ, fl_most k n]
    by_cases h : n + 1 ≤ k
    · rw [if_pos (decide_eq_true h), Nat.min_eq_right h, Nat.min_eq_right (by omega), ups_succ]
    · rw [if_neg (by simpa using h), List.append_nil, Nat.min_eq_left (by omega), Nat.min_eq_left (by omega)]
theorem fl_all (n : Nat) : fl (fun _ => true) n = ups n := by
  unfold fl
  exact List.filter_eq_self.mpr fun _ _ => rfl
theorem fl_times {m n : Nat} (hm : 0 < m) {j : Nat} (h : j ≤ n) : below m (ups n) dl j = PL dl (fl (fun s => decide (0 < (s : Int) % (m : Int))) n) j := by
  have hrs : ∀ x : Nat, (((x : Int) % (m : Int)) ∈ (List.range (m - 1)).map (fun k : Nat => ((k : Int) + 1)) ↔ ¬ x % m = 0) := fun x => by
    have e : (x : Int) % (m : Int) = ((x % m : Nat) : Int) := (Int.natCast_emod x m).symm
    have hl := Nat.mod_lt x hm
    rw [e]
    constructor
    · intro h h0
      obtain ⟨k, _, hk⟩ := List.mem_map.mp h
      omega
    · intro h0
      exact List.mem_map.mpr ⟨x % m - 1, List.mem_range.mpr (by omega), by omega⟩
  rw [times_is hm hrs h]
  congr 2
  unfold rsz fl
  refine List.filter_congr fun x _ => ?_
  have e : (x : Int) % (m : Int) = ((x % m : Nat) : Int) := (Int.natCast_emod x m).symm
  have := hrs x
  by_cases h0 : x % m = 0
  · have a : ¬ ((x : Int) % (m : Int)) ∈ (List.range (m - 1)).map (fun k : Nat => ((k : Int) + 1)) := fun z => this.mp z h0
    have b : ¬ 0 < (x : Int) % (m : Int) := by rw [e]; omega
    rw [decide_eq_false a, decide_eq_false b]
  · have a := this.mpr h0
    have b : 0 < (x : Int) % (m : Int) := by rw [e]; omega
    rw [decide_eq_true a, decide_eq_true b]
end M12
set_option Elab.async false
set_option linter.all false
set_option maxRecDepth 100000
set_option maxHeartbeats 4000000
namespace M12
open MRow M80 M17
end M12
set_option Elab.async false
set_option linter.all false
set_option maxRecDepth 100000
set_option maxHeartbeats 4000000
namespace M17
open MRow M80
end M17
set_option Elab.async false
set_option linter.all false
set_option maxRecDepth 100000
set_option maxHeartbeats 4000000
namespace M24
open MRow M80 M17 M12
theorem off_sh (g : Nat → Int) (s n : Nat) : off g s n = g n - sh s g n := rfl
theorem sh_sub (e : Nat) (f g : Nat → Int) (n : Nat) : sh e (fun i => f i - g i) n = sh e f n - sh e g n := by
  unfold sh
  by_cases h : e ≤ n
  · rw [if_pos h, if_pos h, if_pos h]
  · rw [if_neg h, if_neg h, if_neg h]; omega
theorem off_of_sh (e m : Nat) (g : Nat → Int) : off (sh e g) m = sh e (off g m) := by
  funext n
  rw [off_sh, sh_sh]
  show _ = sh e (fun i => g i - sh m g i) n
  rw [sh_sub, sh_sh, Nat.add_comm]
theorem off_add (f g : Nat → Int) (m : Nat) : off (fun n => f n + g n) m = fun n => off f m n + off g m n := by
  funext n
  unfold off
  split <;> dsimp only <;> omega
theorem bx_a (l k : Nat) : off (bx l (k + 1)) (k + 1) = off (bx l k) (l + (k + 1)) := by rw [bx_succ, off_comm, off_put _ (by omega)]
theorem bx_b (l k : Nat) : off (bx (l + 1) k) (l + 1) = off (bx l k) (l + (k + 1)) := by
  rw [bx_turn (l + 1) k, bx_a k l, bx_turn k l, show k + (l + 1) = l + (k + 1) by omega]
theorem off_inj {f g : Nat → Int} {s : Nat} (hs : 0 < s) (h : off f s = off g s) : f = g := by rw [← put_off f hs, h, put_off g hs]
theorem pascal (k l : Nat) : bx (l + 1) (k + 1) = fun n => bx (l + 1) k n + sh (k + 1) (bx l (k + 1)) n := by
  refine off_inj (s := k + 1) (by omega) (off_inj (s := l + 1) (by omega) ?_)
  rw [bx_a, off_comm, bx_b, off_add, off_add, off_comm (bx (l + 1) k), bx_b, off_of_sh, bx_a, off_of_sh]
  generalize off (bx l k) (l + (k + 1)) = Y
  funext n
  rw [off_sh, off_sh]
  show _ = Y n - sh (k + 1) Y n + sh (k + 1) (fun i => Y i - sh (l + 1) Y i) n
  rw [sh_sub, sh_sh, show k + 1 + (l + 1) = l + 1 + (k + 1) by omega]
  omega
theorem bx_none (l : Nat) : bx l 0 = dl := rfl
theorem bx_none' (k : Nat) : bx 0 k = dl := by rw [bx_turn]; rfl
theorem fl_odd : ∀ n, fl (fun s => decide (s % 2 = 1)) n = odds n
  | 0 => rfl
  | n + 1 => by
    rw [fl_succ, fl_odd n]
    unfold odds
    by_cases h : (n + 1) % 2 = 1
    · rw [if_pos (decide_eq_true h), show (n + 1 + 1) / 2 = (n + 1) / 2 + 1 by omega, List.range_succ, List.map_append]
      congr 1
      show [n + 1] = [2 * ((n + 1) / 2) + 1]
      congr 1
      omega
    · rw [if_neg (by simpa using h), List.append_nil, show (n + 1 + 1) / 2 = (n + 1) / 2 by omega]
end M24
set_option Elab.async false
set_option linter.all false
set_option maxRecDepth 100000
set_option maxHeartbeats 4000000
namespace M11
open MRow M80 M17 M12 M24
noncomputable def lsN (prev : Nat → List (List Nat)) (s : Nat) : Nat → Nat → List (List Nat)
  | 0, n => prev n
  | f + 1, n => (if s ≤ n then (lsN prev s f (n - s)).map (s :: ·) else []) ++ prev n
noncomputable def Lst : Nat → Nat → List (List Nat)
  | 0 => fun n => if n = 0 then [[]] else []
  | m + 1 => fun n => lsN (Lst m) (m + 1) n n
theorem lsN_more {f : Nat → List (List Nat)} {s : Nat} (hs : 0 < s) : ∀ (k n : Nat), n ≤ k → lsN f s k n = lsN f s n n
  | 0, n, h => by have : n = 0 := by omega
                  subst this; rfl
  | k + 1, 0, _ => by
    show (if s ≤ 0 then _ else []) ++ f 0 = f 0
    rw [if_neg (by omega)]; rfl
  | k + 1, n + 1, h => by
    show (if s ≤ n + 1 then (lsN f s k (n + 1 - s)).map (s :: ·) else []) ++ f (n + 1) = (if s ≤ n + 1 then (lsN f s n (n + 1 - s)).map (s :: ·) else []) ++ f (n + 1)
    by_cases hn : s ≤ n + 1
    · rw [if_pos hn, if_pos hn, lsN_more hs k _ (by omega), lsN_more hs n _ (by omega)]
    · rw [if_neg hn, if_neg hn]
theorem ls_eq (m n : Nat) : Lst (m + 1) n = (if m + 1 ≤ n then (Lst (m + 1) (n - (m + 1))).map ((m + 1) :: ·) else []) ++ Lst m n := by
  show lsN (Lst m) (m + 1) n n = (if m + 1 ≤ n then (lsN (Lst m) (m + 1) (n - (m + 1)) (n - (m + 1))).map ((m + 1) :: ·) else []) ++ Lst m n
  rw [← lsN_more (by omega) (n + 1) n (by omega)]
  show (if m + 1 ≤ n then (lsN (Lst m) (m + 1) n (n - (m + 1))).map ((m + 1) :: ·) else []) ++ Lst m n = _
  by_cases hn : m + 1 ≤ n
  · rw [if_pos hn, if_pos hn, lsN_more (by omega) n _ (by omega)]
  · rw [if_neg hn, if_neg hn]
noncomputable def cn (m n : Nat) (p : List Nat → Bool) : Int := ((Lst m n).countP p : Nat)
theorem cn_zero (n : Nat) (p : List Nat → Bool) : cn 0 n p = if p [] = true then dl n else 0 := by
  unfold cn
  show ((List.countP p (if n = 0 then [[]] else []) : Nat) : Int) = _
  unfold dl
  by_cases h : n = 0
  · rw [if_pos h, if_pos h]
    cases hp : p [] with
    | true => rw [List.countP_cons_of_pos hp]; rfl
    | false => rw [List.countP_cons_of_neg (by rw [hp]; decide)]; rfl
  · rw [if_neg h, if_neg h]
    cases p [] <;> rfl
theorem cn_succ (m n : Nat) (p : List Nat → Bool) : cn (m + 1) n p = (if m + 1 ≤ n then cn (m + 1) (n - (m + 1)) (fun l => p ((m + 1) :: l)) else 0) + cn m n p := by
  unfold cn
  rw [ls_eq, List.countP_append, Int.natCast_add]
  congr 1
  by_cases h : m + 1 ≤ n
  · rw [if_pos h, if_pos h, List.countP_map]
    rfl
  · rw [if_neg h, if_neg h]
    rfl
theorem cn_congr {m n : Nat} {p q : List Nat → Bool} (h : ∀ l ∈ Lst m n, p l = q l) : cn m n p = cn m n q := by
  unfold cn
  rw [List.countP_congr fun l hl => by rw [h l hl]]
theorem cn_none {m n : Nat} {p : List Nat → Bool} (h : ∀ l ∈ Lst m n, p l = false) : cn m n p = 0 := by
  rw [cn_congr (q := fun _ => false) h]
  unfold cn
  rw [List.countP_false]
  rfl
theorem ls_mem : ∀ m n l, l ∈ Lst m n → (∀ x ∈ l, 1 ≤ x ∧ x ≤ m) ∧ l.sum = n := by
  intro m
  induction m with
  | zero =>
    intro n l h
    have h : l ∈ (if n = 0 then [[]] else []) := h
    by_cases e : n = 0
    · rw [if_pos e] at h
      rw [List.mem_singleton.mp h]
      exact ⟨fun x hx => (nomatch hx), e.symm⟩
    · rw [if_neg e] at h; cases h
  | succ m ih =>
    intro n
    induction n using Nat.strongRecOn with
    | _ n ihn =>
      intro l h
      rw [ls_eq] at h
      rcases List.mem_append.mp h with h | h
      · by_cases e : m + 1 ≤ n
        · rw [if_pos e] at h
          obtain ⟨y, hy, rfl⟩ := List.mem_map.mp h
          obtain ⟨a, b⟩ := ihn (n - (m + 1)) (by omega) y hy
          refine ⟨fun x hx => ?_, by rw [List.sum_cons, b]; omega⟩
          rcases List.mem_cons.mp hx with e | e
          · omega
          · exact a x e
        · rw [if_neg e] at h; cases h
      · obtain ⟨a, b⟩ := ih n l h
        exact ⟨fun x hx => by have := a x hx; omega, b⟩
theorem ls_len {m n : Nat} {l : List Nat} (h : l ∈ Lst m n) : l.length ≤ n := by
  obtain ⟨a, b⟩ := ls_mem m n l h
  rw [← b]
  clear b h
  induction l with
  | nil => exact Nat.le_refl _
  | cons x l ih =>
    rw [List.length_cons, List.sum_cons]
    have := a x List.mem_cons_self
    have := ih fun y hy => a y (List.mem_cons_of_mem _ hy)
    omega
theorem cn_all (p : Nat → Bool) : ∀ m n, cn m n (fun l => l.all p) = PL dl (fl p m) n := by
  intro m
  induction m with
  | zero => intro n; rw [cn_zero]; rfl
  | succ m ih =>
    intro n
    rw [fl_succ]
    cases hp : p (m + 1) with
    | false =>
      rw [if_neg (by decide), List.append_nil, ← ih n, cn_succ]
      rw [show (if m + 1 ≤ n then cn (m + 1) (n - (m + 1)) (fun l => ((m + 1) :: l).all p) else 0) = 0 from ?_]
      · omega
      · split
        · exact cn_none fun l _ => by rw [List.all_cons, hp]; rfl
        · rfl
    | true =>
      rw [if_pos rfl, PL_app]
      show _ = put (PL dl (fl p m)) (m + 1) n
      induction n using Nat.strongRecOn with
      | _ n ihn =>
        rw [cn_succ, put_eq _ (by omega), ih n]
        by_cases h : m + 1 ≤ n
        · rw [if_pos h, if_pos h, ← ihn (n - (m + 1)) (by omega)]
          have : cn (m + 1) (n - (m + 1)) (fun l => ((m + 1) :: l).all p) = cn (m + 1) (n - (m + 1)) (fun l => l.all p) := cn_congr fun l _ => by rw [List.all_cons, hp]; rfl
          rw [this]
          omega
        · rw [if_neg h, if_neg h]; omega
noncomputable def inb (k l : Nat) (x : List Nat) : Bool := decide (x.length ≤ l) && x.all fun a => decide (a ≤ k)
theorem cn_box (k : Nat) : ∀ m l n, cn m n (inb k l) = bx l (min m k) n := by
  intro m
  induction m with
  | zero => intro l n; rw [cn_zero, if_pos (by unfold inb; simp), Nat.zero_min, bx_none]
  | succ m ih =>
    intro l
    induction l with
    | zero =>
      intro n
      rw [cn_succ, ih 0 n, bx_none', bx_none']
      rw [show (if m + 1 ≤ n then cn (m + 1) (n - (m + 1)) (fun l => inb k 0 ((m + 1) :: l)) else 0) = 0 from ?_]
      · omega
      · split
        · exact cn_none fun l _ => by unfold inb; simp
        · rfl
    | succ l ihl =>
      intro n
      rw [cn_succ, ih (l + 1) n]
      by_cases hk : m + 1 ≤ k
      · rw [Nat.min_eq_left hk, Nat.min_eq_left (by omega), pascal]
        dsimp only
        have : (if m + 1 ≤ n then cn (m + 1) (n - (m + 1)) (fun x => inb k (l + 1) ((m + 1) :: x)) else 0) = sh (m + 1) (bx l (m + 1)) n := by
          unfold sh
          by_cases h : m + 1 ≤ n
          · rw [if_pos h, if_pos h]
            have e := ihl (n - (m + 1))
            rw [Nat.min_eq_left hk] at e
            rw [← e]
            refine cn_congr fun x _ => ?_
            unfold inb
            rw [List.all_cons, decide_eq_true hk, List.length_cons]
            simp
          · rw [if_neg h, if_neg h]
        rw [this]
        omega
      · rw [Nat.min_eq_right (by omega), Nat.min_eq_right (by omega)]
        rw [show (if m + 1 ≤ n then cn (m + 1) (n - (m + 1)) (fun x => inb k (l + 1) ((m + 1) :: x)) else 0) = 0 from ?_]
        · omega
        · split
          · refine cn_none fun x _ => ?_
            unfold inb
            rw [List.all_cons, decide_eq_false hk]
            simp
          · rfl
theorem cn_few {n l : Nat} : cn n n (fun x => decide (x.length ≤ l)) = PL dl (ups l) n := by
  have e : cn n n (fun x => decide (x.length ≤ l)) = cn n n (inb n l) := cn_congr fun x hx => by
    unfold inb
    rw [show (x.all fun a => decide (a ≤ n)) = true from List.all_eq_true.mpr fun a ha => decide_eq_true ((ls_mem n n x hx).1 a ha).2, Bool.and_true]
  rw [e, cn_box, Nat.min_self, bx_turn, bx_big (Nat.le_refl n)]
noncomputable def cts (t : Nat) (x : List Nat) : Bool := x.all fun a => decide (x.count a < t)
noncomputable def ctj (t M j : Nat) (x : List Nat) : Bool := decide (x.count M < j) && x.all fun a => decide (a = M) || decide (x.count a < t)
theorem ctj_t {t : Nat} (ht : 0 < t) (M : Nat) (x : List Nat) : ctj t M t x = cts t x := by
  unfold ctj cts
  by_cases h : x.count M < t
  · rw [decide_eq_true h, Bool.true_and]
    rw [Bool.eq_iff_iff, List.all_eq_true, List.all_eq_true]
    refine ⟨fun g a ha => ?_, fun g a ha => by rw [g a ha, Bool.or_true]⟩
    have := g a ha
    by_cases e : a = M
    · rw [e]; exact decide_eq_true h
    · rw [decide_eq_false e, Bool.false_or] at this; exact this
  · rw [decide_eq_false h, Bool.false_and]
    refine (Bool.eq_false_iff.mpr fun g => ?_).symm
    have hm : M ∈ x := by
      refine List.count_pos_iff.mp ?_
      omega
    exact h (of_decide_eq_true (List.all_eq_true.mp g M hm))
theorem ctj_low {t j m : Nat} {x : List Nat} (hx : ∀ a ∈ x, a ≤ m) : ctj t (m + 1) (j + 1) x = cts t x := by
  unfold ctj cts
  have c0 : x.count (m + 1) = 0 := List.count_eq_zero.mpr fun h => by have := hx _ h; omega
  rw [c0, decide_eq_true (by omega), Bool.true_and]
  rw [Bool.eq_iff_iff, List.all_eq_true, List.all_eq_true]
  refine ⟨fun g a ha => ?_, fun g a ha => by rw [g a ha, Bool.or_true]⟩
  have := g a ha
  rw [decide_eq_false (by have := hx a ha; omega), Bool.false_or] at this
  exact this
theorem ctj_cons (t M j : Nat) (x : List Nat) : ctj t M (j + 1) (M :: x) = ctj t M j x := by
  unfold ctj
  rw [List.count_cons_self, List.all_cons, decide_eq_true (rfl : M = M), Bool.true_or, Bool.true_and]
  congr 1
  · exact decide_eq_decide.mpr (by omega)
  · refine List.all_congr rfl fun a => ?_
    by_cases e : a = M
    · rw [decide_eq_true e, Bool.true_or, Bool.true_or]
    · rw [decide_eq_false e, Bool.false_or, Bool.false_or, List.count_cons_of_ne (Ne.symm e)]
theorem offput (g : Nat → Int) {s : Nat} (hs : 0 < s) (j n : Nat) : off (put g s) ((j + 1) * s) n = (if s ≤ n then off (put g s) (j * s) (n - s) else 0) + g n := by
  unfold off
  rw [put_eq g hs n]
  have e : (j + 1) * s = j * s + s := by grind
  by_cases h : s ≤ n
  · rw [if_pos h, if_pos h]
    by_cases h2 : (j + 1) * s ≤ n
    · rw [if_pos h2, if_pos (by omega), show n - s - j * s = n - (j + 1) * s by omega]; omega
    · rw [if_neg h2, if_neg (by omega)]; omega
  · rw [if_neg h, if_neg h, if_neg (by omega)]; omega
theorem cn_times {t : Nat} (ht : 0 < t) : ∀ m n, cn m n (cts t) = below t (ups m) dl n := by
  intro m
  induction m with
  | zero => intro n; rw [cn_zero, if_pos (by unfold cts; rfl)]; rfl
  | succ m ih =>
    have key : ∀ j n, cn (m + 1) n (ctj t (m + 1) j) = off (put (below t (ups m) dl) (m + 1)) (j * (m + 1)) n := by
      intro j
      induction j with
      | zero =>
        intro n
        rw [cn_none fun x _ => by unfold ctj; rw [decide_eq_false (Nat.not_lt_zero _), Bool.false_and], Nat.zero_mul]
        unfold off
        rw [if_pos (Nat.zero_le _), Nat.sub_zero]
        omega
      | succ j ihj =>
        intro n
        rw [cn_succ, offput _ (by omega), ← ih n]
        congr 1
        · by_cases h : m + 1 ≤ n
          · rw [if_pos h, if_pos h, ← ihj]
            exact cn_congr fun x _ => ctj_cons _ _ _ _
          · rw [if_neg h, if_neg h]
        · exact cn_congr fun x hx => ctj_low fun a ha => ((ls_mem m n x hx).1 a ha).2
    intro n
    rw [cn_congr (q := ctj t (m + 1) t) fun x _ => (ctj_t ht _ x).symm, key, ups_succ, below_app]
    rfl
noncomputable def vd (d : Nat) : List Nat → Bool
  | [] => true
  | [_] => true
  | a :: b :: r => decide (b + d ≤ a) && vd d (b :: r)
noncomputable def hdle (M : Nat) : List Nat → Bool
  | [] => true
  | a :: _ => decide (a ≤ M)
theorem cn_head (q : List Nat → Bool) (M : Nat) : ∀ e n, cn (M + e) n (fun x => hdle M x && q x) = cn M n q := by
  intro e
  induction e with
  | zero =>
    intro n
    refine cn_congr fun x hx => ?_
    cases x with
    | nil => rfl
    | cons a x => show (decide (a ≤ M) && q (a :: x)) = _; rw [decide_eq_true ((ls_mem M n _ hx).1 a List.mem_cons_self).2, Bool.true_and]
  | succ e ih =>
    intro n
    show cn (M + e + 1) n _ = _
    rw [cn_succ, ih n]
    rw [show (if M + e + 1 ≤ n then cn (M + e + 1) (n - (M + e + 1)) (fun l => hdle M ((M + e + 1) :: l) && q ((M + e + 1) :: l)) else 0) = 0 from ?_]
    · omega
    · split
      · refine cn_none fun l _ => ?_
        show (decide (M + e + 1 ≤ M) && _) = false
        rw [decide_eq_false (by omega), Bool.false_and]
      · rfl
noncomputable def vk (d k : Nat) (x : List Nat) : Bool := vd d x && decide (x.length = k)
theorem vk_cons {d k m : Nat} (hd : 1 ≤ d) (x : List Nat) (hx : ∀ a ∈ x, 1 ≤ a) : vk d (k + 1) ((m + 1) :: x) = (hdle (m + 1 - d) x && vk d k x) := by
  unfold vk
  cases x with
  | nil =>
    show (true && decide (1 = k + 1)) = (true && (true && decide (0 = k)))
    rw [Bool.true_and, Bool.true_and, Bool.true_and]
    exact decide_eq_decide.mpr (by omega)
  | cons b r =>
    show ((decide (b + d ≤ m + 1) && vd d (b :: r)) && decide ((b :: r).length + 1 = k + 1)) = (decide (b ≤ m + 1 - d) && (vd d (b :: r) && decide ((b :: r).length = k)))
    have h1 := hx b List.mem_cons_self
    rw [show decide ((b :: r).length + 1 = k + 1) = decide ((b :: r).length = k) from decide_eq_decide.mpr (by omega), show decide (b + d ≤ m + 1) = decide (b ≤ m + 1 - d) from decide_eq_decide.mpr (by omega), Bool.and_assoc]
noncomputable def vE (d k m : Nat) (n : Nat) : Int := cn m n (vk d k)
theorem vE_none (d m n : Nat) : vE d 0 m n = dl n := by
  unfold vE
  induction m generalizing n with
  | zero => rw [cn_zero, if_pos (by unfold vk; rfl)]
  | succ m ih =>
    rw [cn_succ, ih n]
    rw [show (if m + 1 ≤ n then cn (m + 1) (n - (m + 1)) (fun l => vk d 0 ((m + 1) :: l)) else 0) = 0 from ?_]
    · omega
    · split
      · refine cn_none fun l _ => ?_
        unfold vk
        rw [List.length_cons, decide_eq_false (by omega), Bool.and_false]
      · rfl
theorem vE_zero (d k n : Nat) : vE d (k + 1) 0 n = 0 := by
  unfold vE
  rw [cn_zero, if_neg]
  unfold vk
  simp
theorem vE_step {d : Nat} (hd : 1 ≤ d) (k m : Nat) : vE d (k + 1) (m + 1) = fun n => vE d (k + 1) m n + sh (m + 1) (vE d k (m + 1 - d)) n := by
  funext n
  show cn (m + 1) n (vk d (k + 1)) = _
  rw [cn_succ]
  have : (if m + 1 ≤ n then cn (m + 1) (n - (m + 1)) (fun l => vk d (k + 1) ((m + 1) :: l)) else 0) = sh (m + 1) (vE d k (m + 1 - d)) n := by
    unfold sh
    by_cases h : m + 1 ≤ n
    · rw [if_pos h, if_pos h]
      have e := cn_head (vk d k) (m + 1 - d) (m + 1 - (m + 1 - d)) (n - (m + 1))
      rw [show m + 1 - d + (m + 1 - (m + 1 - d)) = m + 1 by omega] at e
      show _ = cn (m + 1 - d) (n - (m + 1)) (vk d k)
      rw [← e]
      exact cn_congr fun x hx => vk_cons hd x fun a ha => ((ls_mem _ _ x hx).1 a ha).1
    · rw [if_neg h, if_neg h]
  rw [this]
  show _ = cn m n (vk d (k + 1)) + _
  omega
theorem sh_add (e : Nat) (f g : Nat → Int) : sh e (fun i => f i + g i) = fun n => sh e f n + sh e g n := by
  funext n
  unfold sh
  by_cases h : e ≤ n
  · rw [if_pos h, if_pos h, if_pos h]
  · rw [if_neg h, if_neg h, if_neg h]; rfl
theorem sh_fun (a b : Nat) (g : Nat → Int) : sh a (sh b g) = sh (a + b) g := funext fun i => sh_sh a b g i
theorem ex_next (d k : Nat) : ex d (k + 1) 1 = d * k + 1 + ex d k 1 := by
  rw [ex_in]
  have e : ∀ e, ex d k (1 + e) = ex d k 1 + k * e := by
    intro e
    induction e with
    | zero => rw [Nat.mul_zero]; rfl
    | succ e ih => rw [show 1 + (e + 1) = (1 + e) + 1 by omega, ex_up, ih]; grind
  rw [e d]
  grind
theorem vE_low {d : Nat} (hd : 1 ≤ d) : ∀ k m, m ≤ d * k → vE d (k + 1) m = fun _ => 0 := by
  intro k
  induction k with
  | zero => intro m h; rw [show m = 0 by omega]; funext n; exact vE_zero d 0 n
  | succ k ih =>
    intro m
    induction m with
    | zero => intro _; funext n; exact vE_zero d _ n
    | succ m ihm =>
      intro h
      have e : d * (k + 1) = d * k + d := by grind
      rw [vE_step hd, ihm (by omega), ih (m + 1 - d) (by omega)]
      funext n
      unfold sh
      split <;> rfl
theorem pascalT (k l : Nat) : bx (l + 1) (k + 1) = fun n => bx l (k + 1) n + sh (l + 1) (bx (l + 1) k) n := by
  rw [bx_turn, pascal l k]
  funext n
  rw [bx_turn l (k + 1), bx_turn (l + 1) k]
theorem vE_is {d : Nat} (hd : 1 ≤ d) : ∀ k l, vE d (k + 1) (d * k + 1 + l) = sh (ex d (k + 1) 1) (bx l (k + 1)) := by
  intro k
  induction k with
  | zero =>
    intro l
    have z : ∀ m, vE d 0 m = dl := fun m => funext fun n => vE_none d m n
    induction l with
    | zero =>
      rw [show d * 0 + 1 + 0 = 0 + 1 by omega, vE_step hd, z, bx_none', ex_next]
      funext n
      rw [vE_zero]
      show 0 + sh 1 dl n = sh (d * 0 + 1 + ex d 0 1) dl n
      rw [show d * 0 + 1 + ex d 0 1 = 1 by unfold ex; simp]
      omega
    | succ l ih =>
      rw [show d * 0 + 1 + (l + 1) = (d * 0 + 1 + l) + 1 by omega, vE_step hd, ih, z, pascalT 0 l, sh_add, sh_fun, bx_none]
      funext n
      congr 2
  | succ k ihk =>
    intro l
    have e : d * (k + 1) = d * k + d := by grind
    induction l with
    | zero =>
      rw [show d * (k + 1) + 1 + 0 = d * (k + 1) + 1 by omega, vE_step hd, vE_low hd (k + 1) _ (Nat.le_refl _), show d * (k + 1) + 1 - d = d * k + 1 + 0 by omega, ihk 0, bx_none', bx_none', sh_fun, ← ex_next]
      funext n
      show 0 + _ = _
      omega
    | succ l ih =>
      rw [show d * (k + 1) + 1 + (l + 1) = (d * (k + 1) + 1 + l) + 1 by omega, vE_step hd, ih, show d * (k + 1) + 1 + l + 1 - d = d * k + 1 + (l + 1) by omega, ihk (l + 1), pascalT (k + 1) l, sh_add, sh_fun, sh_fun]
      funext n
      congr 2
      rw [ex_next d (k + 1)]
      omega
theorem vE_at {d : Nat} (hd : 1 ≤ d) (k n : Nat) : vE d k n n = if Ls d k ≤ n then PL dl (ups k) (n - Ls d k) else 0 := by
  rw [ls_ex]
  cases k with
  | zero =>
    rw [vE_none, if_pos (by unfold ex; simp)]
    show dl n = dl (n - ex d 0 1)
    rw [show ex d 0 1 = 0 by unfold ex; simp]
    rfl
  | succ k =>
    by_cases h : d * k + 1 ≤ n
    · obtain ⟨l, e⟩ : ∃ l, n = d * k + 1 + l := ⟨n - (d * k + 1), by omega⟩
      have v := congrFun (vE_is hd k l) n
      rw [← e] at v
      rw [v]
      unfold sh
      by_cases g : ex d (k + 1) 1 ≤ n
      · rw [if_pos g, if_pos g, bx_big (by rw [ex_next] at g ⊢; omega)]
      · rw [if_neg g, if_neg g]
    · have v := congrFun (vE_low hd k n (by omega)) n
      rw [v, if_neg (by rw [ex_next]; omega)]
theorem cn_split (p : List Nat → Bool) (m n : Nat) : ∀ K, (∀ x ∈ Lst m n, x.length < K) → cn m n p = ((List.range K).map fun k => cn m n fun x => p x && decide (x.length = k)).sum := by
  have key : ∀ (L : List (List Nat)) K, ((List.range K).map fun k => ((L.countP fun x => p x && decide (x.length = k) : Nat) : Int)).sum = ((L.countP fun x => p x && decide (x.length < K) : Nat) : Int) := by
    intro L K
    induction K with
    | zero =>
      show (0 : Int) = _
      rw [List.countP_congr (q := fun _ => false) fun x _ => by simp, List.countP_false]
      rfl
    | succ K ih =>
      rw [List.range_succ, List.map_append, List.sum_append_int, ih]
      show _ + (((L.countP fun x => p x && decide (x.length = K) : Nat) : Int) + 0) = _
      rw [Int.add_zero, ← Int.natCast_add]
      congr 1
      clear ih
      induction L with
      | nil => rfl
      | cons x L ihL =>
        rw [List.countP_cons, List.countP_cons, List.countP_cons]
        have : (if (p x && decide (x.length < K)) = true then 1 else 0) + (if (p x && decide (x.length = K)) = true then 1 else 0) = (if (p x && decide (x.length < K + 1)) = true then 1 else 0) := by
          cases p x with
          | false => rfl
          | true =>
            rw [Bool.true_and, Bool.true_and, Bool.true_and]
            by_cases h1 : x.length < K
            · rw [decide_eq_true h1, decide_eq_false (by omega : ¬ x.length = K), decide_eq_true (by omega : x.length < K + 1)]; rfl
            · by_cases h2 : x.length = K
              · rw [decide_eq_false h1, decide_eq_true h2, decide_eq_true (by omega : x.length < K + 1)]; rfl
              · rw [decide_eq_false h1, decide_eq_false h2, decide_eq_false (by omega : ¬ x.length < K + 1)]; rfl
        omega
  intro K h
  unfold cn
  rw [key (Lst m n) K]
  congr 1
  exact List.countP_congr fun x hx => by rw [decide_eq_true (h x hx), Bool.and_true]
theorem cn_off {d n : Nat} (hd : 1 ≤ d) (hn : n ≤ 600) : cn n n (vd d) = fow d n := by
  rw [cn_split (vd d) n n (n + 1) fun x hx => by have := ls_len hx; omega]
  have e : ∀ K, ((List.range K).map fun k => cn n n fun x => vd d x && decide (x.length = k)).sum = fq d K n := by
    intro K
    induction K with
    | zero => rfl
    | succ K ih =>
      rw [List.range_succ, List.map_append, List.sum_append_int, ih]
      show _ + (vE d K n n + 0) = fq d K n + if Ls d K ≤ n then PL dl (ups K) (n - Ls d K) else 0
      rw [vE_at hd, Int.add_zero]
  rw [e]
  exact fow_is (n := n) (by have := Ls_ge d (n + 1); omega) (by omega) (Nat.le_refl n)
noncomputable def gr : List Nat → Nat
  | [] => 0
  | a :: r => if gr r ≤ a then a else gr r
noncomputable def cols (x : List Nat) : List Nat := (List.range (gr x)).map fun k => (x.filter fun a => decide (k < a)).length
noncomputable def own (x : List Nat) : Bool := decide (cols x = x)
end M11
set_option Elab.async false
set_option linter.all false
set_option maxRecDepth 100000
set_option maxHeartbeats 4000000
namespace M66
open MRow M80 M17 M12 M24 M11
theorem cn_pos (m n : Nat) (p : List Nat → Bool) : 0 ≤ cn m n p := by unfold cn; omega
theorem cn_up (m n : Nat) (p : List Nat → Bool) : cn m n p ≤ cn (m + 1) n p := by
  rw [cn_succ]
  have : 0 ≤ (if m + 1 ≤ n then cn (m + 1) (n - (m + 1)) (fun l => p ((m + 1) :: l)) else 0) := by
    split
    · exact cn_pos _ _ _
    · decide
  omega
theorem cn_ups {m : Nat} (n : Nat) (p : List Nat → Bool) : ∀ e, cn m n p ≤ cn (m + e) n p
  | 0 => Int.le_refl _
  | e + 1 => Int.le_trans (cn_ups n p e) (cn_up (m + e) n p)
theorem cn_le {a b : Nat} (n : Nat) (p : List Nat → Bool) (h : a ≤ b) : cn a n p ≤ cn b n p := by
  have := cn_ups (m := a) n p (b - a)
  rw [show a + (b - a) = b by omega] at this
  exact this
noncomputable def Fl : List Nat → Prop
  | [] => True
  | [a] => 1 ≤ a
  | a :: b :: r => b ≤ a ∧ Fl (b :: r)
theorem Fl.tail {a : Nat} {r : List Nat} (h : Fl (a :: r)) : Fl r := by
  cases r with
  | nil => trivial
  | cons b r => exact h.2
theorem Fl.pos : ∀ {x : List Nat}, Fl x → ∀ a ∈ x, 1 ≤ a
  | [], _, _, h => nomatch h
  | [b], h, a, ha => by rw [List.mem_singleton.mp ha]; exact h
  | b :: c :: r, h, a, ha => by
    rcases List.mem_cons.mp ha with e | e
    · have := Fl.pos h.2 c List.mem_cons_self
      have := h.1
      omega
    · exact Fl.pos h.2 a e
theorem Fl.head {b : Nat} : ∀ {r : List Nat}, Fl (b :: r) → ∀ a ∈ b :: r, a ≤ b
  | [], _, a, ha => by rw [List.mem_singleton.mp ha]; exact Nat.le_refl _
  | c :: r, h, a, ha => by
    rcases List.mem_cons.mp ha with e | e
    · omega
    · have := Fl.head h.2 a e
      have := h.1
      omega
end M66
set_option Elab.async false
set_option linter.all false
set_option maxRecDepth 100000
set_option maxHeartbeats 4000000
namespace SRV
open PySem PySem.W PySem.Calls
open PyProof.Rows hiding K SortedTo K_bubble K_mirror K_congr K_mirror_equal
noncomputable def lexb : List Int → List Int → Bool
  | [], [] => false
  | [], _ :: _ => true
  | _ :: _, [] => false
  | a :: as, b :: bs => if a = b then lexb as bs else decide (a < b)
theorem lexb_irr : ∀ a, lexb a a = false
  | [] => rfl
  | a :: as => by rw [lexb, if_pos rfl]; exact lexb_irr as
theorem lexb_trans : ∀ {a b c : List Int}, lexb a b = true → lexb b c = true → lexb a c = true
  | [], [], _, h, _ => by cases h
  | [], _ :: _, [], _, h => by cases h
  | [], _ :: _, _ :: _, _, _ => rfl
  | _ :: _, [], _, h, _ => by cases h
  | _ :: _, _ :: _, [], _, h => by cases h
  | a :: as, b :: bs, c :: cs, h1, h2 => by
    rw [lexb] at h1 h2 ⊢
    by_cases e1 : a = b
    · rw [if_pos e1] at h1
      subst e1
      by_cases e2 : a = c
      · rw [if_pos e2] at h2 ⊢; exact lexb_trans h1 h2
      · rw [if_neg e2] at h2 ⊢; exact h2
    · rw [if_neg e1] at h1
      have l1 := of_decide_eq_true h1
      by_cases e2 : b = c
      · subst e2; rw [if_neg e1]; exact h1
      · rw [if_neg e2] at h2
        have l2 := of_decide_eq_true h2
        rw [if_neg (by omega)]
        exact decide_eq_true (by omega)
noncomputable def datOf (h : Heap) : Value → List Int
  | .ref a => match h.get? a with
    | some o => match o.data with
      | .seq xs _ => xs.toList.map numOf
      | _ => []
    | none => []
  | _ => []
noncomputable def TI (h : Heap) (v : Value) (ns : List Int) : Prop := ∃ a o its n, v = .ref a ∧ h.get? a = some o ∧ o.cls = .type "tuple" ∧ o.data = .seq (List.toArray its) n ∧ IntsAre its ns
theorem ints_num : ∀ {its : List Value} {ns : List Int}, IntsAre its ns → its.map numOf = ns
  | _, _, .nil => rfl
  | _, _, .cons _ _ h => by rw [List.map_cons, ints_num h]; rfl
theorem TI.dat {h : Heap} {v : Value} {ns : List Int} (t : TI h v ns) : datOf h v = ns := by
  obtain ⟨a, o, its, n, rfl, ho, hc, hd, hI⟩ := t
  unfold datOf
  dsimp only
  rw [ho]
  dsimp only
  rw [hd]
  exact ints_num hI
section
variable {prog : Program} {w : World} {A : Around} {E : Value → Shared → Prop} {s : Shared}
theorem lex_ask {b fin : Bool} {Q : Bool → Shared → Prop} : ∀ {xs ys : List Value} {ns ms : List Int} (i : Nat), IntsAre xs ns → IntsAre ys ms → (b = true → i = 0 ∨ True) → fin = decide (ns.length < ms.length) → Q (lexb ns ms) s → KatLex prog w A b fin Q (xs.zip ys) i s
  | _, _, _, _, i, .nil, .nil, _, e, h => by
    subst e
    exact kat_nil h
  | _, _, _, _, i, .nil, .cons _ _ _, _, e, h => by
    subst e
    refine kat_nil ?_
    rw [decide_eq_true (by simp)]
    exact h
  | _, _, _, _, i, .cons _ _ _, .nil, _, e, h => by
    subst e
    refine kat_nil ?_
    rw [decide_eq_false (by simp)]
    exact h
  | _, _, _, _, i, .cons n _ hx, .cons m _ hy, _, e, h => by
    refine kat_cons (wpAny_eqBool_int ?_)
    by_cases hn : n = m
    · rw [show (n == m) = true by simpa using hn]
      refine kat_yes (lex_ask (i + 1) hx hy (fun _ => .inr trivial) (by rw [e, List.length_cons, List.length_cons]; exact decide_eq_decide.mpr (by omega)) ?_)
      rw [lexb, if_pos hn] at h
      exact h
    · rw [show (n == m) = false by simpa using hn]
      rw [lexb, if_neg hn] at h
      refine kat_no ?_
      cases hb : (b && i == 0) with
      | true => exact oneLt_int h
      | false => exact kat_one _ _ (PyProof.Rows.lt_int h)
theorem tup_lt {st : SortSt} {x y : Keyed} {b : Bool} {ns ms : List Int} {Q : Option Bool → SortSt → Prop} (hk : kindOf st = tuples' b) (hx : TI s.heap x.1 ns) (hy : TI s.heap y.1 ms) (h : Q (some (lexb ns ms)) st) : wpS (model prog w) A E s (lt' x y) Q st := by
  obtain ⟨a, o, its, n, e1, ho, hc, hd, hI⟩ := hx
  obtain ⟨a', o', its', n', e1', ho', hc', hd', hI'⟩ := hy
  rw [lt'_eq]
  refine wpS_bind (wpS_get ?_)
  rw [hk, e1, e1']
  refine wpS_bind (wpS_lift (wpAny_attempt (kat_lt ho hd ho' hd' (lex_ask 0 hI hI' (fun _ => .inr trivial) ?_ ⟨rfl, wpS_pure h⟩))))
  rw [List.size_toArray, List.size_toArray, hI.length, hI'.length]
theorem ti_firsts {h : Heap} : ∀ {vs : List Value}, (∀ v ∈ vs, ∃ ns, ns ≠ [] ∧ TI h v ns) → ∃ fs, KatTups h vs fs ∧ fs.length = vs.length ∧ ∀ v ∈ fs, ∃ k t, v = Value.int k t
  | [], _ => ⟨[], trivial, rfl, fun v hv => nomatch hv⟩
  | v :: vs, g => by
    obtain ⟨fs, a, b, c⟩ := ti_firsts (vs := vs) fun v hv => g v (List.mem_cons_of_mem _ hv)
    obtain ⟨ns, hne, x, o, its, n, rfl, ho, hc, hd, hI⟩ := g v List.mem_cons_self
    cases hI with
    | nil => exact absurd rfl hne
    | cons k t hI =>
      refine ⟨.int k t :: fs, KatTups.cons ho hc hd rfl a, by simp [b], fun w hw => ?_⟩
      rcases List.mem_cons.mp hw with rfl | hw
      · exact ⟨_, _, rfl⟩
      · exact c w hw
end
end SRV
set_option Elab.async false
set_option linter.all false
set_option maxRecDepth 100000
set_option maxHeartbeats 4000000
namespace M63
open M11 M66 SRV
noncomputable def toI (x : List Nat) : List Int := x.map fun (k : Nat) => (k : Int)
noncomputable def Asc (m n : Nat) : List (List Nat) := (Lst m n).reverse
theorem asc_zero (n : Nat) : Asc 0 n = if n = 0 then [[]] else [] := by
  unfold Asc
  show (if n = 0 then [[]] else [] : List (List Nat)).reverse = _
  split <;> rfl
theorem asc_eq (m n : Nat) : Asc (m + 1) n = Asc m n ++ (if m + 1 ≤ n then (Asc (m + 1) (n - (m + 1))).map ((m + 1) :: ·) else []) := by
  unfold Asc
  rw [ls_eq, List.reverse_append]
  congr 1
  split
  · rw [List.map_reverse]
  · rfl
theorem asc_mem {m n : Nat} {x : List Nat} : x ∈ Asc m n ↔ x ∈ Lst m n := List.mem_reverse
theorem asc_low {m n : Nat} (h : n ≤ m) : Asc m n = Asc n n := by
  obtain ⟨e, rfl⟩ : ∃ e, m = n + e := ⟨m - n, by omega⟩
  induction e with
  | zero => rfl
  | succ e ih => rw [show n + (e + 1) = (n + e) + 1 by omega, asc_eq, if_neg (by omega), List.append_nil]; exact ih (by omega)
theorem ls_fl : ∀ (m n : Nat) (x : List Nat), x ∈ Asc m n → Fl x := by
  intro m
  induction m with
  | zero =>
    intro n x hx
    rw [asc_zero] at hx
    split at hx
    · rw [List.mem_singleton.mp hx]; trivial
    · cases hx
  | succ m ih =>
    intro n
    induction n using Nat.strongRecOn with
    | ind n ihn =>
      intro x hx
      rw [asc_eq] at hx
      rcases List.mem_append.mp hx with hx | hx
      · exact ih n x hx
      · split at hx
        · rename_i hn
          obtain ⟨y, hy, rfl⟩ := List.mem_map.mp hx
          have fy := ihn _ (by omega) y hy
          have by' := (ls_mem _ _ y (asc_mem.mp hy)).1
          cases y with
          | nil => show 1 ≤ m + 1; omega
          | cons b r => exact ⟨(by' b List.mem_cons_self).2, fy⟩
        · cases hx
theorem asc_up : ∀ (m n : Nat), (Asc m n).Pairwise (fun a b => lexb (toI a) (toI b) = true) := by
  intro m
  induction m with
  | zero =>
    intro n
    rw [asc_zero]
    split
    · exact List.pairwise_singleton _ _
    · exact .nil
  | succ m ih =>
    intro n
    induction n using Nat.strongRecOn with
    | ind n ihn =>
      rw [asc_eq]
      refine List.pairwise_append.mpr ⟨ih n, ?_, fun a ha b hb => ?_⟩
      · split
        · rename_i hn
          rw [List.pairwise_map]
          refine (ihn _ (by omega)).imp fun {a b} h => ?_
          show lexb (((m + 1 : Nat) : Int) :: toI a) (((m + 1 : Nat) : Int) :: toI b) = true
          rw [lexb, if_pos rfl]
          exact h
        · exact .nil
      · split at hb
        · obtain ⟨y, hy, rfl⟩ := List.mem_map.mp hb
          show lexb (toI a) (((m + 1 : Nat) : Int) :: toI y) = true
          cases a with
          | nil => rfl
          | cons c r =>
            have := ((ls_mem _ _ _ (asc_mem.mp ha)).1 c List.mem_cons_self).2
            show lexb ((c : Int) :: toI r) (((m + 1 : Nat) : Int) :: toI y) = true
            rw [lexb, if_neg (by omega)]
            exact decide_eq_true (by omega)
        · cases hb
end M63
set_option linter.all false
set_option maxRecDepth 100000
set_option maxHeartbeats 4000000
namespace MP
noncomputable def pb : Nat → Nat → Nat → List (List Int)
  | 0, _, _ => [[]]
  | f + 1, n, m => if n = 0 then [[]] else (List.range (min n m)).flatMap fun i => (pb f (n - (i + 1)) (i + 1)).map fun b => ((i + 1 : Nat) : Int) :: b
theorem pb_zero (f m : Nat) : pb f 0 m = [[]] := by cases f <;> rfl
theorem flat_congr {α β : Type} {f g : α → List β} : ∀ {l : List α}, (∀ a ∈ l, f a = g a) → l.flatMap f = l.flatMap g
  | [], _ => rfl
  | a :: l, h => by rw [List.flatMap_cons, List.flatMap_cons, h a List.mem_cons_self, flat_congr fun b hb => h b (List.mem_cons_of_mem _ hb)]
theorem pb_fuel : ∀ (f n m : Nat), n ≤ f → pb f n m = pb n n m
  | 0, n, m, h => by
    have : n = 0 := by omega
    subst this; rfl
  | f + 1, 0, m, _ => by rw [pb_zero]; rfl
  | f + 1, n + 1, m, h => by
    show (if n + 1 = 0 then [[]] else (List.range (min (n + 1) m)).flatMap fun i => (pb f (n + 1 - (i + 1)) (i + 1)).map fun b => ((i + 1 : Nat) : Int) :: b) = (if n + 1 = 0 then [[]] else (List.range (min (n + 1) m)).flatMap fun i => (pb n (n + 1 - (i + 1)) (i + 1)).map fun b => ((i + 1 : Nat) : Int) :: b)
    rw [if_neg (by omega), if_neg (by omega)]
    refine flat_congr fun i hi => ?_
    rw [pb_fuel f (n + 1 - (i + 1)) (i + 1) (by omega), pb_fuel n (n + 1 - (i + 1)) (i + 1) (by omega)]
noncomputable def PB (n m : Nat) : List (List Int) := pb n n m
noncomputable def blk (n i : Nat) : List (List Int) := (PB (n - (i + 1)) (i + 1)).map fun b => ((i + 1 : Nat) : Int) :: b
theorem PB_zero (m : Nat) : PB 0 m = [[]] := rfl
theorem PB_eq {n : Nat} (h : n ≠ 0) (m : Nat) : PB n m = (List.range (min n m)).flatMap (blk n) := by
  cases n with
  | zero => exact absurd rfl h
  | succ n =>
    show (if n + 1 = 0 then [[]] else (List.range (min (n + 1) m)).flatMap fun i => (pb n (n + 1 - (i + 1)) (i + 1)).map fun b => ((i + 1 : Nat) : Int) :: b) = _
    rw [if_neg (by omega)]
    refine flat_congr fun i hi => ?_
    unfold blk PB
    rw [pb_fuel n (n + 1 - (i + 1)) (i + 1) (by omega)]
noncomputable def bs (n k : Nat) : List (List Int) := (List.range k).flatMap (blk n)
theorem bs_succ (n k : Nat) : bs n (k + 1) = bs n k ++ blk n k := by unfold bs; rw [List.range_succ, List.flatMap_append]; simp
theorem blk_len (n i : Nat) : (blk n i).length = (PB (n - (i + 1)) (i + 1)).length := by unfold blk; rw [List.length_map]
theorem PB_pos : ∀ (N n m : Nat), n ≤ N → ∀ b ∈ PB n m, (∀ x ∈ b, (1 : Int) ≤ x ∧ x ≤ n) ∧ b.length ≤ n ∧ b.sum = n
  | 0, n, m, h, b, hb => by
    have : n = 0 := by omega
    subst this
    have : b = [] := by simpa [PB, pb] using hb
    subst this
    exact ⟨(fun _ z => nomatch z), Nat.le_refl _, rfl⟩
  | N + 1, n, m, h, b, hb => by
    by_cases h0 : n = 0
    · subst h0
      have : b = [] := by simpa [PB, pb] using hb
      subst this
      exact ⟨(fun _ z => nomatch z), Nat.le_refl _, rfl⟩
    · rw [PB_eq h0] at hb
      obtain ⟨i, hi, hb⟩ := List.mem_flatMap.mp hb
      have hi' := List.mem_range.mp hi
      obtain ⟨c, hc, rfl⟩ := List.mem_map.mp hb
      obtain ⟨h1, h2, h3⟩ := PB_pos N (n - (i + 1)) (i + 1) (by omega) c hc
      refine ⟨fun x hx => ?_, ?_, ?_⟩
      · rcases List.mem_cons.mp hx with rfl | hx
        · omega
        · have := h1 x hx; omega
      · rw [List.length_cons]; omega
      · rw [List.sum_cons, h3]; omega
end MP
set_option Elab.async false
set_option linter.all false
set_option maxRecDepth 100000
set_option maxHeartbeats 4000000
namespace M05
open MRow M80 M17 M12 M11 M66 M63 MP
theorem asc_blocks {n : Nat} (h : n ≠ 0) : ∀ m, Asc m n = (List.range m).flatMap fun i => if i + 1 ≤ n then (Asc (i + 1) (n - (i + 1))).map ((i + 1) :: ·) else []
  | 0 => by rw [asc_zero, if_neg h]; rfl
  | m + 1 => by
    rw [asc_eq, asc_blocks h m, List.range_succ, List.flatMap_append]
    simp
theorem PB_asc : ∀ (N n m : Nat), n ≤ N → PB n m = (Asc m n).map toI := by
  intro N
  induction N with
  | zero =>
    intro n m h
    have : n = 0 := by omega
    subst this
    rw [PB_zero]
    rw [asc_low (Nat.zero_le m), asc_zero]
    rfl
  | succ N ih =>
    intro n m h
    by_cases h0 : n = 0
    · subst h0
      rw [PB_zero, asc_low (Nat.zero_le m), asc_zero]
      rfl
    · have e : Asc m n = Asc (min n m) n := by
        by_cases hm : n ≤ m
        · rw [Nat.min_eq_left hm, asc_low hm]
        · rw [Nat.min_eq_right (by omega)]
      rw [PB_eq h0, e, asc_blocks h0, List.map_flatMap]
      refine flat_congr fun i hi => ?_
      have hi := List.mem_range.mp hi
      rw [if_pos (by omega), List.map_map]
      unfold MP.blk
      rw [ih (n - (i + 1)) (i + 1) (by omega), List.map_map]
      rfl
theorem row30 : PLL 31 (tb dl 31) (ups 30) = [1, 1, 2, 3, 5, 7, 11, 15, 22, 30, 42, 56, 77, 101, 135, 176, 231, 297, 385, 490, 627, 792, 1002, 1255, 1575, 1958, 2436, 3010, 3718, 4565, 5604] := by decide +kernel
theorem len_row {n : Nat} (h : n ≤ 30) : ((Lst 30 n).length : Int) = ([1, 1, 2, 3, 5, 7, 11, 15, 22, 30, 42, 56, 77, 101, 135, 176, 231, 297, 385, 490, 627, 792, 1002, 1255, 1575, 1958, 2436, 3010, 3718, 4565, 5604] : List Int).getD n 0 := by
  have e1 : cn 30 n (fun l => l.all fun _ => true) = PL dl (fl (fun _ => true) 30) n := cn_all _ 30 n
  rw [fl_all] at e1
  have e2 : PLL 31 (tb dl 31) (ups 30) = tb (PL dl (ups 30)) 31 := PLL_ok 31 _ dl (by decide)
  rw [row30] at e2
  have e3 : cn 30 n (fun l => l.all fun _ => true) = ((Lst 30 n).length : Int) := by
    unfold cn
    congr 1
    rw [List.countP_eq_length]
    exact fun x _ => List.all_eq_true.mpr fun _ _ => rfl
  rw [← e3, e1, e2, List.getD_eq_getElem?_getD, tb_get (by omega)]
  rfl
theorem len30 {n : Nat} (h : n ≤ 30) : (Lst 30 n).length ≤ 6000 := by
  have e := len_row h
  have key : ((List.range 31).all fun n => decide (([1, 1, 2, 3, 5, 7, 11, 15, 22, 30, 42, 56, 77, 101, 135, 176, 231, 297, 385, 490, 627, 792, 1002, 1255, 1575, 1958, 2436, 3010, 3718, 4565, 5604] : List Int).getD n 0 ≤ 6000)) = true := by decide +kernel
  have := of_decide_eq_true (List.all_eq_true.mp key n (List.mem_range.mpr (by omega)))
  omega
theorem asc_len30 {m n : Nat} (hn : n ≤ 30) : (Asc m n).length ≤ 6000 := by
  have key : ∀ m, m ≤ 30 → (Asc m n).length ≤ 6000 := fun m hm => by
    unfold Asc
    rw [List.length_reverse]
    have h30 := len30 hn
    have le := cn_le n (fun _ => true) hm
    unfold cn at le
    rw [List.countP_true] at le
    omega
  by_cases hm : m ≤ 30
  · exact key m hm
  · rw [asc_low (by omega)]
    exact key n hn
theorem PB_len30 {n m : Nat} (hn : n ≤ 30) : (PB n m).length ≤ 6000 := by rw [PB_asc n n m (Nat.le_refl n), List.length_map]; exact asc_len30 hn
theorem bs_len30 {n k : Nat} (hn : n ≤ 30) (hk : k ≤ n) (h0 : n ≠ 0) : (bs n k).length ≤ 6000 := by
  have := PB_len30 (n := n) (m := k) hn
  rw [PB_eq h0, Nat.min_eq_right hk] at this
  exact this
end M05
set_option Elab.async false
set_option linter.all false
set_option maxRecDepth 100000
set_option maxHeartbeats 4000000
namespace L2
open PySem PySem.Spec PyProof.Rows
theorem small6k {n : Nat} (h : n ≤ 6000) : n < sizeLine := by rw [sizeLine_eq]; omega
noncomputable def tD (ls : List Int) : PyData := .tuple (ls.map PyData.int)
theorem Tps.all {H : Hp} : ∀ {us lss}, Tps H us lss → DatAll H us (lss.map tD)
  | _, _, .nil => .nil
  | _, _, .cons h r => .cons (.ints h) (Tps.all r)
theorem can_tt : ∀ lss : List (List Int), PyData.canLayAll0 (lss.map tD) = true ∧ PyData.depthAll (lss.map tD) ≤ 2
  | [] => ⟨by simp [PyData.canLayAll0], by simp [PyData.depthAll]⟩
  | ls :: r => by
    obtain ⟨h1, h2⟩ := can_tt r
    obtain ⟨g1, g2⟩ := canInts ls
    refine ⟨by simp only [List.map_cons, PyData.canLayAll0, tD, PyData.canLay0, g1, Bool.true_and]; exact h1, ?_⟩
    simp only [List.map_cons, PyData.depthAll, tD, PyData.depth]
    exact Nat.max_le.mpr ⟨by omega, h2⟩
end L2
set_option Elab.async false
set_option linter.all false
set_option maxRecDepth 100000
set_option maxHeartbeats 4000000
namespace K72
open PySem L2 MP M05
section
variable {P : Program} {w : World} {K : PySem.W.Frag} {mg : Str → Option Value} {base : Heap} {f : Addr} {fd : FuncData}
noncomputable def sp_pb : Nat → Sp
  | 0 => fun _ _ _ _ => False
  | N + 1 => fun vs H Q _ => ∃ n m : Nat, vs = [.int n, .int m] ∧ n ≤ N ∧ n ≤ 30 ∧ ∀ F us H', H F = none → Same H H' → H' F = some (.lst us) → Tps H' us (PB n m) → Q (.ref F) H'
theorem sc_pb : FnScope ["n", "most", "told", "first", "behind"] ["n", "most"] (defScope (top 41)) := ⟨rfl, rfl, rfl, by decide +kernel, rfl, by decide +kernel, by decide +kernel⟩
theorem pb_ok (F : Fun K "partings_below" "partings_below" (top 41) f fd) (m_min : mg "min" = none) (m_range : mg "range" = none) (b : Binds K fd ["n", "most"] []) (kp : PySem.W.keepIn K (.ref f) = true) (m : mg "partings_below" = some (.ref f)) : ∀ N, FnOk P w K mg base CX0 N f fd ["n", "most"] (sp_pb N)
  | 0 => ⟨fun _ _ _ _ h => h.elim, fun _ _ _ _ _ _ _ _ _ _ _ _ _ h => h.elim⟩
  | N + 1 => by
    have F_partings_below : FnA P w K mg base "partings_below" N ["n", "most"] (sp_pb N) := ⟨⟨f, fd, pb_ok F m_min m_range b kp m N, b, kp, m⟩⟩
    refine F.okz sc_pb (fun vs H Q E h => ?_) (fun cdv A outer s H vs Q E hr h => ?_)
    · obtain ⟨n, m, rfl, _⟩ := h; rfl
    obtain ⟨n, m, rfl, hN, hn, q⟩ := h
    have nd := sc_pb.nd
    have hu := hr.units
    refine ⟨_, (zss_cons (zs_if (zt_cmpP (op_eqD hu) (zn 0) ze_int (nomark _)) (zss_one (zs_ret (ze_lst (za_cons (ze_tup za_nil) za_nil)))) zss_nil)
      (zss_cons (zs_set (i := 2) nd rfl (Or.inl rfl) (ze_lst za_nil))
      (zss_cons (zs_for PassesOwn.never rfl (zi_range2 rfl m_range (za_cons ze_int (za_cons (ze_op op_addP (zcb_min rfl rfl m_min (za_cons (zn 0) (za_cons (zn 1) za_nil)) rfl rfl) ze_int) za_nil))) (zg_name (i := 3) nd rfl (Or.inl rfl)) (zss_one (zs_for PassesOwn.never rfl (zi_list (ze_fn F_partings_below hr (Nat.le_refl _) rfl (za_cons (ze_op op_subP (zn 0) (zn 3)) (za_cons (zn 3) za_nil)))) (zg_name (i := 4) nd rfl (Or.inl rfl)) (zss_one (zs_expr (zm_append (zn 2) (za_cons (ze_op op_addP (ze_tup (za_cons (zn 3) za_nil)) (zn 4)) za_nil)))))))
      (zss_one (zs_ret (zn 2)))))), ?_⟩
    refine iteD (fun c => ?_) (fun c => ?_)
    · have e0 : n = 0 := by have := V.int.inj c; omega
      subst e0
      refine ⟨by show 0 ≤ sizeLine; decide, fun t ht => ?_⟩
      have y1 := Same.new ht (.tup [])
      refine ⟨by show 1 ≤ sizeLine; decide, fun L hL => ?_⟩
      refine q L [.ref t] _ (fresh_back y1 hL) (y1.trans (Same.new hL _)) upd_same ?_
      rw [PB_zero]
      exact .cons (ls := []) (Same.new hL _ _ _ upd_same) .nil
    · have e0 : n ≠ 0 := fun z => c (by show V.int (n : Int) = V.int 0; rw [z]; rfl)
      obtain ⟨N', rfl⟩ : ∃ N', N = N' + 1 := ⟨N - 1, by omega⟩
      refine ⟨by show 0 ≤ sizeLine; decide, fun L hL => ?_⟩
      have yL := Same.new hL (.lst [])
      have gL : upd H L (.lst []) L = some (.lst []) := upd_same
      generalize upd H L (.lst []) = H1 at yL gL
      have em : (if (m : Int) < (n : Int) then (m : Int) else (n : Int)) = ((min n m : Nat) : Int) := by split <;> omega
      have hl2 : 6000 < sizeLine := small6k (Nat.le_refl _)
      refine ⟨1, ((min n m : Nat) : Int) + 1, by rw [← em], ⟨by omega, by omega, by omega, by omega⟩, ?_⟩
      have eN : (((min n m : Nat) : Int) + 1 - 1).toNat = min n m := by omega
      rw [eN]
      refine for_range (fun i σ H' => i ≤ min n m ∧ Same H H' ∧ ∃ us x3 x4, H' L = some (.lst us) ∧ Tps H' us (bs n i) ∧ σ = [some (.int n), some (.int m), some (.ref L), x3, x4]) ⟨Nat.zero_le _, yL, [], none, none, gL, .nil, rfl⟩ ?_ ?_
      · rintro i σ H2 hi ⟨_, y2, us, x3, x4, hL2, tp2, rfl⟩
        have e1 : (n : Int) - (1 + (i : Int)) = ((n - (i + 1) : Nat) : Int) := by omega
        have e2 : (1 : Int) + (i : Int) = ((i + 1 : Nat) : Int) := by omega
        refine ⟨n - (i + 1), i + 1, by dsimp only; rw [e1, e2], by omega, by omega, fun B vs H3 hB y3 hB3 tpB => ?_⟩
        have BL : B ≠ L := fun z => by rw [z, hL2] at hB; cases hB
        have hL3 := y3 _ _ hL2
        have tp3 := tp2.same y3
        have z3 := y2.trans y3
        have lvs := tpB.length
        refine ⟨B, rfl, ⟨_, SqL.of hB3⟩, for_list (xs := vs) (fun j σ H' => j ≤ vs.length ∧ Same H H' ∧ H' B = some (.lst vs) ∧ Tps H' vs (PB (n - (i + 1)) (i + 1)) ∧ ∃ us x4, H' L = some (.lst us) ∧ Tps H' us (bs n i ++ (blk n i).take j) ∧ σ = [some (.int n), some (.int m), some (.ref L), some (.int (1 + (i : Int))), x4]) ⟨Nat.zero_le _, z3, hB3, tpB, us, x4, hL3, by rw [List.take_zero, List.append_nil]; exact tp3, rfl⟩ ?_ ?_ ?_⟩
        · rintro j σ H' _ ⟨_, _, h, _⟩
          exact SqL.of h
        · rintro j z σ H4 hz ⟨_, y4, hB4, tpB4, us4, x4', hL4, tp4, rfl⟩
          have hj : j < vs.length := (List.getElem?_eq_some_iff.mp hz).1
          obtain ⟨ls, b', hls, rfl, hb'⟩ := tpB4.get hz
          refine ⟨tyL hL4, ?_⟩
          refine ⟨by show 1 ≤ sizeLine; decide, fun d hd => ?_⟩
          have yd := Same.new hd (.tup [V.int (1 + (i : Int))])
          have gd : upd H4 d (.tup [V.int (1 + (i : Int))]) d = some (.tup [V.int (1 + (i : Int))]) := upd_same
          have hB5 := yd _ _ hB4
          have tpB5 := tpB4.same yd
          have hL5 := yd _ _ hL4
          have tp5 := tp4.same yd
          have hb5 := yd _ _ hb'
          have z5 := y4.trans yd
          generalize upd H4 d (.tup [V.int (1 + (i : Int))]) = H5 at yd gd hB5 tpB5 hL5 tp5 hb5 z5
          have lls := (PB_pos _ _ _ (Nat.le_refl _) ls (List.mem_of_getElem? hls)).2.1
          refine .inr ⟨_, _, gd, hb5, Nat.le_trans (show 1 + (ls.map V.int).length ≤ 1000 by rw [List.length_map]; omega) (by rw [sizeLine_eq]; omega), fun r H6 y6 hr6 => ?_⟩
          have hL6 := y6 _ _ hL5
          have tp6 := tp5.same y6
          have l6 := tp6.length
          have hbl : (bs n i ++ (blk n i).take j).length < 6000 := by
            have h1 := bs_len30 (n := n) (k := i + 1) hn (by omega) e0
            rw [bs_succ, List.length_append, blk_len] at h1
            rw [List.length_append, List.length_take, blk_len]
            omega
          refine ⟨us4, hL6, by omega, ?_⟩
          have hr7 : H6 r = some (.tup (((((i + 1 : Nat) : Int)) :: ls).map V.int)) := by rw [hr6, e2]; rfl
          refine ⟨by omega, Same.updN (z5.trans y6) hL, by rw [upd_ne BL]; exact y6 _ _ hB5, (tpB5.same y6).updL hL6, us4 ++ [.ref r], _, upd_same, ?_, rfl⟩
          have eb : (blk n i)[j]? = some (((i + 1 : Nat) : Int) :: ls) := by unfold blk; rw [List.getElem?_map, hls]; rfl
          rw [List.take_succ, eb, ← List.append_assoc]
          exact Tps.snoc (by rw [upd_ne (ne_of hr7 hL6 (by intro z; cases z))]; exact hr7) (tp6.updL hL6)
        · rintro σ H4 ⟨_, y4, hB4, tpB4, us4, x4', hL4, tp4, rfl⟩
          refine ⟨by omega, y4, us4, _, _, hL4, ?_, rfl⟩
          rw [bs_succ]
          rw [List.take_of_length_le (by rw [blk_len, lvs]; exact Nat.le_refl _)] at tp4
          exact tp4
      · rintro σ H2 ⟨_, y2, us, x3, x4, hL2, tp2, rfl⟩
        refine q L us H2 hL y2 hL2 ?_
        rw [PB_eq e0]
        exact tp2
theorem ok_pb (N : Nat) (F : Fun K "partings_below" "partings_below" (top 41) f fd) (m_min : mg "min" = none) (m_range : mg "range" = none) (b : Binds K fd ["n", "most"] []) (kp : PySem.W.keepIn K (.ref f) = true) (m : mg "partings_below" = some (.ref f)) : FnOk P w K mg base CX0 N f fd ["n", "most"] (sp_pb N) := pb_ok F m_min m_range b kp m N
theorem sc_ps : FnScope ["n"] ["n"] (defScope (top 42)) := ⟨rfl, rfl, rfl, by decide +kernel, rfl, by decide +kernel, by decide +kernel⟩
noncomputable def sp_ps : Sp := fun vs H Q _ => ∃ n : Nat, vs = [.int n] ∧ n ≤ 30 ∧ ∀ F us H', Same H H' → H' F = some (.tup us) → Tps H' us (PB n n) → Q (.ref F) H'
theorem ok_ps (F : Fun K "partings" "partings" (top 42) f fd) (m_tuple : mg "tuple" = none) (F_partings_below : FnA P w K mg base "partings_below" 31 ["n", "most"] (sp_pb 31)) : FnOk P w K mg base CX0 32 f fd ["n"] sp_ps := by
  refine F.okz sc_ps (fun vs H Q E h => ?_) (fun cdv A outer s H vs Q E hr h => ?_)
  · obtain ⟨n, rfl, _⟩ := h; rfl
  obtain ⟨n, rfl, hn, q⟩ := h
  have nd := sc_ps.nd
  refine ⟨_, (zss_one (zs_ret (zcb_tuple rfl m_tuple (za_cons (ze_fn F_partings_below hr (by decide) rfl (za_cons (zn 0) (za_cons (zn 0) za_nil))) za_nil) rfl rfl))), ?_⟩
  refine ⟨n, n, rfl, hn, hn, fun L us H1 hL y1 hL1 tp => ?_⟩
  refine ⟨us, .inl (SqL.of hL1), fun r H2 y2 hr2 => ?_⟩
  exact q r us H2 (y1.trans y2) hr2 (tp.same y2)
end
end K72
namespace M03
noncomputable def cn (ns : List Int) (j : Int) : Nat := ns.countP fun n => decide (j < n)
noncomputable def tab (ns : List Int) (g : Nat) : List Int := (List.range g).map fun (j : Nat) => (cn ns j : Int)
theorem tab_len (ns : List Int) (g : Nat) : (tab ns g).length = g := by unfold tab; rw [List.length_map, List.length_range]
theorem tab_succ (ns : List Int) (g : Nat) : tab ns (g + 1) = tab ns g ++ [(cn ns g : Int)] := by
  unfold tab; rw [List.range_succ, List.map_append]; rfl
theorem cn_le (ns : List Int) (j : Int) : cn ns j ≤ ns.length := List.countP_le_length
theorem cn_anti (ns : List Int) {i j : Int} (h : i ≤ j) : cn ns j ≤ cn ns i := by
  unfold cn
  refine List.countP_mono_left fun x _ hx => ?_
  have := of_decide_eq_true hx
  exact decide_eq_true (by omega)
theorem cn_at : ∀ {ns : List Int} {j : Int} {i : Nat}, ns.Pairwise (· ≥ ·) → (h : i < ns.length) → (i < cn ns j ↔ j < ns[i])
  | [], _, _, _, h => absurd h (Nat.not_lt_zero _)
  | n :: r, j, i, hp, h => by
    obtain ⟨p1, p2⟩ := List.pairwise_cons.mp hp
    unfold cn
    rw [List.countP_cons]
    by_cases hn : j < n
    · rw [if_pos (decide_eq_true hn)]
      cases i with
      | zero => simp [hn]
      | succ i =>
        have := cn_at (j := j) p2 (i := i) (by simpa using h)
        unfold cn at this
        simp only [List.getElem_cons_succ]
        rw [← this]
        omega
    · rw [if_neg (by simpa using hn)]
      have hz : r.countP (fun n => decide (j < n)) = 0 := by
        rw [List.countP_eq_zero]
        intro x hx
        have := p1 x hx
        simp; omega
      rw [hz]
      have : (n :: r)[i] ≤ n := by
        cases i with
        | zero => exact Int.le_refl _
        | succ i => simp only [List.getElem_cons_succ]; exact p1 _ (List.getElem_mem _)
      omega
noncomputable def hd (ns : List Int) : Int := ns.headD 0
theorem cn_pos {ns : List Int} (j : Int) (h : j < hd ns) (h0 : 0 ≤ j) : 0 < cn ns j := by
  cases ns with
  | nil => simp [hd] at h; omega
  | cons a r =>
    unfold cn
    rw [List.countP_cons, if_pos (decide_eq_true (show j < a from h))]
    omega
noncomputable def tn (ns : List Int) : List Int := tab ns (hd ns).toNat
end M03
set_option Elab.async false
set_option linter.all false
set_option maxRecDepth 100000
set_option maxHeartbeats 4000000
namespace K72
open PySem L2 M03
section
variable {P : Program} {w : World} {K : PySem.W.Frag} {mg : Str → Option Value} {base : Heap} {f : Addr} {fd : FuncData}
theorem sc_turned : FnScope ["parting", "told", "many", "greatest", "size"] ["parting"] (defScope (top 46)) := ⟨rfl, rfl, rfl, by decide +kernel, rfl, by decide +kernel, by decide +kernel⟩
noncomputable def sp_turned : Sp := fun vs H Q _ => ∃ (a : Addr) (ns : List Int), vs = [.ref a] ∧ H a = some (.tup (ns.map V.int)) ∧ ns.length ≤ 1000 ∧ (∀ n ∈ ns, (1 : Int) ≤ n ∧ n ≤ 1000) ∧ ns.Pairwise (· ≥ ·) ∧ ∀ r H', Same H H' → H' r = some (.tup ((tn ns).map V.int)) → Q (.ref r) H'
theorem ok_turned (F : Fun K "turned" "turned" (top 46) f fd) (m_len : mg "len" = none) (m_range : mg "range" = none) (m_tuple : mg "tuple" = none) : FnOk P w K mg base CX0 1 f fd ["parting"] sp_turned := by
  refine F.okz sc_turned (fun vs H Q E h => ?_) (fun cdv A outer s H vs Q E hr h => ?_)
  · obtain ⟨a, ns, rfl, _⟩ := h; rfl
  obtain ⟨a, ns, rfl, ha, hl, h1, hpw, q⟩ := h
  have nd := sc_turned.nd
  have hu := hr.units
  have hg0 : 0 ≤ hd ns ∧ hd ns ≤ 1000 := by
    cases ns with
    | nil => exact ⟨by decide, by decide⟩
    | cons n r => have := h1 n List.mem_cons_self; exact ⟨by show 0 ≤ n; omega, this.2⟩
  have rest : ∃ t2, ZSs (cxOf CX0 P w K mg base ["parting", "told", "many", "greatest", "size"] "turned" (defScope (top 46)) f cdv A outer s H E).nox ((defBody (top 46)).drop 3) t2 ∧
      ∀ (H8 : Hp) (t : Addr), H t = none → Same H H8 → H8 t = some (.lst []) → t2 { nx := fun _ H' => Q .non H', rt := Q } [some (.ref a), some (.ref t), some (.int ns.length), some (.int (hd ns)), none] H8 := by
    refine ⟨_, (zss_cons (zs_for PassesOwn.never rfl (zi_range2 rfl m_range (za_cons ze_int (za_cons (ze_op op_addP (zn 3) ze_int) za_nil))) (zg_name (i := 4) nd rfl (Or.inl rfl)) (zss_cons (zs_while PassesOwn.never (zt_cmpP op_ltP (ze_ix ix_P (zn 0) (ze_op op_subP (zn 2) ze_int) (fun _ _ => rfl)) (zn 4) (nomark _)) (zss_one (zs_aug (i := 2) nd rfl (Or.inl rfl) ze_int ip_sub)))
      (zss_one (zs_expr (zm_append (zn 1) (za_cons (zn 2) za_nil))))))
      (zss_one (zs_ret (zcb_tuple rfl m_tuple (za_cons (zn 1) za_nil) rfl rfl)))), ?_⟩
    intro H8 t ht g0 ht8
    refine ⟨1, hd ns + 1, rfl, ⟨by decide, by decide, by omega, by omega⟩, ?_⟩
    have e0 : (hd ns + 1 - 1).toNat = (hd ns).toNat := by omega
    rw [e0]
    refine for_range (fun i σ H' => Same H H' ∧ H' t = some (.lst ((tab ns i).map V.int)) ∧ ∃ m : Int, ∃ pp, σ = [some (.ref a), some (.ref t), some (.int m), some (.int (hd ns)), pp] ∧ (cn ns ((i : Int) - 1) : Int) ≤ m ∧ m ≤ ns.length) ⟨g0, ht8, _, none, rfl, by have := cn_le ns (((0 : Nat) : Int) - 1); omega, Int.le_refl _⟩ ?_ ?_
    · rintro i σ H' hi ⟨y, htt, m, pp, rfl, hm1, hm2⟩
      have hca := cn_anti ns (i := (i : Int) - 1) (j := (i : Int)) (by omega)
      have hcp := cn_pos (ns := ns) (i : Int) (by omega) (by omega)
      refine while_by2 (fun k σ H2 => H2 = H' ∧ ∃ m : Int, k = m.toNat ∧ σ = [some (.ref a), some (.ref t), some (.int m), some (.int (hd ns)), some (.int (1 + (i : Int)))] ∧ (cn ns (i : Int) : Int) ≤ m ∧ m ≤ ns.length) _ ⟨rfl, m, rfl, rfl, by omega, hm2⟩ ?_
      rintro _ σ _ ⟨rfl, m, rfl, rfl, k1, k2⟩
      have hj : m.toNat - 1 < ns.length := by omega
      refine ⟨_, .inr (y _ _ ha), .int ns[m.toNat - 1], atI_of (j := m.toNat - 1) (by omega) (getI hj), ?_⟩
      have key := cn_at (j := (i : Int)) hpw hj
      refine iteD (fun c => ?_) (fun c => ?_)
      · refine ⟨_, fun _ _ z => z, .int m, rfl, m, 1, rfl, rfl, (m - 1).toNat, by omega, rfl, m - 1, rfl, rfl, by omega, by omega⟩
      · have e1 : m = (cn ns (i : Int) : Int) := by omega
        subst e1
        refine ⟨tyL htt, _, htt, ?_, ?_⟩
        · rw [List.length_map, tab_len]; exact small1000 (by omega)
        · refine ⟨Same.updN y ht, ?_, _, _, rfl, ?_, k2⟩
          · rw [upd_same, tab_succ, List.map_append]; rfl
          · have e2 : ((i + 1 : Nat) : Int) - 1 = (i : Int) := by omega
            rw [e2]
            exact Int.le_refl _
    · rintro σ H' ⟨y, htt, m, pp, rfl, _⟩
      refine ⟨_, .inl (SqL.of htt), fun r H2 y2 hr2 => ?_⟩
      exact q r H2 (y.trans y2) hr2
  obtain ⟨t2, ht2, rest⟩ := rest
  refine ⟨_, (zss_cons (zs_set (i := 1) nd rfl (Or.inl rfl) (ze_lst za_nil))
      (zss_cons (zs_set (i := 2) nd rfl (Or.inl rfl) (zcb_len rfl m_len (za_cons (zn 0) za_nil) rfl rfl))
      (zss_cons (zs_set (i := 3) nd rfl (Or.inl rfl) (ze_ifExp (zt_truP (zn 0)) (ze_ix ix_P (zn 0) ze_int (fun _ _ => rfl)) ze_int))
      ht2))), ?_⟩
  refine ⟨Nat.zero_le _, fun t ht => ?_⟩
  have g0 : Same H (upd H t (.lst [])) := Same.new ht _
  have ha0 := g0 _ _ ha
  refine ⟨_, .inr ha0, ?_⟩
  rw [List.length_map]
  refine ⟨_, .inr ha0, ?_⟩
  cases ns with
  | nil => exact rest _ t ht g0 upd_same
  | cons n r => exact ⟨_, .inr ha0, .int n, atI_of (j := 0) rfl rfl, rest _ t ht g0 upd_same⟩
end
end K72
set_option Elab.async false
set_option linter.all false
set_option maxRecDepth 100000
set_option maxHeartbeats 4000000
namespace K72
open PySem L2 MRow M27 M80 M17 M12
theorem zss_never {X : Cx} {sts : List Stmt} : ZSs X sts tNever := by with_unfolding_all exact pss_never
inductive Kn where
  | all
  | most (k : Nat)
  | times (m : Nat)
  | rests (m : Nat) (rs : List Int)
  | few (k : Nat)
  | box (k l : Nat)
  | off (d : Nat)
  | own
noncomputable def Kn.Ok : Kn → Prop
  | .all => True
  | .most k => k ≤ 600
  | .times m => 0 < m ∧ m ≤ 1000
  | .rests m _ => 0 < m ∧ m ≤ 1000
  | .few k => k ≤ 600
  | .box k l => k ≤ 600 ∧ l ≤ 600
  | .off d => 1 ≤ d ∧ d ≤ 600
  | .own => True
noncomputable def KnAt (H : Hp) (c : Addr) : Kn → Prop
  | .all => H c = some (.tup [.str "all"])
  | .most k => H c = some (.tup [.str "most", .int k])
  | .times m => H c = some (.tup [.str "times", .int m])
  | .few k => H c = some (.tup [.str "few", .int k])
  | .box k l => H c = some (.tup [.str "box", .int k, .int l])
  | .off d => H c = some (.tup [.str "off", .int d])
  | .own => H c = some (.tup [.str "own"])
  | .rests m rs => ∃ d, H c = some (.tup [.str "rests", .int m, .ref d]) ∧ H d = some (.tup (rs.map V.int))
theorem KnAt.same {H H' : Hp} {c : Addr} {k : Kn} (h : KnAt H c k) (y : Same H H') : KnAt H' c k := by
  cases k with
  | all => exact y _ _ h
  | most k => exact y _ _ h
  | times m => exact y _ _ h
  | rests m rs => obtain ⟨d, h1, h2⟩ := h; exact ⟨d, y _ _ h1, y _ _ h2⟩
  | few k => exact y _ _ h
  | box k l => exact y _ _ h
  | off d => exact y _ _ h
  | own => exact y _ _ h
noncomputable def cf : Kn → Nat → Nat → Int
  | .all, n => PL dl (ups n)
  | .most k, n => PL dl (ups (min k n))
  | .times m, n => below m (ups n) dl
  | .rests m rs, n => PL dl (rsz m rs n)
  | .few k, n => PL dl (ups (min k n))
  | .box k l, n => bx l (min k n)
  | .off d, _ => fow d
  | .own, n => below 2 (odds n) dl
theorem in_ints (p : Int) (ns : List Int) : inV (.int p) (ns.map V.int) = decide (p ∈ ns) := by
  unfold inV
  rw [List.any_map]
  induction ns with
  | nil => rfl
  | cons n r ih =>
    rw [List.any_cons, ih]
    show (n == p || decide (p ∈ r)) = _
    by_cases h : n = p
    · subst h; simp
    · have : (n == p) = false := by simpa using h
      rw [this, Bool.false_or]
      have h' : ¬ p = n := fun e => h e.symm
      simp [h']
theorem flat_ints (ns : List Int) : (ns.map V.int).all flatV = true := by
  rw [List.all_map]
  exact List.all_eq_true.mpr fun _ _ => rfl
theorem ups_nI (n : Nat) : ((List.range n).map fun (k : Nat) => (1 : Int) + (k : Int) * 1).map V.int = nI (ups n) := by
  unfold nI ups
  rw [List.map_map, List.map_map, List.map_map]
  refine List.map_congr_left fun k _ => ?_
  show V.int (1 + (k : Int) * 1) = V.int ((k + 1 : Nat) : Int)
  congr 1
  omega
theorem ups_len (n : Nat) : (ups n).length = n := by unfold ups; simp
theorem rsz_succ (m : Nat) (rs : List Int) (n : Nat) : rsz m rs (n + 1) = rsz m rs n ++ if ((n + 1 : Nat) : Int) % (m : Int) ∈ rs then [n + 1] else [] := by
  unfold rsz
  rw [ups_succ, List.filter_append]
  congr 1
  by_cases h : ((n + 1 : Nat) : Int) % (m : Int) ∈ rs
  · rw [if_pos h, List.filter_cons_of_pos (p := fun s : Nat => decide ((s : Int) % (m : Int) ∈ rs)) (decide_eq_true h)]; rfl
  · rw [if_neg h, List.filter_cons_of_neg (p := fun s : Nat => decide ((s : Int) % (m : Int) ∈ rs)) (by simpa using h)]; rfl
theorem rsz_len (m : Nat) (rs : List Int) (n : Nat) : (rsz m rs n).length ≤ n := by
  have := List.length_filter_le (fun s : Nat => decide ((s : Int) % (m : Int) ∈ rs)) (ups n)
  rw [ups_len] at this
  exact this
theorem odds_nI (n : Nat) : ((List.range ((n + 1) / 2)).map fun (k : Nat) => (1 : Int) + (k : Int) * 2).map V.int = nI (odds n) := by
  unfold nI odds
  rw [List.map_map, List.map_map, List.map_map]
  refine List.map_congr_left fun k _ => ?_
  show V.int (1 + (k : Int) * 2) = V.int ((2 * k + 1 : Nat) : Int)
  congr 1
  omega
theorem size_two (n : Nat) : (Builtin.Range.rangeSize 1 ((n : Int) + 1) 2).toNat = (n + 1) / 2 := by
  rw [size_up (by decide)]
  split <;> omega
theorem size_one (c : Nat) : (Builtin.Range.rangeSize 1 ((c : Int) + 1) 1).toNat = c := by
  rw [size_up (by decide)]
  by_cases h : (1 : Int) < (c : Int) + 1
  · rw [if_pos h, Int.ediv_one]; omega
  · rw [if_neg h]; omega
section
variable {P : Program} {w : World} {K : PySem.W.Frag} {mg : Str → Option Value} {base : Heap} {f : Addr} {fd : FuncData}
theorem sc_ib : FnScope ["k", "l", "most", "row", "i"] ["k", "l", "most"] (defScope (top 36)) := ⟨rfl, rfl, rfl, by decide +kernel, rfl, by decide +kernel, by decide +kernel⟩
noncomputable def sp_ib : Sp := fun vs H Q _ => ∃ k l n : Nat, vs = [.int k, .int l, .int n] ∧ k ≤ 600 ∧ l ≤ 600 ∧ n ≤ 600 ∧ ∀ p H', Same H H' → H' p = some (.lst ((tb (bx l (min k n)) (n + 1)).map V.int)) → Q (.ref p) H'
theorem ok_ib (F : Fun K "in_box" "in_box" (top 36) f fd) (m_min : mg "min" = none) (m_range : mg "range" = none) (F_begun : FnA P w K mg base "begun" 1 ["most"] sp_begun) (F_put_on : FnA P w K mg base "put_on" 1 ["row", "size"] sp_put_on) (F_taken_off : FnA P w K mg base "taken_off" 1 ["row", "size"] sp_to) : FnOk P w K mg base CX0 2 f fd ["k", "l", "most"] sp_ib := by
  refine F.okz sc_ib (fun vs H Q E h => ?_) (fun cdv A outer s H vs Q E hr h => ?_)
  · obtain ⟨k, l, n, rfl, _⟩ := h; rfl
  obtain ⟨k, l, n, rfl, hk, hl, hn, q⟩ := h
  have nd := sc_ib.nd
  refine ⟨_, (zss_cons (zs_set (i := 3) nd rfl (Or.inl rfl) (ze_fn F_begun hr (by decide) rfl (za_cons (zn 2) za_nil)))
      (zss_cons (zs_for PassesOwn.never rfl (zi_range2 rfl m_range (za_cons ze_int (za_cons (ze_op op_addP (zcb_min rfl rfl m_min (za_cons (zn 0) (za_cons (zn 2) za_nil)) rfl rfl) ze_int) za_nil))) (zg_name (i := 4) nd rfl (Or.inl rfl)) (zss_one (zs_set (i := 3) nd rfl (Or.inl rfl) (ze_fn F_taken_off hr (by decide) rfl (za_cons (ze_fn F_put_on hr (by decide) rfl (za_cons (zn 3) (za_cons (zn 4) za_nil))) (za_cons (ze_op op_addP (zn 1) (zn 4)) za_nil))))))
      (zss_one (zs_ret (zn 3))))), ?_⟩
  refine ⟨n, rfl, by omega, fun p0 H1 hp0 y1 hr1 => ?_⟩
  have ec : (if (n : Int) < (k : Int) then (n : Int) else (k : Int)) = ((min k n : Nat) : Int) := by split <;> omega
  refine ⟨1, (if (n : Int) < (k : Int) then (n : Int) else (k : Int)) + 1, rfl, ⟨by omega, by omega, by omega, by omega⟩, ?_⟩
  have eN : ((if (n : Int) < (k : Int) then (n : Int) else (k : Int)) + 1 - 1).toNat = min k n := by omega
  rw [eN]
  refine for_range (fun i σ H' => i ≤ min k n ∧ Same H H' ∧ ∃ (r : Addr) (x4 : Option V), σ = [some (.int k), some (.int l), some (.int n), some (.ref r), x4] ∧ H' r = some (.lst ((tb (bx l i) (n + 1)).map V.int))) ⟨Nat.zero_le _, y1, p0, _, rfl, hr1⟩ ?_ ?_
  · rintro i σ H' hi ⟨_, y, r, x4, rfl, hr'⟩
    have ek : (1 : Int) + (i : Int) = ((i + 1 : Nat) : Int) := by omega
    rw [ek]
    refine ⟨r, i + 1, n + 1, bx l i, rfl, by omega, by omega, by omega, hr', fun p2 H2 _ y2 hp2 => ?_⟩
    refine ⟨p2, l + (i + 1), n + 1, _, congrArg (fun z => [V.ref p2, V.int z]) (Int.natCast_add l (i + 1)).symm, by omega, by omega, by omega, .inl hp2, fun p3 H3 _ y3 hp3 => ?_⟩
    exact ⟨by omega, (y.trans y2).trans y3, p3, _, rfl, by rw [bx_succ]; exact hp3⟩
  · rintro σ H' ⟨_, y, r, x4, rfl, hr'⟩
    exact q r H' y hr'
theorem sc_fb : FnScope ["d", "most", "told", "row", "many", "least", "n"] ["d", "most"] (defScope (top 37)) := ⟨rfl, rfl, rfl, by decide +kernel, rfl, by decide +kernel, by decide +kernel⟩
noncomputable def sp_fb : Sp := fun vs H Q _ => ∃ d n : Nat, vs = [.int d, .int n] ∧ d ≤ 600 ∧ n ≤ 600 ∧ ∀ p H', Same H H' → H' p = some (.lst ((tb (fow d) (n + 1)).map V.int)) → Q (.ref p) H'
theorem ok_fb (F : Fun K "falling_by" "falling_by" (top 37) f fd) (m_range : mg "range" = none) (F_begun : FnA P w K mg base "begun" 1 ["most"] sp_begun) (F_put_on : FnA P w K mg base "put_on" 1 ["row", "size"] sp_put_on) : FnOk P w K mg base CX0 2 f fd ["d", "most"] sp_fb := by
  refine F.okz sc_fb (fun vs H Q E h => ?_) (fun cdv A outer s H vs Q E hr h => ?_)
  · obtain ⟨d, n, rfl, _⟩ := h; rfl
  obtain ⟨dd, n, rfl, hd6, hn, q⟩ := h
  have nd := sc_fb.nd
  refine ⟨_, (zss_cons (zs_set (i := 2) nd rfl (Or.inl rfl) (ze_op op_mulQ (ze_lst (za_cons ze_int za_nil)) (ze_op op_addP (zn 1) ze_int)))
      (zss_cons (zs_set (i := 3) nd rfl (Or.inl rfl) (ze_fn F_begun hr (by decide) rfl (za_cons (zn 1) za_nil)))
      (zss_cons (zs_set (i := 4) nd rfl (Or.inl rfl) ze_int)
      (zss_cons (zs_set (i := 5) nd rfl (Or.inl rfl) ze_int)
      (zss_cons (zs_while PassesOwn.never (zt_cmpP op_leP (zn 5) (zn 1) (nomark _)) (zss_cons (zs_for PassesOwn.never rfl (zi_range2 rfl m_range (za_cons (zn 5) (za_cons (ze_op op_addP (zn 1) ze_int) za_nil))) (zg_name (i := 6) nd rfl (Or.inl rfl)) (zss_one (zs_augS (zn 2) (zn 6) get_list (ze_ix ix_P (zn 3) (ze_op op_subP (zn 6) (zn 5)) (fun _ _ => rfl)) ip_addP set_listP)))
      (zss_cons (zs_aug (i := 5) nd rfl (Or.inl rfl) (ze_op op_addP ze_int (ze_op op_mulQ (zn 0) (zn 4))) ip_addP)
      (zss_cons (zs_aug (i := 4) nd rfl (Or.inl rfl) ze_int ip_addP)
      (zss_one (zs_set (i := 3) nd rfl (Or.inl rfl) (ze_fn F_put_on hr (by decide) rfl (za_cons (zn 3) (za_cons (zn 4) za_nil)))))))))
      (zss_one (zs_ret (zn 2)))))))), ?_⟩
  refine ⟨by show 1 ≤ sizeLine; decide, fun d hd => ?_⟩
  have yd := Same.new hd (.lst [V.int 0])
  have e1 : ((n : Int) + 1).toNat = n + 1 := by omega
  refine ⟨⟨by omega, by omega⟩, .inl ⟨_, upd_same, le_line (by show 1 * ((n : Int) + 1).toNat ≤ 1000; omega), fun T hT => ?_⟩⟩
  rw [rep_flat, e1]
  have yT := Same.new hT (.lst ((List.replicate (n + 1) (0 : Int)).map V.int))
  have hTH : H T = none := fresh_back yd hT
  have yT2 := yd.trans yT
  have gT : upd (upd H d (.lst [V.int 0])) T (.lst ((List.replicate (n + 1) (0 : Int)).map V.int)) T = some (.lst ((tb (fq dd 0) (n + 1)).map V.int)) := by
    rw [upd_same]
    congr 3
    show _ = (List.range (n + 1)).map fun _ => (0 : Int)
    rw [List.map_const', List.length_range]
  generalize upd (upd H d (.lst [V.int 0])) T (.lst ((List.replicate (n + 1) (0 : Int)).map V.int)) = H1 at yT yT2 gT
  refine ⟨n, rfl, by omega, fun R0 H2 hR0 y2 hR2 => ?_⟩
  have RT : R0 ≠ T := fun z => by rw [z, gT] at hR0; cases hR0
  refine while_by2 (fun m σ H' => ∃ (k : Nat) (R : Addr) (x6 : Option V), m = n + 1 - Ls dd k ∧ k ≤ 602 ∧ Same H H' ∧ R ≠ T ∧ H' T = some (.lst ((tb (fq dd k) (n + 1)).map V.int)) ∧ H' R = some (.lst ((tb (PL dl (ups k)) (n + 1)).map V.int)) ∧ σ = [some (.int dd), some (.int n), some (.ref T), some (.ref R), some (.int k), some (.int (Ls dd k)), x6]) (n + 1)
    ⟨0, R0, none, rfl, by decide, yT2.trans y2, RT, y2 _ _ gT, hR2, rfl⟩ ?_
  rintro m σ H' ⟨k, R, x6, rfl, hk, y, RT', hT', hR', rfl⟩
  have lk := Ls_ge dd k
  refine iteD (fun c => ?_) (fun c => ?_)
  · have hl : Ls dd k ≤ n := by have c' : (Ls dd k : Int) ≤ (n : Int) := c; omega
    refine ⟨fun σ' H' => ∃ m', m' < n + 1 - Ls dd k ∧ ∃ (k : Nat) (R : Addr) (x6 : Option V), m' = n + 1 - Ls dd k ∧ k ≤ 602 ∧ Same H H' ∧ R ≠ T ∧ H' T = some (.lst ((tb (fq dd k) (n + 1)).map V.int)) ∧ H' R = some (.lst ((tb (PL dl (ups k)) (n + 1)).map V.int)) ∧ σ' = [some (.int dd), some (.int n), some (.ref T), some (.ref R), some (.int k), some (.int (Ls dd k)), x6], fun σ' H' h => h, ?_⟩
    have eft : ∀ j, fq dd (k + 1) j = fq dd k j + if Ls dd k ≤ j then PL dl (ups k) (j - Ls dd k) else 0 := fun j => rfl
    have el1 : Ls dd (k + 1) = Ls dd k + 1 + dd * k := rfl
    generalize Ls dd k = l at hl lk eft el1
    generalize fq dd k = ft at hT' eft
    generalize eft2 : fq dd (k + 1) = ft2 at eft
    refine ⟨(l : Int), (n : Int) + 1, rfl, ⟨by omega, by omega, by omega, by omega⟩, ?_⟩
    have eN : ((n : Int) + 1 - (l : Int)).toNat = n + 1 - l := by omega
    rw [eN]
    refine for_range (fun i σ H' => i ≤ n + 1 - l ∧ Same H H' ∧ H' T = some (.lst ((tb (up ft ft2 (l + i)) (n + 1)).map V.int)) ∧ H' R = some (.lst ((tb (PL dl (ups k)) (n + 1)).map V.int)) ∧ ∃ x6, σ = [some (.int dd), some (.int n), some (.ref T), some (.ref R), some (.int k), some (.int l), x6]) ⟨Nat.zero_le _, y, ?_, hR', _, rfl⟩ ?_ ?_
    · rw [hT']
      congr 3
      refine tb_ext fun j _ => ?_
      unfold up
      rw [Nat.add_zero]
      split
      · rw [eft, if_neg (by omega), Int.add_zero]
      · rfl
    · rintro i σ H3 hi ⟨_, y3, hT3, hR3, x6, rfl⟩
      have e2 : ((l : Int) + (i : Int)).toNat = l + i := by omega
      have hli : l + i < n + 1 := by omega
      refine ⟨_, .int (up ft ft2 (l + i) (l + i)), SqL.of hT3, by omega, by rw [e2, List.getElem?_map, tb_get hli]; rfl, ?_⟩
      refine ⟨_, .inl (SqL.of hR3), .int (PL dl (ups k) i), atI_of (j := i) (by omega) (by rw [List.getElem?_map, tb_get (by omega)]; rfl), ?_⟩
      refine ⟨_, hT3, by omega, by rw [e2, List.length_map, tb_len]; exact hli, by omega, Same.updN y3 hTH, ?_, by rw [upd_ne RT']; exact hR3, _, rfl⟩
      rw [upd_same, e2]
      have e3 : up ft ft2 (l + i) (l + i) + PL dl (ups k) i = ft2 (l + i) := by
        unfold up
        rw [if_neg (Nat.lt_irrefl _), eft, if_pos (by omega), Nat.add_sub_cancel_left]
      dsimp only
      rw [e3, ← List.map_set, tb_set hli]
      rfl
    · rintro σ H3 ⟨_, y3, hT3, hR3, x6, rfl⟩
      rw [up_all _ _ (by omega)] at hT3
      refine ⟨_, rfl, mulL (by omega) (by omega), ?_⟩
      refine ⟨_, rfl, ?_⟩
      have ek : (k : Int) + 1 = ((k + 1 : Nat) : Int) := by omega
      refine ⟨R, k + 1, n + 1, PL dl (ups k), by rw [← ek], by omega, by omega, by omega, hR3, fun R2 H4 hR2' y4 hR4 => ?_⟩
      have e5 : (l : Int) + (1 + (dd : Int) * (k : Int)) = ((Ls dd (k + 1) : Nat) : Int) := by rw [el1, Int.natCast_add, Int.natCast_add, Int.natCast_mul]; omega
      refine ⟨n + 1 - Ls dd (k + 1), by rw [el1]; omega, k + 1, R2, x6, rfl, by omega, y3.trans y4, (fun z => by rw [z, hT3] at hR2'; cases hR2'), by rw [eft2]; exact y4 _ _ hT3, by rw [R_succ]; exact hR4, ?_⟩
      show [some (V.int dd), some (.int n), some (.ref T), some (.ref R2), some (.int ((k : Int) + 1)), some (.int ((l : Int) + (1 + (dd : Int) * (k : Int)))), x6] = _
      rw [e5, ek]
  · refine q T H' y ?_
    rw [hT']
    congr 3
    exact tb_ext fun j hj => fow_is (n := n) (by have c' : ¬ ((Ls dd k : Nat) : Int) ≤ (n : Int) := c; omega) hk (by omega)
theorem sc_counted : FnScope ["kind", "most", "word"] ["kind", "most"] (defScope (top 38)) := ⟨rfl, rfl, rfl, by decide +kernel, rfl, by decide +kernel, by decide +kernel⟩
noncomputable def sp_counted : Sp := fun vs H Q _ => ∃ (c : Addr) (n : Nat) (k : Kn), vs = [.ref c, .int n] ∧ n ≤ 600 ∧ KnAt H c k ∧ k.Ok ∧ ∀ p H', Same H H' → H' p = some (.lst ((tb (cf k n) (n + 1)).map V.int)) → Q (.ref p) H'
theorem ok_counted (F : Fun K "counted" "counted" (top 38) f fd) (m_list : mg "list" = none) (m_min : mg "min" = none) (m_range : mg "range" = none) (F_falling_by : FnA P w K mg base "falling_by" 2 ["d", "most"] sp_fb) (F_in_box : FnA P w K mg base "in_box" 2 ["k", "l", "most"] sp_ib) (F_of_sizes : FnA P w K mg base "of_sizes" 2 ["some", "most"] sp_of_sizes) (F_of_sizes_below : FnA P w K mg base "of_sizes_below" 2 ["some", "m", "most"] sp_osb) : FnOk P w K mg base CX0 3 f fd ["kind", "most"] sp_counted := by
  refine F.okz sc_counted (fun vs H Q E h => ?_) (fun cdv A outer s H vs Q E hr h => ?_)
  · obtain ⟨k, n, kd, rfl, _⟩ := h; rfl
  obtain ⟨c, n, k, rfl, hn, hk, hok, q⟩ := h
  have nd := sc_counted.nd
  have hu := hr.units
  cases k with
  | all =>
    refine ⟨_, (zss_cons (zs_set (i := 2) nd rfl (Or.inl rfl) (ze_ix ix_P (zn 0) ze_int (fun _ _ => rfl)))
      (zss_cons (zs_if (zt_cmpP (op_eqD hu) (zn 2) ze_str (nomark _)) zss_never zss_nil)
      (zss_cons (zs_if (zt_cmpP (op_eqD hu) (zn 2) ze_str (nomark _)) zss_never zss_nil)
      (zss_cons (zs_if (zt_cmpP (op_eqD hu) (zn 2) ze_str (nomark _)) zss_never zss_nil)
      (zss_cons (zs_if (zt_cmpP (op_eqD hu) (zn 2) ze_str (nomark _)) zss_never zss_nil)
      (zss_cons (zs_if (zt_cmpP (op_eqD hu) (zn 2) ze_str (nomark _)) zss_never zss_nil)
      (zss_cons (zs_if (zt_cmpP (op_eqD hu) (zn 2) ze_str (nomark _)) (zss_one (zs_ret (ze_fn F_of_sizes hr (by decide) rfl (za_cons (zcb_lrange rfl rfl m_list (za_cons (zcb_range rfl m_range (za_cons ze_int (za_cons (ze_op op_addP (zn 1) ze_int) za_nil)) rfl rfl) za_nil) rfl rfl) (za_cons (zn 1) za_nil))))) zss_nil)
      zss_never))))))), ?_⟩
    refine ⟨_, .inr hk, .str "all", rfl, ?_⟩
    refine fun rp hrp => ?_
    have g1 := Same.new hrp (rngO rp 1 ((n : Int) + 1) 1)
    refine ⟨1, (n : Int) + 1, 1, upd_same, small_up (by decide) (by decide) (by decide) (by decide) (by omega) (by omega), by decide, by rw [size_one]; omega, fun l hl => ?_⟩
    rw [size_one, ups_nI]
    have g2 := Same.new hl (.lst (nI (ups n)))
    exact ⟨l, ups n, n, rfl, fun x hx => by have := ups_pos hx; omega, hn, upd_same, fun p H' y hp => q p H' ((g1.trans g2).trans y) hp⟩
  | times m =>
    refine ⟨_, (zss_cons (zs_set (i := 2) nd rfl (Or.inl rfl) (ze_ix ix_P (zn 0) ze_int (fun _ _ => rfl)))
      (zss_cons (zs_if (zt_cmpP (op_eqD hu) (zn 2) ze_str (nomark _)) zss_never zss_nil)
      (zss_cons (zs_if (zt_cmpP (op_eqD hu) (zn 2) ze_str (nomark _)) zss_never zss_nil)
      (zss_cons (zs_if (zt_cmpP (op_eqD hu) (zn 2) ze_str (nomark _)) zss_never zss_nil)
      (zss_cons (zs_if (zt_cmpP (op_eqD hu) (zn 2) ze_str (nomark _)) (zss_one (zs_ret (ze_fn F_of_sizes_below hr (by decide) rfl (za_cons (zcb_lrange rfl rfl m_list (za_cons (zcb_range rfl m_range (za_cons ze_int (za_cons (ze_op op_addP (zn 1) ze_int) za_nil)) rfl rfl) za_nil) rfl rfl) (za_cons (ze_ix ix_P (zn 0) ze_int (fun _ _ => rfl)) (za_cons (zn 1) za_nil)))))) zss_nil)
      (zss_cons (zs_if (zt_cmpP (op_eqD hu) (zn 2) ze_str (nomark _)) zss_never zss_nil)
      (zss_cons (zs_if (zt_cmpP (op_eqD hu) (zn 2) ze_str (nomark _)) zss_never zss_nil)
      zss_never))))))), ?_⟩
    refine ⟨_, .inr hk, .str "times", rfl, ?_⟩
    refine fun rp hrp => ?_
    have g1 := Same.new hrp (rngO rp 1 ((n : Int) + 1) 1)
    refine ⟨1, (n : Int) + 1, 1, upd_same, small_up (by decide) (by decide) (by decide) (by decide) (by omega) (by omega), by decide, by rw [size_one]; omega, fun l hl => ?_⟩
    rw [size_one, ups_nI]
    have g2 := Same.new hl (.lst (nI (ups n)))
    refine ⟨_, .inr ((g1.trans g2) _ _ hk), .int m, rfl, ?_⟩
    exact ⟨l, ups n, m, n, rfl, hok.1, hok.2, fun x hx => by have := ups_pos hx; omega, hn, upd_same, fun p H' y hp => q p H' ((g1.trans g2).trans y) hp⟩
  | rests m rs =>
    obtain ⟨d, hk, hd⟩ := hk
    refine ⟨_, (zss_cons (zs_set (i := 2) nd rfl (Or.inl rfl) (ze_ix ix_P (zn 0) ze_int (fun _ _ => rfl)))
      (zss_cons (zs_if (zt_cmpP (op_eqD hu) (zn 2) ze_str (nomark _)) zss_never zss_nil)
      (zss_cons (zs_if (zt_cmpP (op_eqD hu) (zn 2) ze_str (nomark _)) zss_never zss_nil)
      (zss_cons (zs_if (zt_cmpP (op_eqD hu) (zn 2) ze_str (nomark _)) zss_never zss_nil)
      (zss_cons (zs_if (zt_cmpP (op_eqD hu) (zn 2) ze_str (nomark _)) zss_never zss_nil)
      (zss_cons (zs_if (zt_cmpP (op_eqD hu) (zn 2) ze_str (nomark _)) (zss_one (zs_ret (ze_fn F_of_sizes hr (by decide) rfl (za_cons (ze_comp ["size"] [("kind", 0)] rfl ⟨rfl, by decide +kernel, by decide +kernel, rfl, rfl⟩ (zi_range2 rfl m_range (za_cons ze_int (za_cons (ze_op op_addP (zn 1) ze_int) za_nil))) kpg_name (fun _ _ _ _ => zg_name (i := 0) (show List.Nodup (["size", "kind"] : List Str) by decide +kernel) rfl (Or.inl rfl)) (fun _ _ _ _ => (zif_one (zt_cmpP (op_in_seq' rfl) (ze_op op_modP (zn 0) (ze_ix (ix_P' rfl) (zn 1) ze_int (fun _ _ => rfl))) (ze_ix (ix_P' rfl) (zn 1) ze_int (fun _ _ => rfl)) (by with_unfolding_all rfl)))) (fun _ _ _ _ => (zn 0))) (za_cons (zn 1) za_nil))))) zss_nil)
      (zss_cons (zs_if (zt_cmpP (op_eqD hu) (zn 2) ze_str (nomark _)) zss_never zss_nil)
      zss_never))))))), ?_⟩
    refine ⟨_, .inr hk, .str "rests", rfl, ?_⟩
    refine ⟨1, (n : Int) + 1, rfl, ⟨by omega, by omega, by omega, by omega⟩, ?_⟩
    have eN : ((n : Int) + 1 - 1).toNat = n := by omega
    rw [eN]
    refine cmp_range (fun i zs H' => i ≤ n ∧ H' = H ∧ zs = nI (rsz m rs i)) ⟨Nat.zero_le _, rfl, rfl⟩ ?_ ?_
    · rintro i zs H' hi ⟨_, rfl, rfl⟩
      have e1 : (1 : Int) + (i : Int) = ((i + 1 : Nat) : Int) := by omega
      have := rsz_len m rs i
      refine ⟨by rw [nI_len]; exact small1000 (by omega), ?_⟩
      refine ⟨_, .inr hk, .int m, rfl, (show (0 : Int) < (m : Int) by have := hok.1; omega), ?_⟩
      refine ⟨_, .inr hk, .ref d, rfl, ?_⟩
      refine ⟨d, _, rfl, .inr (SqT.of hd), rfl, flat_ints rs, ?_⟩
      rw [in_ints, e1]
      show if (decide (((i + 1 : Nat) : Int) % (m : Int) ∈ rs)) = true then _ else _
      refine iteB (fun c => ?_) (fun c => ?_)
      · refine ⟨by omega, rfl, ?_⟩
        rw [rsz_succ, if_pos (of_decide_eq_true c)]
        unfold nI
        rw [List.map_append, List.map_append]
        rfl
      · refine ⟨by omega, rfl, ?_⟩
        rw [rsz_succ, if_neg (by simpa using c), List.append_nil]
    · rintro zs H' ⟨_, rfl, rfl⟩ D hD
      exact ⟨D, rsz m rs n, n, rfl, fun x hx => by have := ups_pos (List.mem_filter.mp hx).1; omega, hn, upd_same, fun p H2 y hp => q p H2 ((Same.new hD _).trans y) hp⟩
  | most k =>
    refine ⟨_, (zss_cons (zs_set (i := 2) nd rfl (Or.inl rfl) (ze_ix ix_P (zn 0) ze_int (fun _ _ => rfl)))
      (zss_cons (zs_if (zt_cmpP (op_eqD hu) (zn 2) ze_str (nomark _)) zss_never zss_nil)
      (zss_cons (zs_if (zt_cmpP (op_eqD hu) (zn 2) ze_str (nomark _)) zss_never zss_nil)
      (zss_cons (zs_if (zt_cmpP (op_eqD hu) (zn 2) ze_str (nomark _)) zss_never zss_nil)
      (zss_cons (zs_if (zt_cmpP (op_eqD hu) (zn 2) ze_str (nomark _)) zss_never zss_nil)
      (zss_cons (zs_if (zt_cmpP (op_eqD hu) (zn 2) ze_str (nomark _)) zss_never zss_nil)
      (zss_cons (zs_if (zt_cmpP (op_eqD hu) (zn 2) ze_str (nomark _)) zss_never zss_nil)
      (zss_one (zs_ret (ze_fn F_of_sizes hr (by decide) rfl (za_cons (zcb_lrange rfl rfl m_list (za_cons (zcb_range rfl m_range (za_cons ze_int (za_cons (ze_op op_addP (zcb_min rfl rfl m_min (za_cons (ze_ix ix_P (zn 0) ze_int (fun _ _ => rfl)) (za_cons (zn 1) za_nil)) rfl rfl) ze_int) za_nil)) rfl rfl) za_nil) rfl rfl) (za_cons (zn 1) za_nil)))))))))))), ?_⟩
    refine ⟨_, .inr hk, .str "most", rfl, ?_⟩
    refine ⟨_, .inr hk, .int k, rfl, ?_⟩
    have ec : (if (n : Int) < (k : Int) then (n : Int) else (k : Int)) = ((min k n : Nat) : Int) := by split <;> omega
    refine fun rp hrp => ?_
    have g1 := Same.new hrp (rngO rp 1 ((if (n : Int) < (k : Int) then (n : Int) else (k : Int)) + 1) 1)
    refine ⟨1, (if (n : Int) < (k : Int) then (n : Int) else (k : Int)) + 1, 1, upd_same, by rw [ec]; exact small_up (by decide) (by decide) (by decide) (by decide) (by omega) (by omega), by decide, by rw [ec, size_one]; omega, fun l hl => ?_⟩
    rw [ec] at g1 hl
    rw [ec, size_one, ups_nI]
    have g2 := Same.new hl (.lst (nI (ups (min k n))))
    exact ⟨l, ups (min k n), n, rfl, fun x hx => by have := ups_pos hx; omega, hn, upd_same, fun p H' y hp => q p H' ((g1.trans g2).trans y) hp⟩
  | few k =>
    refine ⟨_, (zss_cons (zs_set (i := 2) nd rfl (Or.inl rfl) (ze_ix ix_P (zn 0) ze_int (fun _ _ => rfl)))
      (zss_cons (zs_if (zt_cmpP (op_eqD hu) (zn 2) ze_str (nomark _)) zss_never zss_nil)
      (zss_cons (zs_if (zt_cmpP (op_eqD hu) (zn 2) ze_str (nomark _)) zss_never zss_nil)
      (zss_cons (zs_if (zt_cmpP (op_eqD hu) (zn 2) ze_str (nomark _)) zss_never zss_nil)
      (zss_cons (zs_if (zt_cmpP (op_eqD hu) (zn 2) ze_str (nomark _)) zss_never zss_nil)
      (zss_cons (zs_if (zt_cmpP (op_eqD hu) (zn 2) ze_str (nomark _)) zss_never zss_nil)
      (zss_cons (zs_if (zt_cmpP (op_eqD hu) (zn 2) ze_str (nomark _)) zss_never zss_nil)
      (zss_one (zs_ret (ze_fn F_of_sizes hr (by decide) rfl (za_cons (zcb_lrange rfl rfl m_list (za_cons (zcb_range rfl m_range (za_cons ze_int (za_cons (ze_op op_addP (zcb_min rfl rfl m_min (za_cons (ze_ix ix_P (zn 0) ze_int (fun _ _ => rfl)) (za_cons (zn 1) za_nil)) rfl rfl) ze_int) za_nil)) rfl rfl) za_nil) rfl rfl) (za_cons (zn 1) za_nil)))))))))))), ?_⟩
    refine ⟨_, .inr hk, .str "few", rfl, ?_⟩
    refine ⟨_, .inr hk, .int k, rfl, ?_⟩
    have ec : (if (n : Int) < (k : Int) then (n : Int) else (k : Int)) = ((min k n : Nat) : Int) := by split <;> omega
    refine fun rp hrp => ?_
    have g1 := Same.new hrp (rngO rp 1 ((if (n : Int) < (k : Int) then (n : Int) else (k : Int)) + 1) 1)
    refine ⟨1, (if (n : Int) < (k : Int) then (n : Int) else (k : Int)) + 1, 1, upd_same, by rw [ec]; exact small_up (by decide) (by decide) (by decide) (by decide) (by omega) (by omega), by decide, by rw [ec, size_one]; omega, fun l hl => ?_⟩
    rw [ec] at g1 hl
    rw [ec, size_one, ups_nI]
    have g2 := Same.new hl (.lst (nI (ups (min k n))))
    exact ⟨l, ups (min k n), n, rfl, fun x hx => by have := ups_pos hx; omega, hn, upd_same, fun p H' y hp => q p H' ((g1.trans g2).trans y) hp⟩
  | box k l =>
    refine ⟨_, (zss_cons (zs_set (i := 2) nd rfl (Or.inl rfl) (ze_ix ix_P (zn 0) ze_int (fun _ _ => rfl)))
      (zss_cons (zs_if (zt_cmpP (op_eqD hu) (zn 2) ze_str (nomark _)) (zss_one (zs_ret (ze_fn F_in_box hr (by decide) rfl (za_cons (ze_ix ix_P (zn 0) ze_int (fun _ _ => rfl)) (za_cons (ze_ix ix_P (zn 0) ze_int (fun _ _ => rfl)) (za_cons (zn 1) za_nil)))))) zss_nil)
      (zss_cons (zs_if (zt_cmpP (op_eqD hu) (zn 2) ze_str (nomark _)) zss_never zss_nil)
      (zss_cons (zs_if (zt_cmpP (op_eqD hu) (zn 2) ze_str (nomark _)) zss_never zss_nil)
      (zss_cons (zs_if (zt_cmpP (op_eqD hu) (zn 2) ze_str (nomark _)) zss_never zss_nil)
      (zss_cons (zs_if (zt_cmpP (op_eqD hu) (zn 2) ze_str (nomark _)) zss_never zss_nil)
      (zss_cons (zs_if (zt_cmpP (op_eqD hu) (zn 2) ze_str (nomark _)) zss_never zss_nil)
      zss_never))))))), ?_⟩
    refine ⟨_, .inr hk, .str "box", rfl, ?_⟩
    refine ⟨_, .inr hk, .int k, rfl, ?_⟩
    refine ⟨_, .inr hk, .int l, rfl, ?_⟩
    exact ⟨k, l, n, rfl, hok.1, hok.2, hn, q⟩
  | off d =>
    refine ⟨_, (zss_cons (zs_set (i := 2) nd rfl (Or.inl rfl) (ze_ix ix_P (zn 0) ze_int (fun _ _ => rfl)))
      (zss_cons (zs_if (zt_cmpP (op_eqD hu) (zn 2) ze_str (nomark _)) zss_never zss_nil)
      (zss_cons (zs_if (zt_cmpP (op_eqD hu) (zn 2) ze_str (nomark _)) (zss_one (zs_ret (ze_fn F_falling_by hr (by decide) rfl (za_cons (ze_ix ix_P (zn 0) ze_int (fun _ _ => rfl)) (za_cons (zn 1) za_nil))))) zss_nil)
      (zss_cons (zs_if (zt_cmpP (op_eqD hu) (zn 2) ze_str (nomark _)) zss_never zss_nil)
      (zss_cons (zs_if (zt_cmpP (op_eqD hu) (zn 2) ze_str (nomark _)) zss_never zss_nil)
      (zss_cons (zs_if (zt_cmpP (op_eqD hu) (zn 2) ze_str (nomark _)) zss_never zss_nil)
      (zss_cons (zs_if (zt_cmpP (op_eqD hu) (zn 2) ze_str (nomark _)) zss_never zss_nil)
      zss_never))))))), ?_⟩
    refine ⟨_, .inr hk, .str "off", rfl, ?_⟩
    refine ⟨_, .inr hk, .int d, rfl, ?_⟩
    exact ⟨d, n, rfl, hok.2, hn, q⟩
  | own =>
    refine ⟨_, (zss_cons (zs_set (i := 2) nd rfl (Or.inl rfl) (ze_ix ix_P (zn 0) ze_int (fun _ _ => rfl)))
      (zss_cons (zs_if (zt_cmpP (op_eqD hu) (zn 2) ze_str (nomark _)) zss_never zss_nil)
      (zss_cons (zs_if (zt_cmpP (op_eqD hu) (zn 2) ze_str (nomark _)) zss_never zss_nil)
      (zss_cons (zs_if (zt_cmpP (op_eqD hu) (zn 2) ze_str (nomark _)) (zss_one (zs_ret (ze_fn F_of_sizes_below hr (by decide) rfl (za_cons (zcb_lrange rfl rfl m_list (za_cons (zcb_range rfl m_range (za_cons ze_int (za_cons (ze_op op_addP (zn 1) ze_int) (za_cons ze_int za_nil))) rfl rfl) za_nil) rfl rfl) (za_cons ze_int (za_cons (zn 1) za_nil)))))) zss_nil)
      (zss_cons (zs_if (zt_cmpP (op_eqD hu) (zn 2) ze_str (nomark _)) zss_never zss_nil)
      (zss_cons (zs_if (zt_cmpP (op_eqD hu) (zn 2) ze_str (nomark _)) zss_never zss_nil)
      (zss_cons (zs_if (zt_cmpP (op_eqD hu) (zn 2) ze_str (nomark _)) zss_never zss_nil)
      zss_never))))))), ?_⟩
    refine ⟨_, .inr hk, .str "own", rfl, ?_⟩
    refine ⟨by decide, fun rp hrp => ?_⟩
    have g1 := Same.new hrp (rngO rp 1 ((n : Int) + 1) 2)
    refine ⟨1, (n : Int) + 1, 2, upd_same, small_up (by decide) (by decide) (by decide) (by decide) (by omega) (by omega), by decide, by rw [size_two]; omega, fun l hl => ?_⟩
    rw [size_two, odds_nI]
    have g2 := Same.new hl (.lst (nI (odds n)))
    exact ⟨l, odds n, 2, n, rfl, by decide, by decide, fun x hx => by have := odds_pos hx; omega, hn, upd_same, fun p H' y hp => q p H' ((g1.trans g2).trans y) hp⟩
theorem sc_counts : FnScope ["kind", "most"] ["kind", "most"] (defScope (top 39)) := ⟨rfl, rfl, rfl, by decide +kernel, rfl, by decide +kernel, by decide +kernel⟩
noncomputable def sp_counts : Sp := fun vs H Q _ => ∃ (c : Addr) (n : Nat) (k : Kn), vs = [.ref c, .int n] ∧ n ≤ 600 ∧ KnAt H c k ∧ k.Ok ∧ ∀ p H', Same H H' → H' p = some (.tup ((tb (cf k n) (n + 1)).map V.int)) → Q (.ref p) H'
theorem ok_counts (F : Fun K "counts" "counts" (top 39) f fd) (m_tuple : mg "tuple" = none) (F_counted : FnA P w K mg base "counted" 3 ["kind", "most"] sp_counted) : FnOk P w K mg base CX0 4 f fd ["kind", "most"] sp_counts := by
  refine F.okz sc_counts (fun vs H Q E h => ?_) (fun cdv A outer s H vs Q E hr h => ?_)
  · obtain ⟨k, n, kd, rfl, _⟩ := h; rfl
  obtain ⟨c, n, k, rfl, hn, hk, hok, q⟩ := h
  have nd := sc_counts.nd
  refine ⟨_, (zss_one (zs_ret (zcb_tuple rfl m_tuple (za_cons (ze_fn F_counted hr (by decide) rfl (za_cons (zn 0) (za_cons (zn 1) za_nil))) za_nil) rfl rfl))), ?_⟩
  refine ⟨c, n, k, rfl, hn, hk, hok, fun p H1 y1 hp1 => ?_⟩
  exact ⟨_, .inl (SqL.of hp1), fun r2 H2 y2 hr2 => q r2 H2 (y1.trans y2) hr2⟩
end
end K72
namespace M02
noncomputable def rstep (acc : List (Int × Int)) (p : Int) : List (Int × Int) := match acc.getLast? with
  | some q => if q.1 = p then acc.set (acc.length - 1) (p, q.2 + 1) else acc ++ [(p, 1)]
  | none => acc ++ [(p, 1)]
noncomputable def runs (ns : List Int) : List (Int × Int) := ns.foldl rstep []
theorem runs_snoc (ns : List Int) (p : Int) : runs (ns ++ [p]) = rstep (runs ns) p := by unfold runs; rw [List.foldl_append]; rfl
theorem last_split {α : Type} {l : List α} {q : α} (h : l.getLast? = some q) : ∃ i, l = i ++ [q] := by
  refine ⟨l.dropLast, ?_⟩
  have hne : l ≠ [] := by intro e; subst e; cases h
  have e := List.dropLast_concat_getLast hne
  rw [List.getLast?_eq_some_getLast hne] at h
  cases h
  exact e.symm
theorem set_last {α : Type} (i : List α) (q x : α) : (i ++ [q]).set ((i ++ [q]).length - 1) x = i ++ [x] := by
  rw [List.length_append, List.length_singleton, Nat.add_sub_cancel, List.set_append_right _ _ (Nat.le_refl _), Nat.sub_self]
  rfl
noncomputable def rep (q : Int × Int) : List Int := List.replicate q.2.toNat q.1
structure Ok (ns : List Int) (ps : List (Int × Int)) : Prop where
  pw : ps.Pairwise fun a b => a.1 > b.1
  mem : ∀ s c, (s, c) ∈ ps ↔ c = (ns.count s : Int) ∧ 0 < ns.count s
  flat : (ps.map rep).flatten = ns
  last : ns.getLast? = ps.getLast?.map (·.1)
theorem ok_runs : ∀ rs : List Int, rs.reverse.Pairwise (· ≥ ·) → Ok rs.reverse (runs rs.reverse)
  | [], _ => ⟨.nil, fun s c => by simp [runs], rfl, rfl⟩
  | p :: rs, h => by
    rw [List.reverse_cons] at h ⊢
    obtain ⟨h1, _, h3⟩ := List.pairwise_append.mp h
    have ih := ok_runs rs h1
    have hp : ∀ x ∈ rs.reverse, x ≥ p := fun x hx => h3 x hx p (by simp)
    generalize rs.reverse = ns at *
    rw [runs_snoc]
    generalize runs ns = ps at ih
    unfold rstep
    cases e : ps.getLast? with
    | none =>
      have e0 : ps = [] := List.getLast?_eq_none_iff.mp e
      subst e0
      have en : ns = [] := by have := ih.flat; simpa using this.symm
      subst en
      refine ⟨by simp, fun s c => ?_, rfl, rfl⟩
      simp only [List.nil_append, List.mem_singleton, Prod.mk.injEq, List.count_singleton, beq_iff_eq]
      by_cases hs : p = s
      · subst hs; simp
      · simp [hs]; intro z; exact absurd z.symm hs
    | some q =>
      obtain ⟨i, rfl⟩ := last_split e
      have hl : ns.getLast? = some q.1 := by rw [ih.last, e]; rfl
      have hpw := List.pairwise_append.mp ih.pw
      dsimp only
      by_cases hq : q.1 = p
      · rw [if_pos hq, set_last]
        have hc := (ih.mem q.1 q.2).mp (by simp)
        refine ⟨?_, fun s c => ?_, ?_, ?_⟩
        · rw [List.pairwise_append]
          refine ⟨hpw.1, by simp, fun a ha b hb => ?_⟩
          have : b = (p, q.2 + 1) := by simpa using hb
          subst this
          have := hpw.2.2 a ha q (by simp)
          show a.1 > p
          omega
        · rw [List.count_append, List.count_singleton]
          by_cases hs : p = s
          · subst hs
            simp only [beq_self_eq_true, if_true]
            constructor
            · intro z
              rcases List.mem_append.mp z with z | z
              · have := hpw.2.2 _ z q (by simp)
                simp only at this
                omega
              · have : c = q.2 + 1 := by simpa using z
                rw [hq] at hc
                omega
            · intro z
              refine List.mem_append.mpr (.inr ?_)
              rw [hq] at hc
              have : c = q.2 + 1 := by omega
              simp [this]
          · have e1 : (p == s) = false := by simpa using hs
            simp only [e1, Bool.false_eq_true, if_false, Nat.add_zero]
            rw [← ih.mem s c]
            constructor
            · intro z
              rcases List.mem_append.mp z with z | z
              · exact List.mem_append.mpr (.inl z)
              · have : s = p := by have := List.mem_singleton.mp z; exact congrArg Prod.fst this
                exact absurd this.symm hs
            · intro z
              rcases List.mem_append.mp z with z | z
              · exact List.mem_append.mpr (.inl z)
              · have : s = q.1 := by have := List.mem_singleton.mp z; exact congrArg Prod.fst this
                exact absurd (hq.symm.trans this.symm) hs
        · have := ih.flat
          rw [List.map_append, List.flatten_append] at this ⊢
          rw [← this]
          simp only [List.map_cons, List.map_nil, List.flatten_cons, List.flatten_nil, List.append_nil, List.append_assoc]
          congr 1
          show List.replicate (q.2 + 1).toNat p = List.replicate q.2.toNat q.1 ++ [p]
          have e2 : (q.2 + 1).toNat = q.2.toNat + 1 := by omega
          rw [e2, hq, List.replicate_succ']
        · simp
      · rw [if_neg hq]
        have hlt : ∀ a ∈ i ++ [q], a.1 > p := fun a ha => by
          have h0 : p < q.1 := by
            have : q.1 ∈ ns := List.mem_of_getLast? hl
            have := hp _ this
            omega
          rcases List.mem_append.mp ha with ha | ha
          · have := hpw.2.2 a ha q (by simp); omega
          · have : a = q := by simpa using ha
            subst this; exact h0
        have hz : ns.count p = 0 := by
          cases hc : ns.count p with
          | zero => rfl
          | succ k =>
            have := (ih.mem p (ns.count p)).mpr ⟨rfl, by omega⟩
            have := hlt _ this
            simp only at this
            omega
        refine ⟨?_, fun s c => ?_, ?_, ?_⟩
        · rw [List.pairwise_append]
          refine ⟨ih.pw, by simp, fun a ha b hb => ?_⟩
          have : b = (p, 1) := by simpa using hb
          subst this
          exact hlt a ha
        · rw [List.count_append, List.count_singleton]
          by_cases hs : p = s
          · subst hs
            simp only [beq_self_eq_true, if_true, hz]
            constructor
            · intro z
              rcases List.mem_append.mp z with z | z
              · have := hlt _ z; simp only at this; omega
              · have : c = 1 := by simpa using z
                omega
            · intro z
              have : c = 1 := by omega
              simp [this]
          · have e1 : (p == s) = false := by simpa using hs
            simp only [e1, Bool.false_eq_true, if_false, Nat.add_zero]
            rw [← ih.mem s c]
            constructor
            · intro z
              rcases List.mem_append.mp z with z | z
              · exact z
              · have : s = p := by have := List.mem_singleton.mp z; exact congrArg Prod.fst this
                exact absurd this.symm hs
            · intro z
              exact List.mem_append.mpr (.inl z)
        · rw [List.map_append, List.flatten_append, ih.flat]; rfl
        · simp
theorem ok_of {ns : List Int} (h : ns.Pairwise (· ≥ ·)) : Ok ns (runs ns) := by
  have := ok_runs ns.reverse (by rw [List.reverse_reverse]; exact h)
  rw [List.reverse_reverse] at this
  exact this
theorem uniq : ∀ {l m : List (Int × Int)}, (l.Pairwise fun a b => a.1 > b.1) → (m.Pairwise fun a b => a.1 > b.1) → (∀ x, x ∈ l ↔ x ∈ m) → l = m
  | [], [], _, _, _ => rfl
  | [], y :: m, _, _, h => by have := (h y).mpr List.mem_cons_self; cases this
  | x :: l, [], _, _, h => by have := (h x).mp List.mem_cons_self; cases this
  | x :: l, y :: m, hl, hm, h => by
    obtain ⟨l1, l2⟩ := List.pairwise_cons.mp hl
    obtain ⟨m1, m2⟩ := List.pairwise_cons.mp hm
    have exy : x = y := by
      rcases List.mem_cons.mp ((h x).mp List.mem_cons_self) with e | e
      · exact e
      · rcases List.mem_cons.mp ((h y).mpr List.mem_cons_self) with e' | e'
        · exact e'.symm
        · have := m1 x e; have := l1 y e'; omega
    subst exy
    congr 1
    refine uniq l2 m2 fun z => ?_
    constructor
    · intro hz
      rcases List.mem_cons.mp ((h z).mp (List.mem_cons_of_mem _ hz)) with e | e
      · subst e; have := l1 z hz; omega
      · exact e
    · intro hz
      rcases List.mem_cons.mp ((h z).mpr (List.mem_cons_of_mem _ hz)) with e | e
      · subst e; have := m1 z hz; omega
      · exact e
noncomputable def lsz (ns : List Int) (M : Int) (k : Nat) : List (Int × Int) := (List.range k).filterMap fun (i : Nat) => if 0 < ns.count (M + (i : Int) * (-1)) then some (M + (i : Int) * (-1), (ns.count (M + (i : Int) * (-1)) : Int)) else none
theorem lsz_succ (ns : List Int) (M : Int) (k : Nat) : lsz ns M (k + 1) = lsz ns M k ++ (if 0 < ns.count (M + (k : Int) * (-1)) then [(M + (k : Int) * (-1), (ns.count (M + (k : Int) * (-1)) : Int))] else []) := by
  unfold lsz
  rw [List.range_succ, List.filterMap_append]
  congr 1
  by_cases h : 0 < ns.count (M + (k : Int) * (-1))
  · rw [if_pos h, List.filterMap_cons, if_pos h]; rfl
  · rw [if_neg h, List.filterMap_cons, if_neg h]; rfl
theorem lsz_mem {ns : List Int} {M : Int} {k : Nat} {x : Int × Int} : x ∈ lsz ns M k ↔ x.2 = (ns.count x.1 : Int) ∧ 0 < ns.count x.1 ∧ M - k < x.1 ∧ x.1 ≤ M := by
  unfold lsz
  rw [List.mem_filterMap]
  constructor
  · rintro ⟨i, hi, h⟩
    have hi' := List.mem_range.mp hi
    split at h
    · cases h; dsimp only; exact ⟨rfl, by assumption, by omega, by omega⟩
    · cases h
  · rintro ⟨h1, h2, h3, h4⟩
    refine ⟨(M - x.1).toNat, List.mem_range.mpr (by omega), ?_⟩
    have e : M + (((M - x.1).toNat : Nat) : Int) * (-1) = x.1 := by omega
    rw [e, if_pos h2]
    cases x
    simp only at h1
    rw [h1]
theorem lsz_pw (ns : List Int) (M : Int) : ∀ k, (lsz ns M k).Pairwise fun a b => a.1 > b.1
  | 0 => by simp [lsz]
  | k + 1 => by
    rw [lsz_succ, List.pairwise_append]
    refine ⟨lsz_pw ns M k, ?_, fun a ha b hb => ?_⟩
    · split <;> simp
    · split at hb
      · have : b = (M + (k : Int) * (-1), (ns.count (M + (k : Int) * (-1)) : Int)) := by simpa using hb
        subst this
        have := (lsz_mem.mp ha).2.2.1
        show a.1 > M + (k : Int) * (-1)
        omega
      · cases hb
theorem same {ns : List Int} {M : Int} (h : ns.Pairwise (· ≥ ·)) (h1 : ∀ n ∈ ns, 1 ≤ n) (hM : ∀ n ∈ ns, n ≤ M) (h0 : 0 ≤ M) : lsz ns M M.toNat = runs ns := by
  have o := ok_of h
  refine uniq (lsz_pw ns M _) o.pw fun x => ?_
  rw [lsz_mem]
  have := o.mem x.1 x.2
  constructor
  · rintro ⟨a, b, _, _⟩; exact this.mpr ⟨a, b⟩
  · intro z
    obtain ⟨a, b⟩ := this.mp z
    have hm : x.1 ∈ ns := List.count_pos_iff.mp b
    exact ⟨a, b, by have := h1 _ hm; omega, hM _ hm⟩
theorem runs_len : ∀ rs : List Int, (runs rs.reverse).length ≤ rs.length
  | [] => Nat.le_refl _
  | p :: rs => by
    rw [List.reverse_cons, runs_snoc]
    have := runs_len rs
    unfold rstep
    split
    · split
      · rw [List.length_set, List.length_cons]; omega
      · rw [List.length_append, List.length_cons]; simp; omega
    · rw [List.length_append, List.length_cons]; simp; omega
theorem runs_len' (ns : List Int) : (runs ns).length ≤ ns.length := by
  have := runs_len ns.reverse
  rw [List.reverse_reverse, List.length_reverse] at this
  exact this
end M02
set_option Elab.async false
set_option linter.all false
set_option maxRecDepth 100000
set_option maxHeartbeats 4000000
namespace K72
open PySem L2 MRow M27 M80 M17 M12 M24 M11 M66
theorem cut1 (x : V) (xs : List V) : cutV (x :: xs) (some 1) none = xs := by
  unfold cutV
  rw [HT.sIx_none, show (1 : Int) = ((1 : Nat) : Int) from rfl, HT.sIx_nat, List.length_cons, show min 1 (xs.length + 1) = 1 by omega]
  show xs.take (xs.length + 1 - 1) = xs
  rw [Nat.add_sub_cancel, List.take_of_length_le (Nat.le_refl _)]
noncomputable def zb (d : Nat) (x : List Nat) : List Bool := List.zipWith (fun a b => decide (b + d ≤ a)) x x.tail
theorem vd_zb (d : Nat) : ∀ x, vd d x = (zb d x).all id
  | [] => rfl
  | [_] => rfl
  | a :: b :: r => by
    show (decide (b + d ≤ a) && vd d (b :: r)) = (decide (b + d ≤ a) && (zb d (b :: r)).all id)
    rw [vd_zb d (b :: r)]
noncomputable def isf : Kn → List Nat → Bool
  | .all => fun _ => true
  | .most k => fun x => x.all fun a => decide (a ≤ k)
  | .few k => fun x => decide (x.length ≤ k)
  | .times m => cts m
  | .rests m rs => fun x => x.all fun a => decide ((a : Int) % (m : Int) ∈ rs)
  | .box k l => inb k l
  | .off d => vd d
  | .own => own
theorem nI_get {x : List Nat} {i a : Nat} (h : x[i]? = some a) : (nI x)[i]? = some (.int (a : Int)) := by unfold nI; rw [List.getElem?_map, List.getElem?_map, h]; rfl
theorem take_more {α β : Type} (f : α → β) {x : List α} {i : Nat} {a : α} (h : x[i]? = some a) : (x.take (i + 1)).map f = (x.take i).map f ++ [f a] := by rw [List.take_succ, h, List.map_append]; rfl
theorem countI (x : List Nat) (a : Nat) : (x.map fun (k : Nat) => (k : Int)).count (a : Int) = x.count a := by
  induction x with
  | nil => rfl
  | cons b x ih =>
    rw [List.map_cons, List.count_cons, List.count_cons, ih]
    congr 1
    by_cases h : b = a
    · rw [h]; simp
    · rw [if_neg (by simpa using fun e : (b : Int) = (a : Int) => h (Int.ofNat_inj.mp e)), if_neg (by simpa using h)]
theorem gr_ge : ∀ (x : List Nat), ∀ a ∈ x, a ≤ gr x
  | [], _, h => nomatch h
  | b :: r, a, h => by
    show a ≤ if gr r ≤ b then b else gr r
    rcases List.mem_cons.mp h with e | e
    · subst e; split <;> omega
    · have := gr_ge r a e; split <;> omega
theorem eqv_ints : ∀ (as bs : List Int), PyData.eqvAll (as.map PyData.int) (bs.map PyData.int) = decide (as = bs)
  | [], [] => by simp [PyData.eqvAll]
  | [], b :: bs => by simp [PyData.eqvAll]
  | a :: as, [] => by simp [PyData.eqvAll]
  | a :: as, b :: bs => by
    have ih := eqv_ints as bs
    simp only [List.map_cons, PyData.eqvAll, ih, PyData.eqv]
    by_cases h : a = b
    · subst h
      simp
    · simp [h]
theorem eqv_tup (as bs : List Int) : PyData.eqv (.tuple (as.map PyData.int)) (.tuple (bs.map PyData.int)) = decide (as = bs) := by
  show PyData.eqvAll _ _ = _
  exact eqv_ints as bs
theorem Fl.pw : ∀ {x : List Nat}, Fl x → (M63.toI x).Pairwise (· ≥ ·)
  | [], _ => .nil
  | a :: r, f => .cons (fun b hb => by
      obtain ⟨c, hc, rfl⟩ := List.mem_map.mp hb
      have := Fl.head f c (List.mem_cons_of_mem _ hc)
      show (c : Int) ≤ (a : Int)
      omega) (Fl.pw f.tail)
noncomputable def isg : Kn → List Nat → Bool
  | .own => fun x => decide (M03.tn (M63.toI x) = M63.toI x)
  | k => isf k
theorem Fl.all_le {x : List Nat} {a : Nat} {r : List Nat} (h : x = a :: r) (f : Fl x) (k : Nat) : (x.all fun a => decide (a ≤ k)) = decide (a ≤ k) := by
  subst h
  by_cases c : a ≤ k
  · rw [decide_eq_true c, List.all_eq_true]
    intro b hb
    have := Fl.head f b hb
    exact decide_eq_true (by omega)
  · rw [decide_eq_false c]
    refine Bool.eq_false_iff.mpr fun g => ?_
    exact c (of_decide_eq_true (List.all_eq_true.mp g a List.mem_cons_self))
theorem cts_runs {x : List Nat} (f : Fl x) (m : Nat) : ((M02.runs (x.map fun (k : Nat) => (k : Int))).all fun p => decide (p.2 < (m : Int))) = cts m x := by
  have hp : (x.map fun (k : Nat) => (k : Int)).Pairwise (· ≥ ·) := by
    rw [List.pairwise_map]
    induction x with
    | nil => exact .nil
    | cons a r ih => exact .cons (fun b hb => by have := Fl.head f b (List.mem_cons_of_mem _ hb); show (b : Int) ≤ (a : Int); omega) (ih f.tail)
  have h1 : ∀ n ∈ x.map fun (k : Nat) => (k : Int), 1 ≤ n := fun n hn => by obtain ⟨a, ha, rfl⟩ := List.mem_map.mp hn; have := Fl.pos f a ha; omega
  have hM : ∀ n ∈ x.map fun (k : Nat) => (k : Int), n ≤ (gr x : Int) := fun n hn => by obtain ⟨a, ha, rfl⟩ := List.mem_map.mp hn; have := gr_ge x a ha; omega
  rw [← M02.same hp h1 hM (by omega)]
  unfold cts
  rw [Bool.eq_iff_iff, List.all_eq_true, List.all_eq_true]
  refine ⟨fun g a ha => ?_, fun g p hp => ?_⟩
  · have c0 : 0 < x.count a := List.count_pos_iff.mpr ha
    have := g ((a : Int), (x.count a : Int)) (M02.lsz_mem.mpr ⟨by rw [countI], by rw [countI]; exact c0, by have := Fl.pos f a ha; omega, by have := gr_ge x a ha; omega⟩)
    have := of_decide_eq_true this
    exact decide_eq_true (by dsimp only at this; omega)
  · obtain ⟨e1, e2, e3, e4⟩ := M02.lsz_mem.mp hp
    have hm : p.1 ∈ x.map fun (k : Nat) => (k : Int) := List.count_pos_iff.mp e2
    obtain ⟨a, ha, ea⟩ := List.mem_map.mp hm
    have := of_decide_eq_true (g a ha)
    refine decide_eq_true ?_
    rw [e1, ← ea, countI]
    omega
section
variable {P : Program} {w : World} {K : PySem.W.Frag} {mg : Str → Option Value} {base : Heap} {f : Addr} {fd : FuncData}
theorem sc_sizes : FnScope ["parting", "told", "part"] ["parting"] (defScope (top 47)) := ⟨rfl, rfl, rfl, by decide +kernel, rfl, by decide +kernel, by decide +kernel⟩
noncomputable def sp_sizes : Sp := fun vs H Q _ => ∃ (a : Addr) (ns : List Int), vs = [.ref a] ∧ H a = some (.tup (ns.map V.int)) ∧ ns.length ≤ 1000 ∧ ∀ r H' us, Same H H' → H' r = some (.tup us) → Prs H' us (M02.runs ns) → Q (.ref r) H'
theorem ok_sizes (F : Fun K "sizes" "sizes" (top 47) f fd) (m_tuple : mg "tuple" = none) : FnOk P w K mg base CX0 1 f fd ["parting"] sp_sizes := by
  refine F.okz sc_sizes (fun vs H Q E h => ?_) (fun cdv A outer s H vs Q E hr h => ?_)
  · obtain ⟨a, ns, rfl, _⟩ := h; rfl
  obtain ⟨a, ns, rfl, ha, hl, q⟩ := h
  have nd := sc_sizes.nd
  have hu := hr.units
  refine ⟨_, (zss_cons (zs_set (i := 1) nd rfl (Or.inl rfl) (ze_lst za_nil))
      (zss_cons (zs_for PassesOwn.never rfl (zi_tup (zn 0)) (zg_name (i := 2) nd rfl (Or.inl rfl)) (zss_one (zs_if (ZW.zt (zw_and (zt_truP (zn 1)) (zw_and1 (zt_cmpP (op_eqD hu) (ze_ix ix_P (ze_ix ix_P (zn 1) (ze_un un_neg ze_int) (fun _ _ => rfl)) ze_int (fun _ _ => rfl)) (zn 2) (nomark _))))) (zss_one (zs_asg (ze_tup (za_cons (zn 2) (za_cons (ze_op op_addP (ze_ix ix_P (ze_ix ix_P (zn 1) (ze_un un_neg ze_int) (fun _ _ => rfl)) ze_int (fun _ _ => rfl)) ze_int) za_nil))) (zg_sub (zn 1) (ze_un un_neg ze_int) set_list))) (zss_one (zs_expr (zm_append (zn 1) (za_cons (ze_tup (za_cons (zn 2) (za_cons ze_int za_nil))) za_nil)))))))
      (zss_one (zs_ret (zcb_tuple rfl m_tuple (za_cons (zn 1) za_nil) rfl rfl))))), ?_⟩
  refine ⟨Nat.zero_le _, fun t ht => ?_⟩
  have g0 : Same H (upd H t (.lst [])) := Same.new ht _
  refine ⟨a, rfl, ⟨_, SqT.of (g0 _ _ ha)⟩, for_tup (xs := ns.map V.int) (fun i σ H' => Same H H' ∧ ∃ us pp, σ = [some (.ref a), some (.ref t), pp] ∧ H' t = some (.lst us) ∧ Prs H' us (M02.runs (ns.take i)))
    ⟨g0, [], none, rfl, upd_same, by rw [List.take_zero]; exact .nil⟩ ?_ ?_ ?_⟩
  · rintro i σ H' _ ⟨y, _⟩
    exact SqT.of (y _ _ ha)
  · rintro i x σ H' hx ⟨y, us, pp, rfl, hus, hp⟩
    have hi : i < ns.length := by
      have := (List.getElem?_eq_some_iff.mp hx).1
      rw [List.length_map] at this
      exact this
    have ex : x = .int ns[i] := by rw [getI hi] at hx; exact (Option.some.inj hx).symm
    subst ex
    have etake : ns.take (i + 1) = ns.take i ++ [ns[i]] := by rw [List.take_succ, List.getElem?_eq_getElem hi]; rfl
    have hlen : us.length ≤ 1000 := by
      rw [hp.length]
      have := M02.runs_len' (ns.take i)
      rw [List.length_take] at this
      omega
    have app : M02.rstep (M02.runs (ns.take i)) ns[i] = M02.runs (ns.take i) ++ [(ns[i], 1)] →
        1 + 1 ≤ sizeLine ∧ ∀ b, H' b = none → us.length < sizeLine ∧ True := fun _ => ⟨by decide, fun _ _ => ⟨small1000 hlen, trivial⟩⟩
    have more : ∀ b, H' b = none → M02.rstep (M02.runs (ns.take i)) ns[i] = M02.runs (ns.take i) ++ [(ns[i], 1)] →
        Same H (upd (upd H' b (.tup [.int ns[i], .int 1])) t (.lst (us ++ [.ref b]))) ∧ ∃ us' pp', [some (V.ref a), some (.ref t), some (.int ns[i])] = [some (.ref a), some (.ref t), pp'] ∧ (upd (upd H' b (.tup [.int ns[i], .int 1])) t (.lst (us ++ [.ref b]))) t = some (.lst us') ∧ Prs (upd (upd H' b (.tup [.int ns[i], .int 1])) t (.lst (us ++ [.ref b]))) us' (M02.runs (ns.take (i + 1))) := fun b hb e => by
      have g1 := Same.new hb (.tup [.int ns[i], .int 1])
      refine ⟨Same.updN (y.trans g1) ht, _, _, rfl, upd_same, ?_⟩
      rw [etake, M02.runs_snoc, e]
      refine Prs.updL (g1 _ _ hus) ((hp.same g1).snoc (p := (ns[i], 1)) ⟨b, rfl, upd_same⟩)
    refine ⟨us, .inl (SqL.of hus), ?_⟩
    refine iteB (fun c => ?_) (fun c => ?_)
    · have hne : M02.runs (ns.take i) ≠ [] := by
        intro e
        rw [hp.nilOf, e] at c
        cases c
      cases el : (M02.runs (ns.take i)).getLast? with
      | none => exact absurd (List.getLast?_eq_none_iff.mp el) hne
      | some z =>
        obtain ⟨ini, eini⟩ := M02.last_split el
        have hp0 := hp
        rw [eini] at hp
        obtain ⟨vs, b, rfl, hvl, hb⟩ := hp.split
        refine ⟨_, rfl, _, .inl (SqL.of hus), .ref b, atI_last vs _, ?_⟩
        refine ⟨_, .inr hb, .int z.1, rfl, ?_⟩
        refine iteD (fun c2 => ?_) (fun c2 => ?_)
        · have c3 : z.1 = ns[i] := V.int.inj c2
          refine ⟨_, rfl, _, .inl (SqL.of hus), .ref b, atI_last vs _, ?_⟩
          refine ⟨_, .inr hb, .int z.2, rfl, ?_⟩
          refine ⟨by show 2 ≤ sizeLine; decide, fun d hd => ?_⟩
          have g1 := Same.new hd (.tup [.int ns[i], .int (z.2 + 1)])
          refine ⟨_, rfl, t, _, _, vs.length, rfl, rfl, g1 _ _ hus, ?_, ?_⟩
          · unfold ixN
            rw [if_neg (by decide), List.length_append, List.length_singleton, if_pos (by omega)]
            congr 1
            omega
          · refine ⟨Same.updN (y.trans g1) ht, _, _, rfl, upd_same, ?_⟩
            rw [etake, M02.runs_snoc]
            have e1 : M02.rstep (M02.runs (ns.take i)) ns[i] = (ini ++ [z]).set (vs.length) (ns[i], z.2 + 1) := by
              unfold M02.rstep
              rw [el]
              dsimp only
              rw [if_pos c3, eini, List.length_append, List.length_singleton, Nat.add_sub_cancel, hvl]
            rw [e1]
            exact Prs.updL (g1 _ _ hus) ((hp.same g1).set (p := (ns[i], z.2 + 1)) ⟨d, rfl, upd_same⟩ _)
        · have c3 : z.1 ≠ ns[i] := fun e => c2 (by rw [e])
          refine ⟨tyL hus, by show 2 ≤ sizeLine; decide, fun d hd => ?_⟩
          refine ⟨_, (Same.new hd _) _ _ hus, small1000 hlen, ?_⟩
          refine more d hd ?_
          unfold M02.rstep
          rw [el]
          dsimp only
          rw [if_neg c3]
    · have e0 : M02.runs (ns.take i) = [] := by
        have := hp.nilOf
        rw [Bool.not_eq_false'] at c
        rw [c] at this
        exact List.isEmpty_iff.mp this.symm
      refine iteF ?_
      refine ⟨tyL hus, by show 2 ≤ sizeLine; decide, fun d hd => ?_⟩
      refine ⟨_, (Same.new hd _) _ _ hus, small1000 hlen, ?_⟩
      refine more d hd ?_
      rw [e0]
      rfl
  · rintro σ H' ⟨y, us, pp, rfl, hus, hp⟩
    refine ⟨us, .inl (SqL.of hus), fun r H2 y2 hr2 => ?_⟩
    rw [List.take_of_length_le (by rw [List.length_map]; exact Nat.le_refl _)] at hp
    exact q r H2 us (y.trans y2) hr2 (hp.same y2)
theorem sc_na : FnScope ["parting", "k"] ["parting", "k"] (defScope (top 57)) := ⟨rfl, rfl, rfl, by decide +kernel, rfl, by decide +kernel, by decide +kernel⟩
noncomputable def sp_na : Sp := fun vs H Q _ => ∃ (p : Addr) (x : List Nat) (k : Nat), vs = [.ref p, .int k] ∧ H p = some (.tup (nI x)) ∧ Fl x ∧ Q (.bl (x.all fun a => decide (a ≤ k))) H
theorem ok_na (F : Fun K "has_none_above" "has_none_above" (top 57) f fd) (m_len : mg "len" = none)  : FnOk P w K mg base CX0 1 f fd ["parting", "k"] sp_na := by
  refine F.okz sc_na (fun vs H Q E h => ?_) (fun cdv A outer s H vs Q E hr h => ?_)
  · obtain ⟨p, x, k, rfl, _⟩ := h; rfl
  obtain ⟨p, x, k, rfl, hp, hf, q⟩ := h
  have nd := sc_na.nd
  have hu := hr.units
  refine ⟨_, (zss_one (zs_ret (ze_orP (ze_cmpR (op_eqD hu) (zcb_len rfl m_len (za_cons (zn 0) za_nil) rfl rfl) ze_int (nomark _)) (ze_one (ze_cmpR op_leP (ze_ix ix_P (zn 0) ze_int (fun _ _ => rfl)) (zn 1) (nomark _)))))), ?_⟩
  refine ⟨_, .inr hp, ?_⟩
  rw [nI_len]
  refine iteB (fun c => ?_) (fun c => ?_)
  · have c' : decide (V.int (x.length : Int) = V.int 0) = true := c
    have e := V.int.inj (of_decide_eq_true c')
    cases x with
    | nil => exact q
    | cons a r => rw [List.length_cons] at e; omega
  · cases x with
    | nil => exact absurd c (by decide)
    | cons a r =>
      refine ⟨_, .inr hp, .int (a : Int), atI_of (j := 0) rfl rfl, ?_⟩
      rw [Fl.all_le rfl hf] at q
      show Q (.bl (decide ((a : Int) ≤ (k : Int)))) H
      rw [show decide ((a : Int) ≤ (k : Int)) = decide (a ≤ k) from decide_eq_decide.mpr (by omega)]
      exact q
theorem sc_fa : FnScope ["parting", "d", "at"] ["parting", "d"] (defScope (top 58)) := ⟨rfl, rfl, rfl, by decide +kernel, rfl, by decide +kernel, by decide +kernel⟩
noncomputable def sp_fa : Sp := fun vs H Q _ => ∃ (p : Addr) (x : List Nat) (d : Nat), vs = [.ref p, .int d] ∧ H p = some (.tup (nI x)) ∧ x.length ≤ 1000 ∧ Q (.bl (vd d x)) H
theorem zb_get {d : Nat} {x : List Nat} {i a b : Nat} (ha : x[i]? = some a) (hb : x[i + 1]? = some b) : (zb d x)[i]? = some (decide (b + d ≤ a)) := by
  unfold zb
  rw [List.getElem?_zipWith, ha, List.getElem?_tail, hb]
theorem ok_fa (F : Fun K "falls_by" "falls_by" (top 58) f fd) (m_len : mg "len" = none) (m_range : mg "range" = none)  : FnOk P w K mg base CX0 1 f fd ["parting", "d"] sp_fa := by
  refine F.okz sc_fa (fun vs H Q E h => ?_) (fun cdv A outer s H vs Q E hr h => ?_)
  · obtain ⟨p, x, d, rfl, _⟩ := h; rfl
  obtain ⟨p, x, d, rfl, hp, hl, q⟩ := h
  have nd := sc_fa.nd
  have hu := hr.units
  refine ⟨_, (zss_cons (zs_for PassesOwn.never rfl (zi_range2 rfl m_range (za_cons ze_int (za_cons (zcb_len rfl m_len (za_cons (zn 0) za_nil) rfl rfl) za_nil))) (zg_name (i := 2) nd rfl (Or.inl rfl)) (zss_one (zs_if (zt_cmpP op_ltP (ze_op op_subP (ze_ix ix_P (zn 0) (ze_op op_subP (zn 2) ze_int) (fun _ _ => rfl)) (ze_ix ix_P (zn 0) (zn 2) (fun _ _ => rfl))) (zn 1) (nomark _)) (zss_one (zs_ret ze_bl)) zss_nil)))
      (zss_one (zs_ret ze_bl))), ?_⟩
  refine ⟨_, .inr hp, ?_⟩
  rw [nI_len]
  refine ⟨1, (x.length : Int), rfl, ⟨by omega, by omega, by omega, by omega⟩, ?_⟩
  have eN : ((x.length : Int) - 1).toNat = x.length - 1 := by omega
  rw [eN]
  have zl : (zb d x).length = x.length - 1 := by unfold zb; rw [List.length_zipWith, List.length_tail]; omega
  rw [vd_zb] at q
  refine for_range (fun i σ H' => i ≤ x.length - 1 ∧ H' = H ∧ (∀ j b, j < i → (zb d x)[j]? = some b → b = true) ∧ ∃ x2, σ = [some (.ref p), some (.int d), x2]) ⟨Nat.zero_le _, rfl, fun j b h => absurd h (Nat.not_lt_zero _), _, rfl⟩ ?_ ?_
  · rintro i σ H' hi ⟨_, rfl, pv, x2, rfl⟩
    have h0 : i < x.length := by omega
    have h1 : i + 1 < x.length := by omega
    have g0 : x[i]? = some x[i] := List.getElem?_eq_getElem h0
    have g1 : x[i + 1]? = some x[i + 1] := List.getElem?_eq_getElem h1
    have hz := zb_get (d := d) g0 g1
    generalize x[i] = a at g0 hz
    generalize x[i + 1] = b at g1 hz
    refine ⟨_, .inr hp, .int (a : Int), atI_of (j := i) (by omega) (nI_get g0), ?_⟩
    refine ⟨_, .inr hp, .int (b : Int), atI_of (j := i + 1) (by omega) (nI_get g1), ?_⟩
    refine iteD (fun c => ?_) (fun c => ?_)
    · have c' : (a : Int) - (b : Int) < (d : Int) := c
      have e : (zb d x).all id = false := by
        refine Bool.eq_false_iff.mpr fun g => ?_
        have := List.all_eq_true.mp g _ (List.mem_of_getElem? hz)
        have := of_decide_eq_true this
        omega
      rw [e] at q
      exact q
    · have c' : ¬ (a : Int) - (b : Int) < (d : Int) := c
      refine ⟨by omega, rfl, fun j v hj hv => ?_, _, rfl⟩
      by_cases e : j = i
      · subst e
        rw [hz] at hv
        rw [← Option.some.inj hv]
        exact decide_eq_true (by omega)
      · exact pv j v (by omega) hv
  · rintro σ H' ⟨_, rfl, pv, x2, rfl⟩
    have e : (zb d x).all id = true := List.all_eq_true.mpr fun b hb => by
      obtain ⟨j, hj, e⟩ := List.getElem_of_mem hb
      exact pv j b (by omega) (by rw [List.getElem?_eq_getElem hj, e])
    rw [e] at q
    exact q
theorem sc_no : FnScope ["parting", "m"] ["parting", "m"] (defScope (top 59)) := ⟨rfl, rfl, rfl, by decide +kernel, rfl, by decide +kernel, by decide +kernel⟩
noncomputable def sp_no : Sp := fun vs H Q _ => ∃ (p : Addr) (x : List Nat) (m : Nat), vs = [.ref p, .int m] ∧ H p = some (.tup (nI x)) ∧ x.length ≤ 1000 ∧ Fl x ∧ ∀ H', Same H H' → Q (.bl (cts m x)) H'
theorem ok_no (F : Fun K "has_none_often" "has_none_often" (top 59) f fd) (m_all : mg "all" = none) (F_sizes : FnA P w K mg base "sizes" 1 ["parting"] sp_sizes) : FnOk P w K mg base CX0 2 f fd ["parting", "m"] sp_no := by
  refine F.okz sc_no (fun vs H Q E h => ?_) (fun cdv A outer s H vs Q E hr h => ?_)
  · obtain ⟨p, x, m, rfl, _⟩ := h; rfl
  obtain ⟨p, x, m, rfl, hp, hl, hf, q⟩ := h
  have nd := sc_no.nd
  have hu := hr.units
  refine ⟨_, (zss_one (zs_ret (zcb_all rfl rfl m_all (za_cons (ze_comp ["size", "often"] [("m", 1)] rfl ⟨rfl, by decide +kernel, by decide +kernel, rfl, rfl⟩ (zi_tup (ze_fn F_sizes hr (by decide) rfl (za_cons (zn 0) za_nil))) kpg_two (fun _ _ _ _ => zg_tup rfl (zgs_cons (zg_name (i := 0) (show List.Nodup (["size", "often", "m"] : List Str) by decide +kernel) rfl (Or.inl rfl)) (zgs_cons (zg_name (i := 1) (show List.Nodup (["size", "often", "m"] : List Str) by decide +kernel) rfl (Or.inl rfl)) zgs_nil))) (fun _ _ _ _ => zif_nil) (fun _ _ _ _ => (ze_cmpR op_ltP (zn 1) (zn 2) (nomark _)))) za_nil) rfl rfl))), ?_⟩
  refine ⟨p, x.map fun (k : Nat) => (k : Int), rfl, hp, by rw [List.length_map]; exact hl, fun r H1 us y1 hr1 hP => ?_⟩
  have lr := M02.runs_len' (x.map fun (k : Nat) => (k : Int))
  rw [List.length_map] at lr
  have lu := hP.length
  rw [← cts_runs hf] at q
  generalize M02.runs (x.map fun (k : Nat) => (k : Int)) = ps at hP lr lu q
  refine ⟨r, rfl, ⟨_, SqT.of hr1⟩, cmp_tup (xs := us) (fun i ys H' => H' = H1 ∧ i ≤ ps.length ∧ ys = ((ps.take i).map fun p => decide (p.2 < (m : Int))).map V.bl) ⟨rfl, Nat.zero_le _, rfl⟩ ?_ ?_ ?_⟩
  · rintro i ys H' _ ⟨rfl, _⟩
    exact SqT.of hr1
  · rintro i v ys H' hv ⟨rfl, hi, rfl⟩
    obtain ⟨z, hz, d, rfl, hd⟩ := hP.get hv
    have hi' := (List.getElem?_eq_some_iff.mp hz).1
    refine ⟨by rw [List.length_map, List.length_map, List.length_take]; exact small1000 (by omega), ?_⟩
    refine ⟨d, _, rfl, SqT.of hd, rfl, _, _, rfl, _, _, rfl, rfl, ?_⟩
    refine ⟨rfl, hi', ?_⟩
    rw [take_more _ hz, List.map_append]
    rfl
  · rintro ys H' ⟨rfl, hi, rfl⟩ D hD
    refine ⟨_, SqL.of upd_same, ?_⟩
    rw [lu, List.take_of_length_le (Nat.le_refl _), List.all_map]
    exact q _ (y1.trans (Same.new hD _))
theorem sc_lo : FnScope ["parting", "m", "rests"] ["parting", "m", "rests"] (defScope (top 60)) := ⟨rfl, rfl, rfl, by decide +kernel, rfl, by decide +kernel, by decide +kernel⟩
noncomputable def sp_lo : Sp := fun vs H Q _ => ∃ (p d : Addr) (x : List Nat) (m : Nat) (rs : List Int), vs = [.ref p, .int m, .ref d] ∧ H p = some (.tup (nI x)) ∧ x.length ≤ 1000 ∧ 0 < m ∧ H d = some (.tup (rs.map V.int)) ∧ ∀ H', Same H H' → Q (.bl (x.all fun a => decide ((a : Int) % (m : Int) ∈ rs))) H'
theorem ok_lo (F : Fun K "leaves_only" "leaves_only" (top 60) f fd) (m_all : mg "all" = none)  : FnOk P w K mg base CX0 1 f fd ["parting", "m", "rests"] sp_lo := by
  refine F.okz sc_lo (fun vs H Q E h => ?_) (fun cdv A outer s H vs Q E hr h => ?_)
  · obtain ⟨p, d, x, m, rs, rfl, _⟩ := h; rfl
  obtain ⟨p, d, x, m, rs, rfl, hp, hl, hm, hd, q⟩ := h
  have nd := sc_lo.nd
  have hu := hr.units
  refine ⟨_, (zss_one (zs_ret (zcb_all rfl rfl m_all (za_cons (ze_comp ["part"] [("m", 1), ("rests", 2)] rfl ⟨rfl, by decide +kernel, by decide +kernel, rfl, rfl⟩ (zi_tup (zn 0)) kpg_name (fun _ _ _ _ => zg_name (i := 0) (show List.Nodup (["part", "m", "rests"] : List Str) by decide +kernel) rfl (Or.inl rfl)) (fun _ _ _ _ => zif_nil) (fun _ _ _ _ => (ze_cmpR (op_in_seq' rfl) (ze_op op_modP (zn 0) (zn 1)) (zn 2) (by with_unfolding_all rfl)))) za_nil) rfl rfl))), ?_⟩
  refine ⟨p, rfl, ⟨_, SqT.of hp⟩, cmp_tup (xs := nI x) (fun i ys H' => H' = H ∧ i ≤ x.length ∧ ys = ((x.take i).map fun a : Nat => decide ((a : Int) % (m : Int) ∈ rs)).map V.bl) ⟨rfl, Nat.zero_le _, rfl⟩ ?_ ?_ ?_⟩
  · rintro i ys H' _ ⟨rfl, _⟩
    exact SqT.of hp
  · rintro i v ys H' hv ⟨rfl, hi, rfl⟩
    obtain ⟨a, ha, rfl⟩ := nI_at hv
    have hi' := (List.getElem?_eq_some_iff.mp ha).1
    refine ⟨by rw [List.length_map, List.length_map, List.length_take]; exact small1000 (by omega), ?_⟩
    refine ⟨(show (0 : Int) < (m : Int) by omega), ?_⟩
    refine ⟨d, _, rfl, .inr (SqT.of hd), rfl, flat_ints rs, ?_⟩
    rw [in_ints]
    refine ⟨rfl, hi', ?_⟩
    rw [take_more _ ha, List.map_append]
    rfl
  · rintro ys H' ⟨rfl, hi, rfl⟩ D hD
    refine ⟨_, SqL.of upd_same, ?_⟩
    rw [nI_len, List.take_of_length_le (Nat.le_refl _), List.all_map]
    exact q _ (Same.new hD _)
theorem sc_pi : FnScope ["kind", "parting", "word"] ["kind", "parting"] (defScope (top 61)) := ⟨rfl, rfl, rfl, by decide +kernel, rfl, by decide +kernel, by decide +kernel⟩
noncomputable def sp_pi : Sp := fun vs H Q _ => ∃ (c p : Addr) (k : Kn) (x : List Nat), vs = [.ref c, .ref p] ∧ KnAt H c k ∧ k.Ok ∧ H p = some (.tup (nI x)) ∧ x.length ≤ 1000 ∧ (∀ a ∈ x, a ≤ 1000) ∧ Fl x ∧ ∀ H', Same H H' → Q (.bl (isg k x)) H'
theorem ok_pi (F : Fun K "is_of" "is_of" (top 61) f fd) (m_len : mg "len" = none) (F_falls_by : FnA P w K mg base "falls_by" 1 ["parting", "d"] sp_fa) (F_has_none_above : FnA P w K mg base "has_none_above" 1 ["parting", "k"] sp_na) (F_has_none_often : FnA P w K mg base "has_none_often" 2 ["parting", "m"] sp_no) (F_leaves_only : FnA P w K mg base "leaves_only" 1 ["parting", "m", "rests"] sp_lo) (F_turned : FnA P w K mg base "turned" 1 ["parting"] sp_turned) : FnOk P w K mg base CX0 3 f fd ["kind", "parting"] sp_pi := by
  refine F.okz sc_pi (fun vs H Q E h => ?_) (fun cdv A outer s H vs Q E hr h => ?_)
  · obtain ⟨c, p, k, x, rfl, _⟩ := h; rfl
  obtain ⟨c, p, k, x, rfl, hk, hok, hp, hl, hx, hf, q⟩ := h
  have nd := sc_pi.nd
  have hu := hr.units
  refine ⟨_, (zss_cons (zs_set (i := 2) nd rfl (Or.inl rfl) (ze_ix ix_P (zn 0) ze_int (fun _ _ => rfl)))
      (zss_cons (zs_if (zt_cmpP (op_eqD hu) (zn 2) ze_str (nomark _)) (zss_one (zs_ret (ze_fn F_has_none_above hr (by decide) rfl (za_cons (zn 1) (za_cons (ze_ix ix_P (zn 0) ze_int (fun _ _ => rfl)) za_nil))))) zss_nil)
      (zss_cons (zs_if (zt_cmpP (op_eqD hu) (zn 2) ze_str (nomark _)) (zss_one (zs_ret (ze_cmpR op_leP (zcb_len rfl m_len (za_cons (zn 1) za_nil) rfl rfl) (ze_ix ix_P (zn 0) ze_int (fun _ _ => rfl)) (nomark _)))) zss_nil)
      (zss_cons (zs_if (zt_cmpP (op_eqD hu) (zn 2) ze_str (nomark _)) (zss_one (zs_ret (ze_andP (ze_fn F_has_none_above hr (by decide) rfl (za_cons (zn 1) (za_cons (ze_ix ix_P (zn 0) ze_int (fun _ _ => rfl)) za_nil))) (ze_one (ze_cmpR op_leP (zcb_len rfl m_len (za_cons (zn 1) za_nil) rfl rfl) (ze_ix ix_P (zn 0) ze_int (fun _ _ => rfl)) (nomark _)))))) zss_nil)
      (zss_cons (zs_if (zt_cmpP (op_eqD hu) (zn 2) ze_str (nomark _)) (zss_one (zs_ret (ze_fn F_falls_by hr (by decide) rfl (za_cons (zn 1) (za_cons (ze_ix ix_P (zn 0) ze_int (fun _ _ => rfl)) za_nil))))) zss_nil)
      (zss_cons (zs_if (zt_cmpP (op_eqD hu) (zn 2) ze_str (nomark _)) (zss_one (zs_ret (ze_fn F_has_none_often hr (by decide) rfl (za_cons (zn 1) (za_cons (ze_ix ix_P (zn 0) ze_int (fun _ _ => rfl)) za_nil))))) zss_nil)
      (zss_cons (zs_if (zt_cmpP (op_eqD hu) (zn 2) ze_str (nomark _)) (zss_one (zs_ret (ze_fn F_leaves_only hr (by decide) rfl (za_cons (zn 1) (za_cons (ze_ix ix_P (zn 0) ze_int (fun _ _ => rfl)) (za_cons (ze_ix ix_P (zn 0) ze_int (fun _ _ => rfl)) za_nil)))))) zss_nil)
      (zss_cons (zs_if (zt_cmpP (op_eqD hu) (zn 2) ze_str (nomark _)) (zss_one (zs_ret (ze_cmpR (op_eqD hu) (ze_fn F_turned hr (by decide) rfl (za_cons (zn 1) za_nil)) (zn 1) (nomark _)))) zss_nil)
      (zss_one (zs_ret ze_bl)))))))))), ?_⟩
  cases k with
  | all => exact ⟨_, .inr hk, .str "all", rfl, q _ (Same.refl _)⟩
  | most k =>
    refine ⟨_, .inr hk, .str "most", rfl, ?_⟩
    refine ⟨_, .inr hk, .int k, rfl, ?_⟩
    exact ⟨p, x, k, rfl, hp, hf, q _ (Same.refl _)⟩
  | few k =>
    refine ⟨_, .inr hk, .str "few", rfl, ?_⟩
    refine ⟨_, .inr hp, ?_⟩
    refine ⟨_, .inr hk, .int k, rfl, ?_⟩
    rw [nI_len]
    show Q (.bl (decide ((x.length : Int) ≤ (k : Int)))) H
    rw [show decide ((x.length : Int) ≤ (k : Int)) = decide (x.length ≤ k) from decide_eq_decide.mpr (by omega)]
    exact q _ (Same.refl _)
  | box k l =>
    refine ⟨_, .inr hk, .str "box", rfl, ?_⟩
    refine ⟨_, .inr hk, .int k, rfl, ?_⟩
    refine ⟨p, x, k, rfl, hp, hf, ?_⟩
    cases h : x.all fun a => decide (a ≤ k) with
    | false =>
      have e : isg (.box k l) x = false := by show (decide (x.length ≤ l) && x.all fun a => decide (a ≤ k)) = _; rw [h, Bool.and_false]
      rw [e] at q
      exact q _ (Same.refl _)
    | true =>
      have e : isg (.box k l) x = decide (x.length ≤ l) := by show (decide (x.length ≤ l) && x.all fun a => decide (a ≤ k)) = _; rw [h, Bool.and_true]
      rw [e] at q
      refine ⟨_, .inr hp, ?_⟩
      refine ⟨_, .inr hk, .int l, rfl, ?_⟩
      rw [nI_len]
      show Q (.bl (decide ((x.length : Int) ≤ (l : Int)))) H
      rw [show decide ((x.length : Int) ≤ (l : Int)) = decide (x.length ≤ l) from decide_eq_decide.mpr (by omega)]
      exact q _ (Same.refl _)
  | off d =>
    refine ⟨_, .inr hk, .str "off", rfl, ?_⟩
    refine ⟨_, .inr hk, .int d, rfl, ?_⟩
    exact ⟨p, x, d, rfl, hp, hl, q _ (Same.refl _)⟩
  | times m =>
    refine ⟨_, .inr hk, .str "times", rfl, ?_⟩
    refine ⟨_, .inr hk, .int m, rfl, ?_⟩
    exact ⟨p, x, m, rfl, hp, hl, hf, q⟩
  | rests m rs =>
    obtain ⟨d, hk, hd⟩ := hk
    refine ⟨_, .inr hk, .str "rests", rfl, ?_⟩
    refine ⟨_, .inr hk, .int m, rfl, ?_⟩
    refine ⟨_, .inr hk, .ref d, rfl, ?_⟩
    exact ⟨p, d, x, m, rs, rfl, hp, hl, hok.1, hd, q⟩
  | own =>
    refine ⟨_, .inr hk, .str "own", rfl, ?_⟩
    refine ⟨p, M63.toI x, rfl, hp, by unfold M63.toI; rw [List.length_map]; exact hl, fun n hn => ?_, Fl.pw hf, fun r H1 y1 hr1 => ?_⟩
    · obtain ⟨a, ha, rfl⟩ := List.mem_map.mp hn
      have := hx a ha
      have := Fl.pos hf a ha
      omega
    · refine ⟨_, _, .ints hr1, .ints (ns := M63.toI x) (y1 _ _ hp), shaped_ints _, shaped_ints _, ?_⟩
      rw [eqv_tup]
      exact q _ y1
end
end K72
set_option Elab.async false
set_option linter.all false
set_option maxRecDepth 100000
set_option maxHeartbeats 4000000
namespace K72
open PySem L2 MRow M27 M80 M17 M12 M24 M11 M66
section
variable {P : Program} {w : World} {K : PySem.W.Frag} {mg : Str → Option Value} {base : Heap} {f : Addr} {fd : FuncData}
theorem sc_io : FnScope ["_law_kind_here", "_law_parting", "_law_word"] ["_law_kind_here", "_law_parting"] (defScope (top 160)) := ⟨rfl, rfl, rfl, by decide +kernel, rfl, by decide +kernel, by decide +kernel⟩
noncomputable def sp_io : Sp := fun vs H Q _ => ∃ (c p : Addr) (k : Kn) (x : List Nat), vs = [.ref c, .ref p] ∧ KnAt H c k ∧ k.Ok ∧ H p = some (.tup (nI x)) ∧ x.length ≤ 30 ∧ (∀ a ∈ x, a ≤ 30) ∧ Fl x ∧ ∀ H', Same H H' → Q (.bl (isg k x)) H'
theorem ok_io (F : Fun K "_law_is_of" "_law_is_of" (top 160) f fd) (m_all : mg "all" = none) (m_len : mg "len" = none) (m_range : mg "range" = none) (m_tuple : mg "tuple" = none)  : FnOk P w K mg base CX0 1 f fd ["_law_kind_here", "_law_parting"] sp_io := by
  refine F.okz sc_io (fun vs H Q E h => ?_) (fun cdv A outer s H vs Q E hr h => ?_)
  · obtain ⟨c, p, k, x, rfl, _⟩ := h; rfl
  obtain ⟨c, p, k, x, rfl, hk, hok, hp, hl, hx, hf, q⟩ := h
  have nd := sc_io.nd
  have hu := hr.units
  refine ⟨_, (zss_cons (zs_set (i := 2) nd rfl (Or.inl rfl) (ze_ix ix_P (zn 0) ze_int (fun _ _ => rfl)))
      (zss_cons (zs_if (ZW.zt (zw_and (zt_cmpP op_in_seq (zn 2) (ze_tup (za_cons ze_str (za_cons ze_str za_nil))) (by with_unfolding_all rfl)) (zw_and (zt_cmpP (op_neD hu) (zn 1) (ze_tup za_nil) (nomark _)) (zw_and1 (zt_cmpP op_gtP (ze_ix ix_P (zn 1) ze_int (fun _ _ => rfl)) (ze_ix ix_P (zn 0) ze_int (fun _ _ => rfl)) (nomark _)))))) (zss_one (zs_ret ze_bl)) zss_nil)
      (zss_cons (zs_if (ZW.zt (zw_and (zt_cmpP op_in_seq (zn 2) (ze_tup (za_cons ze_str (za_cons ze_str za_nil))) (by with_unfolding_all rfl)) (zw_and1 (zt_cmpP op_gtP (zcb_len rfl m_len (za_cons (zn 1) za_nil) rfl rfl) (ze_ix ix_P (zn 0) (ze_un un_neg ze_int) (fun _ _ => rfl)) (nomark _))))) (zss_one (zs_ret ze_bl)) zss_nil)
      (zss_cons (zs_if (zt_cmpP (op_eqD hu) (zn 2) ze_str (nomark _)) (zss_one (zs_ret (zcb_all rfl rfl m_all (za_cons (ze_comp ["_law_k"] [("_law_parting", 1), ("_law_kind_here", 0)] rfl ⟨rfl, by decide +kernel, by decide +kernel, rfl, rfl⟩ (zi_range1 rfl m_range (za_cons (ze_op op_subP (zcb_len rfl m_len (za_cons (zn 1) za_nil) rfl rfl) ze_int) za_nil)) kpg_name (fun _ _ _ _ => zg_name (i := 0) (show List.Nodup (["_law_k", "_law_parting", "_law_kind_here"] : List Str) by decide +kernel) rfl (Or.inl rfl)) (fun _ _ _ _ => zif_nil) (fun _ _ _ _ => (ze_cmpR op_geP (ze_op op_subP (ze_ix (ix_P' rfl) (zn 1) (zn 0) (fun _ _ => rfl)) (ze_ix (ix_P' rfl) (zn 1) (ze_op op_addP (zn 0) ze_int) (fun _ _ => rfl))) (ze_ix (ix_P' rfl) (zn 2) ze_int (fun _ _ => rfl)) (nomark _)))) za_nil) rfl rfl))) zss_nil)
      (zss_cons (zs_if (zt_cmpP (op_eqD hu) (zn 2) ze_str (nomark _)) (zss_one (zs_ret (zcb_all rfl rfl m_all (za_cons (ze_comp ["_law_part"] [("_law_parting", 1), ("_law_kind_here", 0)] rfl ⟨rfl, by decide +kernel, by decide +kernel, rfl, rfl⟩ (zi_tup (zn 1)) kpg_name (fun _ _ _ _ => zg_name (i := 0) (show List.Nodup (["_law_part", "_law_parting", "_law_kind_here"] : List Str) by decide +kernel) rfl (Or.inl rfl)) (fun _ _ _ _ => zif_nil) (fun _ _ _ _ => (ze_cmpR op_ltP (zm_count' (zn 1) (za_cons (zn 0) za_nil) rfl) (ze_ix (ix_P' rfl) (zn 2) ze_int (fun _ _ => rfl)) (nomark _)))) za_nil) rfl rfl))) zss_nil)
      (zss_cons (zs_if (zt_cmpP (op_eqD hu) (zn 2) ze_str (nomark _)) (zss_one (zs_ret (zcb_all rfl rfl m_all (za_cons (ze_comp ["_law_part"] [("_law_kind_here", 0)] rfl ⟨rfl, by decide +kernel, by decide +kernel, rfl, rfl⟩ (zi_tup (zn 1)) kpg_name (fun _ _ _ _ => zg_name (i := 0) (show List.Nodup (["_law_part", "_law_kind_here"] : List Str) by decide +kernel) rfl (Or.inl rfl)) (fun _ _ _ _ => zif_nil) (fun _ _ _ _ => (ze_cmpR (op_in_seq' rfl) (ze_op op_modP (zn 0) (ze_ix (ix_P' rfl) (zn 1) ze_int (fun _ _ => rfl))) (ze_ix (ix_P' rfl) (zn 1) ze_int (fun _ _ => rfl)) (by with_unfolding_all rfl)))) za_nil) rfl rfl))) zss_nil)
      (zss_cons (zs_if (ZW.zt (zw_and (zt_cmpP (op_eqD hu) (zn 2) ze_str (nomark _)) (zw_and1 (zt_cmpP (op_neD hu) (zn 1) (ze_tup za_nil) (nomark _))))) (zss_one (zs_ret (ze_cmpR (op_eqD hu) (zn 1) (zcb_tuple rfl m_tuple (za_cons (ze_comp1 "_law_k" ["_law_k"] [("_law_parting", 1)] rfl ⟨rfl, by decide +kernel, rfl, rfl, fun _ _ => rfl, fun _ => rfl, rfl⟩ (zi_range2 rfl m_range (za_cons ze_int (za_cons (ze_op op_addP (ze_ix ix_P (zn 1) ze_int (fun _ _ => rfl)) ze_int) za_nil))) kpg_name (fun _ _ _ _ => zg_name (i := 0) (show List.Nodup (["_law_k", "_law_parting"] : List Str) by decide +kernel) rfl (Or.inr rfl)) (fun _ _ _ _ => zif_nil) (fun _ _ _ _ => (zcb_len' rfl m_len (za_cons (ze_comp ["_law_part"] [("_law_k", 0)] rfl ⟨rfl, by decide +kernel, by decide +kernel, rfl, rfl⟩ (zi_tup' (zn 1) rfl) kpg_name (fun _ _ _ _ => zg_name (i := 0) (show List.Nodup (["_law_part", "_law_k"] : List Str) by decide +kernel) rfl (Or.inl rfl)) (fun _ _ _ _ => (zif_one (zt_cmpP op_geP (zn 0) (zn 1) (nomark _)))) (fun _ _ _ _ => ze_int)) za_nil) rfl rfl rfl))) za_nil) rfl rfl) (nomark _)))) zss_nil)
      (zss_one (zs_ret ze_bl))))))))), ?_⟩
  cases k with
  | all =>
    refine ⟨_, .inr hk, .str "all", rfl, ?_⟩
    refine ⟨by show 2 ≤ sizeLine; decide, fun w1 hw1 => ?_⟩
    have y1 := Same.new hw1 (HO.tup [V.str "most", .str "box"])
    refine ⟨w1, _, rfl, .inr (SqT.of upd_same), rfl, rfl, ?_⟩
    generalize upd H w1 (HO.tup [V.str "most", .str "box"]) = H1 at y1
    refine ⟨by show 2 ≤ sizeLine; decide, fun w2 hw2 => ?_⟩
    have yb := Same.new hw2 (HO.tup [V.str "few", .str "box"])
    refine ⟨w2, _, rfl, .inr (SqT.of upd_same), rfl, rfl, ?_⟩
    generalize upd H1 w2 (HO.tup [V.str "few", .str "box"]) = H2 at yb
    have y2 := y1.trans yb
    have hp2 := y2 _ _ hp
    exact q _ y2
  | most k =>
    refine ⟨_, .inr hk, .str "most", rfl, ?_⟩
    refine ⟨by show 2 ≤ sizeLine; decide, fun w1 hw1 => ?_⟩
    have y1 := Same.new hw1 (HO.tup [V.str "most", .str "box"])
    refine ⟨w1, _, rfl, .inr (SqT.of upd_same), rfl, rfl, ?_⟩
    generalize upd H w1 (HO.tup [V.str "most", .str "box"]) = H1 at y1
    refine ⟨Nat.zero_le _, fun e he => ?_⟩
    have ye := y1.trans (Same.new he (HO.tup []))
    refine ⟨_, _, .ints (ye _ _ hp), .tup (xs := []) upd_same .nil, shaped_ints _, shaped_ints [], ?_⟩
    generalize upd H1 e (HO.tup []) = H2 at ye
    have hp2 := ye _ _ hp
    have hk2 := ye _ _ hk
    rw [if_pos rfl, eqv_tuple_nil]
    cases x with
    | nil =>
      refine ⟨by show 2 ≤ sizeLine; decide, fun w3 hw3 => ?_⟩
      have y3 := Same.new hw3 (HO.tup [V.str "few", .str "box"])
      refine ⟨w3, _, rfl, .inr (SqT.of upd_same), rfl, rfl, ?_⟩
      generalize upd H2 w3 (HO.tup [V.str "few", .str "box"]) = H3 at y3
      exact q _ (ye.trans y3)
    | cons a r =>
      have al := Fl.all_le rfl hf k
      refine ⟨_, .inr hp2, .int (a : Int), atI_of (j := 0) rfl rfl, ?_⟩
      refine ⟨_, .inr hk2, .int k, rfl, ?_⟩
      refine iteD (fun c => ?_) (fun c => ?_)
      · have c' : (k : Int) < (a : Int) := c
        have e : isg (.most k) (a :: r) = false := by show ((a :: r).all fun a => decide (a ≤ k)) = _; rw [al]; exact decide_eq_false (by omega)
        rw [e] at q
        exact q _ ye
      · have c' : ¬ (k : Int) < (a : Int) := c
        have e : isg (.most k) (a :: r) = true := by show ((a :: r).all fun a => decide (a ≤ k)) = _; rw [al]; exact decide_eq_true (by omega)
        rw [e] at q
        refine ⟨by show 2 ≤ sizeLine; decide, fun w3 hw3 => ?_⟩
        have y3 := Same.new hw3 (HO.tup [V.str "few", .str "box"])
        refine ⟨w3, _, rfl, .inr (SqT.of upd_same), rfl, rfl, ?_⟩
        generalize upd H2 w3 (HO.tup [V.str "few", .str "box"]) = H3 at y3
        exact q _ (ye.trans y3)
  | few k =>
    refine ⟨_, .inr hk, .str "few", rfl, ?_⟩
    refine ⟨by show 2 ≤ sizeLine; decide, fun w1 hw1 => ?_⟩
    have y1 := Same.new hw1 (HO.tup [V.str "most", .str "box"])
    refine ⟨w1, _, rfl, .inr (SqT.of upd_same), rfl, rfl, ?_⟩
    generalize upd H w1 (HO.tup [V.str "most", .str "box"]) = H1 at y1
    refine ⟨by show 2 ≤ sizeLine; decide, fun w2 hw2 => ?_⟩
    have yb := Same.new hw2 (HO.tup [V.str "few", .str "box"])
    refine ⟨w2, _, rfl, .inr (SqT.of upd_same), rfl, rfl, ?_⟩
    generalize upd H1 w2 (HO.tup [V.str "few", .str "box"]) = H2 at yb
    have y2 := y1.trans yb
    have hp2 := y2 _ _ hp
    have hk2 := y2 _ _ hk
    refine ⟨_, .inr hp2, ?_⟩
    refine ⟨1, rfl, _, .inr hk2, .int k, rfl, ?_⟩
    rw [nI_len]
    refine iteD (fun c => ?_) (fun c => ?_)
    · have c' : (k : Int) < (x.length : Int) := c
      have e : isg (.few k) x = false := decide_eq_false (p := x.length ≤ k) (by omega)
      rw [e] at q
      exact q _ y2
    · have c' : ¬ (k : Int) < (x.length : Int) := c
      have e : isg (.few k) x = true := decide_eq_true (p := x.length ≤ k) (by omega)
      rw [e] at q
      exact q _ y2
  | box k l =>
    refine ⟨_, .inr hk, .str "box", rfl, ?_⟩
    refine ⟨by show 2 ≤ sizeLine; decide, fun w1 hw1 => ?_⟩
    have y1 := Same.new hw1 (HO.tup [V.str "most", .str "box"])
    refine ⟨w1, _, rfl, .inr (SqT.of upd_same), rfl, rfl, ?_⟩
    generalize upd H w1 (HO.tup [V.str "most", .str "box"]) = H1 at y1
    refine ⟨Nat.zero_le _, fun e he => ?_⟩
    have ye := y1.trans (Same.new he (HO.tup []))
    refine ⟨_, _, .ints (ye _ _ hp), .tup (xs := []) upd_same .nil, shaped_ints _, shaped_ints [], ?_⟩
    generalize upd H1 e (HO.tup []) = H2 at ye
    have hp2 := ye _ _ hp
    have hk2 := ye _ _ hk
    rw [if_pos rfl, eqv_tuple_nil]
    cases x with
    | nil =>
      refine ⟨by show 2 ≤ sizeLine; decide, fun w3 hw3 => ?_⟩
      have y3 := Same.new hw3 (HO.tup [V.str "few", .str "box"])
      refine ⟨w3, _, rfl, .inr (SqT.of upd_same), rfl, rfl, ?_⟩
      generalize upd H2 w3 (HO.tup [V.str "few", .str "box"]) = H3 at y3
      have hk3 := y3 _ _ hk2
      obtain ⟨xs0, hx0, hp3⟩ : ∃ xs0 : List V, xs0.length = 0 ∧ H3 p = some (.tup xs0) := ⟨nI [], rfl, y3 _ _ hp2⟩
      refine ⟨_, .inr hp3, ?_⟩
      refine ⟨1, rfl, _, .inr hk3, .int l, rfl, ?_⟩
      refine iteD (fun c => ?_) (fun c => ?_)
      · have c' : (l : Int) < (xs0.length : Int) := c
        omega
      · exact q _ (ye.trans y3)
    | cons a r =>
      have al := Fl.all_le rfl hf k
      have eb : isg (.box k l) (a :: r) = (decide ((a :: r).length ≤ l) && decide (a ≤ k)) := by rw [← al]; rfl
      rw [eb] at q
      refine ⟨_, .inr hp2, .int (a : Int), atI_of (j := 0) rfl rfl, ?_⟩
      refine ⟨_, .inr hk2, .int k, rfl, ?_⟩
      refine iteD (fun c => ?_) (fun c => ?_)
      · have c' : (k : Int) < (a : Int) := c
        rw [show decide (a ≤ k) = false from decide_eq_false (by omega), Bool.and_false] at q
        exact q _ ye
      · have c' : ¬ (k : Int) < (a : Int) := c
        rw [show decide (a ≤ k) = true from decide_eq_true (by omega), Bool.and_true] at q
        refine ⟨by show 2 ≤ sizeLine; decide, fun w3 hw3 => ?_⟩
        have y3 := Same.new hw3 (HO.tup [V.str "few", .str "box"])
        refine ⟨w3, _, rfl, .inr (SqT.of upd_same), rfl, rfl, ?_⟩
        generalize upd H2 w3 (HO.tup [V.str "few", .str "box"]) = H3 at y3
        have hp3 := y3 _ _ hp2
        have hk3 := y3 _ _ hk2
        refine ⟨_, .inr hp3, ?_⟩
        refine ⟨1, rfl, _, .inr hk3, .int l, rfl, ?_⟩
        rw [nI_len]
        refine iteD (fun c => ?_) (fun c => ?_)
        · have c' : (l : Int) < ((a :: r).length : Int) := c
          rw [show decide ((a :: r).length ≤ l) = false from decide_eq_false (by omega)] at q
          exact q _ (ye.trans y3)
        · have c' : ¬ (l : Int) < ((a :: r).length : Int) := c
          rw [show decide ((a :: r).length ≤ l) = true from decide_eq_true (by omega)] at q
          exact q _ (ye.trans y3)
  | times m =>
    refine ⟨_, .inr hk, .str "times", rfl, ?_⟩
    refine ⟨by show 2 ≤ sizeLine; decide, fun w1 hw1 => ?_⟩
    have y1 := Same.new hw1 (HO.tup [V.str "most", .str "box"])
    refine ⟨w1, _, rfl, .inr (SqT.of upd_same), rfl, rfl, ?_⟩
    generalize upd H w1 (HO.tup [V.str "most", .str "box"]) = H1 at y1
    refine ⟨by show 2 ≤ sizeLine; decide, fun w2 hw2 => ?_⟩
    have yb := Same.new hw2 (HO.tup [V.str "few", .str "box"])
    refine ⟨w2, _, rfl, .inr (SqT.of upd_same), rfl, rfl, ?_⟩
    generalize upd H1 w2 (HO.tup [V.str "few", .str "box"]) = H2 at yb
    have y2 := y1.trans yb
    have hp2 := y2 _ _ hp
    have hk2 := y2 _ _ hk
    refine ⟨p, rfl, ⟨_, SqT.of hp2⟩, cmp_tup (xs := nI x) (fun i ys H' => H' = H2 ∧ i ≤ x.length ∧ ys = ((x.take i).map fun a : Nat => decide (x.count a < m)).map V.bl) ⟨rfl, Nat.zero_le _, rfl⟩ ?_ ?_ ?_⟩
    · rintro i ys H' _ ⟨rfl, _⟩
      exact SqT.of hp2
    · rintro i v ys H' hv ⟨rfl, hi, rfl⟩
      obtain ⟨a, ha, rfl⟩ := nI_at hv
      have hi' := (List.getElem?_eq_some_iff.mp ha).1
      refine ⟨by rw [List.length_map, List.length_map, List.length_take]; exact small1000 (by omega), ?_⟩
      refine ⟨tyT hp2, _, hp2, ?_⟩
      refine ⟨_, .inr hk2, .int m, rfl, ?_⟩
      refine ⟨rfl, hi', ?_⟩
      rw [take_more _ ha, List.map_append]
      rw [show decide (x.count a < m) = decide (((x.map fun (k : Nat) => (k : Int)).count (a : Int) : Int) < (m : Int)) from decide_eq_decide.mpr (by rw [countI]; omega)]
      rfl
    · rintro ys H' ⟨rfl, hi, rfl⟩ D hD
      refine ⟨_, SqL.of upd_same, ?_⟩
      rw [nI_len, List.take_of_length_le (Nat.le_refl _), List.all_map]
      exact q _ (y2.trans (Same.new hD _))
  | rests m rs =>
    obtain ⟨d, hk, hd⟩ := hk
    refine ⟨_, .inr hk, .str "rests", rfl, ?_⟩
    refine ⟨by show 2 ≤ sizeLine; decide, fun w1 hw1 => ?_⟩
    have y1 := Same.new hw1 (HO.tup [V.str "most", .str "box"])
    refine ⟨w1, _, rfl, .inr (SqT.of upd_same), rfl, rfl, ?_⟩
    generalize upd H w1 (HO.tup [V.str "most", .str "box"]) = H1 at y1
    refine ⟨by show 2 ≤ sizeLine; decide, fun w2 hw2 => ?_⟩
    have yb := Same.new hw2 (HO.tup [V.str "few", .str "box"])
    refine ⟨w2, _, rfl, .inr (SqT.of upd_same), rfl, rfl, ?_⟩
    generalize upd H1 w2 (HO.tup [V.str "few", .str "box"]) = H2 at yb
    have y2 := y1.trans yb
    have hp2 := y2 _ _ hp
    have hk2 := y2 _ _ hk
    have hd2 := y2 _ _ hd
    have hm := hok.1
    refine ⟨p, rfl, ⟨_, SqT.of hp2⟩, cmp_tup (xs := nI x) (fun i ys H' => H' = H2 ∧ i ≤ x.length ∧ ys = ((x.take i).map fun a : Nat => decide ((a : Int) % (m : Int) ∈ rs)).map V.bl) ⟨rfl, Nat.zero_le _, rfl⟩ ?_ ?_ ?_⟩
    · rintro i ys H' _ ⟨rfl, _⟩
      exact SqT.of hp2
    · rintro i v ys H' hv ⟨rfl, hi, rfl⟩
      obtain ⟨a, ha, rfl⟩ := nI_at hv
      have hi' := (List.getElem?_eq_some_iff.mp ha).1
      refine ⟨by rw [List.length_map, List.length_map, List.length_take]; exact small1000 (by omega), ?_⟩
      refine ⟨_, .inr hk2, .int m, rfl, (show (0 : Int) < (m : Int) by omega), ?_⟩
      refine ⟨_, .inr hk2, .ref d, rfl, ?_⟩
      refine ⟨d, _, rfl, .inr (SqT.of hd2), rfl, flat_ints rs, ?_⟩
      rw [in_ints]
      refine ⟨rfl, hi', ?_⟩
      rw [take_more _ ha, List.map_append]
      rfl
    · rintro ys H' ⟨rfl, hi, rfl⟩ D hD
      refine ⟨_, SqL.of upd_same, ?_⟩
      rw [nI_len, List.take_of_length_le (Nat.le_refl _), List.all_map]
      exact q _ (y2.trans (Same.new hD _))
  | off d =>
    refine ⟨_, .inr hk, .str "off", rfl, ?_⟩
    refine ⟨by show 2 ≤ sizeLine; decide, fun w1 hw1 => ?_⟩
    have y1 := Same.new hw1 (HO.tup [V.str "most", .str "box"])
    refine ⟨w1, _, rfl, .inr (SqT.of upd_same), rfl, rfl, ?_⟩
    generalize upd H w1 (HO.tup [V.str "most", .str "box"]) = H1 at y1
    refine ⟨by show 2 ≤ sizeLine; decide, fun w2 hw2 => ?_⟩
    have yb := Same.new hw2 (HO.tup [V.str "few", .str "box"])
    refine ⟨w2, _, rfl, .inr (SqT.of upd_same), rfl, rfl, ?_⟩
    generalize upd H1 w2 (HO.tup [V.str "few", .str "box"]) = H2 at yb
    have y2 := y1.trans yb
    have hp2 := y2 _ _ hp
    have hk2 := y2 _ _ hk
    have zl : (zb d x).length = x.length - 1 := by unfold zb; rw [List.length_zipWith, List.length_tail]; omega
    rw [show isg (.off d) x = (zb d x).all id from vd_zb d x] at q
    refine ⟨_, .inr hp2, ?_⟩
    rw [nI_len]
    have eN : ((x.length : Int) - 1).toNat = x.length - 1 := by omega
    refine ⟨(x.length : Int) - 1, rfl, by omega, by omega, ?_⟩
    rw [eN]
    refine cmp_range (fun i ys H' => H' = H2 ∧ i ≤ x.length - 1 ∧ ys = ((zb d x).take i).map V.bl) ⟨rfl, Nat.zero_le _, rfl⟩ ?_ ?_
    · rintro i ys H' hi ⟨rfl, _, rfl⟩
      have h0 : i < x.length := by omega
      have h1 : i + 1 < x.length := by omega
      have g0 : x[i]? = some x[i] := List.getElem?_eq_getElem h0
      have g1 : x[i + 1]? = some x[i + 1] := List.getElem?_eq_getElem h1
      have hz := zb_get (d := d) g0 g1
      generalize x[i] = a at g0 hz
      generalize x[i + 1] = b at g1 hz
      refine ⟨by rw [List.length_map, List.length_take]; exact small1000 (by omega), ?_⟩
      refine ⟨_, .inr hp2, .int (a : Int), atI_of (j := i) (by omega) (nI_get g0), ?_⟩
      refine ⟨_, .inr hp2, .int (b : Int), atI_of (j := i + 1) (by omega) (nI_get g1), ?_⟩
      refine ⟨_, .inr hk2, .int d, rfl, ?_⟩
      refine ⟨rfl, by omega, ?_⟩
      rw [List.take_succ, hz, List.map_append]
      rw [show decide (b + d ≤ a) = decide ((d : Int) ≤ (a : Int) - (b : Int)) from decide_eq_decide.mpr (by omega)]
      rfl
    · rintro ys H' ⟨rfl, hi, rfl⟩ D hD
      refine ⟨_, SqL.of upd_same, ?_⟩
      rw [← zl, List.take_of_length_le (Nat.le_refl _)]
      exact q _ (y2.trans (Same.new hD _))
  | own =>
    refine ⟨_, .inr hk, .str "own", rfl, ?_⟩
    refine ⟨by show 2 ≤ sizeLine; decide, fun w1 hw1 => ?_⟩
    have y1 := Same.new hw1 (HO.tup [V.str "most", .str "box"])
    refine ⟨w1, _, rfl, .inr (SqT.of upd_same), rfl, rfl, ?_⟩
    generalize upd H w1 (HO.tup [V.str "most", .str "box"]) = H1 at y1
    refine ⟨by show 2 ≤ sizeLine; decide, fun w2 hw2 => ?_⟩
    have yb := Same.new hw2 (HO.tup [V.str "few", .str "box"])
    refine ⟨w2, _, rfl, .inr (SqT.of upd_same), rfl, rfl, ?_⟩
    generalize upd H1 w2 (HO.tup [V.str "few", .str "box"]) = H2 at yb
    have y2 := y1.trans yb
    refine ⟨Nat.zero_le _, fun e he => ?_⟩
    have y3 := y2.trans (Same.new he (HO.tup []))
    have hp3 := y3 _ _ hp
    refine ⟨_, _, .ints hp3, .tup (xs := []) upd_same .nil, shaped_ints _, shaped_ints [], ?_⟩
    generalize upd H2 e (HO.tup []) = H3 at y3 hp3
    rw [if_pos rfl, eqv_tuple_nil]
    cases x with
    | nil => exact q _ y3
    | cons a r =>
      have ha := hx a List.mem_cons_self
      refine ⟨_, .inr hp3, .int (a : Int), atI_of (j := 0) rfl rfl, ?_⟩
      refine ⟨1, (a : Int) + 1, rfl, ⟨by omega, by omega, by omega, by omega⟩, ?_⟩
      rw [show ((a : Int) + 1 - 1).toNat = a by omega]
      generalize hx0 : a :: r = x0 at hp3 hl q hf
      refine cmp_range (fun i zs H' => i ≤ a ∧ Same H3 H' ∧ zs = (M03.tab (M63.toI x0) i).map V.int) ⟨Nat.zero_le _, Same.refl _, rfl⟩ ?_ ?_
      · rintro i zs H' hi ⟨_, y, rfl⟩
        have hp4 := y _ _ hp3
        refine ⟨by rw [List.length_map, M03.tab_len]; exact small1000 (by omega), ?_⟩
        refine ⟨p, rfl, ⟨_, SqT.of hp4⟩, cmp_tup (xs := nI x0) (fun m ys H5 => H5 = H' ∧ m ≤ x0.length ∧ ys = (List.replicate ((x0.take m).countP fun b => decide (i < b)) (1 : Int)).map V.int) ⟨rfl, Nat.zero_le _, rfl⟩ ?_ ?_ ?_⟩
        · rintro m ys H5 _ ⟨rfl, _⟩
          exact SqT.of hp4
        · rintro m v ys H5 hv ⟨rfl, hm, rfl⟩
          obtain ⟨b, hb, rfl⟩ := nI_at hv
          have hm' := (List.getElem?_eq_some_iff.mp hb).1
          have cp : (x0.take (m + 1)).countP (fun b => decide (i < b)) = (x0.take m).countP (fun b => decide (i < b)) + if i < b then 1 else 0 := by
            rw [List.take_succ, hb, List.countP_append]
            show _ + List.countP _ [b] = _
            rw [List.countP_singleton]
            simp
          have lc := List.countP_le_length (p := fun b => decide (i < b)) (l := x0.take m)
          have lt := List.length_take_le m x0
          refine ⟨by rw [List.length_map, List.length_replicate]; exact small1000 (by omega), ?_⟩
          refine iteD (fun c => ?_) (fun c => ?_)
          · have c' : (1 : Int) + (i : Int) ≤ (b : Int) := c
            refine ⟨rfl, hm', ?_⟩
            rw [cp, if_pos (by omega), List.replicate_succ', List.map_append]
            rfl
          · have c' : ¬ (1 : Int) + (i : Int) ≤ (b : Int) := c
            refine ⟨rfl, hm', ?_⟩
            rw [cp, if_neg (by omega), Nat.add_zero]
        · rintro ys H5 ⟨rfl, _, rfl⟩ D hD
          rw [nI_len, List.take_of_length_le (Nat.le_refl _)]
          refine ⟨_, .inl (SqL.of upd_same), ?_⟩
          refine ⟨hi, y.trans (Same.new hD _), ?_⟩
          rw [M03.tab_succ, List.map_append, List.length_map, List.length_replicate]
          have : M03.cn (M63.toI x0) (i : Int) = x0.countP fun b => decide (i < b) := by
            unfold M03.cn M63.toI
            rw [List.countP_map]
            refine List.countP_congr fun b _ => ?_
            simp
          rw [this]
          rfl
      · rintro zs H' ⟨_, y, rfl⟩ D hD
        refine ⟨_, .inl (SqL.of upd_same), fun t H6 y6 ht => ?_⟩
        have y7 := (y.trans (Same.new hD _)).trans y6
        refine ⟨_, _, .ints (ns := M63.toI x0) (y7 _ _ hp3), .ints ht, shaped_ints _, shaped_ints _, ?_⟩
        rw [if_neg (by decide), eqv_tup]
        have e1 : M03.tn (M63.toI x0) = M03.tab (M63.toI x0) a := by
          rw [← hx0]
          rfl
        have e2 : decide (M63.toI x0 = M03.tab (M63.toI x0) a) = isg .own x0 := by
          show _ = decide (M03.tn (M63.toI x0) = M63.toI x0)
          rw [e1]
          exact decide_eq_decide.mpr ⟨Eq.symm, Eq.symm⟩
        rw [e2]
        exact q _ (y3.trans y7)
end
end K72
set_option Elab.async false
set_option linter.all false
set_option maxRecDepth 100000
set_option maxHeartbeats 4000000
namespace SRV
open PySem PySem.W PySem.Calls
open PyProof.Rows hiding K SortedTo K_bubble K_mirror K_congr K_mirror_equal
section
variable {prog : Program} {w : World} {A : Around} {E : Value → Shared → Prop} {s : Shared}
theorem TI.keep {h h' : Heap} {v : Value} {ns : List Int} (t : TI h v ns) (k : ∀ a o, v = .ref a → h.get? a = some o → h'.get? a = some o) : TI h' v ns := by
  obtain ⟨a, o, its, n, rfl, ho, hc, hd, hI⟩ := t
  exact ⟨a, o, its, n, rfl, k a o rfl ho, hc, hd, hI⟩
noncomputable def Up (h : Heap) (u v : Value) : Prop := lexb (datOf h v) (datOf h u) = false
end
end SRV
namespace L2
open PySem PySem.Spec PyProof.Rows
section
variable {X : Cx}
theorem vals_rfs : ∀ {ps : List (Addr × List Int)} {its : List Value}, Vals (ps.map fun q => V.ref q.1) its → its = ps.map fun q => Value.ref q.1
  | [], _, .nil => rfl
  | _ :: _, _, .cons h r => by rw [List.map_cons, ← vals_rfs r]; cases h; rfl
theorem rfs_vals : ∀ (ps : List (Addr × List Int)), Vals (ps.map fun q => V.ref q.1) (ps.map fun q => Value.ref q.1)
  | [] => .nil
  | _ :: ps => .cons rfl (rfs_vals ps)
variable {e : Expr} {es : List Expr} {t : TA} {p pos : Pos}
end
end L2
set_option Elab.async false
set_option linter.all false
set_option maxRecDepth 100000
set_option maxHeartbeats 4000000
namespace SRV
open PySem PySem.W PySem.Calls
open PyProof.Rows hiding K SortedTo K_bubble K_mirror K_congr K_mirror_equal
section
variable {prog : Program} {w : World} {A : Around} {E : Value → Shared → Prop} {s : Shared}
theorem minRun_le : ∀ (f n r : Nat), r ≤ 1 → minRun' f n r ≤ n + r
  | 0, n, r, _ => Nat.le_refl _
  | f + 1, n, r, h => by
    rw [minRun'_succ]
    split
    · exact Nat.le_refl _
    · have := minRun_le f (n / 2) (max r (n % 2)) (by omega)
      omega
theorem s_asc {st : SortSt} {n : Nat} {Q : Unit → SortSt → Prop} (hn : (arrOf st).size = n) (h1 : 1 ≤ n) (he : pendingOf st = #[])
    (hlt : ∀ x, 1 ≤ x → x < n → ∀ Q' : Option Bool → SortSt → Prop, Q' (some false) st → wpS (model prog w) A E s (ltAt' x (x - 1)) Q' st)
    (h : ∀ v, arrOf v = arrOf st → failedOf v = failedOf st → Q () v) : wpS (model prog w) A E s sortRuns' Q st := by
  rw [sortRuns'_eq]
  refine wpS_bind (wpS_get ?_)
  dsimp only
  rw [hn]
  have hmr := minRun_le n n 0 (by omega)
  generalize minRun' n n 0 = mr at hmr
  refine wpS_bind (wpS_mono (wpS_forRange
    (I := fun x c v => (x = 0 ∧ c = (none, 0) ∧ v = st) ∨ (1 ≤ x ∧ c = (none, n) ∧ v = setPending st #[(0, n, 0)]))
    (Q := fun c v => c = (none, n) ∧ v = setPending st #[(0, n, 0)]) ?step ?fin (.inl ⟨rfl, rfl, rfl⟩)) ?post)
  case fin =>
    rintro c v (⟨hx, _, _⟩ | ⟨_, hc, hD⟩)
    · omega
    · exact ⟨hc, hD⟩
  case step =>
    rintro x c v _ hx (⟨rfl, rfl, rfl⟩ | ⟨hx1, rfl, rfl⟩)
    · dsimp only
      rw [if_neg (by omega)]
      simp only [Nat.sub_zero, Nat.zero_add]
      rw [countRun0_eq]
      refine wpS_bind (wpS_bind ?_)
      unfold ascLoop
      refine wpS_forRange (I := fun x c v' => v' = v ∧ c = (none, x)) ?s1 ?f1 ⟨rfl, rfl⟩
      case s1 =>
        rintro y c v' hy1 hy2 ⟨rfl, rfl⟩
        dsimp only
        refine wpS_bind (hlt y hy1 hy2 _ ?_)
        exact wpS_pure ⟨rfl, rfl⟩
      case f1 =>
        rintro c v' ⟨rfl, rfl⟩
        rw [show max 1 n = n by omega]
        dsimp only
        rw [if_pos (by simp)]
        refine wpS_pure ?_
        dsimp only
        rw [if_neg (by omega)]
        refine wpS_bind (wpS_get ?_)
        have hb : (pendingOf v').back? = none := by rw [he]; rfl
        rw [hb]
        dsimp only
        refine wpS_bind (wpS_modify (wpS_pure (.inr ⟨by omega, rfl, ?_⟩)))
        rw [he]
        rfl
    · dsimp only
      rw [if_pos (Nat.le_refl _)]
      exact wpS_pure ⟨rfl, rfl⟩
  case post =>
    rintro c v ⟨rfl, rfl⟩
    dsimp only
    refine wpS_bind (wpS_mono (wpS_forRange (I := fun _ c v' => v' = setPending st #[(0, n, 0)] ∧ c = (none, ())) (Q := fun c v' => v' = setPending st #[(0, n, 0)] ∧ c = (none, ())) ?_ (fun _ _ hh => hh) ⟨rfl, rfl⟩) ?_)
    · rintro x c v' _ _ ⟨rfl, rfl⟩
      refine wpS_bind (wpS_get ?_)
      rw [if_pos (show (pendingOf (setPending st #[(0, n, 0)])).size ≤ 1 from Nat.le_refl 1)]
      exact wpS_pure ⟨rfl, rfl⟩
    · rintro c v' ⟨rfl, rfl⟩
      exact wpS_pure (h _ rfl rfl)
theorem u_elem {st : SortSt} {xs : Array Keyed} {i : Nat} {p : Keyed} {Q : Keyed → SortSt → Prop} (e : xs[i]? = some p) (h : Q p st) : wpS (model prog w) A E s (elem' xs i) Q st := by
  rw [elem'_eq, e]; exact wpS_pure h
theorem u_core {a : Addr} {e1 : Nat} {vs : List Value} {P : Fin → Shared → Prop} (hA : s.heap.get? a = some (seqObj "list" #[] e1)) (hT : ∀ v ∈ vs, ∃ ns, TI s.heap v ns) (hN : 2 ≤ vs.length → ∀ v ∈ vs, datOf s.heap v ≠ []) (hz : vs.length ≤ sizeLine) (up : vs.Pairwise (Up s.heap))
    (h : P (.done (.ret .none)) { s with heap := s.heap.update a (Obj.mapSeq fun _ => List.toArray vs) }) : wpAny (model prog w) A (SRT.core a e1 vs.toArray false) P E s := by
  unfold SRT.core
  have e0 : (vs.toArray.zip vs.toArray).map (·.2) = List.toArray vs := by
    apply Array.ext'
    simp [List.map_snd_zip]
  have fin : ∀ z : SortSt, arrOf z = vs.toArray.zip vs.toArray → failedOf z = none → wpAny (model prog w) A (do
      let tch := (← seqEpoch a) != e1
      Builtin.List.listUpdate (.ref a) fun _ => if false then ((arrOf z).map (·.2)).reverse else (arrOf z).map (·.2)
      if let some e := failedOf z then rule "list.sort.comparison-raised"; throw e
      if tch then rule "list.sort.modified"; raiseError "ValueError" "list modified during sort"
      ret .none) P E s := fun z hp hf => by
    rw [hp, e0, if_neg Bool.false_ne_true]
    refine wpAny_bind (seqEpoch_at hA rfl (wpAny_bind (listUpdate_at hA rfl ?_ (hsz2 := by rw [List.size_toArray]; omega))))
    rw [hf]
    simp only [bne_self_eq_false, Bool.false_eq_true, if_false]
    exact wpAny_pure h
  rw [if_neg Bool.false_ne_true]
  by_cases h2 : vs.toArray.size < 2
  · rw [if_pos h2, if_pos h2]
    refine wpAny_bind (wpAny_pure ?_)
    dsimp only
    rw [StateT.run_pure]
    exact wpAny_bind (wpAny_pure (fin (SortSt.mk' general' _ #[] 7 none) rfl rfl))
  · rw [if_neg h2, if_neg h2]
    rw [List.size_toArray] at h2
    obtain ⟨fs, t1, t2, t3⟩ := ti_firsts (h := s.heap) (vs := vs) fun v hv => by
      obtain ⟨ns, t⟩ := hT v hv
      refine ⟨ns, fun e => hN (by omega) v hv ?_, t⟩
      rw [t.dat, e]
    refine wpAny_bind (kat_kind t1 (by omega) (T := .type "int") (fun v hv => ?_) rfl ?_)
    · obtain ⟨k, t, rfl⟩ := t3 v hv; exact .now
    refine wpAny_bind (wpAny_mono (s_asc (st := SortSt.mk' (tuples' true) (vs.toArray.zip vs.toArray) #[] 7 none) (n := vs.length) (s := s)
      (Q := fun _ z => arrOf z = vs.toArray.zip vs.toArray ∧ failedOf z = none) (by show (vs.toArray.zip vs.toArray).size = _; simp) (by omega) rfl (fun x x1 x2 Q' q => ?_) fun z g1 g2 => ⟨g1, g2⟩) ?_ fun _ _ e => e)
    · have at_ : ∀ y (hy : y < vs.length), (vs.toArray.zip vs.toArray)[y]? = some (vs[y], vs[y]) := fun y hy => by
        rw [Array.getElem?_eq_getElem (by simp; exact hy)]
        simp
      obtain ⟨ns, t⟩ := hT _ (List.getElem_mem x2)
      obtain ⟨ms, u⟩ := hT _ (List.getElem_mem (show x - 1 < vs.length by omega))
      have z := List.pairwise_iff_getElem.mp up (x - 1) x (by omega) x2 (by omega)
      unfold Up at z
      rw [t.dat, u.dat] at z
      rw [ltAt'_eq]
      refine wpS_bind (wpS_get (wpS_bind (u_elem (at_ x x2) (wpS_bind (u_elem (at_ (x - 1) (by omega)) (tup_lt rfl t u (by rw [z]; exact q)))))))
    rintro ⟨⟨⟩, z⟩ s' ⟨e, g1, g2⟩
    have e : s' = s := e
    rw [e]
    exact fin z g1 g2
theorem u_sort {a : Addr} {vs : List Value} {n : Nat} {P : Fin → Shared → Prop} (hA : s.heap.get? a = some (seqObj "list" vs.toArray n)) (hT : ∀ v ∈ vs, ∃ ns, TI s.heap v ns) (hne : ∀ v ∈ vs, v ≠ .ref a) (hN : 2 ≤ vs.length → ∀ v ∈ vs, datOf s.heap v ≠ []) (hz : vs.length ≤ sizeLine) (up : vs.Pairwise (Up s.heap))
    (h : P (.done (.ret .none)) { s with heap := sortedHeap s.heap a vs (List.toArray vs) }) : wpAny (model prog w) A (Builtin.«list.sort» ⟨[.ref a], []⟩) P E s := by
  rw [SRT.plain_core]
  refine SRT.w_start hA hz fun s' e1 e hA' => ?_
  have keep : ∀ v ∈ vs, ∀ ns, TI s.heap v ns → TI s'.heap v ns := fun v hv ns t => t.keep fun b o eb ho => by
    subst e
    have hb : b ≠ a := fun x => hne v hv (by rw [eb, x])
    refine Heap.get?_push_of_some _ (Heap.get?_push_of_some _ ?_)
    rw [Heap.get?_update_ne _ _ _ _ hb]
    exact ho
  have dat : ∀ v ∈ vs, datOf s'.heap v = datOf s.heap v := fun v hv => by
    obtain ⟨ns, t⟩ := hT v hv
    rw [t.dat, (keep v hv ns t).dat]
  refine u_core hA' (fun v hv => ?_) (fun h2 v hv => ?_) hz (up.imp_of_mem fun {u v} hu hv g => ?_) ?_
  · obtain ⟨ns, t⟩ := hT v hv
    exact ⟨ns, keep v hv ns t⟩
  · rw [dat v hv]
    exact hN h2 v hv
  · unfold Up
    rw [dat v hv, dat u hu]
    exact g
  · subst e
    exact h
theorem u_sorted {l : Addr} {vs : List Value} {o : Obj} {T : String} {n : Nat} {Q : Value → Shared → Prop} (ho : s.heap.get? l = some o) (hc : o.cls = .type T) (hd : o.data = .seq vs.toArray n) (hT : T = "list" ∨ T = "tuple") (hI : ∀ v ∈ vs, ∃ ns, TI s.heap v ns) (hN : 2 ≤ vs.length → ∀ v ∈ vs, datOf s.heap v ≠ []) (hz : vs.length ≤ sizeLine) (up : vs.Pairwise (Up s.heap))
    (h : Q (.ref (s.heap.objs.size + 1)) { s with heap := sortedAll s.heap vs (List.toArray vs) }) : wpAny (model prog w) A (call (.builtin "sorted") [.ref l]) Q E s := by
  refine call_function_entry kind_sorted plain_sorted entry_sorted (args_sorted1 _) ?_
  unfold Builtin.«sorted»
  refine wpAny_bind (m := checkCount "sorted" 1 1 _) (wpAny_pure (wpAny_bind (SRT.w_collect ho hc hd hT hz (wpAny_bind (wpAny_newList ?_ ?hs)))))
  case hs => exact hz
  generalize hG : (s.heap.push (seqObj "list" #[] 0)).update s.heap.objs.size (Obj.mapSeq (· ++ vs.toArray)) = G
  have sG : G.objs.size = s.heap.objs.size + 1 := by rw [← hG, Heap.size_update, size_push']
  have old : ∀ b ob, s.heap.get? b = some ob → G.get? b = some ob := fun b ob e => by
    rw [← hG, Heap.get?_update_ne _ _ _ _ (Nat.ne_of_lt (Heap.lt_size e))]
    exact Heap.get?_push_of_some _ e
  have hL : (G.push (seqObj "list" vs.toArray 0)).get? (s.heap.objs.size + 1) = some (seqObj "list" vs.toArray 0) := by rw [← sG]; exact Heap.get?_push_size _ rfl
  show wpAny _ _ _ _ _ { s with heap := G.push (seqObj "list" vs.toArray 0) }
  rw [show ({ s with heap := G } : Shared).heap.objs.size = s.heap.objs.size + 1 from sG]
  have keep : ∀ v ns, TI s.heap v ns → TI (G.push (seqObj "list" vs.toArray 0)) v ns := fun v ns t => t.keep fun b o _ e => Heap.get?_push_of_some _ (old b o e)
  have dat : ∀ v ∈ vs, datOf (G.push (seqObj "list" vs.toArray 0)) v = datOf s.heap v := fun v hv => by
    obtain ⟨ns, t⟩ := hI v hv
    rw [t.dat, (keep v ns t).dat]
  refine wpAny_bind (wpAny_holding (wpAny_call_entry slot_list_sort ⟨_, hL, rfl⟩ entry_list_sort (u_sort hL (fun v hv => ?_) (fun v hv => ?_) (fun h2 v hv => ?_) hz (up.imp_of_mem fun {u v} hu hv g => ?_) ⟨_, rfl, wpAny_pure ⟨_, rfl, ?_⟩⟩) (args_list_sort _)))
  · obtain ⟨ns, t⟩ := hI v hv
    exact ⟨ns, keep v ns t⟩
  · intro e
    obtain ⟨ns, b, ob, its, k, e2, e3, _⟩ := hI v hv
    rw [e2] at e
    cases e
    exact absurd (Heap.lt_size e3) (Nat.not_lt.mpr (Nat.le_succ _))
  · have := hN h2 v hv
    rw [← dat v hv] at this
    exact this
  · unfold Up at g ⊢
    rw [dat v hv, dat u hu]
    exact g
  · unfold sortedAll at h
    rw [hG] at h
    exact h
end
end SRV
namespace L2
open PySem PySem.Spec PyProof.Rows
section
variable {X : Cx}
noncomputable def rSortU (K : PySem.W.Frag) : List V → Hp → VK → Prop := fun xs H Q => match xs with
  | [.ref p] => ∃ ps : List (Addr × List Int), SqL K H p (ps.map fun q => V.ref q.1) ∧ (∀ q ∈ ps, H q.1 = some (.tup (q.2.map V.int))) ∧ (2 ≤ ps.length → ∀ q ∈ ps, q.2 ≠ []) ∧ ps.Pairwise (fun a b => SRV.lexb b.2 a.2 = false) ∧ ∀ l, H l = none → Q (.ref l) (upd H l (.lst (ps.map fun q => V.ref q.1)))
  | _ => False
theorem call_sortU : CallR X (.builtin "sorted") (rSortU X.K) := by
  intro pins s σ H xs us Q I r h
  unfold rSortU at h
  split at h
  · rename_i p
    obtain ⟨ps, hq, hd, hne, up, q⟩ := h
    obtain ⟨u, rfl, rx⟩ := vals1 r
    cases rx
    obtain ⟨its, rv, pl, hz⟩ := I.list hq
    obtain ⟨o, ho, hc, n, hdd⟩ := id pl.isList
    obtain rfl := vals_rfs rv
    have ti : ∀ x ∈ ps, SRV.TI s.heap (.ref x.1) x.2 := fun x hx => by
      obtain ⟨its, rv, pl, hz⟩ := I.tuple (SqT.of (hd x hx))
      obtain ⟨o, ho, hc, n, hdd⟩ := id pl
      exact ⟨_, o, its, n, rfl, ho, hc, hdd, intsAre_of rv⟩
    have hz2 : ps.length ≤ sizeLine := by rw [List.length_map] at hz; exact hz
    refine SRV.u_sorted ho hc hdd (.inl rfl) (fun v hv => ?_) (fun h2 v hv => ?_) (by rw [List.length_map]; exact hz2) ?_ ?_
    · obtain ⟨x, hx, rfl⟩ := List.mem_map.mp hv
      exact ⟨_, ti x hx⟩
    · obtain ⟨x, hx, rfl⟩ := List.mem_map.mp hv
      rw [(ti x hx).dat]
      exact hne (by rw [List.length_map] at h2; exact h2) x hx
    · rw [List.pairwise_map]
      refine up.imp_of_mem fun {a b} ha hb g => ?_
      unfold SRV.Up
      rw [(ti a ha).dat, (ti b hb).dat]
      exact g
    · obtain ⟨e, he⟩ := sortedAll_at s.heap (ps.map fun q => Value.ref q.1) (List.toArray (ps.map fun q => Value.ref q.1))
      refine ⟨.ref (s.heap.objs.size + 1), _, I.laid (t' := s.toks) (a := s.heap.objs.size + 1) (o := .lst (ps.map fun q => V.ref q.1)) (fun c ob q => sortedAll_old q) (Nat.le_succ _) ?_, rfl, q _ (I.hok.fresh (Nat.le_succ _))⟩
      exact ⟨by rw [List.length_map]; exact hz2, _, e, rfs_vals ps, he⟩
  · exact h.elim
variable {e : Expr} {es : List Expr} {t : TA} {p pos : Pos}
theorem zcb_sortU (hg : Gl X "sorted") (hm : X.mg "sorted" = none) (ha : ZA X (e :: es) t) (he : starEach (e :: es) X.env = (false, eval e X.env) :: starEach es X.env) (hpl : (backTo pos (starEach es X.env)).any (·.1) = false) :
    ZE X (.Call (.Name "sorted" p) (e :: es) [] pos) (tCB (rSortU X.K) t) := by with_unfolding_all exact pe_callB call_sortU hg hm boot_sorted' ha (by decide) (by decide) he hpl
end
end L2
set_option Elab.async false
set_option linter.all false
set_option maxRecDepth 100000
set_option maxHeartbeats 4000000
namespace K72
open PySem L2 MRow M27 M80 M17 M12 M24 M11 M66 M63 M05
noncomputable def TA (H : Hp) (as : List Addr) (xs : List (List Nat)) : Prop := as.length = xs.length ∧ ∀ (j : Nat) a x, as[j]? = some a → xs[j]? = some x → H a = some (.tup (nI x))
theorem TA.keep {H H' : Hp} {as : List Addr} {xs : List (List Nat)} (h : TA H as xs) (k : ∀ a ys, H a = some (.tup ys) → H' a = some (.tup ys)) : TA H' as xs := ⟨h.1, fun j a x e1 e2 => k _ _ (h.2 j a x e1 e2)⟩
theorem TA.same {H H' : Hp} {as : List Addr} {xs : List (List Nat)} (h : TA H as xs) (y : Same H H') : TA H' as xs := h.keep fun a ys e => y _ _ e
theorem TA.app {H : Hp} {as bs : List Addr} {xs ys : List (List Nat)} (h : TA H as xs) (g : TA H bs ys) : TA H (as ++ bs) (xs ++ ys) := by
  refine ⟨by rw [List.length_append, List.length_append, h.1, g.1], fun j a x e1 e2 => ?_⟩
  by_cases hj : j < as.length
  · rw [List.getElem?_append_left hj] at e1
    rw [List.getElem?_append_left (by have := h.1; omega)] at e2
    exact h.2 j a x e1 e2
  · rw [List.getElem?_append_right (by omega)] at e1
    rw [List.getElem?_append_right (by have := h.1; omega), ← h.1] at e2
    exact g.2 _ a x e1 e2
theorem TA.at {H : Hp} {as : List Addr} {xs : List (List Nat)} (h : TA H as xs) {j : Nat} {v : V} (e : (as.map V.ref)[j]? = some v) : ∃ a x, as[j]? = some a ∧ xs[j]? = some x ∧ v = .ref a ∧ H a = some (.tup (nI x)) := by
  rw [List.getElem?_map] at e
  cases ea : as[j]? with
  | none => rw [ea] at e; cases e
  | some a =>
    rw [ea] at e
    have hj := (List.getElem?_eq_some_iff.mp ea).1
    have hx : xs[j]? = some (xs[j]'(by have := h.1; omega)) := List.getElem?_eq_getElem _
    exact ⟨a, _, rfl, hx, (Option.some.inj e).symm, h.2 j a _ ea hx⟩
structure RowsAt (H0 H : Hp) (R : Addr) (ls : List Addr) (n : Nat) (g : Nat → Nat) : Prop where
  same : Same H0 H
  hR : H R = some (.lst (ls.map V.ref))
  len : ls.length = n + 1
  nd : ls.Nodup
  nR : R ∉ ls
  fr : ∀ l ∈ ls, H0 l = none
  row : ∀ (i : Nat) l, ls[i]? = some l → ∃ as, H l = some (.lst (as.map V.ref)) ∧ TA H as (Asc (g i) i)
theorem RowsAt.get {H0 H : Hp} {R : Addr} {ls : List Addr} {n : Nat} {g : Nat → Nat} (r : RowsAt H0 H R ls n g) {i : Nat} (hi : i ≤ n) : ∃ l as, ls[i]? = some l ∧ l ∈ ls ∧ (ls.map V.ref)[i]? = some (.ref l) ∧ H l = some (.lst (as.map V.ref)) ∧ TA H as (Asc (g i) i) := by
  have h : i < ls.length := by have := r.len; omega
  have e : ls[i]? = some ls[i] := List.getElem?_eq_getElem h
  obtain ⟨as, h1, h2⟩ := r.row i _ e
  exact ⟨ls[i], as, e, List.getElem_mem h, by rw [List.getElem?_map, e]; rfl, h1, h2⟩
theorem RowsAt.congr {H0 H : Hp} {R : Addr} {ls : List Addr} {n : Nat} {g g' : Nat → Nat} (r : RowsAt H0 H R ls n g) (h : ∀ i, i ≤ n → Asc (g i) i = Asc (g' i) i) : RowsAt H0 H R ls n g' :=
  ⟨r.same, r.hR, r.len, r.nd, r.nR, r.fr, fun i l e => by
    obtain ⟨as, h1, h2⟩ := r.row i l e
    have hi := (List.getElem?_eq_some_iff.mp e).1
    rw [h i (by have := r.len; omega)] at h2
    exact ⟨as, h1, h2⟩⟩
theorem RowsAt.put {H0 H H2 : Hp} {R : Addr} {ls : List Addr} {n : Nat} {g : Nat → Nat} (r : RowsAt H0 H R ls n g) (y : Same H H2) {i : Nat} {l : Addr} {as bs : List Addr} {m : Nat} (hl : ls[i]? = some l) (ha : TA H2 as (Asc (g i) i)) (hb : TA H2 bs (if m ≤ i then (Asc m (i - m)).map (m :: ·) else [])) (hm : m = g i + 1) (hH : H2 l = some (.lst (as.map V.ref))) :
    RowsAt H0 (upd H2 l (.lst (as.map V.ref ++ bs.map V.ref))) R ls n (fun j => if j = i then m else g j) := by
  have lm : l ∈ ls := List.mem_of_getElem? hl
  have keepT : ∀ a ys, H2 a = some (.tup ys) → upd H2 l (.lst (as.map V.ref ++ bs.map V.ref)) a = some (.tup ys) := fun a ys e => by
    rw [upd_ne fun z => by rw [z, hH] at e; cases e]
    exact e
  refine ⟨Same.updN (r.same.trans y) (r.fr l lm), ?_, r.len, r.nd, r.nR, r.fr, fun j l' e => ?_⟩
  · rw [upd_ne fun z => r.nR (by rw [z]; exact lm)]
    exact y _ _ r.hR
  · by_cases hj : j = i
    · subst hj
      rw [hl] at e
      cases e
      refine ⟨as ++ bs, by rw [upd_same, List.map_append], ?_⟩
      rw [if_pos rfl]
      have := (ha.app hb).keep keepT
      rw [hm, asc_eq]
      rw [hm] at this
      exact this
    · obtain ⟨as', h1, h2⟩ := r.row j l' e
      have ne : l' ≠ l := fun z => hj (by
        subst z
        have e1 := List.getElem?_eq_some_iff.mp e
        have e2 := List.getElem?_eq_some_iff.mp hl
        exact (List.getElem_inj r.nd).mp (e1.2.trans e2.2.symm))
      refine ⟨as', by rw [upd_ne ne]; exact y _ _ h1, ?_⟩
      rw [if_neg hj]
      exact (h2.same y).keep keepT
theorem lexb_asym {a b : List Int} (h : SRV.lexb a b = true) : SRV.lexb b a = false := by
  cases e : SRV.lexb b a with
  | false => rfl
  | true => have := SRV.lexb_trans h e; rw [SRV.lexb_irr] at this; cases this
theorem zip_fst {as : List Addr} {xs : List (List Int)} (h : as.length = xs.length) : (as.zip xs).map (fun q => V.ref q.1) = as.map V.ref := by
  have : (as.zip xs).map (fun q => V.ref q.1) = ((as.zip xs).map Prod.fst).map V.ref := by rw [List.map_map]; rfl
  rw [this, List.map_fst_zip (by omega)]
section
variable {P : Program} {w : World} {K : PySem.W.Frag} {mg : Str → Option Value} {base : Heap} {f : Addr} {fd : FuncData}
theorem sc_ll : FnScope ["_law_n", "_law_some", "_law_size", "_law_number"] ["_law_n"] (defScope (top 161)) := ⟨rfl, rfl, rfl, by decide +kernel, rfl, by decide +kernel, by decide +kernel⟩
noncomputable def sp_ll : Sp := fun vs H Q _ => ∃ n : Nat, vs = [.int n] ∧ n ≤ 30 ∧ ∀ l as H', Same H H' → H' l = some (.lst (as.map V.ref)) → TA H' as (Asc n n) → Q (.ref l) H'
theorem ok_ll (F : Fun K "_law_list" "_law_list" (top 161) f fd) (m_range : mg "range" = none) (m_sorted : mg "sorted" = none)  : FnOk P w K mg base CX0 1 f fd ["_law_n"] sp_ll := by
  refine F.okz sc_ll (fun vs H Q E h => ?_) (fun cdv A outer s H vs Q E hr h => ?_)
  · obtain ⟨n, rfl, _⟩ := h; rfl
  obtain ⟨n, rfl, hn, q⟩ := h
  have nd := sc_ll.nd
  have hu := hr.units
  refine ⟨_, (zss_cons (zs_set (i := 1) nd rfl (Or.inl rfl) (ze_op op_addP (ze_lst (za_cons (ze_lst (za_cons (ze_tup za_nil) za_nil)) za_nil)) (ze_comp ["_law_number"] [] rfl ⟨rfl, by decide +kernel, by decide +kernel, rfl, rfl⟩ (zi_range1 rfl m_range (za_cons (zn 0) za_nil)) kpg_name (fun _ _ _ _ => zg_name (i := 0) (show List.Nodup (["_law_number"] : List Str) by decide +kernel) rfl (Or.inl rfl)) (fun _ _ _ _ => zif_nil) (fun _ _ _ _ => (ze_lst za_nil)))))
      (zss_cons (zs_for PassesOwn.never rfl (zi_range2 rfl m_range (za_cons ze_int (za_cons (ze_op op_addP (zn 0) ze_int) za_nil))) (zg_name (i := 2) nd rfl (Or.inr rfl)) (zss_one (zs_for PassesOwn.never rfl (zi_range2 rfl m_range (za_cons (zn 2) (za_cons (ze_op op_addP (zn 0) ze_int) za_nil))) (zg_name (i := 3) nd rfl (Or.inl rfl)) (zss_one (zs_expr (zm_extend (ze_ix ix_P (zn 1) (zn 3) (fun _ _ => rfl)) (za_cons (ze_comp ["_law_parting"] [("_law_size", 2)] rfl ⟨rfl, by decide +kernel, by decide +kernel, rfl, rfl⟩ (zi_list (ze_ix ix_P (zn 1) (ze_op op_subP (zn 3) (zn 2)) (fun _ _ => rfl))) kpg_name (fun _ _ _ _ => zg_name (i := 0) (show List.Nodup (["_law_parting", "_law_size"] : List Str) by decide +kernel) rfl (Or.inl rfl)) (fun _ _ _ _ => zif_nil) (fun _ _ _ _ => (ze_op op_addP (ze_tup (za_cons (zn 1) za_nil)) (zn 0)))) za_nil)))))))
      (zss_one (zs_ret (zcb_sortU rfl m_sorted (za_cons (ze_ix ix_P (zn 1) (zn 0) (fun _ _ => rfl)) za_nil) rfl rfl))))), ?_⟩
  refine ⟨Nat.zero_le _, fun t0 ht0 => ?_⟩
  have y0 := Same.new ht0 (.tup [])
  have g0 : upd H t0 (.tup []) t0 = some (.tup (nI [])) := upd_same
  generalize upd H t0 (.tup []) = H1 at y0 g0
  refine ⟨by show 1 ≤ sizeLine; decide, fun l0 hl0 => ?_⟩
  have y1 := Same.new hl0 (.lst [V.ref t0])
  have g1 : upd H1 l0 (.lst [V.ref t0]) l0 = some (.lst (([t0] : List Addr).map V.ref)) := upd_same
  have fl0 : H l0 = none := fresh_back y0 hl0
  have g0 := y1 _ _ g0
  generalize upd H1 l0 (.lst [V.ref t0]) = H2 at y1 g1 g0
  refine ⟨by show 1 ≤ sizeLine; decide, fun d0 hd0 => ?_⟩
  have y2 := Same.new hd0 (.lst [V.ref l0])
  have g2 : upd H2 d0 (.lst [V.ref l0]) d0 = some (.lst [V.ref l0]) := upd_same
  have g1 := y2 _ _ g1
  have g0 := y2 _ _ g0
  have z2 := (y0.trans y1).trans y2
  generalize upd H2 d0 (.lst [V.ref l0]) = H3 at y2 g2 g1 g0 z2
  refine ⟨(n : Int), rfl, by omega, by omega, ?_⟩
  rw [Int.toNat_natCast]
  refine cmp_range (fun i ys H' => ∃ es : List Addr, es.length = i ∧ i ≤ n ∧ ys = es.map V.ref ∧ Same H3 H' ∧ es.Nodup ∧ ∀ e ∈ es, H' e = some (.lst []) ∧ H3 e = none) ⟨[], rfl, Nat.zero_le _, rfl, Same.refl _, .nil, fun e he => nomatch he⟩ ?_ ?_
  · rintro i ys H' hi ⟨es, le, _, rfl, y, nd, hes⟩
    refine ⟨by rw [List.length_map, le]; exact small1000 (by omega), ?_⟩
    refine ⟨Nat.zero_le _, fun e he => ?_⟩
    have ye := Same.new he (.lst [])
    refine ⟨es ++ [e], by rw [List.length_append, le]; rfl, hi, by rw [List.map_append]; rfl, y.trans ye, ?_, fun e' he' => ?_⟩
    · refine List.nodup_append.mpr ⟨nd, List.pairwise_singleton _ _, fun a ha b hb => ?_⟩
      rw [List.mem_singleton.mp hb]
      intro z
      have := (hes a ha).1
      rw [z, he] at this
      cases this
    · rcases List.mem_append.mp he' with h | h
      · exact ⟨ye _ _ (hes e' h).1, (hes e' h).2⟩
      · rw [List.mem_singleton.mp h]
        exact ⟨upd_same, fresh_back y he⟩
  · rintro ys H' ⟨es, le, _, rfl, y, nd, hes⟩ D hD
    have yD := Same.new hD (.lst (es.map V.ref))
    have gD : upd H' D (.lst (es.map V.ref)) D = some (.lst (es.map V.ref)) := upd_same
    have hes : ∀ e ∈ es, upd H' D (.lst (es.map V.ref)) e = some (.lst []) ∧ H3 e = none := fun e he => ⟨yD _ _ (hes e he).1, (hes e he).2⟩
    have z3 := y.trans yD
    generalize upd H' D (.lst (es.map V.ref)) = H4 at yD gD hes z3
    refine .inl ⟨_, _, z3 _ _ g2, gD, ?_, fun R hR => ?_⟩
    · rw [List.length_map, le]
      have : 1 + n < sizeLine := small1000 (by omega)
      exact Nat.le_of_lt this
    have yR := Same.new hR (.lst ([V.ref l0] ++ es.map V.ref))
    have gR : upd H4 R (.lst ([V.ref l0] ++ es.map V.ref)) R = some (.lst ((l0 :: es).map V.ref)) := upd_same
    have fR : H R = none := fresh_back (z2.trans z3) hR
    have rows : RowsAt H (upd H4 R (.lst ([V.ref l0] ++ es.map V.ref))) R (l0 :: es) n (fun _ => 0) := by
      refine ⟨(z2.trans z3).trans yR, gR, by rw [List.length_cons, le], List.nodup_cons.mpr ⟨fun h => ?_, nd⟩, fun h => ?_, fun l h => ?_, fun i l e => ?_⟩
      · have := (hes l0 h).2
        rw [g1] at this
        cases this
      · rcases List.mem_cons.mp h with h | h
        · rw [h, z3 _ _ g1] at hR
          cases hR
        · rw [(hes R h).1] at hR
          cases hR
      · rcases List.mem_cons.mp h with h | h
        · rw [h]; exact fl0
        · exact fresh_back z2 (hes l h).2
      · cases i with
        | zero =>
          cases e
          refine ⟨[t0], yR _ _ (z3 _ _ g1), ?_⟩
          rw [asc_zero, if_pos rfl]
          refine ⟨rfl, fun j a x e1 e2 => ?_⟩
          cases j with
          | zero => cases e1; cases e2; exact yR _ _ (z3 _ _ g0)
          | succ j => cases e1
        | succ i =>
          have e : es[i]? = some l := e
          refine ⟨[], yR _ _ (hes l (List.mem_of_getElem? e)).1, ?_⟩
          rw [asc_zero, if_neg (by omega)]
          exact ⟨rfl, fun j a x e1 _ => nomatch e1⟩
    generalize upd H4 R (.lst ([V.ref l0] ++ es.map V.ref)) = H5 at rows
    generalize l0 :: es = ls at rows
    refine ⟨1, (n : Int) + 1, rfl, ⟨by omega, by omega, by omega, by omega⟩, ?_⟩
    rw [show ((n : Int) + 1 - 1).toNat = n by omega]
    refine for_range (fun i σ H' => i ≤ n ∧ RowsAt H H' R ls n (fun _ => i) ∧ ∃ x2 x3, σ = [some (.int n), some (.ref R), x2, x3]) ⟨Nat.zero_le _, rows, _, _, rfl⟩ ?_ ?_
    · rintro i σ H' hi ⟨_, rw', x2, x3, rfl⟩
      rw [show (1 : Int) + (i : Int) = ((i + 1 : Nat) : Int) by omega]
      refine ⟨((i + 1 : Nat) : Int), (n : Int) + 1, rfl, ⟨by omega, by omega, by omega, by omega⟩, ?_⟩
      rw [show ((n : Int) + 1 - ((i + 1 : Nat) : Int)).toNat = n - i by omega]
      refine for_range (fun j σ H' => j ≤ n - i ∧ RowsAt H H' R ls n (fun r => if r < i + 1 + j then i + 1 else i) ∧ ∃ x3, σ = [some (.int n), some (.ref R), some (.int ((i + 1 : Nat) : Int)), x3]) ⟨Nat.zero_le _, rw'.congr fun r hr => ?_, _, rfl⟩ ?_ ?_
      · split
        · rw [asc_eq, if_neg (by omega), List.append_nil]
        · rfl
      · rintro j σ H' hj ⟨_, r6, x3, rfl⟩
        rw [show ((i + 1 : Nat) : Int) + (j : Int) = ((i + 1 + j : Nat) : Int) by omega]
        obtain ⟨l, as, hl, lm, ll, gl, ta⟩ := r6.get (i := i + 1 + j) (by omega)
        obtain ⟨l2, as2, hl2, lm2, ll2, gl2, ta2⟩ := r6.get (i := j) (by omega)
        rw [if_neg (by omega)] at ta
        rw [if_pos (by omega)] at ta2
        refine ⟨_, .inl (SqL.of r6.hR), .ref l, atI_of (j := i + 1 + j) rfl ll, ?_⟩
        refine ⟨tyL gl, ?_⟩
        refine ⟨_, .inl (SqL.of r6.hR), .ref l2, atI_of (j := j) (by omega) ll2, ?_⟩
        have al2 := asc_len30 (m := i + 1) (n := j) (by omega)
        refine ⟨l2, rfl, ⟨_, SqL.of gl2⟩, cmp_list (xs := as2.map V.ref) (fun m ys Hc => m ≤ as2.length ∧ Same H' Hc ∧ ∃ bs : List Addr, ys = bs.map V.ref ∧ TA Hc bs (((Asc (i + 1) j).take m).map ((i + 1) :: ·))) ⟨Nat.zero_le _, Same.refl _, [], rfl, rfl, fun j a x e1 _ => nomatch e1⟩ ?_ ?_ ?_⟩
        · rintro m ys Hc _ ⟨_, y, _⟩
          exact SqL.of (y _ _ gl2)
        · rintro m v ys Hc hv ⟨_, y, bs, rfl, tb'⟩
          obtain ⟨a, x, ea, ex, rfl, ha⟩ := ta2.at hv
          have hm := (List.getElem?_eq_some_iff.mp ea).1
          have lb := tb'.1
          rw [List.length_map, List.length_take] at lb
          refine ⟨by rw [List.length_map]; exact small6k (by omega), ?_⟩
          refine ⟨by show 1 ≤ sizeLine; decide, fun t ht => ?_⟩
          have yt := Same.new ht (.tup [V.int ((i + 1 : Nat) : Int)])
          have gt : upd Hc t (.tup [V.int ((i + 1 : Nat) : Int)]) t = some (.tup [V.int ((i + 1 : Nat) : Int)]) := upd_same
          generalize upd Hc t (.tup [V.int ((i + 1 : Nat) : Int)]) = Hd at yt gt
          have xl : x.length ≤ 30 := by
            have hx := List.mem_of_getElem? ex
            have := ls_len (asc_mem.mp hx)
            omega
          refine .inr ⟨_, _, gt, yt _ _ (y _ _ ha), ?_, fun r He ye hr => ?_⟩
          · rw [nI_len]
            have : 1 + x.length < sizeLine := small1000 (by omega)
            exact Nat.le_of_lt this
          have z := yt.trans ye
          refine ⟨hm, (y.trans z), bs ++ [r], by rw [List.map_append]; rfl, ?_⟩
          rw [List.take_succ, ex, List.map_append]
          refine (tb'.same z).app ⟨rfl, fun j' a' x' e1 e2 => ?_⟩
          cases j' with
          | zero => cases e1; cases e2; exact hr
          | succ j' => cases e1
        · rintro ys Hc ⟨_, y, bs, rfl, tb'⟩ D hD
          rw [List.length_map, ta2.1, List.take_of_length_le (Nat.le_refl _)] at tb'
          have yD := Same.new hD (.lst (bs.map V.ref))
          have gD : upd Hc D (.lst (bs.map V.ref)) D = some (.lst (bs.map V.ref)) := upd_same
          have tb' := tb'.same yD
          have z := y.trans yD
          generalize upd Hc D (.lst (bs.map V.ref)) = Hd at gD tb' z
          have al := asc_len30 (m := i + 1) (n := i + 1 + j) (by omega)
          rw [asc_eq, if_pos (by omega), List.length_append, List.length_map, Nat.add_sub_cancel_left] at al
          have l1 := ta.1
          have l3 := tb'.1
          rw [List.length_map] at l3
          refine ⟨_, _, z _ _ gl, gD, ?_, ?_⟩
          · rw [List.length_map, List.length_map]
            have : as.length + bs.length < sizeLine := small6k (by omega)
            exact Nat.le_of_lt this
          · refine ⟨by omega, (r6.put z (m := i + 1) hl (by rw [if_neg (by omega)]; exact ta.same z) ?_ (by rw [if_neg (by omega)]) (z _ _ gl)).congr fun r hr => ?_, _, rfl⟩
            · rw [if_pos (by omega), Nat.add_sub_cancel_left]
              exact tb'
            · by_cases h : r = i + 1 + j
              · rw [if_pos h, if_pos (by omega)]
              · rw [if_neg h]
                by_cases h2 : r < i + 1 + j
                · rw [if_pos h2, if_pos (by omega)]
                · rw [if_neg h2, if_neg (by omega)]
      · rintro σ H' ⟨_, r6, x3, rfl⟩
        refine ⟨hi, r6.congr fun r hr => ?_, _, _, rfl⟩
        rw [if_pos (by omega)]
    · rintro σ H' ⟨_, r6, x2, x3, rfl⟩
      obtain ⟨l, as, hl, lm, ll, gl, ta⟩ := r6.get (i := n) (Nat.le_refl n)
      refine ⟨_, .inl (SqL.of r6.hR), .ref l, atI_of (j := n) rfl ll, ?_⟩
      have lz : as.length = ((Asc n n).map toI).length := by rw [List.length_map]; exact ta.1
      have ez := zip_fst lz
      have sn : (as.zip ((Asc n n).map toI)).map Prod.snd = (Asc n n).map toI := List.map_snd_zip (by omega)
      have up : (as.zip ((Asc n n).map toI)).Pairwise (fun a b => SRV.lexb a.2 b.2 = true) := by
        have : ((as.zip ((Asc n n).map toI)).map Prod.snd).Pairwise (fun a b => SRV.lexb a b = true) := by
          rw [sn, List.pairwise_map]
          exact asc_up n n
        rw [List.pairwise_map] at this
        exact this
      refine ⟨as.zip ((Asc n n).map toI), by rw [ez]; exact SqL.of gl, fun p hp => ?_, fun h2 p hp => ?_, up.imp fun {a b} g => lexb_asym g, fun l' hl' => ?_⟩
      · obtain ⟨j, hj⟩ := List.mem_iff_getElem?.mp hp
        obtain ⟨e1, e2⟩ := List.getElem?_zip_eq_some.mp hj
        rw [List.getElem?_map] at e2
        cases ex : (Asc n n)[j]? with
        | none => rw [ex] at e2; cases e2
        | some x =>
          rw [ex] at e2
          have e2 : toI x = p.2 := Option.some.inj e2
          rw [← e2]
          exact ta.2 j _ x e1 ex
      · have : p.2 ∈ (Asc n n).map toI := by rw [← sn]; exact List.mem_map.mpr ⟨p, hp, rfl⟩
        obtain ⟨x, hx, e⟩ := List.mem_map.mp this
        rw [← e]
        intro e0
        have x0 : x = [] := List.map_eq_nil_iff.mp e0
        subst x0
        have s0 := (ls_mem _ _ _ (asc_mem.mp hx)).2
        have n0 : n = 0 := s0.symm
        subst n0
        rw [List.length_zip, List.length_map, asc_zero, if_pos rfl] at h2
        have : ([[]] : List (List Nat)).length = 1 := rfl
        omega
      · rw [ez]
        have yl := Same.new hl' (.lst (as.map V.ref))
        exact q l' as _ (r6.same.trans yl) upd_same (ta.same yl)
end
end K72
set_option Elab.async false
set_option linter.all false
set_option maxRecDepth 100000
set_option maxHeartbeats 4000000
namespace K72
open PySem L2 MP MRow M27 M80 M17 M12 M11 M66 M63 M05
theorem TA.tps {H : Hp} : ∀ {as : List Addr} {xs : List (List Nat)}, TA H as xs → Tps H (as.map V.ref) (xs.map toI)
  | [], [], _ => .nil
  | [], _ :: _, h => nomatch h.1
  | _ :: _, [], h => nomatch h.1
  | a :: as, x :: xs, h => .cons (h.2 0 a x rfl rfl) (TA.tps ⟨Nat.succ.inj h.1, fun j b y e1 e2 => h.2 (j + 1) b y e1 e2⟩)
theorem TA.nil {H : Hp} : TA H [] [] := ⟨rfl, fun j a x e1 _ => nomatch e1⟩
theorem TA.cons {H : Hp} {a : Addr} {x : List Nat} {as : List Addr} {xs : List (List Nat)} (h : H a = some (.tup ((toI x).map V.int))) (g : TA H as xs) : TA H (a :: as) (x :: xs) := ⟨by rw [List.length_cons, List.length_cons, g.1], fun j b y e1 e2 => by
  cases j with
  | zero => cases e1; cases e2; exact h
  | succ j => exact g.2 j b y e1 e2⟩
theorem Tps.ta {H : Hp} : ∀ {us : List V} {xs : List (List Nat)}, Tps H us (xs.map toI) → ∃ as : List Addr, us = as.map V.ref ∧ TA H as xs
  | us, [], h => by cases h; exact ⟨[], rfl, TA.nil⟩
  | us, x :: xs, h => by
    generalize e : (x :: xs).map toI = l at h
    cases h with
    | nil => cases e
    | cons hb r =>
      cases e
      obtain ⟨as, rfl, ta⟩ := Tps.ta r
      exact ⟨_ :: as, rfl, TA.cons hb ta⟩
noncomputable def LK (k : Kn) (n : Nat) : List (List Nat) := (Asc n n).filter (isg k)
theorem LK_len (k : Kn) {n : Nat} (h : n ≤ 30) : (LK k n).length ≤ 6000 := Nat.le_trans (List.length_filter_le _ _) (asc_len30 h)
theorem tk_filter {p : List Nat → Bool} {l : List (List Nat)} {m : Nat} {x : List Nat} (ex : l[m]? = some x) : (l.take (m + 1)).filter p = (l.take m).filter p ++ if p x = true then [x] else [] := by
  rw [List.take_succ, ex, List.filter_append]
  show _ ++ List.filter p [x] = _
  rw [List.filter_cons, List.filter_nil]
section
variable {P : Program} {w : World} {K : PySem.W.Frag} {mg : Str → Option Value} {base : Heap} {f : Addr} {fd : FuncData}
theorem sc_li : FnScope ["kind", "n"] ["kind", "n"] (defScope (top 62)) := ⟨rfl, rfl, rfl, by decide +kernel, rfl, by decide +kernel, by decide +kernel⟩
noncomputable def sp_li : Sp := fun vs H Q _ => ∃ (c : Addr) (k : Kn) (n : Nat), vs = [.ref c, .int n] ∧ KnAt H c k ∧ k.Ok ∧ n ≤ 30 ∧ ∀ T as H', Same H H' → H' T = some (.tup (as.map V.ref)) → TA H' as (LK k n) → Q (.ref T) H'
theorem ok_li (F : Fun K "listed" "listed" (top 62) f fd) (m_tuple : mg "tuple" = none) (F_is_of : FnA P w K mg base "is_of" 3 ["kind", "parting"] sp_pi) (F_partings : FnA P w K mg base "partings" 32 ["n"] sp_ps) : FnOk P w K mg base CX0 33 f fd ["kind", "n"] sp_li := by
  refine F.okz sc_li (fun vs H Q E h => ?_) (fun cdv A outer s H vs Q E hr h => ?_)
  · obtain ⟨c, k, n, rfl, _⟩ := h; rfl
  obtain ⟨c, k, n, rfl, hk, hok, hn, q⟩ := h
  have nd := sc_li.nd
  have hu := hr.units
  refine ⟨_, (zss_one (zs_ret (zcb_tuple rfl m_tuple (za_cons (ze_comp ["parting"] [("kind", 0)] rfl ⟨rfl, by decide +kernel, by decide +kernel, rfl, rfl⟩ (zi_tup (ze_fn F_partings hr (by decide) rfl (za_cons (zn 1) za_nil))) kpg_name (fun _ _ _ _ => zg_name (i := 0) (show List.Nodup (["parting", "kind"] : List Str) by decide +kernel) rfl (Or.inl rfl)) (fun _ _ _ _ => (zif_one (zt_valP (ze_fn F_is_of hr (by decide) rfl (za_cons (zn 1) (za_cons (zn 0) za_nil)))))) (fun _ _ _ _ => (zn 0))) za_nil) rfl rfl))), ?_⟩
  refine ⟨n, rfl, hn, fun T us H1 y1 hT tp => ?_⟩
  rw [PB_asc n n n (Nat.le_refl _)] at tp
  obtain ⟨as, rfl, ta⟩ := Tps.ta tp
  have al := asc_len30 (m := n) hn
  refine ⟨T, rfl, ⟨_, SqT.of hT⟩, cmp_tup (xs := as.map V.ref) (fun m ys Hc => m ≤ as.length ∧ Same H1 Hc ∧ ∃ bs : List Addr, ys = bs.map V.ref ∧ TA Hc bs (((Asc n n).take m).filter (isg k))) ⟨Nat.zero_le _, Same.refl _, [], rfl, TA.nil⟩ ?_ ?_ ?_⟩
  · rintro m ys Hc _ ⟨_, y, _⟩
    exact SqT.of (y _ _ hT)
  · rintro m v ys Hc hv ⟨_, y, bs, rfl, tb'⟩
    obtain ⟨b, x, ea, ex, rfl, ha⟩ := ta.at hv
    have hm := (List.getElem?_eq_some_iff.mp ea).1
    have hx := List.mem_of_getElem? ex
    have lb := tb'.1
    have lf := List.length_filter_le (isg k) ((Asc n n).take m)
    have lt := List.length_take_le m (Asc n n)
    have lm := ta.1
    refine ⟨by rw [List.length_map]; exact small6k (by omega), ?_⟩
    have xl := ls_len (asc_mem.mp hx)
    have xm := (ls_mem _ _ _ (asc_mem.mp hx)).1
    refine ⟨c, b, k, x, rfl, hk.same (y1.trans y), hok, y _ _ ha, by omega, fun a ha => by have := (xm a ha).2; omega, ls_fl _ _ _ hx, fun Hd yd => ?_⟩
    have tk := tk_filter (p := isg k) ex
    cases hb : isg k x with
    | true =>
      rw [hb, if_pos rfl] at tk
      refine ⟨hm, y.trans yd, bs ++ [b], by rw [List.map_append]; rfl, ?_⟩
      rw [tk]
      exact (tb'.same yd).app (TA.cons (yd _ _ (y _ _ ha)) TA.nil)
    | false =>
      rw [hb, if_neg (by decide), List.append_nil] at tk
      refine ⟨hm, y.trans yd, bs, rfl, ?_⟩
      rw [tk]
      exact tb'.same yd
  · rintro ys Hc ⟨_, y, bs, rfl, tb'⟩ D hD
    rw [List.length_map, ta.1, List.take_of_length_le (Nat.le_refl _)] at tb'
    have yD := Same.new hD (.lst (bs.map V.ref))
    refine ⟨_, .inl (SqL.of upd_same), fun r H2 y2 hr2 => ?_⟩
    exact q r bs H2 (y1.trans (y.trans (yD.trans y2))) hr2 ((tb'.same yD).same y2)
end
end K72
set_option Elab.async false
set_option linter.all false
set_option maxRecDepth 100000
set_option maxHeartbeats 4000000
namespace K72
open PySem L2 M67 M68
theorem log_small {n : Int} (h0 : 0 ≤ n) (h1 : n < 1000000) : n.natAbs.log2 < 1920 := by
  by_cases h : n.natAbs = 0
  · rw [h]; decide
  · have : n.natAbs.log2 < 20 := (Nat.log2_lt h).mpr (by
      have : (2 : Nat) ^ 20 = 1048576 := by decide
      omega)
    omega
theorem Same.updD {H H' : Hp} {D : Addr} {o : HO} (y : Same H H') (hD : H D = none) : Same H (upd H' D o) := fun c o' e => by
  rw [upd_ne (fun z => by rw [z, hD] at e; cases e)]
  exact y c o' e
theorem none_of {H H' : Hp} {D : Addr} (y : Same H H') (h : H' D = none) : H D = none := by
  cases e : H D with
  | none => rfl
  | some o => rw [y _ _ e] at h; cases h
noncomputable def Nm (ns : List Int) : Prop := ∀ n ∈ ns, (0 : Int) ≤ n ∧ n < 1000000
theorem numsT {K : PySem.W.Frag} {x : Str} {ix : List (Str × Nat)} {σ : St} {H : Hp} {a : Addr} {ns : List Int} {Fin : List V → Hp → Prop} (ha : SqT K H a (ns.map V.int)) (hn : Nm ns) (hl : ns.length ≤ 1000) (fin : Fin ((ns.map nt).map V.str) H) :
    CmpW [x] ix (gName 0) tYes (tCB rStrP (tCons (tV 0) tNil)) σ (Itt K a) Fin H := by
  refine cmp_tup (xs := ns.map V.int) (fun j ys H' => H' = H ∧ ys = ((ns.take j).map nt).map V.str) ⟨rfl, by rw [List.take_zero]; rfl⟩ ?_ ?_ ?_
  · rintro j ys H' _ ⟨rfl, _⟩
    exact ha
  · rintro j x ys H' hx ⟨rfl, rfl⟩
    have hj : j < ns.length := by
      have := (List.getElem?_eq_some_iff.mp hx).1
      rw [List.length_map] at this
      exact this
    have ex : x = .int ns[j] := by rw [getI hj] at hx; exact (Option.some.inj hx).symm
    subst ex
    have hj1 := hn _ (List.getElem_mem hj)
    refine ⟨by rw [List.length_map, List.length_map, List.length_take]; exact small1000 (by omega), ?_⟩
    refine ⟨log_small hj1.1 hj1.2, ?_⟩
    refine ⟨rfl, ?_⟩
    rw [List.take_succ, List.getElem?_eq_getElem hj, List.map_append, List.map_append]
    rfl
  · rintro ys H' ⟨rfl, rfl⟩
    rw [List.length_map, List.take_of_length_le (Nat.le_refl _)]
    exact fin
theorem cut_tail (x : V) (xs : List V) : cutV (x :: xs) (some 1) none = xs := by
  cases xs with
  | nil => rfl
  | cons y r =>
    unfold cutV
    simp [HT.sIx]
section
variable {P : Program} {w : World} {K : PySem.W.Frag} {mg : Str → Option Value} {base : Heap} {f : Addr} {fd : FuncData}
noncomputable def sp_show : Sp := fun vs H Q _ => ∃ (c : Addr) (k : Kd), vs = [.ref c] ∧ KdAt H c k ∧ k.Ok ∧ ∀ H', Same H H' → Q (.str k.text) H'
theorem rs_nm {m : Int} {rs : List Int} (h : (Kd.rests m rs).Ok) : Nm rs ∧ rs.length ≤ 60 ∧ 0 ≤ m ∧ m < 1000000 := by
  obtain ⟨⟨h1, h2⟩, h3, h4, h5, h6⟩ := h
  refine ⟨fun r hr => ?_, h6, by omega, by omega⟩
  have := h5 r hr
  omega
theorem sc_kt : FnScope ["_law_kind_here", "_law_words"] ["_law_kind_here"] (defScope (top 163)) := ⟨rfl, rfl, rfl, by decide +kernel, rfl, by decide +kernel, by decide +kernel⟩
theorem ok_kt (F : Fun K "_law_kind_text" "_law_kind_text" (top 163) f fd) (m_str : mg "str" = none) : FnOk P w K mg base CX0 1 f fd ["_law_kind_here"] sp_show := by
  refine F.okz sc_kt (fun vs H Q E h => ?_) (fun cdv A outer s H vs Q E hr h => ?_)
  · obtain ⟨a, rs, rfl, _⟩ := h; rfl
  obtain ⟨c, k, rfl, hc, hk, q⟩ := h
  have nd := sc_kt.nd
  have hu := hr.units
  have fit := join_fits hk
  refine ⟨_, (zss_cons (zs_set (i := 1) nd rfl (Or.inl rfl) (ze_op op_addP (ze_lst (za_cons (ze_ix ix_P (zn 0) ze_int (fun _ _ => rfl)) za_nil)) (ze_comp ["_law_number"] [] rfl ⟨rfl, by decide +kernel, by decide +kernel, rfl, rfl⟩ (zi_tup (ze_slice sl_P (zn 0) (zo_some ze_int) (zo_some ze_int))) kpg_name (fun _ _ _ _ => zg_name (i := 0) (show List.Nodup (["_law_number"] : List Str) by decide +kernel) rfl (Or.inl rfl)) (fun _ _ _ _ => zif_nil) (fun _ _ _ _ => (zcb_str rfl m_str (za_cons (zn 0) za_nil) rfl rfl)))))
      (zss_cons (zs_if (zt_cmpP (op_eqD hu) (ze_ix ix_P (zn 0) ze_int (fun _ _ => rfl)) ze_str (nomark _)) (zss_one (zs_expr (zm_append (zn 1) (za_cons (zm_join ze_str (za_cons (ze_comp ["_law_rest"] [] rfl ⟨rfl, by decide +kernel, by decide +kernel, rfl, rfl⟩ (zi_tup (ze_ix ix_P (zn 0) ze_int (fun _ _ => rfl))) kpg_name (fun _ _ _ _ => zg_name (i := 0) (show List.Nodup (["_law_rest"] : List Str) by decide +kernel) rfl (Or.inl rfl)) (fun _ _ _ _ => zif_nil) (fun _ _ _ _ => (zcb_str rfl m_str (za_cons (zn 0) za_nil) rfl rfl))) za_nil)) za_nil)))) zss_nil)
      (zss_cons (zs_if (zt_cmpP (op_eqD hu) (ze_ix ix_P (zn 0) ze_int (fun _ _ => rfl)) ze_str (nomark _)) (zss_one (zs_expr (zm_append (zn 1) (za_cons (zcb_str rfl m_str (za_cons (ze_ix ix_P (zn 0) ze_int (fun _ _ => rfl)) za_nil) rfl rfl) za_nil)))) zss_nil)
      (zss_one (zs_ret (zm_join ze_str (za_cons (zn 1) za_nil))))))), ?_⟩
  cases k with
  | bare w =>
    have e : H c = some (.tup [.str w]) := hc
    have w1 : w ≠ Str.ofString "rests" := by rcases hk with rfl | rfl <;> decide +kernel
    have w2 : w ≠ Str.ofString "box" := by rcases hk with rfl | rfl <;> decide +kernel
    refine ⟨_, .inr e, .str w, rfl, ?_⟩
    refine ⟨by show 1 ≤ sizeLine; decide, fun d1 hd1 => ?_⟩
    have y1 := Same.new hd1 (.lst [V.str w])
    refine ⟨1, rfl, 2, rfl, c, rfl, .inl ⟨_, y1 _ _ e, fun r H2 y2 hr2 => ?_⟩⟩
    refine ⟨r, rfl, ⟨_, SqT.of hr2⟩, numsT (ns := []) (SqT.of hr2) (fun n hn => (nomatch hn)) (by decide) fun D hD => ?_⟩
    have y3 := Same.new hD (.lst [])
    refine .inl ⟨_, _, y3 _ _ (y2 _ _ upd_same), upd_same, by show 1 ≤ sizeLine; decide, fun p hp => ?_⟩
    have yp := ((y1.trans y2).trans y3).trans (Same.new hp (.lst [V.str w]))
    refine ⟨_, .inr (yp _ _ e), .str w, rfl, ?_⟩
    refine iteD (fun z => absurd (V.str.inj z) w1) (fun _ => ?_)
    refine ⟨_, .inr (yp _ _ e), .str w, rfl, ?_⟩
    refine iteD (fun z => absurd (V.str.inj z) w2) (fun _ => ?_)
    refine ⟨rfl, ?_⟩
    exact ⟨[w], SqL.of upd_same, fit, q _ yp⟩
  | one w n =>
    have e : H c = some (.tup [.str w, .int n]) := hc
    have w1 : w ≠ Str.ofString "rests" := by rcases hk with ⟨rfl | rfl | rfl, _⟩ | ⟨rfl, _⟩ <;> decide +kernel
    have w2 : w ≠ Str.ofString "box" := by rcases hk with ⟨rfl | rfl | rfl, _⟩ | ⟨rfl, _⟩ <;> decide +kernel
    have hn : Nm [n] := fun z hz => by
      have : z = n := by simpa using hz
      rcases hk with ⟨_, h1, h2⟩ | ⟨_, h1, h2⟩ <;> omega
    refine ⟨_, .inr e, .str w, rfl, ?_⟩
    refine ⟨by show 1 ≤ sizeLine; decide, fun d1 hd1 => ?_⟩
    have y1 := Same.new hd1 (.lst [V.str w])
    refine ⟨1, rfl, 2, rfl, c, rfl, .inl ⟨_, y1 _ _ e, fun r H2 y2 hr2 => ?_⟩⟩
    refine ⟨r, rfl, ⟨_, SqT.of hr2⟩, numsT (ns := [n]) (SqT.of hr2) hn (by show 1 ≤ 1000; decide) fun D hD => ?_⟩
    have y3 := Same.new hD (.lst (([n].map nt).map V.str))
    refine .inl ⟨_, _, y3 _ _ (y2 _ _ upd_same), upd_same, by show 2 ≤ sizeLine; decide, fun p hp => ?_⟩
    have yp := ((y1.trans y2).trans y3).trans (Same.new hp (.lst [V.str w, .str (nt n)]))
    refine ⟨_, .inr (yp _ _ e), .str w, rfl, ?_⟩
    refine iteD (fun z => absurd (V.str.inj z) w1) (fun _ => ?_)
    refine ⟨_, .inr (yp _ _ e), .str w, rfl, ?_⟩
    refine iteD (fun z => absurd (V.str.inj z) w2) (fun _ => ?_)
    refine ⟨rfl, ?_⟩
    exact ⟨[w, nt n], SqL.of upd_same, fit, q _ yp⟩
  | box a b =>
    have e : H c = some (.tup [.str (Str.ofString "box"), .int a, .int b]) := hc
    obtain ⟨⟨a0, a1⟩, b0, b1⟩ := hk
    have hn : Nm [a] := fun z hz => by
      have : z = a := by simpa using hz
      omega
    refine ⟨_, .inr e, .str (Str.ofString "box"), rfl, ?_⟩
    refine ⟨by show 1 ≤ sizeLine; decide, fun d1 hd1 => ?_⟩
    have y1 := Same.new hd1 (.lst [V.str (Str.ofString "box")])
    refine ⟨1, rfl, 2, rfl, c, rfl, .inl ⟨_, y1 _ _ e, fun r H2 y2 hr2 => ?_⟩⟩
    refine ⟨r, rfl, ⟨_, SqT.of hr2⟩, numsT (ns := [a]) (SqT.of hr2) hn (by show 1 ≤ 1000; decide) fun D hD => ?_⟩
    have y3 := Same.new hD (.lst (([a].map nt).map V.str))
    refine .inl ⟨_, _, y3 _ _ (y2 _ _ upd_same), upd_same, by show 2 ≤ sizeLine; decide, fun p hp => ?_⟩
    have y4 := (y1.trans y2).trans y3
    have yp := y4.trans (Same.new hp (.lst [V.str (Str.ofString "box"), .str (nt a)]))
    refine ⟨_, .inr (yp _ _ e), .str (Str.ofString "box"), rfl, ?_⟩
    refine ⟨_, .inr (yp _ _ e), .str (Str.ofString "box"), rfl, ?_⟩
    refine ⟨tyL upd_same, ?_⟩
    refine ⟨_, .inr (yp _ _ e), .int b, rfl, ?_⟩
    refine ⟨log_small (by omega) (by omega), ?_⟩
    refine ⟨_, upd_same, by show 2 < sizeLine; decide, ?_⟩
    refine ⟨rfl, ?_⟩
    refine ⟨[Str.ofString "box", nt a, nt b], SqL.of upd_same, fit, ?_⟩
    exact q _ (Same.updD yp (none_of y4 hp))
  | rests m rs =>
    obtain ⟨d, e, ed⟩ := hc
    obtain ⟨rn, rl, m0, m1⟩ := rs_nm hk
    have hn : Nm [m] := fun z hz => by
      have : z = m := by simpa using hz
      omega
    refine ⟨_, .inr e, .str (Str.ofString "rests"), rfl, ?_⟩
    refine ⟨by show 1 ≤ sizeLine; decide, fun d1 hd1 => ?_⟩
    have y1 := Same.new hd1 (.lst [V.str (Str.ofString "rests")])
    refine ⟨1, rfl, 2, rfl, c, rfl, .inl ⟨_, y1 _ _ e, fun r H2 y2 hr2 => ?_⟩⟩
    refine ⟨r, rfl, ⟨_, SqT.of hr2⟩, numsT (ns := [m]) (SqT.of hr2) hn (by show 1 ≤ 1000; decide) fun D hD => ?_⟩
    have y3 := Same.new hD (.lst (([m].map nt).map V.str))
    refine .inl ⟨_, _, y3 _ _ (y2 _ _ upd_same), upd_same, by show 2 ≤ sizeLine; decide, fun p hp => ?_⟩
    have y4 := (y1.trans y2).trans y3
    have yn := Same.new hp (.lst [V.str (Str.ofString "rests"), .str (nt m)])
    have yp := y4.trans yn
    refine ⟨_, .inr (yp _ _ e), .str (Str.ofString "rests"), rfl, ?_⟩
    refine ⟨tyL upd_same, ?_⟩
    refine ⟨rfl, ?_⟩
    refine ⟨_, .inr (yp _ _ e), .ref d, rfl, ?_⟩
    refine ⟨d, rfl, ⟨_, SqT.of (yp _ _ ed)⟩, numsT (SqT.of (yp _ _ ed)) rn (by omega) fun D2 hD2 => ?_⟩
    refine ⟨_, SqL.of upd_same, rs_fits rn rl, ?_⟩
    have y5 := Same.new hD2 (.lst ((rs.map nt).map V.str))
    refine ⟨_, y5 _ _ upd_same, by show 2 < sizeLine; decide, ?_⟩
    have y6 := Same.updD (o := .lst [V.str (Str.ofString "rests"), .str (nt m), .str (Txt.join (Str.ofString ",") (rs.map nt))]) (yp.trans y5) (none_of y4 hp)
    refine ⟨_, .inr (y6 _ _ e), .str (Str.ofString "rests"), rfl, ?_⟩
    refine ⟨rfl, ?_⟩
    exact ⟨[Str.ofString "rests", nt m, Txt.join (Str.ofString ",") (rs.map nt)], SqL.of upd_same, fit, q _ y6⟩
end
end K72
set_option Elab.async false
set_option linter.all false
set_option maxRecDepth 100000
set_option maxHeartbeats 4000000
namespace K72
open PySem L2 M67 M68
section
variable {P : Program} {w : World} {K : PySem.W.Frag} {mg : Str → Option Value} {base : Heap} {f : Addr} {fd : FuncData}
theorem sc_whole : FnScope ["thing"] ["thing"] (defScope (top 9)) := ⟨rfl, rfl, rfl, by decide +kernel, rfl, by decide +kernel, by decide +kernel⟩
noncomputable def sp_whole : Sp := fun vs H Q _ => ∃ i : Int, vs = [.int i] ∧ Q (.bl true) H
theorem ok_whole (F : Fun K "is_whole" "is_whole" (top 9) f fd) (m_bool : mg "bool" = none) (m_int : mg "int" = none) (m_isinstance : mg "isinstance" = none) : FnOk P w K mg base CX0 1 f fd ["thing"] sp_whole := by
  refine F.okz sc_whole (fun vs H Q E h => ?_) (fun cdv A outer s H vs Q E hr h => ?_)
  · obtain ⟨i, rfl, _⟩ := h; rfl
  obtain ⟨i, rfl, q⟩ := h
  have nd := sc_whole.nd
  refine ⟨_, (zss_one (zs_ret (ze_andP (zcb_isinstance rfl m_isinstance (za_cons (zn 0) (za_cons (zty_int rfl m_int) za_nil)) rfl rfl) (ze_one (ze_notP (zcb_isinstance rfl m_isinstance (za_cons (zn 0) (za_cons (zty_bool rfl m_bool) za_nil)) rfl rfl)))))), ?_⟩
  refine ⟨"int", rfl, rfl, ?_⟩
  refine iteB (fun _ => ?_) (fun c => absurd c (by decide))
  refine ⟨"int", rfl, rfl, ?_⟩
  exact q
theorem sc_within : FnScope ["thing", "least", "most"] ["thing", "least", "most"] (defScope (top 10)) := ⟨rfl, rfl, rfl, by decide +kernel, rfl, by decide +kernel, by decide +kernel⟩
noncomputable def sp_within : Sp := fun vs H Q _ => ∃ i lo hi : Int, vs = [.int i, .int lo, .int hi] ∧ lo ≤ i ∧ i ≤ hi ∧ Q (.bl true) H
theorem ok_within (F : Fun K "is_within" "is_within" (top 10) f fd)  (F_is_whole : FnA P w K mg base "is_whole" 1 ["thing"] sp_whole) : FnOk P w K mg base CX0 2 f fd ["thing", "least", "most"] sp_within := by
  refine F.okz sc_within (fun vs H Q E h => ?_) (fun cdv A outer s H vs Q E hr h => ?_)
  · obtain ⟨i, lo, hi, rfl, _⟩ := h; rfl
  obtain ⟨i, lo, hi, rfl, h1, h2, q⟩ := h
  have nd := sc_within.nd
  refine ⟨_, (zss_one (zs_ret (ze_andP (ze_fn F_is_whole hr (by decide) rfl (za_cons (zn 0) za_nil)) (ze_one (ze_chain op_leP op_leP (zn 1) (zn 0) (zn 2)))))), ?_⟩
  refine ⟨i, rfl, ?_⟩
  refine ⟨_, rfl, ?_⟩
  rw [decide_eq_true h1]
  show Q (.bl (decide (i ≤ hi))) H
  rw [decide_eq_true h2]
  exact q
theorem sc_size : FnScope ["thing"] ["thing"] (defScope (top 52)) := ⟨rfl, rfl, rfl, by decide +kernel, rfl, by decide +kernel, by decide +kernel⟩
noncomputable def sp_size : Sp := fun vs H Q _ => ∃ i : Int, vs = [.int i] ∧ 1 ≤ i ∧ i ≤ 600 ∧ Q (.bl true) H
theorem ok_size (F : Fun K "is_size" "is_size" (top 52) f fd)  (g_MOST_SIZE : IntG mg "MOST_SIZE" 600) (F_is_within : FnA P w K mg base "is_within" 2 ["thing", "least", "most"] sp_within) : FnOk P w K mg base CX0 3 f fd ["thing"] sp_size := by
  refine F.okz sc_size (fun vs H Q E h => ?_) (fun cdv A outer s H vs Q E hr h => ?_)
  · obtain ⟨i, rfl, _⟩ := h; rfl
  obtain ⟨i, rfl, h1, h2, q⟩ := h
  have nd := sc_size.nd
  refine ⟨_, (zss_one (zs_ret (ze_fn F_is_within hr (by decide) rfl (za_cons (zn 0) (za_cons ze_int (za_cons (ze_ig rfl g_MOST_SIZE) za_nil)))))), ?_⟩
  exact ⟨i, 1, 600, rfl, h1, h2, q⟩
theorem sc_div : FnScope ["thing"] ["thing"] (defScope (top 53)) := ⟨rfl, rfl, rfl, by decide +kernel, rfl, by decide +kernel, by decide +kernel⟩
noncomputable def sp_div : Sp := fun vs H Q _ => ∃ i : Int, vs = [.int i] ∧ 2 ≤ i ∧ i ≤ 60 ∧ Q (.bl true) H
theorem ok_div (F : Fun K "is_divisor" "is_divisor" (top 53) f fd)  (g_LEAST_DIVISOR_kinds : IntG mg "LEAST_DIVISOR_kinds" 2) (g_MOST_DIVISOR_kinds : IntG mg "MOST_DIVISOR_kinds" 60) (F_is_within : FnA P w K mg base "is_within" 2 ["thing", "least", "most"] sp_within) : FnOk P w K mg base CX0 3 f fd ["thing"] sp_div := by
  refine F.okz sc_div (fun vs H Q E h => ?_) (fun cdv A outer s H vs Q E hr h => ?_)
  · obtain ⟨i, rfl, _⟩ := h; rfl
  obtain ⟨i, rfl, h1, h2, q⟩ := h
  have nd := sc_div.nd
  refine ⟨_, (zss_one (zs_ret (ze_fn F_is_within hr (by decide) rfl (za_cons (zn 0) (za_cons (ze_ig rfl g_LEAST_DIVISOR_kinds) (za_cons (ze_ig rfl g_MOST_DIVISOR_kinds) za_nil)))))), ?_⟩
  exact ⟨i, 2, 60, rfl, h1, h2, q⟩
theorem sc_rests : FnScope ["thing", "m", "least", "rest"] ["thing", "m"] (defScope (top 54)) := ⟨rfl, rfl, rfl, by decide +kernel, rfl, by decide +kernel, by decide +kernel⟩
noncomputable def sp_rests : Sp := fun vs H Q _ => ∃ (a : Addr) (rs : List Int) (m : Int), vs = [.ref a, .int m] ∧ H a = some (.tup (rs.map V.int)) ∧ (Kd.rests m rs).Ok ∧ Q (.bl true) H
theorem ok_rests (F : Fun K "are_rests" "are_rests" (top 54) f fd) (m_isinstance : mg "isinstance" = none) (m_len : mg "len" = none) (m_tuple : mg "tuple" = none) (F_is_within : FnA P w K mg base "is_within" 2 ["thing", "least", "most"] sp_within) : FnOk P w K mg base CX0 3 f fd ["thing", "m"] sp_rests := by
  refine F.okz sc_rests (fun vs H Q E h => ?_) (fun cdv A outer s H vs Q E hr h => ?_)
  · obtain ⟨a, rs, m, rfl, _⟩ := h; rfl
  obtain ⟨a, rs, m, rfl, ha, ⟨_, r0, rp, rb, rl⟩, q⟩ := h
  have nd := sc_rests.nd
  have hu := hr.units
  have lp : 0 < rs.length := by
    cases rs with
    | nil => exact absurd rfl r0
    | cons x r => show 0 < r.length + 1; omega
  refine ⟨_, (zss_cons (zs_if (ZW.zt (zw_or (zt_not (zt_valP (zcb_isinstance rfl m_isinstance (za_cons (zn 0) (za_cons (zty_tuple rfl m_tuple) za_nil)) rfl rfl))) (zw_or1 (zt_cmpP (op_eqD hu) (zcb_len rfl m_len (za_cons (zn 0) za_nil) rfl rfl) ze_int (nomark _))))) (zss_one (zs_ret ze_bl)) zss_nil)
      (zss_cons (zs_set (i := 2) nd rfl (Or.inl rfl) ze_int)
      (zss_cons (zs_for PassesOwn.never rfl (zi_tup (zn 0)) (zg_name (i := 3) nd rfl (Or.inl rfl)) (zss_cons (zs_if (zt_not (zt_valP (ze_fn F_is_within hr (by decide) rfl (za_cons (zn 3) (za_cons (zn 2) (za_cons (ze_op op_subP (zn 1) ze_int) za_nil)))))) (zss_one (zs_ret ze_bl)) zss_nil)
      (zss_one (zs_set (i := 2) nd rfl (Or.inl rfl) (ze_op op_addP (zn 3) ze_int)))))
      (zss_one (zs_ret ze_bl))))), ?_⟩
  refine ⟨"tuple", (SqK.tup ha).ty, rfl, ?_⟩
  refine iteB (fun c => absurd c (by decide)) (fun _ => ?_)
  refine ⟨_, .inr ha, ?_⟩
  rw [List.length_map]
  refine iteD (fun c => absurd (V.int.inj c) (by omega)) (fun _ => ?_)
  refine ⟨a, rfl, ⟨_, SqT.of ha⟩, for_tup (xs := rs.map V.int) (fun i σ H' => H = H' ∧ ∃ (l : Int) (p3 : Option V), σ = [some (.ref a), some (.int m), some (.int l), p3] ∧ (∀ j (hj : j < rs.length), i ≤ j → l ≤ rs[j])) ⟨rfl, 0, none, rfl, fun j hj _ => (rb _ (List.getElem_mem hj)).1⟩ ?_ ?_ ?_⟩
  · rintro i σ H' _ ⟨rfl, _⟩
    exact SqT.of ha
  · rintro i x σ H' hx ⟨rfl, l, p3, rfl, hl⟩
    have hi : i < rs.length := by
      have := (List.getElem?_eq_some_iff.mp hx).1
      rw [List.length_map] at this
      exact this
    have ex : x = .int rs[i] := by rw [getI hi] at hx; exact (Option.some.inj hx).symm
    subst ex
    have hb := rb _ (List.getElem_mem hi)
    refine ⟨_, l, m - 1, rfl, hl i hi (Nat.le_refl _), by omega, ?_⟩
    refine ⟨rfl, rs[i] + 1, _, rfl, fun j hj hij => ?_⟩
    have := List.pairwise_iff_getElem.mp rp i j hi hj (by omega)
    omega
  · rintro σ H' ⟨rfl, l, p3, rfl, hl⟩
    exact q
theorem sc_fits : FnScope ["word", "given"] ["word", "given"] (defScope (top 55)) := ⟨rfl, rfl, rfl, by decide +kernel, rfl, by decide +kernel, by decide +kernel⟩
noncomputable def Given (H : Hp) (g : Addr) : Kd → Prop
  | .bare _ => H g = some (.tup [])
  | .one _ n => H g = some (.tup [.int n])
  | .box a b => H g = some (.tup [.int a, .int b])
  | .rests m rs => ∃ d, H g = some (.tup [.int m, .ref d]) ∧ H d = some (.tup (rs.map V.int))
noncomputable def wordOf : Kd → Str
  | .bare w => w
  | .one w _ => w
  | .box _ _ => Str.ofString "box"
  | .rests _ _ => Str.ofString "rests"
noncomputable def sp_fits : Sp := fun vs H Q _ => ∃ (g : Addr) (k : Kd), vs = [.str (wordOf k), .ref g] ∧ Given H g k ∧ k.Ok ∧ ∀ H', Same H H' → Q (.bl true) H'
theorem ok_fits (F : Fun K "fits_word" "fits_word" (top 55) f fd) (m_len : mg "len" = none) (F_is_size : FnA P w K mg base "is_size" 3 ["thing"] sp_size) (F_is_divisor : FnA P w K mg base "is_divisor" 3 ["thing"] sp_div) (F_are_rests : FnA P w K mg base "are_rests" 3 ["thing", "m"] sp_rests) : FnOk P w K mg base CX0 4 f fd ["word", "given"] sp_fits := by
  refine F.okz sc_fits (fun vs H Q E h => ?_) (fun cdv A outer s H vs Q E hr h => ?_)
  · obtain ⟨g, k, rfl, _⟩ := h; rfl
  obtain ⟨g, k, rfl, hg, hk, q⟩ := h
  have nd := sc_fits.nd
  have hu := hr.units
  generalize hw : wordOf k = wd
  refine ⟨_, (zss_cons (zs_if (zt_cmpP op_in_seq (zn 0) (ze_tup (za_cons ze_str (za_cons ze_str za_nil))) (by with_unfolding_all rfl)) (zss_one (zs_ret (ze_cmpR (op_eqD hu) (zcb_len rfl m_len (za_cons (zn 1) za_nil) rfl rfl) ze_int (nomark _)))) zss_nil)
      (zss_cons (zs_if (zt_cmpP op_in_seq (zn 0) (ze_tup (za_cons ze_str (za_cons ze_str (za_cons ze_str za_nil)))) (by with_unfolding_all rfl)) (zss_one (zs_ret (ze_andP (ze_cmpR (op_eqD hu) (zcb_len rfl m_len (za_cons (zn 1) za_nil) rfl rfl) ze_int (nomark _)) (ze_one (ze_fn F_is_size hr (by decide) rfl (za_cons (ze_ix ix_P (zn 1) ze_int (fun _ _ => rfl)) za_nil)))))) zss_nil)
      (zss_cons (zs_if (zt_cmpP (op_eqD hu) (zn 0) ze_str (nomark _)) (zss_one (zs_ret (ze_andP (ze_cmpR (op_eqD hu) (zcb_len rfl m_len (za_cons (zn 1) za_nil) rfl rfl) ze_int (nomark _)) (ze_andP (ze_fn F_is_size hr (by decide) rfl (za_cons (ze_ix ix_P (zn 1) ze_int (fun _ _ => rfl)) za_nil)) (ze_one (ze_fn F_is_size hr (by decide) rfl (za_cons (ze_ix ix_P (zn 1) ze_int (fun _ _ => rfl)) za_nil))))))) zss_nil)
      (zss_cons (zs_if (zt_cmpP (op_eqD hu) (zn 0) ze_str (nomark _)) (zss_one (zs_ret (ze_andP (ze_cmpR (op_eqD hu) (zcb_len rfl m_len (za_cons (zn 1) za_nil) rfl rfl) ze_int (nomark _)) (ze_one (ze_fn F_is_divisor hr (by decide) rfl (za_cons (ze_ix ix_P (zn 1) ze_int (fun _ _ => rfl)) za_nil)))))) zss_nil)
      (zss_cons (zs_if (zt_cmpP (op_eqD hu) (zn 0) ze_str (nomark _)) (zss_one (zs_ret (ze_andP (ze_cmpR (op_eqD hu) (zcb_len rfl m_len (za_cons (zn 1) za_nil) rfl rfl) ze_int (nomark _)) (ze_andP (ze_fn F_is_divisor hr (by decide) rfl (za_cons (ze_ix ix_P (zn 1) ze_int (fun _ _ => rfl)) za_nil)) (ze_one (ze_fn F_are_rests hr (by decide) rfl (za_cons (ze_ix ix_P (zn 1) ze_int (fun _ _ => rfl)) (za_cons (ze_ix ix_P (zn 1) ze_int (fun _ _ => rfl)) za_nil)))))))) zss_nil)
      (zss_one (zs_ret ze_bl))))))), ?_⟩
  refine ⟨by show 2 ≤ sizeLine; decide, fun d1 hd1 => ?_⟩
  have y1 := Same.new hd1 (.tup [V.str (Str.ofString "all"), .str (Str.ofString "own")])
  refine ⟨_, _, rfl, .inr (SqT.of upd_same), rfl, rfl, ?_⟩
  generalize upd H d1 (.tup [V.str (Str.ofString "all"), .str (Str.ofString "own")]) = H1 at y1
  cases k with
  | bare w =>
    have hg1 := y1 _ _ (show H g = some (.tup []) from hg)
    have hw' : w = wd := hw
    subst hw'
    refine iteB (fun _ => ?_) (fun c => absurd c (by rcases hk with rfl | rfl <;> decide +kernel))
    refine ⟨_, .inr hg1, ?_⟩
    exact q _ y1
  | one w n =>
    have hg1 := y1 _ _ (show H g = some (.tup [.int n]) from hg)
    have hw' : w = wd := hw
    subst hw'
    refine iteB (fun c => absurd c (by rcases hk with ⟨rfl | rfl | rfl, _⟩ | ⟨rfl, _⟩ <;> decide +kernel)) (fun _ => ?_)
    refine ⟨by show 3 ≤ sizeLine; decide, fun d2 hd2 => ?_⟩
    have y2 := Same.new hd2 (.tup [V.str (Str.ofString "most"), .str (Str.ofString "few"), .str (Str.ofString "off")])
    have hg2 := y2 _ _ hg1
    refine ⟨_, _, rfl, .inr (SqT.of upd_same), rfl, rfl, ?_⟩
    rcases hk with ⟨hk, n0, n1⟩ | ⟨hk, n0, n1⟩
    · refine iteB (fun _ => ?_) (fun c => absurd c (by rcases hk with rfl | rfl | rfl <;> decide +kernel))
      refine ⟨_, .inr hg2, ?_⟩
      refine ⟨_, .inr hg2, .int n, rfl, ?_⟩
      exact ⟨n, rfl, n0, n1, q _ (y1.trans y2)⟩
    · refine iteB (fun c => absurd c (by rw [hk]; decide +kernel)) (fun _ => ?_)
      refine iteD (fun c => absurd (V.str.inj c) (by rw [hk]; decide +kernel)) (fun _ => ?_)
      refine iteD (fun _ => ?_) (fun c => absurd (by rw [hk]) c)
      refine ⟨_, .inr hg2, ?_⟩
      refine ⟨_, .inr hg2, .int n, rfl, ?_⟩
      exact ⟨n, rfl, n0, n1, q _ (y1.trans y2)⟩
  | box a b =>
    have hg1 := y1 _ _ (show H g = some (.tup [.int a, .int b]) from hg)
    have hw' : Str.ofString "box" = wd := hw
    obtain ⟨⟨a0, a1⟩, b0, b1⟩ := hk
    refine iteB (fun c => absurd c (by rw [← hw']; decide +kernel)) (fun _ => ?_)
    refine ⟨by show 3 ≤ sizeLine; decide, fun d2 hd2 => ?_⟩
    have y2 := Same.new hd2 (.tup [V.str (Str.ofString "most"), .str (Str.ofString "few"), .str (Str.ofString "off")])
    have hg2 := y2 _ _ hg1
    refine ⟨_, _, rfl, .inr (SqT.of upd_same), rfl, rfl, ?_⟩
    refine iteB (fun c => absurd c (by rw [← hw']; decide +kernel)) (fun _ => ?_)
    refine iteD (fun _ => ?_) (fun c => absurd (by rw [← hw']) c)
    refine ⟨_, .inr hg2, ?_⟩
    refine ⟨_, .inr hg2, .int a, rfl, ?_⟩
    refine ⟨a, rfl, a0, a1, ?_⟩
    refine ⟨_, .inr hg2, .int b, rfl, ?_⟩
    exact ⟨b, rfl, b0, b1, q _ (y1.trans y2)⟩
  | rests m rs =>
    obtain ⟨d, hg, hd⟩ := hg
    have hg1 := y1 _ _ hg
    have hw' : Str.ofString "rests" = wd := hw
    have hm := hk.1
    refine iteB (fun c => absurd c (by rw [← hw']; decide +kernel)) (fun _ => ?_)
    refine ⟨by show 3 ≤ sizeLine; decide, fun d2 hd2 => ?_⟩
    have y2 := Same.new hd2 (.tup [V.str (Str.ofString "most"), .str (Str.ofString "few"), .str (Str.ofString "off")])
    have hg2 := y2 _ _ hg1
    refine ⟨_, _, rfl, .inr (SqT.of upd_same), rfl, rfl, ?_⟩
    refine iteB (fun c => absurd c (by rw [← hw']; decide +kernel)) (fun _ => ?_)
    refine iteD (fun c => absurd (V.str.inj c) (by rw [← hw']; decide +kernel)) (fun _ => ?_)
    refine iteD (fun c => absurd (V.str.inj c) (by rw [← hw']; decide +kernel)) (fun _ => ?_)
    refine iteD (fun _ => ?_) (fun c => absurd (by rw [← hw']) c)
    refine ⟨_, .inr hg2, ?_⟩
    refine ⟨_, .inr hg2, .int m, rfl, ?_⟩
    refine ⟨m, rfl, hm.1, hm.2, ?_⟩
    refine ⟨_, .inr hg2, .ref d, rfl, ?_⟩
    refine ⟨_, .inr hg2, .int m, rfl, ?_⟩
    exact ⟨d, rs, m, rfl, y2 _ _ (y1 _ _ hd), hk, q _ (y1.trans y2)⟩
theorem sc_isk : FnScope ["thing"] ["thing"] (defScope (top 56)) := ⟨rfl, rfl, rfl, by decide +kernel, rfl, by decide +kernel, by decide +kernel⟩
noncomputable def sp_isk : Sp := fun vs H Q _ => ∃ (c : Addr) (k : Kd), vs = [.ref c] ∧ KdAt H c k ∧ k.Ok ∧ ∀ H', Same H H' → Q (.bl true) H'
theorem KdAt.parts {H : Hp} {c : Addr} {k : Kd} (h : KdAt H c k) : ∃ xs, H c = some (.tup (V.str (wordOf k) :: xs)) ∧ ∀ g H', Same H H' → H' g = some (.tup xs) → Given H' g k := by
  cases k with
  | bare w => exact ⟨[], h, fun g H' y e => e⟩
  | one w n => exact ⟨_, h, fun g H' y e => e⟩
  | box a b => exact ⟨_, h, fun g H' y e => e⟩
  | rests m rs =>
    obtain ⟨d, h1, h2⟩ := h
    exact ⟨_, h1, fun g H' y e => ⟨d, e, y _ _ h2⟩⟩
theorem ok_isk (F : Fun K "is_kind" "is_kind" (top 56) f fd) (m_isinstance : mg "isinstance" = none) (m_len : mg "len" = none) (m_str : mg "str" = none) (m_tuple : mg "tuple" = none) (F_fits_word : FnA P w K mg base "fits_word" 4 ["word", "given"] sp_fits) : FnOk P w K mg base CX0 5 f fd ["thing"] sp_isk := by
  refine F.okz sc_isk (fun vs H Q E h => ?_) (fun cdv A outer s H vs Q E hr h => ?_)
  · obtain ⟨c, k, rfl, _⟩ := h; rfl
  obtain ⟨c, k, rfl, hc, hk, q⟩ := h
  have nd := sc_isk.nd
  have hu := hr.units
  obtain ⟨xs, e, hg⟩ := hc.parts
  refine ⟨_, (zss_cons (zs_if (ZW.zt (zw_or (zt_not (zt_valP (zcb_isinstance rfl m_isinstance (za_cons (zn 0) (za_cons (zty_tuple rfl m_tuple) za_nil)) rfl rfl))) (zw_or1 (zt_cmpP (op_eqD hu) (zcb_len rfl m_len (za_cons (zn 0) za_nil) rfl rfl) ze_int (nomark _))))) (zss_one (zs_ret ze_bl)) zss_nil)
      (zss_one (zs_ret (ze_andP (zcb_isinstance rfl m_isinstance (za_cons (ze_ix ix_P (zn 0) ze_int (fun _ _ => rfl)) (za_cons (zty_str rfl m_str) za_nil)) rfl rfl) (ze_one (ze_fn F_fits_word hr (by decide) rfl (za_cons (ze_ix ix_P (zn 0) ze_int (fun _ _ => rfl)) (za_cons (ze_slice sl_P (zn 0) (zo_some ze_int) zo_none) za_nil)))))))), ?_⟩
  refine ⟨"tuple", (SqK.tup e).ty, rfl, ?_⟩
  refine iteB (fun c => absurd c (by decide)) (fun _ => ?_)
  refine ⟨_, .inr e, ?_⟩
  refine ⟨_, .inr e, .str (wordOf k), atI_of (j := 0) rfl rfl, ?_⟩
  refine ⟨"str", rfl, rfl, ?_⟩
  refine iteB (fun _ => ?_) (fun c => absurd c (by decide))
  refine ⟨_, .inr e, .str (wordOf k), atI_of (j := 0) rfl rfl, ?_⟩
  refine ⟨1, rfl, c, rfl, .inl ⟨_, e, fun r H2 y2 hr2 => ?_⟩⟩
  rw [cut_tail] at hr2
  exact ⟨r, k, rfl, hg r H2 y2 hr2, hk, fun H3 y3 => q _ (y2.trans y3)⟩
end
end K72
set_option Elab.async false
set_option linter.all false
set_option maxRecDepth 100000
set_option maxHeartbeats 4000000
namespace K72
open PySem L2 M67 M68
theorem fig_in {c : Nat} (h0 : 48 ≤ c) (h1 : c ≤ 57) : inT ⟨#[c]⟩ (Str.ofString "0123456789") = true := by
  have : c = 48 ∨ c = 49 ∨ c = 50 ∨ c = 51 ∨ c = 52 ∨ c = 53 ∨ c = 54 ∨ c = 55 ∨ c = 56 ∨ c = 57 := by omega
  rcases this with rfl | rfl | rfl | rfl | rfl | rfl | rfl | rfl | rfl | rfl <;> decide +kernel
theorem zero_is : (Str.ofString "0") = ⟨#[48]⟩ := by decide +kernel
theorem one_ne {c : Nat} (h : c ≠ 48) : (⟨#[c]⟩ : Str) ≠ Str.ofString "0" := fun z => by
  rw [zero_is] at z
  have := congrArg (fun s : Str => s.cps.toList) z
  exact h (List.cons.inj this).1
theorem atN {l : List Nat} {c : Nat} (h : l[0]? = some c) : atI l 0 = some c := by
  cases l with
  | nil => cases h
  | cons x r =>
    unfold atI ixN
    rw [if_pos (Int.le_refl _), if_pos (by show (0 : Int) < ((r.length + 1 : Nat) : Int); omega)]
    exact h
section
variable {P : Program} {w : World} {K : PySem.W.Frag} {mg : Str → Option Value} {base : Heap} {f : Addr} {fd : FuncData}
theorem sc_text : FnScope ["thing"] ["thing"] (defScope (top 86)) := ⟨rfl, rfl, rfl, by decide +kernel, rfl, by decide +kernel, by decide +kernel⟩
noncomputable def sp_text : Sp := fun vs H Q _ => ∃ z : Str, vs = [.str z] ∧ z.length ≤ 2000 ∧ Q (.bl true) H
theorem ok_text (F : Fun K "is_text" "is_text" (top 86) f fd) (m_isinstance : mg "isinstance" = none) (m_len : mg "len" = none) (m_str : mg "str" = none) (g_MOST_SIGNS : IntG mg "MOST_SIGNS" 2000) : FnOk P w K mg base CX0 1 f fd ["thing"] sp_text := by
  refine F.okz sc_text (fun vs H Q E h => ?_) (fun cdv A outer s H vs Q E hr h => ?_)
  · obtain ⟨z, rfl, _⟩ := h; rfl
  obtain ⟨z, rfl, hz, q⟩ := h
  have nd := sc_text.nd
  refine ⟨_, (zss_one (zs_ret (ze_andP (zcb_isinstance rfl m_isinstance (za_cons (zn 0) (za_cons (zty_str rfl m_str) za_nil)) rfl rfl) (ze_one (ze_cmpR op_leP (zcb_lenT rfl m_len (za_cons (zn 0) za_nil) rfl rfl) (ze_ig rfl g_MOST_SIGNS) (nomark _)))))), ?_⟩
  refine ⟨"str", rfl, rfl, ?_⟩
  refine iteB (fun _ => ?_) (fun c => absurd c (by decide))
  refine ⟨Nat.le_of_lt (Nat.lt_of_le_of_lt hz (by rw [sizeLine_eq]; decide)), ?_⟩
  show Q (.bl (decide ((z.length : Int) ≤ 2000))) H
  rw [decide_eq_true (by omega)]
  exact q
theorem sc_number : FnScope ["text"] ["text"] (defScope (top 87)) := ⟨rfl, rfl, rfl, by decide +kernel, rfl, by decide +kernel, by decide +kernel⟩
noncomputable def sp_number : Sp := fun vs H Q _ => ∃ n : Int, vs = [.str (nt n)] ∧ 0 ≤ n ∧ n < 1000000 ∧ ∀ H', Same H H' → Q (.bl true) H'
theorem ok_number (F : Fun K "is_number" "is_number" (top 87) f fd) (m_all : mg "all" = none) (m_len : mg "len" = none) (g_MOST_FIGURES : IntG mg "MOST_FIGURES" 6) (g_FIGURES : StrG mg "FIGURES" "0123456789") : FnOk P w K mg base CX0 1 f fd ["text"] sp_number := by
  refine F.okz sc_number (fun vs H Q E h => ?_) (fun cdv A outer s H vs Q E hr h => ?_)
  · obtain ⟨z, rfl, _⟩ := h; rfl
  obtain ⟨n, rfl, n0, n1, q⟩ := h
  have nd := sc_number.nd
  have hu := hr.units
  have hl := nt_len (show 0 ≤ n by omega) n1
  have hd := nt_digit (show 0 ≤ n by omega)
  obtain ⟨c, hc, hc48⟩ : ∃ c, (nt n).cps.toList[0]? = some c ∧ (c ≠ 48 ∨ n = 0) := by
    by_cases h : n = 0
    · subst h
      exact ⟨48, by decide +kernel, .inr rfl⟩
    · obtain ⟨c, h1, h2⟩ := nt_first (show 1 ≤ n by omega)
      exact ⟨c, h1, .inl h2⟩
  have sl : (nt n).length ≤ sizeLine := Nat.le_trans hl.2 (by rw [sizeLine_eq]; decide)
  have hsz : (nt n).cps.size = (nt n).length := rfl
  refine ⟨_, (zss_cons (zs_if (ZW.zt (zw_or (zt_cmpP (op_eqD hu) (zcb_lenT rfl m_len (za_cons (zn 0) za_nil) rfl rfl) ze_int (nomark _)) (zw_or1 (zt_cmpP op_gtP (zcb_lenT rfl m_len (za_cons (zn 0) za_nil) rfl rfl) (ze_ig rfl g_MOST_FIGURES) (nomark _))))) (zss_one (zs_ret ze_bl)) zss_nil)
      (zss_cons (zs_if (zt_not (zt_valP (zcb_all rfl rfl m_all (za_cons (ze_comp ["sign"] [] rfl ⟨rfl, by decide +kernel, by decide +kernel, rfl, rfl⟩ (zi_str (zn 0)) kpg_name (fun _ _ _ _ => zg_name (i := 0) (show List.Nodup (["sign"] : List Str) by decide +kernel) rfl (Or.inl rfl)) (fun _ _ _ _ => zif_nil) (fun _ _ _ _ => (ze_cmpR op_inT (zn 0) (ze_sg rfl g_FIGURES) (by with_unfolding_all rfl)))) za_nil) rfl rfl))) (zss_one (zs_ret ze_bl)) zss_nil)
      (zss_one (zs_ret (ze_orP (ze_cmpR (op_neD hu) (ze_ix ix_T (zn 0) ze_int (fun _ _ => rfl)) ze_str (nomark _)) (ze_one (ze_cmpR (op_eqD hu) (zn 0) ze_str (nomark _)))))))), ?_⟩
  refine ⟨sl, ?_⟩
  refine iteD (fun c => absurd (V.int.inj c) (by omega)) (fun _ => ?_)
  refine ⟨sl, ?_⟩
  refine iteD (fun c => absurd c (by omega)) (fun _ => ?_)
  refine cmp_str (fun i zs H' => H' = H ∧ zs = (List.replicate i true).map V.bl) ⟨rfl, rfl⟩ ?_ ?_
  · rintro i c zs H' hx ⟨rfl, rfl⟩
    have hi := (Array.getElem?_eq_some_iff.mp hx).1
    refine ⟨by rw [List.length_map, List.length_replicate]; exact small1000 (by omega), ?_⟩
    have hcm : c ∈ (nt n).cps.toList := by
      rw [← Array.getElem?_toList] at hx
      exact List.mem_of_getElem? hx
    have := hd c hcm
    refine ⟨rfl, ?_⟩
    rw [fig_in this.1 this.2, rep_snoc]
  · rintro zs H' ⟨rfl, rfl⟩ D hD
    refine ⟨_, SqL.of upd_same, ?_⟩
    rw [rep_all]
    refine iteB (fun c => absurd c (by decide)) (fun _ => ?_)
    refine ⟨c, sl, atN hc, ?_⟩
    refine iteB (fun _ => ?_) (fun e => ?_)
    · exact q _ (Same.new hD _)
    · have e1 : decide (V.str ⟨#[c]⟩ = V.str (Str.ofString "0")) = true := by simpa using e
      rcases hc48 with hc48 | rfl
      · exact absurd (V.str.inj (of_decide_eq_true e1)) (one_ne hc48)
      · show Q (.bl (decide (V.str (nt 0) = V.str (Str.ofString "0")))) _
        rw [nt_zero, decide_eq_true rfl]
        exact q _ (Same.new hD _)
theorem sc_read : FnScope ["words"] ["words"] (defScope (top 88)) := ⟨rfl, rfl, rfl, by decide +kernel, rfl, by decide +kernel, by decide +kernel⟩
noncomputable def sp_read : Sp := fun vs H Q _ => ∃ (a : Addr) (ns : List Int), vs = [.ref a] ∧ H a = some (.lst ((ns.map nt).map V.str)) ∧ ns.length ≤ 1000 ∧ Nm ns ∧ ∀ r H', Same H H' → H' r = some (.tup (ns.map V.int)) → Q (.ref r) H'
theorem ok_read (F : Fun K "numbers_read" "numbers_read" (top 88) f fd) (m_all : mg "all" = none) (m_int : mg "int" = none) (m_tuple : mg "tuple" = none) (F_is_number : FnA P w K mg base "is_number" 1 ["text"] sp_number) : FnOk P w K mg base CX0 2 f fd ["words"] sp_read := by
  refine F.okz sc_read (fun vs H Q E h => ?_) (fun cdv A outer s H vs Q E hr h => ?_)
  · obtain ⟨a, ns, rfl, _⟩ := h; rfl
  obtain ⟨a, ns, rfl, ha, hl, hn, q⟩ := h
  have nd := sc_read.nd
  have hu := hr.units
  have hat : ∀ {i : Nat} {x : V}, ((ns.map nt).map V.str)[i]? = some x → ∃ hi : i < ns.length, x = .str (nt ns[i]) := fun {i x} hx => by
    have hi : i < ns.length := by
      have := (List.getElem?_eq_some_iff.mp hx).1
      rw [List.length_map, List.length_map] at this
      exact this
    refine ⟨hi, ?_⟩
    rw [List.getElem?_map, List.getElem?_map, List.getElem?_eq_getElem hi] at hx
    exact (Option.some.inj hx).symm
  refine ⟨_, (zss_cons (zs_if (zt_not (zt_valP (zcb_all rfl rfl m_all (za_cons (ze_comp ["word"] [] rfl ⟨rfl, by decide +kernel, by decide +kernel, rfl, rfl⟩ (zi_list (zn 0)) kpg_name (fun _ _ _ _ => zg_name (i := 0) (show List.Nodup (["word"] : List Str) by decide +kernel) rfl (Or.inl rfl)) (fun _ _ _ _ => zif_nil) (fun _ _ _ _ => (ze_fn F_is_number hr (by decide) rfl (za_cons (zn 0) za_nil)))) za_nil) rfl rfl))) (zss_one zs_no) zss_nil)
      (zss_one (zs_ret (zcb_tuple rfl m_tuple (za_cons (ze_comp ["word"] [] rfl ⟨rfl, by decide +kernel, by decide +kernel, rfl, rfl⟩ (zi_list (zn 0)) kpg_name (fun _ _ _ _ => zg_name (i := 0) (show List.Nodup (["word"] : List Str) by decide +kernel) rfl (Or.inl rfl)) (fun _ _ _ _ => zif_nil) (fun _ _ _ _ => (zcb_intT rfl m_int (za_cons (zn 0) za_nil) rfl rfl))) za_nil) rfl rfl)))), ?_⟩
  refine ⟨a, rfl, ⟨_, SqL.of ha⟩, cmp_list (xs := (ns.map nt).map V.str) (fun i zs H' => Same H H' ∧ zs = (List.replicate i true).map V.bl) ⟨Same.refl _, rfl⟩ ?_ ?_ ?_⟩
  · rintro i zs H' _ ⟨y, _⟩
    exact SqL.of (y _ _ ha)
  · rintro i x zs H' hx ⟨y, rfl⟩
    obtain ⟨hi, rfl⟩ := hat hx
    have := hn _ (List.getElem_mem hi)
    refine ⟨by rw [List.length_map, List.length_replicate]; exact small1000 (by omega), ?_⟩
    exact ⟨_, rfl, this.1, this.2, fun H2 y2 => ⟨y.trans y2, rep_snoc i⟩⟩
  · rintro zs H' ⟨y, rfl⟩ D hD
    refine ⟨_, SqL.of upd_same, ?_⟩
    rw [rep_all]
    refine iteB (fun c => absurd c (by decide)) (fun _ => ?_)
    have yD := y.trans (Same.new hD (.lst ((List.replicate ((ns.map nt).map V.str).length true).map V.bl)))
    generalize upd H' D (.lst ((List.replicate ((ns.map nt).map V.str).length true).map V.bl)) = H1 at yD
    refine ⟨a, rfl, ⟨_, SqL.of (yD _ _ ha)⟩, cmp_list (xs := (ns.map nt).map V.str) (fun i zs H' => H' = H1 ∧ zs = (ns.take i).map V.int) ⟨rfl, by rw [List.take_zero]; rfl⟩ ?_ ?_ ?_⟩
    · rintro i zs H' _ ⟨rfl, _⟩
      exact SqL.of (yD _ _ ha)
    · rintro i x zs H' hx ⟨rfl, rfl⟩
      obtain ⟨hi, rfl⟩ := hat hx
      have hh := hn _ (List.getElem_mem hi)
      refine ⟨by rw [List.length_map, List.length_take]; exact small1000 (by omega), ?_⟩
      have hl6 := nt_len (show 0 ≤ ns[i] by omega) hh.2
      refine ⟨_, nt_reads (by omega) hh.2, by omega, ?_⟩
      refine ⟨rfl, ?_⟩
      rw [List.take_succ, List.getElem?_eq_getElem hi, List.map_append]
      rfl
    · rintro zs H' ⟨rfl, rfl⟩ D2 hD2
      rw [List.length_map, List.length_map, List.take_of_length_le (Nat.le_refl _)]
      refine ⟨_, .inl (SqL.of upd_same), fun r H2 y2 hr2 => ?_⟩
      exact q r H2 ((yD.trans (Same.new hD2 _)).trans y2) hr2
theorem sc_kow : FnScope ["words"] ["words"] (defScope (top 90)) := ⟨rfl, rfl, rfl, by decide +kernel, rfl, by decide +kernel, by decide +kernel⟩
noncomputable def sp_kow : Sp := fun vs H Q _ => ∃ (a : Addr) (k : Kd), vs = [.ref a] ∧ H a = some (.lst (k.words.map V.str)) ∧ k.Ok ∧ ∀ c H', Same H H' → KdAt H' c k → Q (.ref c) H'
theorem ok_kow (F : Fun K "kind_of_words" "kind_of_words" (top 90) f fd) (m_len : mg "len" = none) (F_numbers_read : FnA P w K mg base "numbers_read" 2 ["words"] sp_read) : FnOk P w K mg base CX0 3 f fd ["words"] sp_kow := by
  refine F.okz sc_kow (fun vs H Q E h => ?_) (fun cdv A outer s H vs Q E hr h => ?_)
  · obtain ⟨a, k, rfl, _⟩ := h; rfl
  obtain ⟨a, k, rfl, ha, hk, q⟩ := h
  have nd := sc_kow.nd
  have hu := hr.units
  refine ⟨_, (zss_cons (zs_if (ZW.zt (zw_and (zt_cmpP (op_eqD hu) (zcb_len rfl m_len (za_cons (zn 0) za_nil) rfl rfl) ze_int (nomark _)) (zw_and1 (zt_cmpP (op_eqD hu) (ze_ix ix_P (zn 0) ze_int (fun _ _ => rfl)) ze_str (nomark _))))) (zss_one (zs_ret (ze_op op_addP (ze_op op_addP (ze_tup (za_cons ze_str za_nil)) (ze_fn F_numbers_read hr (by decide) rfl (za_cons (ze_slice sl_P (zn 0) (zo_some ze_int) (zo_some ze_int)) za_nil))) (ze_tup (za_cons (ze_fn F_numbers_read hr (by decide) rfl (za_cons (zm_split (ze_ix ix_P (zn 0) ze_int (fun _ _ => rfl)) (za_cons ze_str za_nil)) za_nil)) za_nil))))) zss_nil)
      (zss_one (zs_ret (ze_op op_addP (ze_tup (za_cons (ze_ix ix_P (zn 0) ze_int (fun _ _ => rfl)) za_nil)) (ze_fn F_numbers_read hr (by decide) rfl (za_cons (ze_slice sl_P (zn 0) (zo_some ze_int) zo_none) za_nil)))))), ?_⟩
  refine ⟨_, .inl (SqL.of ha), ?_⟩
  cases k with
  | bare w =>
    refine ⟨_, .inl (SqL.of ha), .str w, rfl, ?_⟩
    refine ⟨by show 1 ≤ sizeLine; decide, fun d1 hd1 => ?_⟩
    have y1 := Same.new hd1 (.tup [V.str w])
    refine ⟨1, rfl, a, rfl, .inr ⟨_, SqL.of (y1 _ _ ha), fun p hp => ?_⟩⟩
    have y2 := Same.new hp (.lst ((([] : List Int).map nt).map V.str))
    refine ⟨p, [], rfl, upd_same, by show 0 ≤ 1000; decide, (fun n hn => (nomatch hn)), fun r H3 y3 hr3 => ?_⟩
    refine .inr ⟨_, _, y3 _ _ (y2 _ _ upd_same), hr3, by show 1 ≤ sizeLine; decide, fun r4 H4 y4 hr4 => ?_⟩
    exact q r4 H4 (((y1.trans y2).trans y3).trans y4) hr4
  | one w n =>
    have hn : Nm [n] := fun z hz => by
      have : z = n := by simpa using hz
      rcases hk with ⟨_, h1, h2⟩ | ⟨_, h1, h2⟩ <;> omega
    refine ⟨_, .inl (SqL.of ha), .str w, rfl, ?_⟩
    refine ⟨by show 1 ≤ sizeLine; decide, fun d1 hd1 => ?_⟩
    have y1 := Same.new hd1 (.tup [V.str w])
    refine ⟨1, rfl, a, rfl, .inr ⟨_, SqL.of (y1 _ _ ha), fun p hp => ?_⟩⟩
    have y2 := Same.new hp (.lst ((([n] : List Int).map nt).map V.str))
    refine ⟨p, [n], rfl, upd_same, by show 1 ≤ 1000; decide, hn, fun r H3 y3 hr3 => ?_⟩
    refine .inr ⟨_, _, y3 _ _ (y2 _ _ upd_same), hr3, by show 2 ≤ sizeLine; decide, fun r4 H4 y4 hr4 => ?_⟩
    exact q r4 H4 (((y1.trans y2).trans y3).trans y4) hr4
  | box b c =>
    have hn : Nm [b, c] := fun z hz => by
      obtain ⟨⟨h1, h2⟩, h3, h4⟩ := hk
      have : z = b ∨ z = c := by simpa using hz
      omega
    refine ⟨_, .inl (SqL.of ha), .str (Str.ofString "box"), rfl, ?_⟩
    refine ⟨_, .inl (SqL.of ha), .str (Str.ofString "box"), rfl, ?_⟩
    refine ⟨by show 1 ≤ sizeLine; decide, fun d1 hd1 => ?_⟩
    have y1 := Same.new hd1 (.tup [V.str (Str.ofString "box")])
    refine ⟨1, rfl, a, rfl, .inr ⟨_, SqL.of (y1 _ _ ha), fun p hp => ?_⟩⟩
    have y2 := Same.new hp (.lst ((([b, c] : List Int).map nt).map V.str))
    refine ⟨p, [b, c], rfl, upd_same, by show 2 ≤ 1000; decide, hn, fun r H3 y3 hr3 => ?_⟩
    refine .inr ⟨_, _, y3 _ _ (y2 _ _ upd_same), hr3, by show 3 ≤ sizeLine; decide, fun r4 H4 y4 hr4 => ?_⟩
    exact q r4 H4 (((y1.trans y2).trans y3).trans y4) hr4
  | rests m rs =>
    obtain ⟨rn, rl, m0, m1⟩ := rs_nm hk
    have hn : Nm [m] := fun z hz => by
      have : z = m := by simpa using hz
      omega
    refine ⟨_, .inl (SqL.of ha), .str (Str.ofString "rests"), rfl, ?_⟩
    refine ⟨by show 1 ≤ sizeLine; decide, fun d1 hd1 => ?_⟩
    have y1 := Same.new hd1 (.tup [V.str (Str.ofString "rests")])
    refine ⟨1, rfl, 2, rfl, a, rfl, .inr ⟨_, SqL.of (y1 _ _ ha), fun p hp => ?_⟩⟩
    have y2 := Same.new hp (.lst (([m].map nt).map V.str))
    refine ⟨p, [m], rfl, upd_same, by show 1 ≤ 1000; decide, hn, fun r H3 y3 hr3 => ?_⟩
    refine .inr ⟨_, _, y3 _ _ (y2 _ _ upd_same), hr3, by show 2 ≤ sizeLine; decide, fun r4 H4 y4 hr4 => ?_⟩
    have z4 := ((y1.trans y2).trans y3).trans y4
    refine ⟨_, .inl (SqL.of (z4 _ _ ha)), .str (Txt.join (Str.ofString ",") (rs.map nt)), rfl, ?_⟩
    have l4 := rs_len rn
    refine ⟨rfl, by omega, by decide +kernel, fun d5 hd5 => ?_⟩
    rw [rs_split hk.2.1 fun r hr' => (rn r hr').1]
    have y5 := Same.new hd5 (.lst ((rs.map nt).map V.str))
    refine ⟨d5, rs, rfl, upd_same, by omega, rn, fun r6 H6 y6 hr6 => ?_⟩
    refine ⟨by show 1 ≤ sizeLine; decide, fun d7 hd7 => ?_⟩
    have y7 := Same.new hd7 (.tup [V.ref r6])
    have z7 := (y5.trans y6).trans y7
    refine .inr ⟨_, _, z7 _ _ hr4, upd_same, by show 3 ≤ sizeLine; decide, fun r8 H8 y8 hr8 => ?_⟩
    exact q r8 H8 ((z4.trans z7).trans y8) ⟨r6, hr8, y8 _ _ (y7 _ _ hr6)⟩
theorem sc_rk : FnScope ["thing", "kind"] ["thing"] (defScope (top 91)) := ⟨rfl, rfl, rfl, by decide +kernel, rfl, by decide +kernel, by decide +kernel⟩
noncomputable def sp_rk : Sp := fun vs H Q _ => ∃ k : Kd, vs = [.str k.text] ∧ k.Ok ∧ ∀ c H', Same H H' → KdAt H' c k → Q (.ref c) H'
theorem ok_rk (F : Fun K "read_kind" "read_kind" (top 91) f fd)  (F_is_text : FnA P w K mg base "is_text" 1 ["thing"] sp_text) (F_kind_of_words : FnA P w K mg base "kind_of_words" 3 ["words"] sp_kow) (F_is_kind : FnA P w K mg base "is_kind" 5 ["thing"] sp_isk) : FnOk P w K mg base CX0 6 f fd ["thing"] sp_rk := by
  refine F.okz sc_rk (fun vs H Q E h => ?_) (fun cdv A outer s H vs Q E hr h => ?_)
  · obtain ⟨k, rfl, _⟩ := h; rfl
  obtain ⟨k, rfl, hk, q⟩ := h
  have nd := sc_rk.nd
  have hu := hr.units
  have tl := text_len hk
  refine ⟨_, (zss_cons (zs_if (zt_not (zt_valP (ze_fn F_is_text hr (by decide) rfl (za_cons (zn 0) za_nil)))) (zss_one zs_no) zss_nil)
      (zss_cons (zs_set (i := 1) nd rfl (Or.inl rfl) (ze_fn F_kind_of_words hr (by decide) rfl (za_cons (zm_split (zn 0) (za_cons ze_str za_nil)) za_nil)))
      (zss_cons (zs_if (zt_not (zt_valP (ze_fn F_is_kind hr (by decide) rfl (za_cons (zn 1) za_nil)))) (zss_one zs_no) zss_nil)
      (zss_one (zs_ret (zn 1)))))), ?_⟩
  refine ⟨_, rfl, by omega, ?_⟩
  refine ⟨rfl, by omega, by decide +kernel, fun d hd => ?_⟩
  rw [text_split hk]
  have yd := Same.new hd (.lst (k.words.map V.str))
  refine ⟨d, k, rfl, upd_same, hk, fun c H2 y2 hc => ?_⟩
  refine ⟨c, k, rfl, hc, hk, fun H3 y3 => ?_⟩
  exact q c H3 ((yd.trans y2).trans y3) (hc.same y3)
end
end K72
set_option Elab.async false
set_option linter.all false
set_option maxRecDepth 100000
set_option maxHeartbeats 4000000
namespace K72
open PySem L2 M67
theorem plus_is : (Str.ofString "+") = ⟨#[43]⟩ := by decide +kernel
noncomputable def Num (ns : List Int) : Prop := ∀ n ∈ ns, (1 : Int) ≤ n ∧ n < 1000000
noncomputable def shw (ns : List Int) : Str := if ns = [] then Str.ofString "-" else Txt.join (Str.ofString "+") (ns.map nt)
theorem nts_sum {ns : List Int} {k : Nat} (h : ∀ n ∈ ns, (nt n).length ≤ k) : ((ns.map nt).map (·.length)).sum ≤ ns.length * k := by
  induction ns with
  | nil => simp
  | cons x r ih =>
    have := ih fun n hn => h n (List.mem_cons_of_mem _ hn)
    have := h x List.mem_cons_self
    simp only [List.map_cons, List.sum_cons, List.length_cons]
    rw [Nat.add_mul, Nat.one_mul]
    omega
theorem one_len (x : Nat) : (⟨#[x]⟩ : Str).length = 1 := rfl
theorem app_len (a b : Str) : (a ++ b).length = a.length + b.length := by
  show (a.cps ++ b.cps).size = _
  rw [Array.size_append]
  rfl
theorem join_len (c : Nat) : ∀ ys : List Str, (Str.join ⟨#[c]⟩ ys).length ≤ (ys.map (·.length)).sum + ys.length
  | [] => Nat.zero_le _
  | [x] => by show x.length ≤ _; simp
  | x :: y :: r => by
    have := join_len c (y :: r)
    show ((x ++ ⟨#[c]⟩ ++ Str.join ⟨#[c]⟩ (y :: r) : Str)).length ≤ _
    rw [app_len, app_len, one_len]
    simp only [List.map_cons, List.sum_cons, List.length_cons] at this ⊢
    omega
theorem shw_len {ns : List Int} {k : Nat} (h : ∀ n ∈ ns, (nt n).length ≤ k) : (shw ns).length ≤ ns.length * (k + 1) + 1 := by
  unfold shw
  split
  · show (Str.ofString "-").length ≤ _
    have : (Str.ofString "-").length = 1 := by decide +kernel
    omega
  · rw [plus_is, show Txt.join ⟨#[43]⟩ (ns.map nt) = Str.join ⟨#[43]⟩ (ns.map nt) from StrLaws.glued_eq_join _ _]
    have h1 := join_len 43 (ns.map nt)
    have h2 := nts_sum h
    rw [List.length_map] at h1
    rw [Nat.mul_add, Nat.mul_one]
    omega
section
variable {P : Program} {w : World} {K : PySem.W.Frag} {mg : Str → Option Value} {base : Heap} {f : Addr} {fd : FuncData}
noncomputable def sp_shp : Sp := fun vs H Q _ => ∃ (a : Addr) (ns : List Int), vs = [.ref a] ∧ H a = some (.tup (ns.map V.int)) ∧ ns.length ≤ 1000 ∧ Num ns ∧ ∀ H', Same H H' → Q (.str (shw ns)) H'
theorem join_ok {ns : List Int} (hl : ns.length ≤ 1000) (h : Num ns) : ((ns.map nt).map (·.length)).sum + (ns.map nt).length * (Str.ofString "+").length ≤ 16777216 := by
  have h2 := nts_sum (ns := ns) (k := 6) fun n hn => (nt_len (by have := (h n hn).1; omega) (h n hn).2).2
  have h3 : (Str.ofString "+").length = 1 := by decide +kernel
  rw [h3, List.length_map]
  omega
theorem sc_shp : FnScope ["parting"] ["parting"] (defScope (top 93)) := ⟨rfl, rfl, rfl, by decide +kernel, rfl, by decide +kernel, by decide +kernel⟩
theorem ok_shp (F : Fun K "show_parting" "show_parting" (top 93) f fd) (m_len : mg "len" = none) (m_str : mg "str" = none) : FnOk P w K mg base CX0 1 f fd ["parting"] sp_shp := by
  refine F.okz sc_shp (fun vs H Q E h => ?_) (fun cdv A outer s H vs Q E hr h => ?_)
  · obtain ⟨a, ns, rfl, _⟩ := h; rfl
  obtain ⟨a, ns, rfl, ha, hl, hn, q⟩ := h
  have nd := sc_shp.nd
  have hu := hr.units
  refine ⟨_, (zss_cons (zs_if (zt_cmpP (op_eqD hu) (zcb_len rfl m_len (za_cons (zn 0) za_nil) rfl rfl) ze_int (nomark _)) (zss_one (zs_ret ze_str)) zss_nil)
      (zss_one (zs_ret (zm_join ze_str (za_cons (ze_comp ["part"] [] rfl ⟨rfl, by decide +kernel, by decide +kernel, rfl, rfl⟩ (zi_tup (zn 0)) kpg_name (fun _ _ _ _ => zg_name (i := 0) (show List.Nodup (["part"] : List Str) by decide +kernel) rfl (Or.inl rfl)) (fun _ _ _ _ => zif_nil) (fun _ _ _ _ => (zcb_str rfl m_str (za_cons (zn 0) za_nil) rfl rfl))) za_nil))))), ?_⟩
  refine ⟨_, .inr ha, ?_⟩
  cases ns with
  | nil => exact q H (Same.refl H)
  | cons n0 r0 =>
    refine ⟨rfl, ?_⟩
    refine ⟨a, rfl, ⟨_, SqT.of ha⟩, cmp_tup (xs := (n0 :: r0).map V.int) (fun j ys H' => H' = H ∧ ys = (((n0 :: r0).take j).map nt).map V.str) ⟨rfl, by rw [List.take_zero]; rfl⟩ ?_ ?_ ?_⟩
    · rintro j ys H' _ ⟨rfl, _⟩
      exact SqT.of ha
    · rintro j x ys H' hx ⟨rfl, rfl⟩
      have hj : j < (n0 :: r0).length := by
        have := (List.getElem?_eq_some_iff.mp hx).1
        rw [List.length_map] at this
        exact this
      have ex : x = .int (n0 :: r0)[j] := by rw [getI hj] at hx; exact (Option.some.inj hx).symm
      subst ex
      have hj1 := hn _ (List.getElem_mem hj)
      refine ⟨by rw [List.length_map, List.length_map, List.length_take]; exact small1000 (by omega), ?_⟩
      refine ⟨log_small (by omega) hj1.2, ?_⟩
      refine ⟨rfl, ?_⟩
      rw [List.take_succ, List.getElem?_eq_getElem hj, List.map_append, List.map_append]
      rfl
    · rintro ys H' ⟨rfl, rfl⟩ D hD
      rw [List.length_map, List.take_of_length_le (Nat.le_refl _)]
      refine ⟨_, SqL.of upd_same, join_ok hl hn, ?_⟩
      have := q _ (Same.new hD (.lst (((n0 :: r0).map nt).map V.str)))
      unfold shw at this
      rw [if_neg (List.cons_ne_nil _ _)] at this
      exact this
theorem sc_ltext : FnScope ["_law_parting"] ["_law_parting"] (defScope (top 162)) := ⟨rfl, rfl, rfl, by decide +kernel, rfl, by decide +kernel, by decide +kernel⟩
theorem eqv_nilT (ds : List PyData) : PyData.eqv (.tuple ds) (.tuple []) = ds.isEmpty := by cases ds <;> simp [PyData.eqv, PyData.eqvAll]
theorem ok_ltext (F : Fun K "_law_text" "_law_text" (top 162) f fd) (m_str : mg "str" = none) : FnOk P w K mg base CX0 1 f fd ["_law_parting"] sp_shp := by
  refine F.okz sc_ltext (fun vs H Q E h => ?_) (fun cdv A outer s H vs Q E hr h => ?_)
  · obtain ⟨a, ns, rfl, _⟩ := h; rfl
  obtain ⟨a, ns, rfl, ha, hl, hn, q⟩ := h
  have nd := sc_ltext.nd
  have hu := hr.units
  refine ⟨_, (zss_one (zs_ret (ze_ifExp (zt_cmpP (op_neD hu) (zn 0) (ze_tup za_nil) (nomark _)) (zm_join ze_str (za_cons (ze_comp ["_law_part"] [] rfl ⟨rfl, by decide +kernel, by decide +kernel, rfl, rfl⟩ (zi_tup (zn 0)) kpg_name (fun _ _ _ _ => zg_name (i := 0) (show List.Nodup (["_law_part"] : List Str) by decide +kernel) rfl (Or.inl rfl)) (fun _ _ _ _ => zif_nil) (fun _ _ _ _ => (zcb_str rfl m_str (za_cons (zn 0) za_nil) rfl rfl))) za_nil)) ze_str))), ?_⟩
  refine ⟨Nat.zero_le _, fun d hd => ?_⟩
  have y1 := Same.new hd (.tup [])
  have ha1 := y1 _ _ ha
  refine ⟨_, _, .ints ha1, .ints (ns := []) upd_same, shaped_ints _, shaped_ints [], ?_⟩
  generalize upd H d (.tup []) = H1 at y1 ha1
  show if (!PyData.eqv (.tuple (ns.map PyData.int)) (.tuple [])) = true then _ else _
  rw [eqv_nilT]
  cases ns with
  | nil => exact q H1 y1
  | cons n0 r0 =>
    refine iteT ?_
    refine ⟨rfl, ?_⟩
    refine ⟨a, rfl, ⟨_, SqT.of ha1⟩, cmp_tup (xs := (n0 :: r0).map V.int) (fun j ys H' => H' = H1 ∧ ys = (((n0 :: r0).take j).map nt).map V.str) ⟨rfl, by rw [List.take_zero]; rfl⟩ ?_ ?_ ?_⟩
    · rintro j ys H' _ ⟨rfl, _⟩
      exact SqT.of ha1
    · rintro j x ys H' hx ⟨rfl, rfl⟩
      have hj : j < (n0 :: r0).length := by
        have := (List.getElem?_eq_some_iff.mp hx).1
        rw [List.length_map] at this
        exact this
      have ex : x = .int (n0 :: r0)[j] := by rw [getI hj] at hx; exact (Option.some.inj hx).symm
      subst ex
      have hj1 := hn _ (List.getElem_mem hj)
      refine ⟨by rw [List.length_map, List.length_map, List.length_take]; exact small1000 (by omega), ?_⟩
      refine ⟨log_small (by omega) hj1.2, ?_⟩
      refine ⟨rfl, ?_⟩
      rw [List.take_succ, List.getElem?_eq_getElem hj, List.map_append, List.map_append]
      rfl
    · rintro ys H' ⟨rfl, rfl⟩ D hD
      rw [List.length_map, List.take_of_length_le (Nat.le_refl _)]
      refine ⟨_, SqL.of upd_same, join_ok hl hn, ?_⟩
      have := q _ (y1.trans (Same.new hD (.lst (((n0 :: r0).map nt).map V.str))))
      unfold shw at this
      rw [if_neg (List.cons_ne_nil _ _)] at this
      exact this
end
end K72
set_option Elab.async false
set_option linter.all false
set_option maxRecDepth 100000
set_option maxHeartbeats 4000000
namespace L2
open PySem PySem.Spec PyProof.Rows
section
variable {X : Cx}
end
end L2
set_option Elab.async false
set_option linter.all false
set_option maxRecDepth 100000
set_option maxHeartbeats 4000000
namespace B9
open PySem L2
end B9
set_option Elab.async false
set_option linter.all false
set_option maxRecDepth 100000
set_option maxHeartbeats 4000000
namespace SRP
open PySem PySem.W PySem.Calls PyProof.Rows SRT
section
variable {prog : Program} {w : World} {A : Around} {E : Value → Shared → Prop} {s : Shared}
end
end SRP
set_option Elab.async false
set_option linter.all false
set_option maxRecDepth 100000
set_option maxHeartbeats 4000000
namespace SRP
end SRP
namespace L2
open PySem PySem.Spec PyProof.Rows
section
variable {X : Cx}
variable {e : Expr} {es : List Expr} {t : TA} {p pos : Pos}
end
end L2
set_option Elab.async false
set_option linter.all false
set_option maxRecDepth 100000
set_option maxHeartbeats 4000000
namespace L2
open PySem PySem.Spec PyProof.Rows
noncomputable def FnV (P : Program) (w : World) (K : PySem.W.Frag) (mg : Str → Option Value) (base : Heap) (f : Addr) (k : Nat) (ps : List Str) (sp : Sp) : Prop := ∃ fd, FnOk P w K mg base CX0 k f fd ps sp ∧ Binds K fd ps [] ∧ PySem.W.keepIn K (.ref f) = true
section
variable {X : Cx}
noncomputable def tCallV (P : Program) (w : World) (K : PySem.W.Frag) (mg : Str → Option Value) (base : Heap) (k' i : Nat) (t : TA) : TE := fun σ H Q => tV i σ H fun v H0 => H0 = H ∧ ∃ f k ps sp, v = .ref f ∧ k ≤ k' ∧ FnV P w K mg base f k ps sp ∧ t σ H fun vs H1 => sp vs H1 Q E0
theorem pe_callV (i : Nat) {x : Str} {k' : Nat} {e : Expr} {es : List Expr} {t : TA} {p pos : Pos} (hr : Room k' X.A) (ha : PA X (e :: es) t) (hN : X.N[i]? = some x := by rfl) (hv : Vis X.env.scope x := by first | exact Or.inl rfl | exact Or.inr (Or.inl rfl) | exact Or.inr (Or.inr rfl)) (hd : (x == ("__debug__" : Str)) = false := by decide)
    (hcd : (x == ("__classdict__" : Str)) = false := by decide) (he : starEach (e :: es) X.env = (false, eval e X.env) :: starEach es X.env := by rfl) (hpl : (backTo pos (starEach es X.env)).any (·.1) = false := by rfl) :
    PE X (.Call (.Name x p) (e :: es) [] pos) (tCallV X.prog X.w X.K X.mg X.base k' i t) := by
  intro pins s σ H Q I h
  refine wpAny_Call_Name_kw (thn ((pn (X := X) (pos := p) i hN hv hd hcd) pins s σ H _ I h) fun v s1 ⟨y, H0, I0, r0, eH, f, k, ps, sp, ey, hk, ⟨fd, F1, b1, k1⟩, q⟩ => ?_)
  subst eH ey
  obtain rfl : v = Value.ref f := r0
  refine PySem.W.callWith_K (h₀ := X.base) I0.ok.mod.kin k1 (thn (ha pos pins s1 σ H0 _ I0 q) fun us s2 ⟨vs, H1, I1, r, q1⟩ => ⟨I1.kIn, ?_⟩) he hpl
  refine run_fn (dvs := []) (F1.mono hk) hr b1 .nil pass0 I1 r ?_
  rw [List.append_nil]
  exact q1
theorem ze_callV (i : Nat) {x : Str} {k' : Nat} {e : Expr} {es : List Expr} {t : TA} {p pos : Pos} (hr : Room k' X.A) (ha : ZA X (e :: es) t) (hN : X.N[i]? = some x := by rfl) (hv : Vis X.env.scope x := by first | exact Or.inl rfl | exact Or.inr (Or.inl rfl) | exact Or.inr (Or.inr rfl)) (hd : (x == ("__debug__" : Str)) = false := by decide)
    (hcd : (x == ("__classdict__" : Str)) = false := by decide) (he : starEach (e :: es) X.env = (false, eval e X.env) :: starEach es X.env := by rfl) (hpl : (backTo pos (starEach es X.env)).any (·.1) = false := by rfl) :
    ZE X (.Call (.Name x p) (e :: es) [] pos) (tCallV X.prog X.w X.K X.mg X.base k' i t) := by with_unfolding_all exact pe_callV i hr ha hN hv hd hcd he hpl
end
end L2
set_option Elab.async false
set_option linter.all false
set_option maxRecDepth 100000
set_option maxHeartbeats 4000000
namespace L2
open PySem PySem.Spec PyProof.Rows PySem.W PySem.Builtin PySem.Builtin.ObjectAttr PySem.Builtin.Getset_descriptor
section
variable {prog : Program} {w : World} {A : Around} {E : Value → Shared → Prop} {s : Shared} {K : Frag} {x C : Addr}
end
end L2
set_option Elab.async false
set_option linter.all false
set_option maxRecDepth 100000
set_option maxHeartbeats 4000000
namespace L2
open PySem PySem.Spec PyProof.Rows PySem.W
section
variable {X : Cx} {pins : List (Addr × Obj)} {σ : St} {H H1 : Hp} {s s1 : Shared} {B h' : Heap}
end
end L2
set_option Elab.async false
set_option linter.all false
set_option maxRecDepth 100000
set_option maxHeartbeats 4000000
namespace L2
open PySem PySem.Spec PyProof.Rows PySem.W
section
variable {P : Program} {w : World} {K : PySem.W.Frag} {mg : Str → Option Value} {base : Heap} {N : List Str} {qual : Str} {scope : Scope} {f : Addr} {cdv : Value} {A : Around} {outer : List Env} {s0 : Shared} {H0 : Hp} {E : XK}
end
end L2
set_option Elab.async false
set_option linter.all false
set_option maxRecDepth 100000
set_option maxHeartbeats 4000000
namespace L2
open PySem PySem.Spec PyProof.Rows PySem.W
section
variable {P : Program} {w : World} {K : PySem.W.Frag} {mg : Str → Option Value} {base : Heap}
end
section
variable {P : Program} {w : World} {K : PySem.W.Frag} {mg : Str → Option Value} {base : Heap} {N : List Str} {qual : Str} {scope : Scope} {f : Addr} {cdv : Value} {A : Around} {outer : List Env} {s0 : Shared} {H0 : Hp} {E : XK}
end
section
variable {X : Cx}
end
end L2
set_option Elab.async false
set_option linter.all false
set_option maxRecDepth 100000
set_option maxHeartbeats 4000000
namespace L2
open PySem PySem.Spec PyProof.Rows PySem.W
section
variable {X : Cx}
theorem ze_cls {x : Str} {C : Addr} {pos : Pos} (hg : Gl X x) (hm : X.mg x = some (.ref C)) (hd : (x == ("__debug__" : Str)) = false := by decide) : ZE X (.Name x pos) (tC (.ref C)) := by with_unfolding_all exact pe_glob hg hm (show RelV (.ref C) (.ref C) from rfl) hd
end
end L2
set_option Elab.async false
set_option linter.all false
set_option maxRecDepth 100000
set_option maxHeartbeats 4000000
namespace L2
open PySem PySem.Spec PyProof.Rows PySem.W
section
variable {X : Cx}
end
end L2
set_option Elab.async false
set_option linter.all false
set_option maxRecDepth 100000
set_option maxHeartbeats 4000000
namespace L2
open PySem PySem.Spec PyProof.Rows PySem.W
section
variable {X : Cx}
end
end L2
set_option Elab.async false
set_option linter.all false
set_option maxRecDepth 100000
set_option maxHeartbeats 4000000
namespace L2
open PySem PySem.Spec PyProof.Rows PySem.W
section
variable {X : Cx}
end
end L2
set_option Elab.async false
set_option linter.all false
set_option maxRecDepth 100000
set_option maxHeartbeats 4000000
namespace L2
open PySem PySem.Spec PyProof.Rows PySem.W
noncomputable def keysF : List DictEntry → List Str → Bool
  | [], [] => true
  | e :: es, x :: xs => (match e.key with | .str y _ => y == x | _ => false) && keysF es xs
  | _, _ => false
noncomputable def deedK (K : PySem.W.Frag) (a : Addr) (ks : List Str) : Bool := !(a == sysModules) && decide ks.Nodup && (match K.lookup a with
  | some o => o.cls == .type "dict" && o.dict.isNone && o.slots.isEmpty && (match o.data with | .dict es _ => keysF es.toList ks | _ => false)
  | none => false)
noncomputable def hashF (K : PySem.W.Frag) (a : Addr) : List Int := match K.lookup a with
  | some o => (match o.data with | .dict es _ => es.toList.map (·.hash) | _ => [])
  | none => []
noncomputable def deedAt (K : PySem.W.Frag) (a : Addr) (x : Str) (f : Addr) : Bool := match K.lookup a with
  | some o => (match o.data with
    | .dict es _ => (match es.toList.find? (fun e => match e.key with | .str y _ => decide (y = x) | _ => false) with
      | some e => (match e.val with | .ref g => g == f | _ => false)
      | none => false)
    | _ => false)
  | none => false
theorem keysF_ok (prog : Program) (w : World) : ∀ {es : List DictEntry} {ks : List Str}, keysF es ks = true → es.map (·.hash) = ks.map (hashStr w) →
    (∀ e ∈ es, ∃ k, (PySem.strKind prog w).is k e.key = true ∧ e.hash = (PySem.strKind prog w).hash k) ∧ ∃ kvs : List (Str × Value), Pairs (PySem.strKind prog w) es kvs ∧ kvs.map (·.1) = ks ∧
      ∀ x, (kvs.find? fun kv => kv.1 = x).map (·.2) = (es.find? fun e => match e.key with | .str y _ => decide (y = x) | _ => false).map (·.val)
  | [], [], _, _ => ⟨(fun _ h => (nomatch h)), [], .nil, rfl, fun _ => rfl⟩
  | e :: es, x :: ks, h, hh => by
    simp only [keysF, Bool.and_eq_true] at h
    simp only [List.map_cons, List.cons.injEq] at hh
    obtain ⟨hk, kvs, hp, hm, hf⟩ := keysF_ok prog w h.2 hh.2
    obtain ⟨h1, _⟩ := h
    split at h1
    · rename_i y t hkey
      obtain rfl := beq_iff_eq.mp h1
      have hi : (PySem.strKind prog w).is y e.key = true := by rw [hkey]; exact strKind_is prog w y t
      refine ⟨fun e' he' => ?_, (y, e.val) :: kvs, .cons hi rfl hp, by simp [hm], fun x => ?_⟩
      · rcases List.mem_cons.mp he' with rfl | he'
        · exact ⟨y, hi, hh.1⟩
        · exact hk e' he'
      · rw [List.find?_cons, List.find?_cons]
        simp only [hkey]
        by_cases hy : y = x
        · simp [hy]
        · simp only [hy, decide_false]
          exact hf x
    · cases h1
  | [], _ :: _, h, _ => by simp [keysF] at h
  | _ :: _, [], h, _ => by simp [keysF] at h
theorem deed_ok (prog : Program) (w : World) {K : PySem.W.Frag} {h : Heap} (hK : K.In h) {a : Addr} {ks : List Str} (hl : deedK K a ks = true) (hh : hashF K a = ks.map (hashStr w)) :
    (a == sysModules) = false ∧ ∃ kvs : List (Str × Value), h.DictOf (PySem.strKind prog w) a kvs ∧ ∀ x f, deedAt K a x f = true → valueAt kvs x = some (.ref f) := by
  simp only [deedK, Bool.and_eq_true] at hl
  obtain ⟨⟨h0, hn⟩, hl⟩ := hl
  split at hl
  · rename_i o ho
    simp only [Bool.and_eq_true] at hl
    obtain ⟨⟨⟨e1, e2⟩, e3⟩, e4⟩ := hl
    split at e4
    · rename_i es ep hd
      have hh' : es.toList.map (·.hash) = ks.map (hashStr w) := by rw [← hh]; unfold hashF; rw [ho]; simp only [hd]
      obtain ⟨hk, kvs, hp, hm, hf⟩ := keysF_ok prog w e4 hh'
      refine ⟨by simpa using h0, kvs, ⟨o, es, ep, hK _ _ ho, ⟨beq_iff_eq.mp e1, by simpa using e2, by simpa using e3⟩, hd, fun e he => hk e (by simpa using he), hp, by rw [hm]; exact of_decide_eq_true hn⟩, fun x f hx => ?_⟩
      unfold deedAt at hx
      rw [ho] at hx
      simp only [hd] at hx
      unfold valueAt
      rw [hf x]
      split at hx
      · rename_i e he
        rw [he]
        split at hx
        · rename_i g hg
          rw [Option.map_some, hg]
          exact congrArg some (congrArg Value.ref (beq_iff_eq.mp hx))
        · cases hx
      · cases hx
    · cases e4
  · cases hl
structure DeedG (w : World) (K : PySem.W.Frag) (mg : Str → Option Value) (x : Str) (a : Addr) : Prop where
  mg_ : mg x = some (.ref a)
  ks : ∃ ks, deedK K a ks = true ∧ hashF K a = ks.map (hashStr w)
section
variable {X : Cx}
noncomputable def rNotInF (K : PySem.W.Frag) (a : Addr) : R2 := fun x y H Q => match x, y with
  | .str z, .ref b => b = a ∧ ∃ f, deedAt K a z f = true ∧ Q (.bl false) H
  | _, _ => False
theorem op_notInF {n : Str} {a : Addr} (D : DeedG X.w X.K X.mg n a) : OpR X (compareOp .NotIn) (rNotInF X.K a) := by
  intro pins s σ H x y v u Q I rx ry h
  unfold rNotInF at h
  split at h
  · obtain ⟨rfl, f, hf, q⟩ := h
    obtain ⟨t, rfl⟩ := rx
    cases ry
    obtain ⟨ks, h1, h2⟩ := D.ks
    obtain ⟨hs, kvs, dd, hv⟩ := deed_ok X.prog X.w I.kIn h1 h2
    refine wpAny_notIn_of (strKind_is X.prog X.w _ t) hs dd.mapOf ?_
    rw [hv _ _ hf]
    exact ⟨.bl false, H, I.tok _, rfl, q⟩
  · exact h.elim
theorem ze_deedN {n : Str} {a : Addr} {pos : Pos} (D : DeedG X.w X.K X.mg n a) (hg : Gl X n) (hd : (n == ("__debug__" : Str)) = false := by decide) : ZE X (.Name n pos) (tC (.ref a)) := ze_cls hg D.mg_ hd
noncomputable def tDeed (K : PySem.W.Frag) (a : Addr) (ti : TE) : TE := fun σ H Q => ti σ H fun y H1 => ∃ z f, y = .str z ∧ deedAt K a z f = true ∧ Q (.ref f) H1
theorem pe_deed {x : Str} {a : Addr} {i : Expr} {ti : TE} {p pos : Pos} (D : DeedG X.w X.K X.mg x a) (hg : Gl X x) (hi : PE X i ti) (hs : NoSl i) (hd : (x == ("__debug__" : Str)) = false := by decide) : PE X (.Subscript (.Name x p) i pos) (tDeed X.K a ti) := by
  intro pins s σ H Q I h
  refine subD_of PySem.F.slot_dict_getitem.lookup hs (thn ((pe_glob (v := .ref a) hg D.mg_ rfl hd) pins s σ H (fun x H1 => x = .ref a ∧ H1 = H) I ⟨rfl, rfl⟩) fun u s1 ⟨x, H1, I1, rx, ex, eH⟩ => ?_)
  subst ex eH
  obtain rfl : u = Value.ref a := rx
  refine thn (hi pins s1 σ H1 _ I1 h) fun iv s2 ⟨y, H2, I2, ry, z, f, ey, hf, q⟩ => ?_
  subst ey
  obtain ⟨tk, rfl⟩ := ry
  obtain ⟨ks, h1, h2⟩ := D.ks
  obtain ⟨hs, kvs, dd, hv⟩ := deed_ok X.prog X.w I2.kIn h1 h2
  exact ⟨dd.typeIs, wpAny_getItem_of (strKind_is X.prog X.w z tk) dd.mapOf (hv _ _ hf) ⟨.ref f, H2, I2.tok _, rfl, q⟩⟩
theorem ze_deed {x : Str} {a : Addr} {i : Expr} {ti : TE} {p pos : Pos} (D : DeedG X.w X.K X.mg x a) (hg : Gl X x) (hi : ZE X i ti) (hs : NoSl i) (hd : (x == ("__debug__" : Str)) = false := by decide) : ZE X (.Subscript (.Name x p) i pos) (tDeed X.K a ti) := by with_unfolding_all exact pe_deed D hg hi.p hs hd
theorem ps_calm {body : List Stmt} {h : ExceptHandler} {hs : List ExceptHandler} {pos : Pos} {u : TS} (hb : PSs X.nox body u) : PS X (.Try body (h :: hs) [] [] pos) u := by
  intro pins s σ H D I q
  refine wpAny_Try_except (wpAny_mono (hb pins s σ H D (I.wish _) q) (fun f s1 q => ?_) fun _ _ z => False.elim z)
  cases f with
  | next =>
    obtain ⟨σ1, H1, I1, q1⟩ := q
    exact wpAny_execs_nil ⟨σ1, H1, I1.unwish, q1⟩
  | ret v =>
    obtain ⟨v1, σ1, H1, I1, r1, q1⟩ := q
    exact ⟨v1, σ1, H1, I1.unwish, r1, q1⟩
  | brk =>
    obtain ⟨σ1, H1, I1, q1⟩ := q
    exact ⟨σ1, H1, I1.unwish, q1⟩
  | cont =>
    obtain ⟨σ1, H1, I1, q1⟩ := q
    exact ⟨σ1, H1, I1.unwish, q1⟩
theorem zs_calm {body : List Stmt} {h : ExceptHandler} {hs : List ExceptHandler} {pos : Pos} {u : TS} (hb : ZSs X.nox body u) : ZS X (.Try body (h :: hs) [] [] pos) u := by with_unfolding_all exact ps_calm hb
end
end L2
namespace M13
open MRow
end M13
set_option exponentiation.threshold 1000
namespace M14
open MRow M13
end M14
namespace M15
open MRow
end M15
namespace M15
open MRow
end M15
set_option maxRecDepth 100000
namespace M15
open MRow
end M15
set_option Elab.async false
set_option linter.all false
set_option maxRecDepth 100000
set_option maxHeartbeats 4000000
namespace M16
open MRow M80 M17 M12 M24 M14
end M16
set_option Elab.async false
set_option linter.all false
set_option maxRecDepth 100000
set_option maxHeartbeats 4000000
set_option exponentiation.threshold 100
namespace M25
open MRow M80 M17 M12 M24 M14 M11
theorem cn_lim (m n : Nat) (p : List Nat → Bool) : 0 ≤ cn m n p ∧ cn m n p ≤ PL dl (ups m) n := by
  refine ⟨by unfold cn; omega, ?_⟩
  have e : PL dl (ups m) n = cn m n (fun l => l.all fun _ => true) := by rw [cn_all, fl_all]
  rw [e]
  unfold cn
  have : (Lst m n).countP p ≤ (Lst m n).countP fun l => l.all fun _ => true := by
    refine List.countP_mono_left fun l _ _ => ?_
    exact List.all_eq_true.mpr fun _ _ => rfl
  omega
theorem PL_mono : ∀ (ss : List Nat) {f g : Nat → Int}, (∀ x ∈ ss, 0 < x) → (∀ j, f j ≤ g j) → ∀ j, PL f ss j ≤ PL g ss j
  | [], _, _, _, h, j => h j
  | s :: ss, f, g, hs, h, j => by
    refine PL_mono ss (fun x hx => hs x (List.mem_cons_of_mem _ hx)) (fun j => ?_) j
    have hs0 := hs s List.mem_cons_self
    induction j using Nat.strongRecOn with
    | _ j ih =>
      rw [put_eq f hs0, put_eq g hs0]
      have h1 := h j
      split
      · have := ih (j - s) (by omega); omega
      · omega
theorem below_lim : ∀ (ss : List Nat) (g : Nat → Int), (∀ x ∈ ss, 0 < x) → (∀ j, 0 ≤ g j) → ∀ j, 0 ≤ below 2 ss g j ∧ below 2 ss g j ≤ PL g ss j
  | [], g, _, h, j => ⟨h j, Int.le_refl _⟩
  | s :: ss, g, hs, h, j => by
    have hs0 := hs s List.mem_cons_self
    have p0 : ∀ j, 0 ≤ put g s j := by
      intro j
      induction j using Nat.strongRecOn with
      | _ j ih =>
        rw [put_eq g hs0]
        split
        · have := ih (j - s) (by omega); have := h j; omega
        · have := h j; omega
    have a : ∀ j, 0 ≤ off (put g s) (2 * s) j ∧ off (put g s) (2 * s) j ≤ put g s j := fun j => by
      rw [one_two g hs0, put_eq g hs0]
      have h1 := h j
      by_cases c : s ≤ j
      · rw [if_pos c, if_pos c, put_eq g hs0 (j - s)]
        have h2 := h (j - s)
        refine ⟨by omega, ?_⟩
        split
        · have := p0 (j - s - s); omega
        · omega
      · rw [if_neg c, if_neg c]; omega
    obtain ⟨b1, b2⟩ := below_lim ss (off (put g s) (2 * s)) (fun x hx => hs x (List.mem_cons_of_mem _ hx)) (fun j => (a j).1) j
    refine ⟨b1, Int.le_trans b2 ?_⟩
    exact PL_mono ss (fun x hx => hs x (List.mem_cons_of_mem _ hx)) (fun j => (a j).2) j
end M25
set_option Elab.async false
set_option linter.all false
set_option maxRecDepth 100000
set_option maxHeartbeats 4000000
namespace K72
open PySem L2 MRow M27 M80 M17 M12 M24 M11 M66 M63 M05 M67 M68
noncomputable def kN : Kd → Kn
  | .bare w => if w = Str.ofString "all" then .all else .own
  | .one w n => if w = Str.ofString "most" then .most n.toNat else if w = Str.ofString "few" then .few n.toNat else if w = Str.ofString "off" then .off n.toNat else .times n.toNat
  | .box a b => .box a.toNat b.toNat
  | .rests m rs => .rests m.toNat rs
theorem kN_at {H : Hp} {c : Addr} {k : Kd} (h : KdAt H c k) (ok : k.Ok) : KnAt H c (kN k) ∧ (kN k).Ok := by
  have en : ∀ n : Int, 1 ≤ n → ((n.toNat : Nat) : Int) = n := fun n hn => Int.toNat_of_nonneg (by omega)
  cases k with
  | bare w =>
    rcases ok with rfl | rfl
    · exact ⟨h, trivial⟩
    · exact ⟨h, trivial⟩
  | one w n =>
    have h : H c = some (.tup [.str w, .int n]) := h
    rcases ok with ⟨hw, n1, n2⟩ | ⟨hw, n1, n2⟩
    · have e := en n n1
      rw [← e] at h
      rcases hw with rfl | rfl | rfl
      · exact ⟨h, by show n.toNat ≤ 600; omega⟩
      · exact ⟨h, by show n.toNat ≤ 600; omega⟩
      · exact ⟨h, by show 1 ≤ n.toNat ∧ n.toNat ≤ 600; omega⟩
    · have e := en n (by omega)
      rw [← e] at h
      subst hw
      exact ⟨h, by show 0 < n.toNat ∧ n.toNat ≤ 1000; omega⟩
  | box a b =>
    have h : H c = some (.tup [.str (Str.ofString "box"), .int a, .int b]) := h
    obtain ⟨⟨a1, a2⟩, b1, b2⟩ := ok
    have ea := en a a1
    have eb := en b b1
    rw [← ea, ← eb] at h
    exact ⟨h, by show a.toNat ≤ 600 ∧ b.toNat ≤ 600; omega⟩
  | rests m rs =>
    obtain ⟨d, h1, h2⟩ := h
    obtain ⟨⟨m1, m2⟩, _⟩ := ok
    have e := en m (by omega)
    rw [← e] at h1
    exact ⟨⟨d, h1, h2⟩, by show 0 < m.toNat ∧ m.toNat ≤ 1000; omega⟩
theorem R_log {m n : Nat} (hm : m ≤ 600) (hn : n ≤ 600) {x : Int} (h0 : 0 ≤ x) (h : x ≤ PL dl (ups m) n) : x.natAbs.log2 < 1920 := by
  have r := R_small (s := m) (n := n) hm hn
  rw [PL_ups] at h
  have : x.natAbs < 2 ^ 1300 := by omega
  rcases log2_small this with h | h
  · omega
  · rw [h]; decide
theorem cf_log {k : Kn} (hok : k.Ok) {n : Nat} (hn : n ≤ 600) : (cf k n n).natAbs.log2 < 1920 := by
  have fin : ∀ (p : Nat → Bool), (PL dl (fl p n) n).natAbs.log2 < 1920 := fun p => by
    have := M25.cn_lim n n (fun l => l.all p)
    rw [cn_all] at this
    exact R_log hn hn this.1 this.2
  cases k with
  | all => have := fin (fun _ => true); rw [fl_all] at this; exact this
  | most k => have := fin (fun s => decide (s ≤ k)); rw [fl_most] at this; exact this
  | few k => have := fin (fun s => decide (s ≤ k)); rw [fl_most] at this; exact this
  | times m =>
    have := fin (fun s => decide (0 < (s : Int) % (m : Int)))
    rw [← fl_times hok.1 (Nat.le_refl n)] at this
    exact this
  | rests m rs => exact fin _
  | box k l =>
    have e : cf (.box k l) n n = cn (min k n) n (inb (min k n) l) := by rw [cn_box, Nat.min_self]; rfl
    rw [e]
    exact R_log (by omega) hn (M25.cn_lim _ _ _).1 (M25.cn_lim _ _ _).2
  | off d =>
    have e : cf (.off d) n n = cn n n (vd d) := (cn_off hok.1 hn).symm
    rw [e]
    exact R_log hn hn (M25.cn_lim _ _ _).1 (M25.cn_lim _ _ _).2
  | own =>
    have a := M25.below_lim (odds n) dl (fun x hx => (odds_pos hx).1) (fun j => by unfold dl; split <;> decide) n
    have e : PL dl (odds n) n ≤ PL dl (ups n) n := by
      rw [← fl_odd, ← fl_all n, ← cn_all, ← cn_all]
      have := M25.cn_lim n n (fun l => l.all fun s => decide (s % 2 = 1))
      rw [← fl_all, ← cn_all] at this
      exact this.2
    exact R_log hn hn a.1 (Int.le_trans a.2 e)
theorem cut_but (xs : List V) (z : V) : cutV (xs ++ [z]) none (some (-1)) = xs := by
  unfold cutV
  rw [HT.sIx_none]
  have : HT.sIx (xs ++ [z]).length (xs ++ [z]).length (some (-1)) = xs.length := by
    unfold HT.sIx
    rw [List.length_append, List.length_singleton]
    simp
    try omega
  rw [this]
  simp
theorem cut_end (xs : List V) (z : V) : cutV (xs ++ [z]) (some (-1)) none = [z] := by
  unfold cutV
  rw [HT.sIx_none]
  have : HT.sIx (xs ++ [z]).length 0 (some (-1)) = xs.length := by
    unfold HT.sIx
    rw [List.length_append, List.length_singleton]
    simp
    try omega
  rw [this]
  simp
noncomputable def btx (xs : List (List Nat)) : Str := Txt.join (Str.ofString " ") (xs.map fun x => shw (toI x))
noncomputable def ltx (xs : List (List Nat)) : Str := if xs = [] then Str.ofString "none" else btx xs
section
variable {P : Program} {w : World} {K : PySem.W.Frag} {mg : Str → Option Value} {base : Heap} {f : Addr} {fd : FuncData}
theorem sc_ni : FnScope ["word", "least", "most"] ["word", "least", "most"] (defScope (top 125)) := ⟨rfl, rfl, rfl, by decide +kernel, rfl, by decide +kernel, by decide +kernel⟩
noncomputable def sp_ni : Sp := fun vs H Q _ => ∃ (n lo hi : Int), vs = [.str (nt n), .int lo, .int hi] ∧ 0 ≤ n ∧ n < 1000000 ∧ lo ≤ n ∧ n ≤ hi ∧ ∀ H', Same H H' → Q (.int n) H'
theorem ok_ni (F : Fun K "number_in" "number_in" (top 125) f fd) (m_int : mg "int" = none) (F_is_number : FnA P w K mg base "is_number" 1 ["text"] sp_number) (F_is_within : FnA P w K mg base "is_within" 2 ["thing", "least", "most"] sp_within) : FnOk P w K mg base CX0 3 f fd ["word", "least", "most"] sp_ni := by
  refine F.okz sc_ni (fun vs H Q E h => ?_) (fun cdv A outer s H vs Q E hr h => ?_)
  · obtain ⟨n, lo, hi, rfl, _⟩ := h; rfl
  obtain ⟨n, lo, hi, rfl, n0, n1, h1, h2, q⟩ := h
  have nd := sc_ni.nd
  have hu := hr.units
  have hl6 := nt_len n0 n1
  refine ⟨_, (zss_cons (zs_if (ZW.zt (zw_or (zt_not (zt_valP (ze_fn F_is_number hr (by decide) rfl (za_cons (zn 0) za_nil)))) (zw_or1 (zt_not (zt_valP (ze_fn F_is_within hr (by decide) rfl (za_cons (zcb_intT rfl m_int (za_cons (zn 0) za_nil) rfl rfl) (za_cons (zn 1) (za_cons (zn 2) za_nil))))))))) (zss_one zs_no) zss_nil)
      (zss_one (zs_ret (zcb_intT rfl m_int (za_cons (zn 0) za_nil) rfl rfl)))), ?_⟩
  refine ⟨n, rfl, n0, n1, fun H1 y1 => ?_⟩
  refine ⟨_, nt_reads n0 n1, by omega, ?_⟩
  refine ⟨n, lo, hi, rfl, h1, h2, ?_⟩
  refine ⟨_, nt_reads n0 n1, by omega, ?_⟩
  exact q H1 y1
theorem sc_ki : FnScope ["words"] ["words"] (defScope (top 127)) := ⟨rfl, rfl, rfl, by decide +kernel, rfl, by decide +kernel, by decide +kernel⟩
noncomputable def sp_ki : Sp := fun vs H Q _ => ∃ (a : Addr) (k : Kd), vs = [.ref a] ∧ H a = some (.lst (k.words.map V.str)) ∧ k.Ok ∧ ∀ c H', Same H H' → KdAt H' c k → Q (.ref c) H'
theorem ok_ki (F : Fun K "kind_in" "kind_in" (top 127) f fd)  (F_read_kind : FnA P w K mg base "read_kind" 6 ["thing"] sp_rk) : FnOk P w K mg base CX0 7 f fd ["words"] sp_ki := by
  refine F.okz sc_ki (fun vs H Q E h => ?_) (fun cdv A outer s H vs Q E hr h => ?_)
  · obtain ⟨a, k, rfl, _⟩ := h; rfl
  obtain ⟨a, k, rfl, ha, hk, q⟩ := h
  have nd := sc_ki.nd
  have hu := hr.units
  refine ⟨_, (zss_one (zs_calm (zss_one (zs_ret (ze_fn F_read_kind hr (by decide) rfl (za_cons (zm_join ze_str (za_cons (zn 0) za_nil)) za_nil)))))), ?_⟩
  refine ⟨rfl, _, SqL.of ha, join_fits hk, ?_⟩
  exact ⟨k, rfl, hk, fun c H1 y1 hc => q c H1 y1 hc⟩
theorem sc_ka : FnScope ["words", "many"] ["words", "many"] (defScope (top 128)) := ⟨rfl, rfl, rfl, by decide +kernel, rfl, by decide +kernel, by decide +kernel⟩
noncomputable def sp_ka : Sp := fun vs H Q _ => ∃ (a : Addr) (k : Kd) (z : Str), vs = [.ref a, .int 1] ∧ H a = some (.lst ((k.words ++ [z]).map V.str)) ∧ k.Ok ∧ ∀ t c b H', Same H H' → H' t = some (.tup [.ref c, .ref b]) → KdAt H' c k → H' b = some (.lst [.str z]) → Q (.ref t) H'
theorem ok_ka (F : Fun K "kind_ahead" "kind_ahead" (top 128) f fd)  (F_kind_in : FnA P w K mg base "kind_in" 7 ["words"] sp_ki) : FnOk P w K mg base CX0 8 f fd ["words", "many"] sp_ka := by
  refine F.okz sc_ka (fun vs H Q E h => ?_) (fun cdv A outer s H vs Q E hr h => ?_)
  · obtain ⟨a, k, z, rfl, _⟩ := h; rfl
  obtain ⟨a, k, z, rfl, ha, hk, q⟩ := h
  have nd := sc_ka.nd
  have hu := hr.units
  rw [List.map_append] at ha
  refine ⟨_, (zss_one (zs_ret (ze_tup (za_cons (ze_fn F_kind_in hr (by decide) rfl (za_cons (ze_slice sl_P (zn 0) zo_none (zo_some (ze_un un_neg (zn 1)))) za_nil)) (za_cons (ze_slice sl_P (zn 0) (zo_some (ze_un un_neg (zn 1))) zo_none) za_nil))))), ?_⟩
  refine ⟨1, rfl, -1, rfl, a, rfl, .inr ⟨_, SqL.of ha, fun d hd => ?_⟩⟩
  have e1 : cutV (k.words.map V.str ++ [z].map V.str) none (some (-1)) = k.words.map V.str := cut_but _ _
  rw [e1]
  have y1 := Same.new hd (.lst (k.words.map V.str))
  refine ⟨d, k, rfl, upd_same, hk, fun c H2 y2 hc => ?_⟩
  have y12 := y1.trans y2
  refine ⟨1, rfl, -1, rfl, a, rfl, .inr ⟨_, SqL.of (y12 _ _ ha), fun b hb => ?_⟩⟩
  have e2 : cutV (k.words.map V.str ++ [z].map V.str) (some (-1)) none = [.str z] := cut_end _ _
  rw [e2]
  have y3 := Same.new hb (.lst [.str z])
  refine ⟨by show 2 ≤ sizeLine; decide, fun t ht => ?_⟩
  have y4 := Same.new ht (.tup [.ref c, .ref b])
  exact q t c b _ ((y12.trans y3).trans y4) upd_same (hc.same (y3.trans y4)) (y4 _ _ upd_same)
theorem sc_bb : FnScope ["partings"] ["partings"] (defScope (top 135)) := ⟨rfl, rfl, rfl, by decide +kernel, rfl, by decide +kernel, by decide +kernel⟩
noncomputable def Few (xs : List (List Nat)) : Prop := xs.length ≤ 6000 ∧ ∀ x ∈ xs, x.length ≤ 30 ∧ ∀ a ∈ x, 1 ≤ a ∧ a ≤ 30
noncomputable def sp_bb : Sp := fun vs H Q _ => ∃ (T : Addr) (as : List Addr) (xs : List (List Nat)), vs = [.ref T] ∧ H T = some (.tup (as.map V.ref)) ∧ TA H as xs ∧ Few xs ∧ ∀ H', Same H H' → Q (.str (btx xs)) H'
theorem few_num {xs : List (List Nat)} (h : Few xs) {x : List Nat} (hx : x ∈ xs) : (toI x).length ≤ 1000 ∧ Num (toI x) := by
  obtain ⟨h1, h2⟩ := h.2 x hx
  refine ⟨by unfold toI; rw [List.length_map]; omega, fun n hn => ?_⟩
  obtain ⟨a, ha, rfl⟩ := List.mem_map.mp hn
  have := h2 a ha
  omega
theorem few_lim {xs : List (List Nat)} (h : Few xs) : ((xs.map fun x => shw (toI x)).map (·.length)).sum + (xs.map fun x => shw (toI x)).length * (Str.ofString " ").length ≤ 16777216 := by
  have h1 : ∀ ys : List Str, (∀ y ∈ ys, y.length ≤ 211) → (ys.map (·.length)).sum ≤ ys.length * 211 := fun ys => by
    induction ys with
    | nil => intro _; simp
    | cons y r ih =>
      intro h
      have := ih fun z hz => h z (List.mem_cons_of_mem _ hz)
      have := h y List.mem_cons_self
      simp only [List.map_cons, List.sum_cons, List.length_cons]
      rw [Nat.add_mul, Nat.one_mul]
      omega
  have h2 := h1 (xs.map fun x => shw (toI x)) fun y hy => by
    obtain ⟨x, hx, rfl⟩ := List.mem_map.mp hy
    obtain ⟨_, hn⟩ := few_num h hx
    have := shw_len (ns := toI x) (k := 6) fun n hn' => (nt_len (by have := (hn n hn').1; omega) (hn n hn').2).2
    have l : (toI x).length = x.length := by unfold toI; rw [List.length_map]
    have := (h.2 x hx).1
    omega
  have h3 : (Str.ofString " ").length = 1 := by decide +kernel
  have h4 := h.1
  rw [h3]
  rw [List.length_map] at h2 ⊢
  omega
theorem ok_bb (F : Fun K "parted_by_blanks" "parted_by_blanks" (top 135) f fd)  (F_show_parting : FnA P w K mg base "show_parting" 1 ["parting"] sp_shp) : FnOk P w K mg base CX0 2 f fd ["partings"] sp_bb := by
  refine F.okz sc_bb (fun vs H Q E h => ?_) (fun cdv A outer s H vs Q E hr h => ?_)
  · obtain ⟨T, as, xs, rfl, _⟩ := h; rfl
  obtain ⟨T, as, xs, rfl, hT, ta, fw, q⟩ := h
  have nd := sc_bb.nd
  have hu := hr.units
  have la := ta.1
  have lx := fw.1
  refine ⟨_, (zss_one (zs_ret (zm_join ze_str (za_cons (ze_comp ["parting"] [] rfl ⟨rfl, by decide +kernel, by decide +kernel, rfl, rfl⟩ (zi_tup (zn 0)) kpg_name (fun _ _ _ _ => zg_name (i := 0) (show List.Nodup (["parting"] : List Str) by decide +kernel) rfl (Or.inl rfl)) (fun _ _ _ _ => zif_nil) (fun _ _ _ _ => (ze_fn F_show_parting hr (by decide) rfl (za_cons (zn 0) za_nil)))) za_nil)))), ?_⟩
  refine ⟨rfl, ?_⟩
  refine ⟨T, rfl, ⟨_, SqT.of hT⟩, cmp_tup (xs := as.map V.ref) (fun i ys H' => Same H H' ∧ ys = ((xs.take i).map fun x => shw (toI x)).map V.str) ⟨Same.refl _, by rw [List.take_zero]; rfl⟩ ?_ ?_ ?_⟩
  · rintro i ys H' _ ⟨y, _⟩
    exact SqT.of (y _ _ hT)
  · rintro i v ys H' hv ⟨y, rfl⟩
    obtain ⟨b, x, ea, ex, rfl, hb⟩ := ta.at hv
    have hx := List.mem_of_getElem? ex
    refine ⟨by rw [List.length_map, List.length_map, List.length_take]; exact small6k (by omega), ?_⟩
    refine ⟨b, toI x, rfl, y _ _ hb, (few_num fw hx).1, (few_num fw hx).2, fun H2 y2 => ?_⟩
    refine ⟨y.trans y2, ?_⟩
    rw [List.take_succ, ex, List.map_append, List.map_append]
    rfl
  · rintro ys H' ⟨y, rfl⟩ D hD
    rw [List.length_map, la, List.take_of_length_le (Nat.le_refl _)]
    refine ⟨_, SqL.of upd_same, few_lim fw, ?_⟩
    exact q _ (y.trans (Same.new hD _))
theorem sc_ac : FnScope ["words", "kind", "behind", "n"] ["words"] (defScope (top 137)) := ⟨rfl, rfl, rfl, by decide +kernel, rfl, by decide +kernel, by decide +kernel⟩
noncomputable def sp_ac : Sp := fun vs H Q _ => ∃ (a : Addr) (k : Kd) (n : Nat), vs = [.ref a] ∧ H a = some (.lst ((k.words ++ [nt n]).map V.str)) ∧ k.Ok ∧ n ≤ 600 ∧ ∀ H', Same H H' → Q (.str (nt (cf (kN k) n n))) H'
theorem ok_ac (F : Fun K "answer_count" "answer_count" (top 137) f fd) (m_str : mg "str" = none) (g_MOST_COUNTED : IntG mg "MOST_COUNTED" 600) (F_counts : FnA P w K mg base "counts" 4 ["kind", "most"] sp_counts) (F_kind_ahead : FnA P w K mg base "kind_ahead" 8 ["words", "many"] sp_ka) (F_number_in : FnA P w K mg base "number_in" 3 ["word", "least", "most"] sp_ni) : FnOk P w K mg base CX0 9 f fd ["words"] sp_ac := by
  refine F.okz sc_ac (fun vs H Q E h => ?_) (fun cdv A outer s H vs Q E hr h => ?_)
  · obtain ⟨a, k, n, rfl, _⟩ := h; rfl
  obtain ⟨a, k, n, rfl, ha, hk, hn, q⟩ := h
  have nd := sc_ac.nd
  have hu := hr.units
  refine ⟨_, (zss_cons (zs_asg (ze_fn F_kind_ahead hr (by decide) rfl (za_cons (zn 0) (za_cons ze_int za_nil))) (zg_tup rfl (zgs_cons (zg_name (i := 1) nd rfl (Or.inl rfl)) (zgs_cons (zg_name (i := 2) nd rfl (Or.inl rfl)) zgs_nil))))
      (zss_cons (zs_set (i := 3) nd rfl (Or.inl rfl) (ze_fn F_number_in hr (by decide) rfl (za_cons (ze_ix ix_P (zn 2) ze_int (fun _ _ => rfl)) (za_cons ze_int (za_cons (ze_ig rfl g_MOST_COUNTED) za_nil)))))
      (zss_one (zs_ret (zcb_str rfl m_str (za_cons (ze_ix ix_P (ze_fn F_counts hr (by decide) rfl (za_cons (zn 1) (za_cons (zn 3) za_nil))) (zn 3) (fun _ _ => rfl)) za_nil) rfl rfl))))), ?_⟩
  refine ⟨a, k, nt n, rfl, ha, hk, fun t c b H1 y1 ht hc hb => ?_⟩
  refine ⟨t, _, rfl, SqT.of ht, rfl, _, _, rfl, _, _, rfl, rfl, ?_⟩
  refine ⟨_, .inl (SqL.of hb), .str (nt n), rfl, ?_⟩
  refine ⟨n, 0, 600, rfl, by omega, by omega, by omega, by omega, fun H2 y2 => ?_⟩
  obtain ⟨kc, ko⟩ := kN_at (hc.same y2) hk
  refine ⟨c, n, kN k, rfl, hn, kc, ko, fun T H3 y3 hT => ?_⟩
  refine ⟨_, .inr hT, .int (cf (kN k) n n), atI_of (j := n) rfl (by rw [List.getElem?_map, tb_get (by omega)]; rfl), ?_⟩
  refine ⟨cf_log ko hn, ?_⟩
  exact q H3 ((y1.trans y2).trans y3)
theorem sc_al : FnScope ["words", "kind", "behind", "told"] ["words"] (defScope (top 138)) := ⟨rfl, rfl, rfl, by decide +kernel, rfl, by decide +kernel, by decide +kernel⟩
noncomputable def sp_al : Sp := fun vs H Q _ => ∃ (a : Addr) (k : Kd) (n : Nat), vs = [.ref a] ∧ H a = some (.lst ((k.words ++ [nt n]).map V.str)) ∧ k.Ok ∧ n ≤ 30 ∧ ∀ H', Same H H' → Q (.str (ltx (LK (kN k) n))) H'
theorem LK_few (k : Kn) {n : Nat} (h : n ≤ 30) : Few (LK k n) := ⟨LK_len k h, fun x hx => by
  have hx := (List.mem_filter.mp hx).1
  have xl := ls_len (asc_mem.mp hx)
  have xm := (ls_mem _ _ _ (asc_mem.mp hx)).1
  exact ⟨by omega, fun a ha => by have := xm a ha; omega⟩⟩
theorem ok_al (F : Fun K "answer_list" "answer_list" (top 138) f fd)  (g_MOST_LISTED : IntG mg "MOST_LISTED" 30) (F_kind_ahead : FnA P w K mg base "kind_ahead" 8 ["words", "many"] sp_ka) (F_listed : FnA P w K mg base "listed" 33 ["kind", "n"] sp_li) (F_number_in : FnA P w K mg base "number_in" 3 ["word", "least", "most"] sp_ni) (F_parted_by_blanks : FnA P w K mg base "parted_by_blanks" 2 ["partings"] sp_bb) : FnOk P w K mg base CX0 34 f fd ["words"] sp_al := by
  refine F.okz sc_al (fun vs H Q E h => ?_) (fun cdv A outer s H vs Q E hr h => ?_)
  · obtain ⟨a, k, n, rfl, _⟩ := h; rfl
  obtain ⟨a, k, n, rfl, ha, hk, hn, q⟩ := h
  have nd := sc_al.nd
  have hu := hr.units
  refine ⟨_, (zss_cons (zs_asg (ze_fn F_kind_ahead hr (by decide) rfl (za_cons (zn 0) (za_cons ze_int za_nil))) (zg_tup rfl (zgs_cons (zg_name (i := 1) nd rfl (Or.inl rfl)) (zgs_cons (zg_name (i := 2) nd rfl (Or.inl rfl)) zgs_nil))))
      (zss_cons (zs_set (i := 3) nd rfl (Or.inl rfl) (ze_fn F_listed hr (by decide) rfl (za_cons (zn 1) (za_cons (ze_fn F_number_in hr (by decide) rfl (za_cons (ze_ix ix_P (zn 2) ze_int (fun _ _ => rfl)) (za_cons ze_int (za_cons (ze_ig rfl g_MOST_LISTED) za_nil)))) za_nil))))
      (zss_one (zs_ret (ze_ifExp (zt_truP (zn 3)) (ze_fn F_parted_by_blanks hr (by decide) rfl (za_cons (zn 3) za_nil)) ze_str))))), ?_⟩
  refine ⟨a, k, nt n, rfl, ha, hk, fun t c b H1 y1 ht hc hb => ?_⟩
  refine ⟨t, _, rfl, SqT.of ht, rfl, _, _, rfl, _, _, rfl, rfl, ?_⟩
  refine ⟨_, .inl (SqL.of hb), .str (nt n), rfl, ?_⟩
  refine ⟨n, 0, 30, rfl, by omega, by omega, by omega, by omega, fun H2 y2 => ?_⟩
  obtain ⟨kc, ko⟩ := kN_at (hc.same y2) hk
  refine ⟨c, kN k, n, rfl, kc, ko, hn, fun T as H3 y3 hT ta => ?_⟩
  have y := (y1.trans y2).trans y3
  have fw := LK_few (kN k) hn
  unfold ltx at q
  generalize LK (kN k) n = xs at ta fw q
  refine ⟨_, .inr hT, ?_⟩
  cases xs with
  | nil =>
    have e : as = [] := List.length_eq_zero_iff.mp ta.1
    subst e
    exact q H3 y
  | cons x xs =>
    cases as with
    | nil => exact absurd ta.1 (by simp)
    | cons a0 as =>
      rw [if_neg (List.cons_ne_nil _ _)] at q
      exact ⟨T, _, _, rfl, hT, ta, fw, fun H4 y4 => q H4 (y.trans y4)⟩
theorem sc_an : FnScope ["line", "words", "word", "deed"] ["line"] (defScope (top 155)) := ⟨rfl, rfl, rfl, by decide +kernel, rfl, by decide +kernel, by decide +kernel⟩
noncomputable def sp_an : Sp := fun vs H Q _ => ∃ (z wd : Str) (k : Kd) (n : Nat), vs = [.str z] ∧ z.length ≤ 2000 ∧ Txt.split z (Str.ofString " ") = wd :: (k.words ++ [nt n]) ∧ k.Ok ∧ ((wd = Str.ofString "count" ∧ n ≤ 600 ∧ ∀ H', Same H H' → Q (.str (nt (cf (kN k) n n))) H') ∨ (wd = Str.ofString "list" ∧ n ≤ 30 ∧ ∀ H', Same H H' → Q (.str (ltx (LK (kN k) n))) H'))
theorem ok_an (F : Fun K "answer" "answer" (top 155) f fd)  {rd fc fl : Addr} (D_DEEDS : DeedG w K mg "DEEDS" rd) (dc : deedAt K rd (Str.ofString "count") fc = true) (mc : mg "answer_count" = some (.ref fc)) (dl : deedAt K rd (Str.ofString "list") fl = true) (ml : mg "answer_list" = some (.ref fl)) (F_is_text : FnA P w K mg base "is_text" 1 ["thing"] sp_text) (F_answer_count : FnA P w K mg base "answer_count" 9 ["words"] sp_ac) (F_answer_list : FnA P w K mg base "answer_list" 34 ["words"] sp_al) : FnOk P w K mg base CX0 35 f fd ["line"] sp_an := by
  refine F.okz sc_an (fun vs H Q E h => ?_) (fun cdv A outer s H vs Q E hr h => ?_)
  · obtain ⟨z, wd, k, n, rfl, _⟩ := h; rfl
  obtain ⟨z, wd, k, n, rfl, hz, hs, hk, q⟩ := h
  have nd := sc_an.nd
  have hu := hr.units
  refine ⟨_, (zss_cons (zs_if (zt_not (zt_valP (ze_fn F_is_text hr (by decide) rfl (za_cons (zn 0) za_nil)))) (zss_one zs_no) zss_nil)
      (zss_cons (zs_set (i := 1) nd rfl (Or.inl rfl) (zm_split (zn 0) (za_cons ze_str za_nil)))
      (zss_cons (zs_set (i := 2) nd rfl (Or.inl rfl) (ze_ix ix_P (zn 1) ze_int (fun _ _ => rfl)))
      (zss_cons (zs_if (zt_cmpP (op_notInF D_DEEDS) (zn 2) (ze_deedN D_DEEDS rfl) (by with_unfolding_all rfl)) (zss_one zs_no) zss_nil)
      (zss_cons (zs_set (i := 3) nd rfl (Or.inl rfl) (ze_deed D_DEEDS rfl (zn 2) (fun _ _ => rfl)))
      (zss_one (zs_ret (ze_callV 3 hr (za_cons (ze_slice sl_P (zn 1) (zo_some ze_int) zo_none) za_nil))))))))), ?_⟩
  refine ⟨z, rfl, hz, ?_⟩
  refine ⟨rfl, by omega, by decide +kernel, fun d hd => ?_⟩
  rw [hs]
  have y1 := Same.new hd (.lst ((wd :: (k.words ++ [nt n])).map V.str))
  have gd : upd H d (.lst ((wd :: (k.words ++ [nt n])).map V.str)) d = some (.lst (.str wd :: (k.words ++ [nt n]).map V.str)) := upd_same
  generalize upd H d (.lst ((wd :: (k.words ++ [nt n])).map V.str)) = H1 at y1 gd
  refine ⟨_, .inl (SqL.of gd), .str wd, atI_of (j := 0) rfl rfl, ?_⟩
  rcases q with ⟨rfl, hn, q⟩ | ⟨rfl, hn, q⟩
  · obtain ⟨fa, fd', F1, b1, k1, m1⟩ := F_answer_count.ex
    obtain rfl : fa = fc := by have := mc.symm.trans m1; cases this; rfl
    refine ⟨rfl, fa, dc, ?_⟩
    refine ⟨_, fa, rfl, dc, ?_⟩
    refine ⟨rfl, fa, 9, _, sp_ac, rfl, by decide, ⟨fd', F1, b1, k1⟩, ?_⟩
    refine ⟨_, rfl, d, rfl, .inr ⟨_, SqL.of gd, fun b hb => ?_⟩⟩
    rw [cut1]
    exact ⟨b, k, n, rfl, upd_same, hk, hn, fun H2 y2 => q H2 ((y1.trans (Same.new hb _)).trans y2)⟩
  · obtain ⟨fa, fd', F1, b1, k1, m1⟩ := F_answer_list.ex
    obtain rfl : fa = fl := by have := ml.symm.trans m1; cases this; rfl
    refine ⟨rfl, fa, dl, ?_⟩
    refine ⟨_, fa, rfl, dl, ?_⟩
    refine ⟨rfl, fa, 34, _, sp_al, rfl, by decide, ⟨fd', F1, b1, k1⟩, ?_⟩
    refine ⟨_, rfl, d, rfl, .inr ⟨_, SqL.of gd, fun b hb => ?_⟩⟩
    rw [cut1]
    exact ⟨b, k, n, rfl, upd_same, hk, hn, fun H2 y2 => q H2 ((y1.trans (Same.new hb _)).trans y2)⟩
end
end K72
set_option Elab.async false
set_option linter.all false
set_option maxRecDepth 100000
set_option maxHeartbeats 4000000
namespace K72
open PySem L2 MRow M27 M80 M17 M12 M24 M11 M66 M63 M05 M67 M68
theorem own12 : ∀ n : Fin 13, cn n.val n.val (isg .own) = below 2 (odds n.val) dl n.val := by decide +kernel
theorem isg_cf {k : Kn} (hok : k.Ok) {n : Nat} (hn : n ≤ 12) : cn n n (isg k) = cf k n n := by
  cases k with
  | all =>
    show cn n n (fun _ => true) = PL dl (ups n) n
    rw [← fl_all n, ← cn_all (fun _ => true) n n]
    exact cn_congr fun x _ => (List.all_eq_true.mpr fun _ _ => rfl).symm
  | most k =>
    show cn n n (fun x => x.all fun a => decide (a ≤ k)) = PL dl (ups (min k n)) n
    rw [cn_all, fl_most]
  | few k =>
    show cn n n (fun x => decide (x.length ≤ k)) = PL dl (ups (min k n)) n
    rw [cn_few, R_min (Nat.le_refl n)]
  | times m => exact cn_times hok.1 n n
  | rests m rs => exact cn_all (fun a => decide ((a : Int) % (m : Int) ∈ rs)) n n
  | box k l => show cn n n (inb k l) = bx l (min k n) n; rw [cn_box, Nat.min_comm]
  | off d => exact cn_off hok.1 (by omega)
  | own => exact own12 ⟨n, by omega⟩
theorem LK_cf {k : Kn} (hok : k.Ok) {n : Nat} (hn : n ≤ 12) : ((LK k n).length : Int) = cf k n n := by
  rw [← isg_cf hok hn]
  unfold LK cn Asc
  rw [← List.countP_eq_length_filter, List.countP_reverse]
theorem jl_snoc (c : Nat) (y : List Nat) : ∀ {ws : List (List Nat)}, ws ≠ [] → jl c (ws ++ [y]) = jl c ws ++ c :: y
  | [], h => absurd rfl h
  | [x], _ => rfl
  | x :: z :: r, _ => by
    show x ++ c :: jl c ((z :: r) ++ [y]) = (x ++ c :: jl c (z :: r)) ++ c :: y
    rw [jl_snoc c y (List.cons_ne_nil z r)]
    simp
theorem words_ne (k : Kd) : k.words ≠ [] := by cases k <;> exact List.cons_ne_nil _ _
theorem line_split {k : Kd} (hk : k.Ok) {n : Int} (h0 : 0 ≤ n) {wd z : Str} (hw : 32 ∉ wd.cps.toList) (hz : z.cps.toList = wd.cps.toList ++ 32 :: (k.text.cps.toList ++ 32 :: (nt n).cps.toList)) : Txt.split z (Str.ofString " ") = wd :: (k.words ++ [nt n]) := by
  have e : z = Txt.join ⟨#[32]⟩ (wd :: (k.words ++ [nt n])) := by
    refine str_ext ?_
    rw [hz, joinE, join_list, List.map_cons, List.map_append]
    have kt : k.text.cps.toList = jl 32 (k.words.map fun y => y.cps.toList) := by
      unfold Kd.text
      rw [sp_is, joinE, join_list]
    rw [kt, show jl 32 (wd.cps.toList :: ((k.words.map fun y => y.cps.toList) ++ [nt n].map fun y => y.cps.toList)) = wd.cps.toList ++ 32 :: jl 32 ((k.words.map fun y => y.cps.toList) ++ [(nt n).cps.toList]) from by
      have := words_ne k
      cases e : k.words with
      | nil => exact absurd e this
      | cons x r => rfl]
    rw [jl_snoc 32 _ (by simpa using words_ne k)]
  rw [e, sp_is]
  refine split_join (List.cons_ne_nil _ _) fun y hy => ?_
  rcases List.mem_cons.mp hy with rfl | hy
  · exact hw
  · rcases List.mem_append.mp hy with hy | hy
    · exact words_nosp hk y hy
    · rw [List.mem_singleton.mp hy]
      exact nt_nosep h0 (by decide)
theorem cps_sp : (Str.ofString " ").cps.toList = [32] := by decide +kernel
theorem line_a {k : Kd} (hk : k.Ok) {n : Int} (h0 : 0 ≤ n) {wd w1 : Str} (hw : 32 ∉ wd.cps.toList) (e : w1.cps.toList = wd.cps.toList ++ [32]) : Txt.split (w1 ++ (k.text ++ Str.ofString " " ++ nt n)) (Str.ofString " ") = wd :: (k.words ++ [nt n]) := line_split hk h0 hw (by
  rw [app_list, app_list, app_list, e, cps_sp]
  simp)
theorem line_b {k : Kd} (hk : k.Ok) {n : Int} (h0 : 0 ≤ n) {wd w1 : Str} (hw : 32 ∉ wd.cps.toList) (e : w1.cps.toList = wd.cps.toList ++ [32]) : Txt.split (w1 ++ k.text ++ Str.ofString " " ++ nt n) (Str.ofString " ") = wd :: (k.words ++ [nt n]) := line_split hk h0 hw (by
  rw [app_list, app_list, app_list, e, cps_sp]
  simp)
theorem nosp_list : 32 ∉ (Str.ofString "list").cps.toList := by decide +kernel
theorem nosp_count : 32 ∉ (Str.ofString "count").cps.toList := by decide +kernel
theorem one_sp : (Str.ofString " ").length = 1 := by decide +kernel
theorem five_l : (Str.ofString "list ").length = 5 := by decide +kernel
theorem six_c : (Str.ofString "count ").length = 6 := by decide +kernel
theorem KdAt.step {H H1 : Hp} {a L c : Addr} {n m : Nat} {k : Kd} (hk : KdAt H c k) (h : Hand H a L m) (st : Step a L n H H1) : KdAt H1 c k := by
  cases k with
  | rests e rs => obtain ⟨d, h1, h2⟩ := hk; exact ⟨d, Step.tup h st h1, Step.tup h st h2⟩
  | bare w => exact Step.tup h st hk
  | one w n => exact Step.tup h st hk
  | box b l => exact Step.tup h st hk
theorem someW {K : PySem.W.Frag} {σ : St} {H : Hp} {l c : Addr} {as : List Addr} {k : Kn} {n : Nat} {ix : List (Str × Nat)} {Fin : List V → Hp → Prop} (hl : H l = some (.lst (as.map V.ref))) (ta : TA H as (Asc n n)) (hk : KnAt H c k) (hok : k.Ok) (hn : n ≤ 30)
    (hx : frV σ ix = [some (.ref c)])
    (fin : ∀ (bs : List Addr) H', Same H H' → TA H' bs (LK k n) → Fin (bs.map V.ref) H') :
    CmpW ["_law_parting"] ix (gName 0) (tBlP (tFn sp_io (tCons (tV 1) (tCons (tV 0) tNil)))) (tV 0) σ (Itl K l) Fin H := by
  have al := asc_len30 (m := n) hn
  refine cmp_list (xs := as.map V.ref) (fun m ys Hc => m ≤ as.length ∧ Same H Hc ∧ ∃ bs : List Addr, ys = bs.map V.ref ∧ TA Hc bs (((Asc n n).take m).filter (isg k))) ⟨Nat.zero_le _, Same.refl _, [], rfl, TA.nil⟩ ?_ ?_ ?_
  · rintro m ys Hc _ ⟨_, y, _⟩
    exact SqL.of (y _ _ hl)
  · rintro m v ys Hc hv ⟨_, y, bs, rfl, tb'⟩
    obtain ⟨b, x, ea, ex, rfl, ha⟩ := ta.at hv
    have hm := (List.getElem?_eq_some_iff.mp ea).1
    have hx' := List.mem_of_getElem? ex
    have lb := tb'.1
    have lf := List.length_filter_le (isg k) ((Asc n n).take m)
    have lt := List.length_take_le m (Asc n n)
    have lm := ta.1
    refine ⟨by rw [List.length_map]; exact small6k (by omega), ?_⟩
    have xl := ls_len (asc_mem.mp hx')
    have xm := (ls_mem _ _ _ (asc_mem.mp hx')).1
    have e : (st0 ["_law_parting"] ix σ).set 0 (some (.ref b)) = [some (.ref b), some (.ref c)] := by unfold st0; rw [hx]; rfl
    unfold gName
    rw [e]
    refine ⟨c, b, k, x, rfl, hk.same y, hok, y _ _ ha, by omega, fun a h => by have := (xm a h).2; omega, ls_fl _ _ _ hx', fun Hd yd => ?_⟩
    have tk := tk_filter (p := isg k) ex
    cases hb : isg k x with
    | true =>
      rw [hb, if_pos rfl] at tk
      refine ⟨hm, y.trans yd, bs ++ [b], by rw [List.map_append]; rfl, ?_⟩
      rw [tk]
      exact (tb'.same yd).app (TA.cons (yd _ _ (y _ _ ha)) TA.nil)
    | false =>
      rw [hb, if_neg (by decide), List.append_nil] at tk
      refine ⟨hm, y.trans yd, bs, rfl, ?_⟩
      rw [tk]
      exact tb'.same yd
  · rintro ys Hc ⟨_, y, bs, rfl, tb'⟩
    rw [List.length_map, ta.1, List.take_of_length_le (Nat.le_refl _)] at tb'
    exact fin bs Hc y tb'
theorem dueW {K : PySem.W.Frag} {σ : St} {H : Hp} {l : Addr} {as : List Addr} {xs : List (List Nat)} {ix : List (Str × Nat)} {Fin : List V → Hp → Prop} (hl : H l = some (.lst (as.map V.ref))) (ta : TA H as xs) (fw : Few xs)
    (fin : ∀ H', Same H H' → Fin ((xs.map fun x => shw (toI x)).map V.str) H') :
    CmpW ["_law_parting"] ix (gName 0) tYes (tFn sp_shp (tCons (tV 0) tNil)) σ (Itl K l) Fin H := by
  have la := ta.1
  have lx := fw.1
  refine cmp_list (xs := as.map V.ref) (fun i ys H' => Same H H' ∧ ys = ((xs.take i).map fun x => shw (toI x)).map V.str) ⟨Same.refl _, by rw [List.take_zero]; rfl⟩ ?_ ?_ ?_
  · rintro i ys H' _ ⟨y, _⟩
    exact SqL.of (y _ _ hl)
  · rintro i v ys H' hv ⟨y, rfl⟩
    obtain ⟨b, x, ea, ex, rfl, hb⟩ := ta.at hv
    have hx := List.mem_of_getElem? ex
    refine ⟨by rw [List.length_map, List.length_map, List.length_take]; exact small6k (by omega), ?_⟩
    refine ⟨b, toI x, rfl, y _ _ hb, (few_num fw hx).1, (few_num fw hx).2, fun H2 y2 => ?_⟩
    refine ⟨y.trans y2, ?_⟩
    rw [List.take_succ, ex, List.map_append, List.map_append]
    rfl
  · rintro ys H' ⟨y, rfl⟩
    rw [List.length_map, la, List.take_of_length_le (Nat.le_refl _)]
    exact fin H' y
theorem eqv_nil (ds : List PyData) : PyData.eqv (.list ds) (.list []) = ds.isEmpty := by
  cases ds with
  | nil => simp only [PyData.eqv, PyData.eqvAll]; rfl
  | cons d r => simp only [PyData.eqv, PyData.eqvAll]; rfl
theorem shaped_ll (lss : List (List Int)) : SeqAt.shaped (.list (lss.map tD)) = true := by
  obtain ⟨h1, h2⟩ := can_tt lss
  unfold SeqAt.shaped
  rw [Bool.and_eq_true]
  exact ⟨by simp only [PyData.canLay0]; exact h1, decide_eq_true (by simp only [PyData.depth]; omega)⟩
theorem tl8 {α β : Type} {G : Prop} (F K : α → β → β → β → β → β → β → β → Prop) (k : (∀ a x2 x3 x4 x5 x6 x7 x8, F a x2 x3 x4 x5 x6 x7 x8 → K a x2 x3 x4 x5 x6 x7 x8) → G) (t : ∀ a x2 x3 x4 x5 x6 x7 x8, F a x2 x3 x4 x5 x6 x7 x8 → K a x2 x3 x4 x5 x6 x7 x8) : G := k t
theorem asgI {te : TE} {g : TG} {tb : TS} {D : Ends} {σ : St} {H : Hp} (h : te σ H fun v H1 => g v σ H1 fun σ1 H2 => tb D σ1 H2) : tSeq (tAsg te g) tb D σ H := h
theorem someI {K : PySem.W.Frag} {x0 x1 x2 x5 x6 x7 x8 : Option V} {H : Hp} {c : Addr} {k : Kn} {n : Nat} {Q : VK} (hc : KnAt H c k) (ok : k.Ok) (hn : n ≤ 30) (q : ∀ D (bs : List Addr) H1, Same H H1 → H1 D = some (.lst (bs.map V.ref)) → TA H1 bs (LK k n) → Q (.ref D) H1) :
    tComp ["_law_parting"] [("_law_kind_here", 3)] (iList K (tFn sp_ll (tCons (tV 4) tNil))) (gName 0) (tBlP (tFn sp_io (tCons (tV 1) (tCons (tV 0) tNil)))) (tV 0) [x0, x1, x2, some (.ref c), some (.int (n : Int)), x5, x6, x7, x8] H Q := by
  refine ⟨n, rfl, hn, fun l as H5 y5 hl5 ta5 => ?_⟩
  refine ⟨l, rfl, ⟨_, SqL.of hl5⟩, someW hl5 ta5 (hc.same y5) ok hn rfl fun bs H6 y6 tb6 => ?_⟩
  intro D hD
  have yD := Same.new hD (.lst (bs.map V.ref))
  exact q D bs _ ((y5.trans y6).trans yD) upd_same (tb6.same yD)
theorem dueI {K : PySem.W.Frag} {x0 x1 x2 x3 x4 x6 x7 x8 : Option V} {H : Hp} {D : Addr} {as : List Addr} {xs : List (List Nat)} {Q : VK} (hl : H D = some (.lst (as.map V.ref))) (ta : TA H as xs) (fw : Few xs) (q : ∀ H', Same H H' → Q (.str (ltx xs)) H') :
    tIf (tBlP (tOp (rEqD true) (tV 5) (tLst tNil))) (fun σ H Q => tC (.str (Str.ofString " ")) σ H fun x H1 => tyV K "str" x H1 ∧ tCons (tComp ["_law_parting"] [] (iList K (tV 5)) (gName 0) tYes (tFn sp_shp (tCons (tV 0) tNil))) tNil σ H1 fun xs H2 => rJoinP K x xs H2 Q) (tC (.str (Str.ofString "none"))) [x0, x1, x2, x3, x4, some (.ref D), x6, x7, x8] H Q := by
  refine ⟨Nat.zero_le _, fun e he => ?_⟩
  have y := Same.new he (.lst [])
  refine ⟨_, _, .lst (y _ _ hl) (Tps.all (TA.tps (ta.same y))), .lst (xs := []) upd_same .nil, shaped_ll _, shaped_ll [], ?_⟩
  have e1 : PyData.eqv (.list ((xs.map toI).map tD)) (.list []) = xs.isEmpty := by rw [eqv_nil]; cases xs <;> rfl
  rw [e1]
  unfold ltx at q
  cases xs with
  | nil => exact q _ y
  | cons x r =>
    rw [if_neg (List.cons_ne_nil _ _)] at q
    show tyV K "str" _ _ ∧ _
    refine ⟨rfl, ?_⟩
    refine ⟨D, rfl, ⟨_, SqL.of (y _ _ hl)⟩, dueW (y _ _ hl) (ta.same y) fw fun H2 y2 => ?_⟩
    intro B hB
    refine ⟨_, SqL.of upd_same, few_lim fw, ?_⟩
    exact q _ ((y.trans y2).trans (Same.new hB _))
section
variable {P : Program} {w : World} {K : PySem.W.Frag} {mg : Str → Option Value} {base : Heap} {f : Addr} {fd : FuncData}
theorem sc_law : FnScope ["_law_script", "_law_spool_here", "_law_turn", "_law_kind_here", "_law_n", "_law_some", "_law_words", "_law_due", "_law_again"] ["_law_script"] (defScope (top 164)) := ⟨rfl, rfl, rfl, by decide +kernel, rfl, by decide +kernel, by decide +kernel⟩
noncomputable def sp_law (K : PySem.W.Frag) : Sp := fun vs H Q _ => ∃ (a : Addr) (ns : List Int), vs = [.ref a] ∧ SqL K H a (ns.map V.int) ∧ ns.length ≤ 63 ∧ ∀ H', Q (.bl true) H'
theorem ok_law (F : Fun K "law" "law" (top 164) f fd) (m_len : mg "len" = none) (m_range : mg "range" = none) (m_str : mg "str" = none) (F_law_is_of : FnA P w K mg base "_law_is_of" 1 ["_law_kind_here", "_law_parting"] sp_io) (F_law_kind : FnA P w K mg base "_law_kind" 2 ["_law_spool_here", "_law_most"] sp_kind) (F_law_kind_text : FnA P w K mg base "_law_kind_text" 1 ["_law_kind_here"] sp_show) (F_law_list : FnA P w K mg base "_law_list" 1 ["_law_n"] sp_ll) (F_law_spool : FnA P w K mg base "_law_spool" 1 ["_law_script"] (sp_spool K)) (F_law_take : FnA P w K mg base "_law_take" 1 ["_law_spool_here", "_law_many"] sp_take) (F_law_text : FnA P w K mg base "_law_text" 1 ["_law_parting"] sp_shp) (F_answer : FnA P w K mg base "answer" 35 ["line"] sp_an) (F_counts : FnA P w K mg base "counts" 4 ["kind", "most"] sp_counts) : FnOk P w K mg base CX0 36 f fd ["_law_script"] (sp_law K) := by
  refine F.okz sc_law (fun vs H Q E h => ?_) (fun cdv A outer s H vs Q E hr h => ?_)
  · obtain ⟨a, ns, rfl, _⟩ := h; rfl
  obtain ⟨a, ns, rfl, hS, hl, q⟩ := h
  have nd := sc_law.nd
  have hu := hr.units
  refine ⟨_, (zss_cons (zs_set (i := 1) nd rfl (Or.inl rfl) (ze_fn F_law_spool hr (by decide) rfl (za_cons (zn 0) za_nil)))
      (zss_cons (zs_for PassesOwn.never rfl (zi_range1 rfl m_range (za_cons ze_int za_nil)) (zg_name (i := 2) nd rfl (Or.inl rfl)) (zss_cons (zs_asg (ze_tup (za_cons (ze_fn F_law_kind hr (by decide) rfl (za_cons (zn 1) (za_cons ze_int za_nil))) (za_cons (ze_fn F_law_take hr (by decide) rfl (za_cons (zn 1) (za_cons ze_int za_nil))) za_nil))) (zg_tup rfl (zgs_cons (zg_name (i := 3) nd rfl (Or.inr rfl)) (zgs_cons (zg_name (i := 4) nd rfl (Or.inl rfl)) zgs_nil))))
      (zss_cons (zs_setcomp (i := 5) ["_law_parting"] [("_law_kind_here", 3)] rfl nd rfl (Or.inl rfl) ⟨rfl, by decide +kernel, by decide +kernel, rfl, rfl⟩ (zi_list (ze_fn F_law_list hr (by decide) rfl (za_cons (zn 4) za_nil))) kpg_name (fun _ _ _ _ => zg_name (i := 0) (show List.Nodup (["_law_parting", "_law_kind_here"] : List Str) by decide +kernel) rfl (Or.inl rfl)) (fun _ _ _ _ => (zif_one (zt_valP (ze_fn F_law_is_of hr (by decide) rfl (za_cons (zn 1) (za_cons (zn 0) za_nil)))))) (fun _ _ _ _ => (zn 0)))
      (zss_cons (zs_set (i := 6) nd rfl (Or.inl rfl) (ze_op op_addP (ze_op op_addP (ze_fn F_law_kind_text hr (by decide) rfl (za_cons (zn 3) za_nil)) ze_str) (zcb_str rfl m_str (za_cons (zn 4) za_nil) rfl rfl)))
      (zss_cons (zs_set (i := 7) nd rfl (Or.inl rfl) (ze_ifExp (zt_cmpP (op_neD hu) (zn 5) (ze_lst za_nil) (nomark _)) (zm_join ze_str (za_cons (ze_comp ["_law_parting"] [] rfl ⟨rfl, by decide +kernel, by decide +kernel, rfl, rfl⟩ (zi_list (zn 5)) kpg_name (fun _ _ _ _ => zg_name (i := 0) (show List.Nodup (["_law_parting"] : List Str) by decide +kernel) rfl (Or.inl rfl)) (fun _ _ _ _ => zif_nil) (fun _ _ _ _ => (ze_fn F_law_text hr (by decide) rfl (za_cons (zn 0) za_nil)))) za_nil)) ze_str))
      (zss_one (zs_for PassesOwn.never rfl (zi_range1 rfl m_range (za_cons ze_int za_nil)) (zg_name (i := 8) nd rfl (Or.inl rfl)) (zss_one (zs_if (ZW.zt (zw_or (zt_cmpP (op_neD hu) (ze_fn F_answer hr (by decide) rfl (za_cons (ze_op op_addP ze_str (zn 6)) za_nil)) (zn 7) (nomark _)) (zw_or1 (zt_cmpP (op_neD hu) (ze_fn F_answer hr (by decide) rfl (za_cons (ze_op op_addP ze_str (zn 6)) za_nil)) (zcb_str rfl m_str (za_cons (zcb_len rfl m_len (za_cons (zn 5) za_nil) rfl rfl) za_nil) rfl rfl) (nomark _))))) (zss_one (zs_ret ze_bl)) zss_nil)))))))))
      (zss_cons (zs_if (zt_cmpP (op_eqD hu) (ze_fn F_law_take hr (by decide) rfl (za_cons (zn 1) (za_cons ze_int za_nil))) ze_int (nomark _)) (zss_one (zs_for PassesOwn.never rfl (zi_tup (ze_tup (za_cons (ze_tup (za_cons (ze_fn F_law_kind hr (by decide) rfl (za_cons (zn 1) (za_cons ze_int za_nil))) (za_cons (ze_op op_addP ze_int (ze_fn F_law_take hr (by decide) rfl (za_cons (zn 1) (za_cons ze_int za_nil)))) za_nil))) (za_cons (ze_tup (za_cons (ze_tup (za_cons ze_str (za_cons ze_int za_nil))) (za_cons ze_int za_nil))) (za_cons (ze_tup (za_cons (ze_tup (za_cons ze_str za_nil)) (za_cons ze_int za_nil))) za_nil))))) (zg_tup rfl (zgs_cons (zg_name (i := 3) nd rfl (Or.inr rfl)) (zgs_cons (zg_name (i := 4) nd rfl (Or.inl rfl)) zgs_nil))) (zss_cons (zs_setcomp (i := 5) ["_law_parting"] [("_law_kind_here", 3)] rfl nd rfl (Or.inl rfl) ⟨rfl, by decide +kernel, by decide +kernel, rfl, rfl⟩ (zi_list (ze_fn F_law_list hr (by decide) rfl (za_cons (zn 4) za_nil))) kpg_name (fun _ _ _ _ => zg_name (i := 0) (show List.Nodup (["_law_parting", "_law_kind_here"] : List Str) by decide +kernel) rfl (Or.inl rfl)) (fun _ _ _ _ => (zif_one (zt_valP (ze_fn F_law_is_of hr (by decide) rfl (za_cons (zn 1) (za_cons (zn 0) za_nil)))))) (fun _ _ _ _ => (zn 0)))
      (zss_cons (zs_set (i := 7) nd rfl (Or.inl rfl) (ze_ifExp (zt_cmpP (op_neD hu) (zn 5) (ze_lst za_nil) (nomark _)) (zm_join ze_str (za_cons (ze_comp ["_law_parting"] [] rfl ⟨rfl, by decide +kernel, by decide +kernel, rfl, rfl⟩ (zi_list (zn 5)) kpg_name (fun _ _ _ _ => zg_name (i := 0) (show List.Nodup (["_law_parting"] : List Str) by decide +kernel) rfl (Or.inl rfl)) (fun _ _ _ _ => zif_nil) (fun _ _ _ _ => (ze_fn F_law_text hr (by decide) rfl (za_cons (zn 0) za_nil)))) za_nil)) ze_str))
      (zss_one (zs_if (zt_cmpP (op_neD hu) (ze_fn F_answer hr (by decide) rfl (za_cons (ze_op op_addP (ze_op op_addP (ze_op op_addP ze_str (ze_fn F_law_kind_text hr (by decide) rfl (za_cons (zn 3) za_nil))) ze_str) (zcb_str rfl m_str (za_cons (zn 4) za_nil) rfl rfl)) za_nil)) (zn 7) (nomark _)) (zss_one (zs_ret ze_bl)) zss_nil)))))) zss_nil)
      (zss_cons (zs_asg (ze_tup (za_cons (ze_fn F_law_kind hr (by decide) rfl (za_cons (zn 1) (za_cons ze_int za_nil))) (za_cons (ze_ix ix_P (ze_lst (za_cons (ze_fn F_law_take hr (by decide) rfl (za_cons (zn 1) (za_cons ze_int za_nil))) (za_cons ze_int (za_cons ze_int za_nil)))) (ze_fn F_law_take hr (by decide) rfl (za_cons (zn 1) (za_cons ze_int za_nil))) (fun _ _ => rfl)) za_nil))) (zg_tup rfl (zgs_cons (zg_name (i := 3) nd rfl (Or.inr rfl)) (zgs_cons (zg_name (i := 4) nd rfl (Or.inl rfl)) zgs_nil))))
      (zss_one (zs_ret (ze_cmpR (op_eqD hu) (ze_fn F_answer hr (by decide) rfl (za_cons (ze_op op_addP (ze_op op_addP (ze_op op_addP ze_str (ze_fn F_law_kind_text hr (by decide) rfl (za_cons (zn 3) za_nil))) ze_str) (zcb_str rfl m_str (za_cons (zn 4) za_nil) rfl rfl)) za_nil)) (zcb_str rfl m_str (za_cons (ze_ix ix_P (ze_fn F_counts hr (by decide) rfl (za_cons (zn 3) (za_cons (zn 4) za_nil))) (ze_un un_neg ze_int) (fun _ _ => rfl)) za_nil) rfl rfl) (nomark _)))))))), ?_⟩
  refine ⟨a, ns, rfl, hS, hl, fun p L H1 y1 hh => ?_⟩
  refine' tl8 (fun H2 (_ _ _ _ _ _ _ : Option V) => Hand H2 p L 1000) _ (fun tail => ?_) ?_
  rotate_left
  · refine ⟨4, rfl, by decide, by decide, for_range (fun i σ H' => Hand H' p L (200 * i) ∧ ∃ x2 x3 x4 x5 x6 x7 x8, σ = [some (.ref a), some (.ref p), x2, x3, x4, x5, x6, x7, x8]) ⟨hh.mono (by omega), _, _, _, _, _, _, _, rfl⟩ ?_ ?_⟩
    · rintro i σ H' hi ⟨hh, x2, x3, x4, x5, x6, x7, x8, rfl⟩
      refine ⟨p, L, 8, 200 * i, rfl, hh, by omega, by decide, by decide, fun c H2 k st2 hc ok => ?_⟩
      refine ⟨p, L, 13, _, rfl, st2.2, by omega, by decide, by decide, fun n0 H3 u0 u1 st3 => ?_⟩
      obtain ⟨n, rfl⟩ : ∃ n : Nat, n0 = (n : Int) := ⟨n0.toNat, by omega⟩
      have hc3 := hc.step st2.2 st3
      have hh3 := st3.2
      refine ⟨by show 2 ≤ sizeLine; decide, fun d hd => ?_⟩
      have yd := Same.new hd (.tup [V.ref c, .int (n : Int)])
      refine ⟨d, _, rfl, SqT.of upd_same, rfl, _, _, rfl, _, _, rfl, rfl, ?_⟩
      have hc4 := hc3.same yd
      have hh4 := hh3.same yd
      generalize upd H3 d (.tup [V.ref c, .int (n : Int)]) = H4 at hc4 hh4
      obtain ⟨kc, ko⟩ := kN_at hc4 ok
      have nl := nt_len (n := (n : Int)) (by omega) (by omega)
      have tl := text_len ok
      refine asgI (someI (n := n) kc ko (by omega) fun D bs H5 y5 hD5 tb5 => ?_)
      refine ⟨c, k, rfl, hc4.same y5, ok, fun H6 y6 => ?_⟩
      refine ⟨by rw [one_sp]; unfold sizeLine; omega, ?_⟩
      refine ⟨log_small (by omega) (by omega), ?_⟩
      refine ⟨?_, ?_⟩
      · rw [app_len, one_sp]
        have := nl
        unfold sizeLine
        show k.text.length + 1 + (nt n).length ≤ _
        omega
      have fw := LK_few (kN k) (n := n) (by omega)
      have cnt := LK_cf ko (n := n) (by omega)
      refine asgI (dueI (y6 _ _ hD5) (tb5.same y6) fw fun H7 y7 => ?_)
      have hh7 := hh4.same ((y5.trans y6).trans y7)
      have hD7 := y7 _ _ (y6 _ _ hD5)
      have lb : bs.length = (LK (kN k) n).length := tb5.1
      refine ⟨2, rfl, by decide, by decide, for_range (fun j σ H' => Same H7 H' ∧ ∃ x8, σ = [some (.ref a), some (.ref p), some (.int (0 + (i : Int))), some (.ref c), some (.int (n : Int)), some (.ref D), some (.str (k.text ++ Str.ofString " " ++ nt n)), some (.str (ltx (LK (kN k) n))), x8]) ⟨Same.refl _, _, rfl⟩ ?_ ?_⟩
      · rintro j σ H' hj ⟨y, x8, rfl⟩
        have wl : (k.text ++ Str.ofString " " ++ nt n).length ≤ 450 := by
          rw [app_len, app_len, one_sp]
          omega
        refine ⟨by rw [five_l]; unfold sizeLine; omega, ?_⟩
        refine ⟨_, Str.ofString "list", k, n, rfl, by rw [app_len, five_l]; omega, line_a ok (by omega) nosp_list (by decide +kernel), ok, .inr ⟨rfl, by omega, fun H8 y8 => ?_⟩⟩
        refine iteB (fun c => absurd c (by simp)) (fun _ => ?_)
        refine ⟨by rw [six_c]; unfold sizeLine; omega, ?_⟩
        refine ⟨_, Str.ofString "count", k, n, rfl, by rw [app_len, six_c]; omega, line_a ok (by omega) nosp_count (by decide +kernel), ok, .inl ⟨rfl, by omega, fun H9 y9 => ?_⟩⟩
        have hD9 := y9 _ _ (y8 _ _ (y _ _ hD7))
        refine ⟨_, .inl (SqL.of hD9), ?_⟩
        rw [List.length_map, lb]
        have lx := fw.1
        refine ⟨log_small (by omega) (by omega), ?_⟩
        refine iteB (fun c => absurd c ?_) (fun _ => ⟨(y.trans y8).trans y9, _, rfl⟩)
        rw [← cnt]
        unfold nt
        simp
      · rintro σ H' ⟨y, x8, rfl⟩
        exact ⟨(hh7.same y).mono (by omega), _, _, _, _, _, _, _, rfl⟩
    · rintro σ H' ⟨hh, x2, x3, x4, x5, x6, x7, x8, rfl⟩
      refine ⟨p, L, 8, 800, rfl, hh, by decide, by decide, by decide, fun r8 H1 r0 r1 st1 => ?_⟩
      refine iteB (fun _ => ?_) (fun _ => ?_)
      rotate_left
      · have tt := tail H1 x2 x3 x4 x5 x6 x7 x8 (st1.2.mono (by decide))
        exact tt
      refine ⟨p, L, 8, _, rfl, st1.2, by decide, by decide, by decide, fun c H2 k st2 hc ok => ?_⟩
      refine ⟨p, L, 10, _, rfl, st2.2, by decide, by decide, by decide, fun n0 H3 u0 u1 st3 => ?_⟩
      obtain ⟨n, rfl⟩ : ∃ n : Nat, n0 = (n : Int) := ⟨n0.toNat, by omega⟩
      have hc3 := hc.step st2.2 st3
      have hh3 := st3.2
      refine ⟨by show 2 ≤ sizeLine; decide, fun d1 hd1 => ?_⟩
      have y1 := Same.new hd1 (.tup [V.ref c, .int (13 + (n : Int))])
      have g1 : upd H3 d1 (.tup [V.ref c, .int (13 + (n : Int))]) d1 = _ := upd_same
      generalize upd H3 d1 (.tup [V.ref c, .int (13 + (n : Int))]) = H4 at y1 g1
      refine ⟨by show 2 ≤ sizeLine; decide, fun c2 hc2 => ?_⟩
      have y2 := Same.new hc2 (.tup [V.str (Str.ofString "off"), .int 3])
      have e2 : upd H4 c2 (.tup [V.str (Str.ofString "off"), .int 3]) c2 = _ := upd_same
      generalize upd H4 c2 (.tup [V.str (Str.ofString "off"), .int 3]) = H5 at y2 e2
      refine ⟨by show 2 ≤ sizeLine; decide, fun d2 hd2 => ?_⟩
      have y3 := Same.new hd2 (.tup [V.ref c2, .int 30])
      have g2 : upd H5 d2 (.tup [V.ref c2, .int 30]) d2 = _ := upd_same
      generalize upd H5 d2 (.tup [V.ref c2, .int 30]) = H6 at y3 g2
      refine ⟨by show 1 ≤ sizeLine; decide, fun c3 hc3' => ?_⟩
      have y4 := Same.new hc3' (.tup [V.str (Str.ofString "all")])
      have e3 : upd H6 c3 (.tup [V.str (Str.ofString "all")]) c3 = _ := upd_same
      generalize upd H6 c3 (.tup [V.str (Str.ofString "all")]) = H7 at y4 e3
      refine ⟨by show 2 ≤ sizeLine; decide, fun d3 hd3 => ?_⟩
      have y5 := Same.new hd3 (.tup [V.ref c3, .int 23])
      have g3 : upd H7 d3 (.tup [V.ref c3, .int 23]) d3 = _ := upd_same
      generalize upd H7 d3 (.tup [V.ref c3, .int 23]) = H8 at y5 g3
      refine ⟨by show 3 ≤ sizeLine; decide, fun B hB => ?_⟩
      have y6 := Same.new hB (.tup [V.ref d1, .ref d2, .ref d3])
      have gB : upd H8 B (.tup [V.ref d1, .ref d2, .ref d3]) B = _ := upd_same
      generalize upd H8 B (.tup [V.ref d1, .ref d2, .ref d3]) = H9 at y6 gB
      have hh9 := (((((hh3.same y1).same y2).same y3).same y4).same y5).same y6
      have pr : ∀ v ∈ [V.ref d1, .ref d2, .ref d3], ∃ t c k, ∃ n : Nat, v = .ref t ∧ H9 t = some (.tup [.ref c, .int (n : Int)]) ∧ KdAt H9 c k ∧ k.Ok ∧ n ≤ 30 := by
        have y56 := y5.trans y6
        have y46 := y4.trans y56
        have y36 := y3.trans y46
        have y26 := y2.trans y36
        intro v hv
        rcases List.mem_cons.mp hv with rfl | hv
        · exact ⟨d1, c, k, 13 + n, rfl, y26 _ _ g1, (hc3.same y1).same y26, ok, by omega⟩
        rcases List.mem_cons.mp hv with rfl | hv
        · exact ⟨d2, c2, .one (Str.ofString "off") 3, 30, rfl, y46 _ _ g2, y36 _ _ e2, .inl ⟨Or.inr (Or.inr rfl), by decide, by decide⟩, by decide⟩
        rcases List.mem_cons.mp hv with rfl | hv
        · exact ⟨d3, c3, .bare (Str.ofString "all"), 23, rfl, y6 _ _ g3, y56 _ _ e3, .inl rfl, by decide⟩
        · cases hv
      refine ⟨B, rfl, ⟨_, SqT.of gB⟩, for_tup (xs := [V.ref d1, .ref d2, .ref d3]) (fun i σ H' => Same H9 H' ∧ ∃ x2 x3 x4 x5 x6 x7 x8, σ = [some (.ref a), some (.ref p), x2, x3, x4, x5, x6, x7, x8]) ⟨Same.refl _, _, _, _, _, _, _, _, rfl⟩ ?_ ?_ ?_⟩
      · rintro i σ H' _ ⟨y, _⟩
        exact SqT.of (y _ _ gB)
      · rintro i v σ H' hv ⟨y, x2, x3, x4, x5, x6, x7, x8, rfl⟩
        obtain ⟨t, c, k, n, rfl, ht, hc, ok, hn⟩ := pr v (List.mem_of_getElem? hv)
        refine ⟨t, _, rfl, SqT.of (y _ _ ht), rfl, _, _, rfl, _, _, rfl, rfl, ?_⟩
        obtain ⟨kc, ko⟩ := kN_at (hc.same y) ok
        have nl := nt_len (n := (n : Int)) (by omega) (by omega)
        have tl := text_len ok
        refine asgI (someI (n := n) kc ko hn fun D bs H5 y5 hD5 tb5 => ?_)
        refine asgI (dueI hD5 tb5 (LK_few (kN k) hn) fun H7 y7 => ?_)
        have z := (y.trans y5).trans y7
        refine ⟨c, k, rfl, hc.same z, ok, fun H8 y8 => ?_⟩
        have l1 : (Str.ofString "list " ++ k.text).length ≤ 448 := by rw [app_len, five_l]; omega
        refine ⟨by rw [five_l]; unfold sizeLine; omega, ?_⟩
        have l2 : (Str.ofString "list " ++ k.text ++ Str.ofString " ").length ≤ 449 := by rw [app_len, one_sp]; omega
        refine ⟨by rw [one_sp]; unfold sizeLine; omega, ?_⟩
        refine ⟨log_small (by omega) (by omega), ?_⟩
        refine ⟨Nat.le_trans (Nat.add_le_add l2 nl.2) (by decide), ?_⟩
        refine ⟨_, Str.ofString "list", k, n, rfl, by rw [app_len]; exact Nat.le_trans (Nat.add_le_add l2 nl.2) (by decide), line_b ok (by omega) nosp_list (by decide +kernel), ok, .inr ⟨rfl, hn, fun H9 y9 => ?_⟩⟩
        refine iteB (fun c => absurd c (by simp)) (fun _ => ?_)
        exact ⟨(z.trans y8).trans y9, _, _, _, _, _, _, _, rfl⟩
      · rintro σ H' ⟨y, x2, x3, x4, x5, x6, x7, x8, rfl⟩
        have tt := tail H' x2 x3 x4 x5 x6 x7 x8 ((hh9.same y).mono (by decide))
        exact tt
  rintro H0 x2 x3 x4 x5 x6 x7 x8 hh
  refine ⟨p, L, 8, 1000, rfl, hh, by decide, by decide, by decide, fun c H2 k st2 hc ok => ?_⟩
  refine ⟨p, L, 601, _, rfl, st2.2, by decide, by decide, by decide, fun n0 H3 u0 u1 st3 => ?_⟩
  have hc3 := hc.step st2.2 st3
  refine ⟨by show 3 ≤ sizeLine; decide, fun d hd => ?_⟩
  have y4 := Same.new hd (.lst [V.int n0, .int 600, .int 31])
  have gd : upd H3 d (.lst [V.int n0, .int 600, .int 31]) d = _ := upd_same
  generalize upd H3 d (.lst [V.int n0, .int 600, .int 31]) = H4 at y4 gd
  have hh4 := st3.2.same y4
  refine ⟨p, L, 3, _, rfl, hh4, by decide, by decide, by decide, fun f0 H5 f1 f2 st5 => ?_⟩
  have hc5 := (hc3.same y4).step hh4 st5
  obtain ⟨x, ex, x0, x1⟩ := pick3 (a := n0) (b := 600) (c := 31) f1 f2 (lo := 0) (hi := 600) (by omega) (by decide) (by decide)
  obtain ⟨n, rfl⟩ : ∃ n : Nat, x = (n : Int) := ⟨x.toNat, by omega⟩
  refine ⟨_, .inl (SqL.of (st5.lst (st3.2.ne hd) gd)), .int (n : Int), ex, ?_⟩
  refine ⟨by show 2 ≤ sizeLine; decide, fun t ht => ?_⟩
  have y6 := Same.new ht (.tup [V.ref c, .int (n : Int)])
  refine ⟨t, _, rfl, SqT.of upd_same, rfl, _, _, rfl, _, _, rfl, rfl, ?_⟩
  have hc6 := hc5.same y6
  generalize upd H5 t (.tup [V.ref c, .int (n : Int)]) = H6 at hc6
  have hn : n ≤ 600 := by omega
  have nl := nt_len (n := (n : Int)) (by omega) (by omega)
  have tl := text_len ok
  refine ⟨c, k, rfl, hc6, ok, fun H8 y8 => ?_⟩
  have l1 : (Str.ofString "count " ++ k.text).length ≤ 449 := by rw [app_len, six_c]; omega
  refine ⟨by rw [six_c]; unfold sizeLine; omega, ?_⟩
  have l2 : (Str.ofString "count " ++ k.text ++ Str.ofString " ").length ≤ 450 := by rw [app_len, one_sp]; omega
  refine ⟨by rw [one_sp]; unfold sizeLine; omega, ?_⟩
  refine ⟨log_small (by omega) (by omega), ?_⟩
  refine ⟨Nat.le_trans (Nat.add_le_add l2 nl.2) (by decide), ?_⟩
  refine ⟨_, Str.ofString "count", k, n, rfl, by rw [app_len]; exact Nat.le_trans (Nat.add_le_add l2 nl.2) (by decide), line_b ok (by omega) nosp_count (by decide +kernel), ok, .inl ⟨rfl, hn, fun H9 y9 => ?_⟩⟩
  obtain ⟨kc, ko⟩ := kN_at (hc6.same (y8.trans y9)) ok
  refine ⟨c, n, kN k, rfl, hn, kc, ko, fun T H10 y10 hT => ?_⟩
  refine ⟨_, rfl, _, .inr hT, .int (cf (kN k) n n), by rw [tb_succ, List.map_append]; exact atI_last _ _, ?_⟩
  refine ⟨cf_log ko hn, ?_⟩
  have e : decide (V.str (nt (cf (kN k) n n)) = V.str (Str.ofString (toString (cf (kN k) n n)))) = true := decide_eq_true rfl
  show Q (.bl (decide (V.str (nt (cf (kN k) n n)) = V.str (Str.ofString (toString (cf (kN k) n n)))))) H10
  rw [e]
  exact q H10
end
end K72
set_option Elab.async false
set_option linter.all false
set_option maxRecDepth 100000
set_option maxHeartbeats 4000000
namespace K72
open PySem L2
theorem fnA {P : Program} {w : World} {K : PySem.W.Frag} {mg : Str → Option Value} {base : Heap} {x : Str} {k : Nat} {ps : List Str} {sp : Sp} {f : Addr} {fd : FuncData} (F : FnOk P w K mg base CX0 k f fd ps sp) (b : Binds K fd ps []) (kp : PySem.W.keepIn K (.ref f) = true) (m : mg x = some (.ref f)) : FnA P w K mg base x k ps sp := ⟨⟨f, fd, F, b, kp, m⟩⟩
theorem us1 {α : Type} {p : List α → Prop} (h : ∀ a, p [a]) : ∀ us : List α, us.length = 1 → p us
  | [a], _ => h a
theorem us2 {α : Type} {p : List α → Prop} (h : ∀ a b, p [a, b]) : ∀ us : List α, us.length = 2 → p us
  | [a, b], _ => h a b
theorem us3 {α : Type} {p : List α → Prop} (h : ∀ a b c, p [a, b, c]) : ∀ us : List α, us.length = 3 → p us
  | [a, b, c], _ => h a b c
theorem all_mk {l : PySem.W.OpenLaw} {w : World} {K : PySem.W.Frag} {h : Heap} {mg : Str → Option Value} {fa f1 f2 f3 f4 f5 f6 f7 f8 f9 f10 f11 f12 f13 f14 f15 f16 f17 f18 f19 f20 f21 f22 f23 f24 f25 f26 f27 f28 f29 f30 f31 f32 f33 f34 f35 f36 f37 f38 f39 f40 f41 f42 f43 f44 f45 f46 f47 : Addr} {tk1 tk2 tk3 tk4 tk5 tk6 tk7 tk8 : Tok} (X : K.In h) (G : h.Ns mainGlobals mg) (hfa : mg "law" = some (.ref fa))
    {od1 an1 od2 an2 od3 an3 od4 an4 od5 an5 od6 an6 od7 an7 od8 an8 od9 an9 od10 an10 od11 an11 od12 an12 od13 an13 od14 an14 od15 an15 od16 an16 od17 an17 od18 an18 od19 an19 od20 an20 od21 an21 od22 an22 od23 an23 od24 an24 od25 an25 od26 an26 od27 an27 od28 an28 od29 an29 od30 an30 od31 an31 od32 an32 od33 an33 od34 an34 od35 an35 od36 an36 od37 an37 od38 an38 od39 an39 od40 an40 od41 an41 od42 an42 od43 an43 od44 an44 od45 an45 od46 an46 od47 an47 : Option Addr} {sl1 sl2 sl3 sl4 sl5 sl6 sl7 sl8 sl9 sl10 sl11 sl12 sl13 sl14 sl15 sl16 sl17 sl18 sl19 sl20 sl21 sl22 sl23 sl24 sl25 sl26 sl27 sl28 sl29 sl30 sl31 sl32 sl33 sl34 sl35 sl36 sl37 sl38 sl39 sl40 sl41 sl42 sl43 sl44 sl45 sl46 sl47 : Array (Option Value)} {oc1 kV1 dc1 pm1 cd1 ct1 oc2 kV2 dc2 pm2 cd2 ct2 oc3 kV3 dc3 pm3 cd3 ct3 oc4 kV4 dc4 pm4 cd4 ct4 oc5 kV5 dc5 pm5 cd5 ct5 oc6 kV6 dc6 pm6 cd6 ct6 oc7 kV7 dc7 pm7 cd7 ct7 oc8 kV8 dc8 pm8 cd8 ct8 oc9 kV9 dc9 pm9 cd9 ct9 oc10 kV10 dc10 pm10 cd10 ct10 oc11 kV11 dc11 pm11 cd11 ct11 oc12 kV12 dc12 pm12 cd12 ct12 oc13 kV13 dc13 pm13 cd13 ct13 oc14 kV14 dc14 pm14 cd14 ct14 oc15 kV15 dc15 pm15 cd15 ct15 oc16 kV16 dc16 pm16 cd16 ct16 oc17 kV17 dc17 pm17 cd17 ct17 oc18 kV18 dc18 pm18 cd18 ct18 oc19 kV19 dc19 pm19 cd19 ct19 oc20 kV20 dc20 pm20 cd20 ct20 oc21 kV21 dc21 pm21 cd21 ct21 oc22 kV22 dc22 pm22 cd22 ct22 oc23 kV23 dc23 pm23 cd23 ct23 oc24 kV24 dc24 pm24 cd24 ct24 oc25 kV25 dc25 pm25 cd25 ct25 oc26 kV26 dc26 pm26 cd26 ct26 oc27 kV27 dc27 pm27 cd27 ct27 oc28 kV28 dc28 pm28 cd28 ct28 oc29 kV29 dc29 pm29 cd29 ct29 oc30 kV30 dc30 pm30 cd30 ct30 oc31 kV31 dc31 pm31 cd31 ct31 oc32 kV32 dc32 pm32 cd32 ct32 oc33 kV33 dc33 pm33 cd33 ct33 oc34 kV34 dc34 pm34 cd34 ct34 oc35 kV35 dc35 pm35 cd35 ct35 oc36 kV36 dc36 pm36 cd36 ct36 oc37 kV37 dc37 pm37 cd37 ct37 oc38 kV38 dc38 pm38 cd38 ct38 oc39 kV39 dc39 pm39 cd39 ct39 oc40 kV40 dc40 pm40 cd40 ct40 oc41 kV41 dc41 pm41 cd41 ct41 oc42 kV42 dc42 pm42 cd42 ct42 oc43 kV43 dc43 pm43 cd43 ct43 oc44 kV44 dc44 pm44 cd44 ct44 oc45 kV45 dc45 pm45 cd45 ct45 oc46 kV46 dc46 pm46 cd46 ct46 oc47 kV47 dc47 pm47 cd47 ct47 : Value}
    (a1 : PySem.W.nsIn K mainGlobals "begun" = some (some (.ref f1))) (l1 : K.lookup f1 = some ⟨oc1, od1, .func (PySem.W.fnOf "begun" "begun" (defArgs (top 30)) (defBody (top 30)) (defScope (top 30)) .none kV1 dc1 pm1 an1 cd1 ct1), sl1⟩) (c1 : PySem.W.codeIn K cd1 "begun" = true) (k1 : PySem.W.keepIn K (.ref f1) = true)
    (a2 : PySem.W.nsIn K mainGlobals "put_on" = some (some (.ref f2))) (l2 : K.lookup f2 = some ⟨oc2, od2, .func (PySem.W.fnOf "put_on" "put_on" (defArgs (top 31)) (defBody (top 31)) (defScope (top 31)) .none kV2 dc2 pm2 an2 cd2 ct2), sl2⟩) (c2 : PySem.W.codeIn K cd2 "put_on" = true) (k2 : PySem.W.keepIn K (.ref f2) = true)
    (a3 : PySem.W.nsIn K mainGlobals "taken_off" = some (some (.ref f3))) (l3 : K.lookup f3 = some ⟨oc3, od3, .func (PySem.W.fnOf "taken_off" "taken_off" (defArgs (top 32)) (defBody (top 32)) (defScope (top 32)) .none kV3 dc3 pm3 an3 cd3 ct3), sl3⟩) (c3 : PySem.W.codeIn K cd3 "taken_off" = true) (k3 : PySem.W.keepIn K (.ref f3) = true)
    (a4 : PySem.W.nsIn K mainGlobals "of_sizes" = some (some (.ref f4))) (l4 : K.lookup f4 = some ⟨oc4, od4, .func (PySem.W.fnOf "of_sizes" "of_sizes" (defArgs (top 34)) (defBody (top 34)) (defScope (top 34)) .none kV4 dc4 pm4 an4 cd4 ct4), sl4⟩) (c4 : PySem.W.codeIn K cd4 "of_sizes" = true) (k4 : PySem.W.keepIn K (.ref f4) = true)
    (a5 : PySem.W.nsIn K mainGlobals "of_sizes_below" = some (some (.ref f5))) (l5 : K.lookup f5 = some ⟨oc5, od5, .func (PySem.W.fnOf "of_sizes_below" "of_sizes_below" (defArgs (top 35)) (defBody (top 35)) (defScope (top 35)) .none kV5 dc5 pm5 an5 cd5 ct5), sl5⟩) (c5 : PySem.W.codeIn K cd5 "of_sizes_below" = true) (k5 : PySem.W.keepIn K (.ref f5) = true)
    (a6 : PySem.W.nsIn K mainGlobals "in_box" = some (some (.ref f6))) (l6 : K.lookup f6 = some ⟨oc6, od6, .func (PySem.W.fnOf "in_box" "in_box" (defArgs (top 36)) (defBody (top 36)) (defScope (top 36)) .none kV6 dc6 pm6 an6 cd6 ct6), sl6⟩) (c6 : PySem.W.codeIn K cd6 "in_box" = true) (k6 : PySem.W.keepIn K (.ref f6) = true)
    (a7 : PySem.W.nsIn K mainGlobals "falling_by" = some (some (.ref f7))) (l7 : K.lookup f7 = some ⟨oc7, od7, .func (PySem.W.fnOf "falling_by" "falling_by" (defArgs (top 37)) (defBody (top 37)) (defScope (top 37)) .none kV7 dc7 pm7 an7 cd7 ct7), sl7⟩) (c7 : PySem.W.codeIn K cd7 "falling_by" = true) (k7 : PySem.W.keepIn K (.ref f7) = true)
    (a8 : PySem.W.nsIn K mainGlobals "counted" = some (some (.ref f8))) (l8 : K.lookup f8 = some ⟨oc8, od8, .func (PySem.W.fnOf "counted" "counted" (defArgs (top 38)) (defBody (top 38)) (defScope (top 38)) .none kV8 dc8 pm8 an8 cd8 ct8), sl8⟩) (c8 : PySem.W.codeIn K cd8 "counted" = true) (k8 : PySem.W.keepIn K (.ref f8) = true)
    (a9 : PySem.W.nsIn K mainGlobals "counts" = some (some (.ref f9))) (l9 : K.lookup f9 = some ⟨oc9, od9, .func (PySem.W.fnOf "counts" "counts" (defArgs (top 39)) (defBody (top 39)) (defScope (top 39)) .none kV9 dc9 pm9 an9 cd9 ct9), sl9⟩) (c9 : PySem.W.codeIn K cd9 "counts" = true) (k9 : PySem.W.keepIn K (.ref f9) = true)
    (a10 : PySem.W.nsIn K mainGlobals "sizes" = some (some (.ref f10))) (l10 : K.lookup f10 = some ⟨oc10, od10, .func (PySem.W.fnOf "sizes" "sizes" (defArgs (top 47)) (defBody (top 47)) (defScope (top 47)) .none kV10 dc10 pm10 an10 cd10 ct10), sl10⟩) (c10 : PySem.W.codeIn K cd10 "sizes" = true) (k10 : PySem.W.keepIn K (.ref f10) = true)
    (a11 : PySem.W.nsIn K mainGlobals "turned" = some (some (.ref f11))) (l11 : K.lookup f11 = some ⟨oc11, od11, .func (PySem.W.fnOf "turned" "turned" (defArgs (top 46)) (defBody (top 46)) (defScope (top 46)) .none kV11 dc11 pm11 an11 cd11 ct11), sl11⟩) (c11 : PySem.W.codeIn K cd11 "turned" = true) (k11 : PySem.W.keepIn K (.ref f11) = true)
    (a12 : PySem.W.nsIn K mainGlobals "partings_below" = some (some (.ref f12))) (l12 : K.lookup f12 = some ⟨oc12, od12, .func (PySem.W.fnOf "partings_below" "partings_below" (defArgs (top 41)) (defBody (top 41)) (defScope (top 41)) .none kV12 dc12 pm12 an12 cd12 ct12), sl12⟩) (c12 : PySem.W.codeIn K cd12 "partings_below" = true) (k12 : PySem.W.keepIn K (.ref f12) = true)
    (a13 : PySem.W.nsIn K mainGlobals "partings" = some (some (.ref f13))) (l13 : K.lookup f13 = some ⟨oc13, od13, .func (PySem.W.fnOf "partings" "partings" (defArgs (top 42)) (defBody (top 42)) (defScope (top 42)) .none kV13 dc13 pm13 an13 cd13 ct13), sl13⟩) (c13 : PySem.W.codeIn K cd13 "partings" = true) (k13 : PySem.W.keepIn K (.ref f13) = true)
    (a14 : PySem.W.nsIn K mainGlobals "has_none_above" = some (some (.ref f14))) (l14 : K.lookup f14 = some ⟨oc14, od14, .func (PySem.W.fnOf "has_none_above" "has_none_above" (defArgs (top 57)) (defBody (top 57)) (defScope (top 57)) .none kV14 dc14 pm14 an14 cd14 ct14), sl14⟩) (c14 : PySem.W.codeIn K cd14 "has_none_above" = true) (k14 : PySem.W.keepIn K (.ref f14) = true)
    (a15 : PySem.W.nsIn K mainGlobals "falls_by" = some (some (.ref f15))) (l15 : K.lookup f15 = some ⟨oc15, od15, .func (PySem.W.fnOf "falls_by" "falls_by" (defArgs (top 58)) (defBody (top 58)) (defScope (top 58)) .none kV15 dc15 pm15 an15 cd15 ct15), sl15⟩) (c15 : PySem.W.codeIn K cd15 "falls_by" = true) (k15 : PySem.W.keepIn K (.ref f15) = true)
    (a16 : PySem.W.nsIn K mainGlobals "has_none_often" = some (some (.ref f16))) (l16 : K.lookup f16 = some ⟨oc16, od16, .func (PySem.W.fnOf "has_none_often" "has_none_often" (defArgs (top 59)) (defBody (top 59)) (defScope (top 59)) .none kV16 dc16 pm16 an16 cd16 ct16), sl16⟩) (c16 : PySem.W.codeIn K cd16 "has_none_often" = true) (k16 : PySem.W.keepIn K (.ref f16) = true)
    (a17 : PySem.W.nsIn K mainGlobals "leaves_only" = some (some (.ref f17))) (l17 : K.lookup f17 = some ⟨oc17, od17, .func (PySem.W.fnOf "leaves_only" "leaves_only" (defArgs (top 60)) (defBody (top 60)) (defScope (top 60)) .none kV17 dc17 pm17 an17 cd17 ct17), sl17⟩) (c17 : PySem.W.codeIn K cd17 "leaves_only" = true) (k17 : PySem.W.keepIn K (.ref f17) = true)
    (a18 : PySem.W.nsIn K mainGlobals "is_of" = some (some (.ref f18))) (l18 : K.lookup f18 = some ⟨oc18, od18, .func (PySem.W.fnOf "is_of" "is_of" (defArgs (top 61)) (defBody (top 61)) (defScope (top 61)) .none kV18 dc18 pm18 an18 cd18 ct18), sl18⟩) (c18 : PySem.W.codeIn K cd18 "is_of" = true) (k18 : PySem.W.keepIn K (.ref f18) = true)
    (a19 : PySem.W.nsIn K mainGlobals "listed" = some (some (.ref f19))) (l19 : K.lookup f19 = some ⟨oc19, od19, .func (PySem.W.fnOf "listed" "listed" (defArgs (top 62)) (defBody (top 62)) (defScope (top 62)) .none kV19 dc19 pm19 an19 cd19 ct19), sl19⟩) (c19 : PySem.W.codeIn K cd19 "listed" = true) (k19 : PySem.W.keepIn K (.ref f19) = true)
    (a20 : PySem.W.nsIn K mainGlobals "is_whole" = some (some (.ref f20))) (l20 : K.lookup f20 = some ⟨oc20, od20, .func (PySem.W.fnOf "is_whole" "is_whole" (defArgs (top 9)) (defBody (top 9)) (defScope (top 9)) .none kV20 dc20 pm20 an20 cd20 ct20), sl20⟩) (c20 : PySem.W.codeIn K cd20 "is_whole" = true) (k20 : PySem.W.keepIn K (.ref f20) = true)
    (a21 : PySem.W.nsIn K mainGlobals "is_within" = some (some (.ref f21))) (l21 : K.lookup f21 = some ⟨oc21, od21, .func (PySem.W.fnOf "is_within" "is_within" (defArgs (top 10)) (defBody (top 10)) (defScope (top 10)) .none kV21 dc21 pm21 an21 cd21 ct21), sl21⟩) (c21 : PySem.W.codeIn K cd21 "is_within" = true) (k21 : PySem.W.keepIn K (.ref f21) = true)
    (a22 : PySem.W.nsIn K mainGlobals "is_size" = some (some (.ref f22))) (l22 : K.lookup f22 = some ⟨oc22, od22, .func (PySem.W.fnOf "is_size" "is_size" (defArgs (top 52)) (defBody (top 52)) (defScope (top 52)) .none kV22 dc22 pm22 an22 cd22 ct22), sl22⟩) (c22 : PySem.W.codeIn K cd22 "is_size" = true) (k22 : PySem.W.keepIn K (.ref f22) = true)
    (a23 : PySem.W.nsIn K mainGlobals "is_divisor" = some (some (.ref f23))) (l23 : K.lookup f23 = some ⟨oc23, od23, .func (PySem.W.fnOf "is_divisor" "is_divisor" (defArgs (top 53)) (defBody (top 53)) (defScope (top 53)) .none kV23 dc23 pm23 an23 cd23 ct23), sl23⟩) (c23 : PySem.W.codeIn K cd23 "is_divisor" = true) (k23 : PySem.W.keepIn K (.ref f23) = true)
    (a24 : PySem.W.nsIn K mainGlobals "are_rests" = some (some (.ref f24))) (l24 : K.lookup f24 = some ⟨oc24, od24, .func (PySem.W.fnOf "are_rests" "are_rests" (defArgs (top 54)) (defBody (top 54)) (defScope (top 54)) .none kV24 dc24 pm24 an24 cd24 ct24), sl24⟩) (c24 : PySem.W.codeIn K cd24 "are_rests" = true) (k24 : PySem.W.keepIn K (.ref f24) = true)
    (a25 : PySem.W.nsIn K mainGlobals "fits_word" = some (some (.ref f25))) (l25 : K.lookup f25 = some ⟨oc25, od25, .func (PySem.W.fnOf "fits_word" "fits_word" (defArgs (top 55)) (defBody (top 55)) (defScope (top 55)) .none kV25 dc25 pm25 an25 cd25 ct25), sl25⟩) (c25 : PySem.W.codeIn K cd25 "fits_word" = true) (k25 : PySem.W.keepIn K (.ref f25) = true)
    (a26 : PySem.W.nsIn K mainGlobals "is_kind" = some (some (.ref f26))) (l26 : K.lookup f26 = some ⟨oc26, od26, .func (PySem.W.fnOf "is_kind" "is_kind" (defArgs (top 56)) (defBody (top 56)) (defScope (top 56)) .none kV26 dc26 pm26 an26 cd26 ct26), sl26⟩) (c26 : PySem.W.codeIn K cd26 "is_kind" = true) (k26 : PySem.W.keepIn K (.ref f26) = true)
    (a27 : PySem.W.nsIn K mainGlobals "is_text" = some (some (.ref f27))) (l27 : K.lookup f27 = some ⟨oc27, od27, .func (PySem.W.fnOf "is_text" "is_text" (defArgs (top 86)) (defBody (top 86)) (defScope (top 86)) .none kV27 dc27 pm27 an27 cd27 ct27), sl27⟩) (c27 : PySem.W.codeIn K cd27 "is_text" = true) (k27 : PySem.W.keepIn K (.ref f27) = true)
    (a28 : PySem.W.nsIn K mainGlobals "is_number" = some (some (.ref f28))) (l28 : K.lookup f28 = some ⟨oc28, od28, .func (PySem.W.fnOf "is_number" "is_number" (defArgs (top 87)) (defBody (top 87)) (defScope (top 87)) .none kV28 dc28 pm28 an28 cd28 ct28), sl28⟩) (c28 : PySem.W.codeIn K cd28 "is_number" = true) (k28 : PySem.W.keepIn K (.ref f28) = true)
    (a29 : PySem.W.nsIn K mainGlobals "numbers_read" = some (some (.ref f29))) (l29 : K.lookup f29 = some ⟨oc29, od29, .func (PySem.W.fnOf "numbers_read" "numbers_read" (defArgs (top 88)) (defBody (top 88)) (defScope (top 88)) .none kV29 dc29 pm29 an29 cd29 ct29), sl29⟩) (c29 : PySem.W.codeIn K cd29 "numbers_read" = true) (k29 : PySem.W.keepIn K (.ref f29) = true)
    (a30 : PySem.W.nsIn K mainGlobals "kind_of_words" = some (some (.ref f30))) (l30 : K.lookup f30 = some ⟨oc30, od30, .func (PySem.W.fnOf "kind_of_words" "kind_of_words" (defArgs (top 90)) (defBody (top 90)) (defScope (top 90)) .none kV30 dc30 pm30 an30 cd30 ct30), sl30⟩) (c30 : PySem.W.codeIn K cd30 "kind_of_words" = true) (k30 : PySem.W.keepIn K (.ref f30) = true)
    (a31 : PySem.W.nsIn K mainGlobals "read_kind" = some (some (.ref f31))) (l31 : K.lookup f31 = some ⟨oc31, od31, .func (PySem.W.fnOf "read_kind" "read_kind" (defArgs (top 91)) (defBody (top 91)) (defScope (top 91)) .none kV31 dc31 pm31 an31 cd31 ct31), sl31⟩) (c31 : PySem.W.codeIn K cd31 "read_kind" = true) (k31 : PySem.W.keepIn K (.ref f31) = true)
    (a32 : PySem.W.nsIn K mainGlobals "show_parting" = some (some (.ref f32))) (l32 : K.lookup f32 = some ⟨oc32, od32, .func (PySem.W.fnOf "show_parting" "show_parting" (defArgs (top 93)) (defBody (top 93)) (defScope (top 93)) .none kV32 dc32 pm32 an32 cd32 ct32), sl32⟩) (c32 : PySem.W.codeIn K cd32 "show_parting" = true) (k32 : PySem.W.keepIn K (.ref f32) = true)
    (a33 : PySem.W.nsIn K mainGlobals "number_in" = some (some (.ref f33))) (l33 : K.lookup f33 = some ⟨oc33, od33, .func (PySem.W.fnOf "number_in" "number_in" (defArgs (top 125)) (defBody (top 125)) (defScope (top 125)) .none kV33 dc33 pm33 an33 cd33 ct33), sl33⟩) (c33 : PySem.W.codeIn K cd33 "number_in" = true) (k33 : PySem.W.keepIn K (.ref f33) = true)
    (a34 : PySem.W.nsIn K mainGlobals "kind_in" = some (some (.ref f34))) (l34 : K.lookup f34 = some ⟨oc34, od34, .func (PySem.W.fnOf "kind_in" "kind_in" (defArgs (top 127)) (defBody (top 127)) (defScope (top 127)) .none kV34 dc34 pm34 an34 cd34 ct34), sl34⟩) (c34 : PySem.W.codeIn K cd34 "kind_in" = true) (k34 : PySem.W.keepIn K (.ref f34) = true)
    (a35 : PySem.W.nsIn K mainGlobals "kind_ahead" = some (some (.ref f35))) (l35 : K.lookup f35 = some ⟨oc35, od35, .func (PySem.W.fnOf "kind_ahead" "kind_ahead" (defArgs (top 128)) (defBody (top 128)) (defScope (top 128)) .none kV35 dc35 pm35 an35 cd35 ct35), sl35⟩) (c35 : PySem.W.codeIn K cd35 "kind_ahead" = true) (k35 : PySem.W.keepIn K (.ref f35) = true)
    (a36 : PySem.W.nsIn K mainGlobals "parted_by_blanks" = some (some (.ref f36))) (l36 : K.lookup f36 = some ⟨oc36, od36, .func (PySem.W.fnOf "parted_by_blanks" "parted_by_blanks" (defArgs (top 135)) (defBody (top 135)) (defScope (top 135)) .none kV36 dc36 pm36 an36 cd36 ct36), sl36⟩) (c36 : PySem.W.codeIn K cd36 "parted_by_blanks" = true) (k36 : PySem.W.keepIn K (.ref f36) = true)
    (a37 : PySem.W.nsIn K mainGlobals "answer_count" = some (some (.ref f37))) (l37 : K.lookup f37 = some ⟨oc37, od37, .func (PySem.W.fnOf "answer_count" "answer_count" (defArgs (top 137)) (defBody (top 137)) (defScope (top 137)) .none kV37 dc37 pm37 an37 cd37 ct37), sl37⟩) (c37 : PySem.W.codeIn K cd37 "answer_count" = true) (k37 : PySem.W.keepIn K (.ref f37) = true)
    (a38 : PySem.W.nsIn K mainGlobals "answer_list" = some (some (.ref f38))) (l38 : K.lookup f38 = some ⟨oc38, od38, .func (PySem.W.fnOf "answer_list" "answer_list" (defArgs (top 138)) (defBody (top 138)) (defScope (top 138)) .none kV38 dc38 pm38 an38 cd38 ct38), sl38⟩) (c38 : PySem.W.codeIn K cd38 "answer_list" = true) (k38 : PySem.W.keepIn K (.ref f38) = true)
    (a39 : PySem.W.nsIn K mainGlobals "answer" = some (some (.ref f39))) (l39 : K.lookup f39 = some ⟨oc39, od39, .func (PySem.W.fnOf "answer" "answer" (defArgs (top 155)) (defBody (top 155)) (defScope (top 155)) .none kV39 dc39 pm39 an39 cd39 ct39), sl39⟩) (c39 : PySem.W.codeIn K cd39 "answer" = true) (k39 : PySem.W.keepIn K (.ref f39) = true)
    (a40 : PySem.W.nsIn K mainGlobals "_law_spool" = some (some (.ref f40))) (l40 : K.lookup f40 = some ⟨oc40, od40, .func (PySem.W.fnOf "_law_spool" "_law_spool" (defArgs (top 157)) (defBody (top 157)) (defScope (top 157)) .none kV40 dc40 pm40 an40 cd40 ct40), sl40⟩) (c40 : PySem.W.codeIn K cd40 "_law_spool" = true) (k40 : PySem.W.keepIn K (.ref f40) = true)
    (a41 : PySem.W.nsIn K mainGlobals "_law_take" = some (some (.ref f41))) (l41 : K.lookup f41 = some ⟨oc41, od41, .func (PySem.W.fnOf "_law_take" "_law_take" (defArgs (top 158)) (defBody (top 158)) (defScope (top 158)) .none kV41 dc41 pm41 an41 cd41 ct41), sl41⟩) (c41 : PySem.W.codeIn K cd41 "_law_take" = true) (k41 : PySem.W.keepIn K (.ref f41) = true)
    (a42 : PySem.W.nsIn K mainGlobals "_law_kind" = some (some (.ref f42))) (l42 : K.lookup f42 = some ⟨oc42, od42, .func (PySem.W.fnOf "_law_kind" "_law_kind" (defArgs (top 159)) (defBody (top 159)) (defScope (top 159)) .none kV42 dc42 pm42 an42 cd42 ct42), sl42⟩) (c42 : PySem.W.codeIn K cd42 "_law_kind" = true) (k42 : PySem.W.keepIn K (.ref f42) = true)
    (a43 : PySem.W.nsIn K mainGlobals "_law_is_of" = some (some (.ref f43))) (l43 : K.lookup f43 = some ⟨oc43, od43, .func (PySem.W.fnOf "_law_is_of" "_law_is_of" (defArgs (top 160)) (defBody (top 160)) (defScope (top 160)) .none kV43 dc43 pm43 an43 cd43 ct43), sl43⟩) (c43 : PySem.W.codeIn K cd43 "_law_is_of" = true) (k43 : PySem.W.keepIn K (.ref f43) = true)
    (a44 : PySem.W.nsIn K mainGlobals "_law_list" = some (some (.ref f44))) (l44 : K.lookup f44 = some ⟨oc44, od44, .func (PySem.W.fnOf "_law_list" "_law_list" (defArgs (top 161)) (defBody (top 161)) (defScope (top 161)) .none kV44 dc44 pm44 an44 cd44 ct44), sl44⟩) (c44 : PySem.W.codeIn K cd44 "_law_list" = true) (k44 : PySem.W.keepIn K (.ref f44) = true)
    (a45 : PySem.W.nsIn K mainGlobals "_law_text" = some (some (.ref f45))) (l45 : K.lookup f45 = some ⟨oc45, od45, .func (PySem.W.fnOf "_law_text" "_law_text" (defArgs (top 162)) (defBody (top 162)) (defScope (top 162)) .none kV45 dc45 pm45 an45 cd45 ct45), sl45⟩) (c45 : PySem.W.codeIn K cd45 "_law_text" = true) (k45 : PySem.W.keepIn K (.ref f45) = true)
    (a46 : PySem.W.nsIn K mainGlobals "_law_kind_text" = some (some (.ref f46))) (l46 : K.lookup f46 = some ⟨oc46, od46, .func (PySem.W.fnOf "_law_kind_text" "_law_kind_text" (defArgs (top 163)) (defBody (top 163)) (defScope (top 163)) .none kV46 dc46 pm46 an46 cd46 ct46), sl46⟩) (c46 : PySem.W.codeIn K cd46 "_law_kind_text" = true) (k46 : PySem.W.keepIn K (.ref f46) = true)
    (a47 : PySem.W.nsIn K mainGlobals "law" = some (some (.ref f47))) (l47 : K.lookup f47 = some ⟨oc47, od47, .func (PySem.W.fnOf "law" "law" (defArgs (top 164)) (defBody (top 164)) (defScope (top 164)) .none kV47 dc47 pm47 an47 cd47 ct47), sl47⟩) (c47 : PySem.W.codeIn K cd47 "law" = true) (k47 : PySem.W.keepIn K (.ref f47) = true)
    (y1 : PySem.W.nsIn K mainGlobals "MOST_SIZE" = some (some (.int 600 tk1))) (y2 : PySem.W.nsIn K mainGlobals "LEAST_DIVISOR_kinds" = some (some (.int 2 tk2))) (y3 : PySem.W.nsIn K mainGlobals "MOST_DIVISOR_kinds" = some (some (.int 60 tk3))) (y4 : PySem.W.nsIn K mainGlobals "MOST_SIGNS" = some (some (.int 2000 tk4))) (y5 : PySem.W.nsIn K mainGlobals "MOST_FIGURES" = some (some (.int 6 tk5))) (y6 : PySem.W.nsIn K mainGlobals "FIGURES" = some (some (.str "0123456789" tk6))) (y7 : PySem.W.nsIn K mainGlobals "MOST_COUNTED" = some (some (.int 600 tk7))) (y8 : PySem.W.nsIn K mainGlobals "MOST_LISTED" = some (some (.int 30 tk8)))
    {rd : Addr} (yd : PySem.W.nsIn K mainGlobals "DEEDS" = some (some (.ref rd))) (yk : deedK K rd ["count", "list", "rank", "mark", "shares", "uneven", "claim", "core", "turn", "share", "place", "at", "merge", "split", "pair", "turned", "draw"] = true) (yh : hashF K rd = (["count", "list", "rank", "mark", "shares", "uneven", "claim", "core", "turn", "share", "place", "at", "merge", "split", "pair", "turned", "draw"] : List Str).map (PySem.hashStr w)) (yv1 : deedAt K rd "count" f37 = true) (yv2 : deedAt K rd "list" f38 = true)
    (z1 : PySem.W.nsIn K mainGlobals "len" = some none) (z2 : PySem.W.nsIn K mainGlobals "list" = some none) (z3 : PySem.W.nsIn K mainGlobals "range" = some none) (z4 : PySem.W.nsIn K mainGlobals "min" = some none) (z5 : PySem.W.nsIn K mainGlobals "tuple" = some none) (z6 : PySem.W.nsIn K mainGlobals "all" = some none) (z7 : PySem.W.nsIn K mainGlobals "bool" = some none) (z8 : PySem.W.nsIn K mainGlobals "int" = some none) (z9 : PySem.W.nsIn K mainGlobals "isinstance" = some none) (z10 : PySem.W.nsIn K mainGlobals "str" = some none) (z11 : PySem.W.nsIn K mainGlobals "abs" = some none) (z12 : PySem.W.nsIn K mainGlobals "sorted" = some none) :
    ∃ fd : FuncData, (∀ (s : Shared) (v : Value), BindsTo s fd ⟨[v], []⟩ [("_law_script", v)]) ∧ ∀ base : Heap, K.In base → base.Ns mainGlobals mg → FnOk l.prog w K mg base CX0 36 fa fd ["_law_script"] (sp_law K) := by
  have e := hfa.symm.trans (PySem.W.mg_of X G a47)
  cases e
  have F1 := fun_mk (st := top 30) l1 c1 k1
  have b1 := F1.binds (ps := ["most"]) fun _ _ _ _ _ _ => us1 fun _ => rfl
  have F2 := fun_mk (st := top 31) l2 c2 k2
  have b2 := F2.binds (ps := ["row", "size"]) fun _ _ _ _ _ _ => us2 fun _ _ => rfl
  have F3 := fun_mk (st := top 32) l3 c3 k3
  have b3 := F3.binds (ps := ["row", "size"]) fun _ _ _ _ _ _ => us2 fun _ _ => rfl
  have F4 := fun_mk (st := top 34) l4 c4 k4
  have b4 := F4.binds (ps := ["some", "most"]) fun _ _ _ _ _ _ => us2 fun _ _ => rfl
  have F5 := fun_mk (st := top 35) l5 c5 k5
  have b5 := F5.binds (ps := ["some", "m", "most"]) fun _ _ _ _ _ _ => us3 fun _ _ _ => rfl
  have F6 := fun_mk (st := top 36) l6 c6 k6
  have b6 := F6.binds (ps := ["k", "l", "most"]) fun _ _ _ _ _ _ => us3 fun _ _ _ => rfl
  have F7 := fun_mk (st := top 37) l7 c7 k7
  have b7 := F7.binds (ps := ["d", "most"]) fun _ _ _ _ _ _ => us2 fun _ _ => rfl
  have F8 := fun_mk (st := top 38) l8 c8 k8
  have b8 := F8.binds (ps := ["kind", "most"]) fun _ _ _ _ _ _ => us2 fun _ _ => rfl
  have F9 := fun_mk (st := top 39) l9 c9 k9
  have b9 := F9.binds (ps := ["kind", "most"]) fun _ _ _ _ _ _ => us2 fun _ _ => rfl
  have F10 := fun_mk (st := top 47) l10 c10 k10
  have b10 := F10.binds (ps := ["parting"]) fun _ _ _ _ _ _ => us1 fun _ => rfl
  have F11 := fun_mk (st := top 46) l11 c11 k11
  have b11 := F11.binds (ps := ["parting"]) fun _ _ _ _ _ _ => us1 fun _ => rfl
  have F12 := fun_mk (st := top 41) l12 c12 k12
  have b12 := F12.binds (ps := ["n", "most"]) fun _ _ _ _ _ _ => us2 fun _ _ => rfl
  have F13 := fun_mk (st := top 42) l13 c13 k13
  have b13 := F13.binds (ps := ["n"]) fun _ _ _ _ _ _ => us1 fun _ => rfl
  have F14 := fun_mk (st := top 57) l14 c14 k14
  have b14 := F14.binds (ps := ["parting", "k"]) fun _ _ _ _ _ _ => us2 fun _ _ => rfl
  have F15 := fun_mk (st := top 58) l15 c15 k15
  have b15 := F15.binds (ps := ["parting", "d"]) fun _ _ _ _ _ _ => us2 fun _ _ => rfl
  have F16 := fun_mk (st := top 59) l16 c16 k16
  have b16 := F16.binds (ps := ["parting", "m"]) fun _ _ _ _ _ _ => us2 fun _ _ => rfl
  have F17 := fun_mk (st := top 60) l17 c17 k17
  have b17 := F17.binds (ps := ["parting", "m", "rests"]) fun _ _ _ _ _ _ => us3 fun _ _ _ => rfl
  have F18 := fun_mk (st := top 61) l18 c18 k18
  have b18 := F18.binds (ps := ["kind", "parting"]) fun _ _ _ _ _ _ => us2 fun _ _ => rfl
  have F19 := fun_mk (st := top 62) l19 c19 k19
  have b19 := F19.binds (ps := ["kind", "n"]) fun _ _ _ _ _ _ => us2 fun _ _ => rfl
  have F20 := fun_mk (st := top 9) l20 c20 k20
  have b20 := F20.binds (ps := ["thing"]) fun _ _ _ _ _ _ => us1 fun _ => rfl
  have F21 := fun_mk (st := top 10) l21 c21 k21
  have b21 := F21.binds (ps := ["thing", "least", "most"]) fun _ _ _ _ _ _ => us3 fun _ _ _ => rfl
  have F22 := fun_mk (st := top 52) l22 c22 k22
  have b22 := F22.binds (ps := ["thing"]) fun _ _ _ _ _ _ => us1 fun _ => rfl
  have F23 := fun_mk (st := top 53) l23 c23 k23
  have b23 := F23.binds (ps := ["thing"]) fun _ _ _ _ _ _ => us1 fun _ => rfl
  have F24 := fun_mk (st := top 54) l24 c24 k24
  have b24 := F24.binds (ps := ["thing", "m"]) fun _ _ _ _ _ _ => us2 fun _ _ => rfl
  have F25 := fun_mk (st := top 55) l25 c25 k25
  have b25 := F25.binds (ps := ["word", "given"]) fun _ _ _ _ _ _ => us2 fun _ _ => rfl
  have F26 := fun_mk (st := top 56) l26 c26 k26
  have b26 := F26.binds (ps := ["thing"]) fun _ _ _ _ _ _ => us1 fun _ => rfl
  have F27 := fun_mk (st := top 86) l27 c27 k27
  have b27 := F27.binds (ps := ["thing"]) fun _ _ _ _ _ _ => us1 fun _ => rfl
  have F28 := fun_mk (st := top 87) l28 c28 k28
  have b28 := F28.binds (ps := ["text"]) fun _ _ _ _ _ _ => us1 fun _ => rfl
  have F29 := fun_mk (st := top 88) l29 c29 k29
  have b29 := F29.binds (ps := ["words"]) fun _ _ _ _ _ _ => us1 fun _ => rfl
  have F30 := fun_mk (st := top 90) l30 c30 k30
  have b30 := F30.binds (ps := ["words"]) fun _ _ _ _ _ _ => us1 fun _ => rfl
  have F31 := fun_mk (st := top 91) l31 c31 k31
  have b31 := F31.binds (ps := ["thing"]) fun _ _ _ _ _ _ => us1 fun _ => rfl
  have F32 := fun_mk (st := top 93) l32 c32 k32
  have b32 := F32.binds (ps := ["parting"]) fun _ _ _ _ _ _ => us1 fun _ => rfl
  have F33 := fun_mk (st := top 125) l33 c33 k33
  have b33 := F33.binds (ps := ["word", "least", "most"]) fun _ _ _ _ _ _ => us3 fun _ _ _ => rfl
  have F34 := fun_mk (st := top 127) l34 c34 k34
  have b34 := F34.binds (ps := ["words"]) fun _ _ _ _ _ _ => us1 fun _ => rfl
  have F35 := fun_mk (st := top 128) l35 c35 k35
  have b35 := F35.binds (ps := ["words", "many"]) fun _ _ _ _ _ _ => us2 fun _ _ => rfl
  have F36 := fun_mk (st := top 135) l36 c36 k36
  have b36 := F36.binds (ps := ["partings"]) fun _ _ _ _ _ _ => us1 fun _ => rfl
  have F37 := fun_mk (st := top 137) l37 c37 k37
  have b37 := F37.binds (ps := ["words"]) fun _ _ _ _ _ _ => us1 fun _ => rfl
  have F38 := fun_mk (st := top 138) l38 c38 k38
  have b38 := F38.binds (ps := ["words"]) fun _ _ _ _ _ _ => us1 fun _ => rfl
  have F39 := fun_mk (st := top 155) l39 c39 k39
  have b39 := F39.binds (ps := ["line"]) fun _ _ _ _ _ _ => us1 fun _ => rfl
  have F40 := fun_mk (st := top 157) l40 c40 k40
  have b40 := F40.binds (ps := ["_law_script"]) fun _ _ _ _ _ _ => us1 fun _ => rfl
  have F41 := fun_mk (st := top 158) l41 c41 k41
  have b41 := F41.binds (ps := ["_law_spool_here", "_law_many"]) fun _ _ _ _ _ _ => us2 fun _ _ => rfl
  have F42 := fun_mk (st := top 159) l42 c42 k42
  have b42 := F42.binds (ps := ["_law_spool_here", "_law_most"]) fun _ _ _ _ _ _ => us2 fun _ _ => rfl
  have F43 := fun_mk (st := top 160) l43 c43 k43
  have b43 := F43.binds (ps := ["_law_kind_here", "_law_parting"]) fun _ _ _ _ _ _ => us2 fun _ _ => rfl
  have F44 := fun_mk (st := top 161) l44 c44 k44
  have b44 := F44.binds (ps := ["_law_n"]) fun _ _ _ _ _ _ => us1 fun _ => rfl
  have F45 := fun_mk (st := top 162) l45 c45 k45
  have b45 := F45.binds (ps := ["_law_parting"]) fun _ _ _ _ _ _ => us1 fun _ => rfl
  have F46 := fun_mk (st := top 163) l46 c46 k46
  have b46 := F46.binds (ps := ["_law_kind_here"]) fun _ _ _ _ _ _ => us1 fun _ => rfl
  have F47 := fun_mk (st := top 164) l47 c47 k47
  have m_len := PySem.W.mg_none_of X G z1
  have m_list := PySem.W.mg_none_of X G z2
  have m_range := PySem.W.mg_none_of X G z3
  have m_min := PySem.W.mg_none_of X G z4
  have m_tuple := PySem.W.mg_none_of X G z5
  have m_all := PySem.W.mg_none_of X G z6
  have m_bool := PySem.W.mg_none_of X G z7
  have m_int := PySem.W.mg_none_of X G z8
  have m_isinstance := PySem.W.mg_none_of X G z9
  have m_str := PySem.W.mg_none_of X G z10
  have m_abs := PySem.W.mg_none_of X G z11
  have m_sorted := PySem.W.mg_none_of X G z12
  have g_MOST_SIZE : IntG mg "MOST_SIZE" 600 := ⟨_, PySem.W.mg_of X G y1⟩
  have g_LEAST_DIVISOR_kinds : IntG mg "LEAST_DIVISOR_kinds" 2 := ⟨_, PySem.W.mg_of X G y2⟩
  have g_MOST_DIVISOR_kinds : IntG mg "MOST_DIVISOR_kinds" 60 := ⟨_, PySem.W.mg_of X G y3⟩
  have g_MOST_SIGNS : IntG mg "MOST_SIGNS" 2000 := ⟨_, PySem.W.mg_of X G y4⟩
  have g_MOST_FIGURES : IntG mg "MOST_FIGURES" 6 := ⟨_, PySem.W.mg_of X G y5⟩
  have g_FIGURES : StrG mg "FIGURES" "0123456789" := ⟨_, PySem.W.mg_of X G y6⟩
  have g_MOST_COUNTED : IntG mg "MOST_COUNTED" 600 := ⟨_, PySem.W.mg_of X G y7⟩
  have g_MOST_LISTED : IntG mg "MOST_LISTED" 30 := ⟨_, PySem.W.mg_of X G y8⟩
  have D_DEEDS : DeedG w K mg "DEEDS" rd := ⟨PySem.W.mg_of X G yd, _, yk, yh⟩
  refine ⟨PySem.W.fnOf "law" "law" (defArgs (top 164)) (defBody (top 164)) (defScope (top 164)) .none kV47 dc47 pm47 an47 cd47 ct47, fun s v => .of_eq rfl, fun base _ _ => ?_⟩
  have A1 : FnA l.prog w K mg base "begun" 1 ["most"] sp_begun := fnA (ok_begun F1) b1 k1 (PySem.W.mg_of X G a1)
  have A2 : FnA l.prog w K mg base "put_on" 1 ["row", "size"] sp_put_on := fnA (ok_put_on F2 m_len m_list m_range) b2 k2 (PySem.W.mg_of X G a2)
  have A3 : FnA l.prog w K mg base "taken_off" 1 ["row", "size"] sp_to := fnA (ok_to F3 m_len m_list m_range) b3 k3 (PySem.W.mg_of X G a3)
  have A4 : FnA l.prog w K mg base "of_sizes" 2 ["some", "most"] sp_of_sizes := fnA (ok_of_sizes F4 A1 A2) b4 k4 (PySem.W.mg_of X G a4)
  have A5 : FnA l.prog w K mg base "of_sizes_below" 2 ["some", "m", "most"] sp_osb := fnA (ok_osb F5 A1 A2 A3) b5 k5 (PySem.W.mg_of X G a5)
  have A6 : FnA l.prog w K mg base "in_box" 2 ["k", "l", "most"] sp_ib := fnA (ok_ib F6 m_min m_range A1 A2 A3) b6 k6 (PySem.W.mg_of X G a6)
  have A7 : FnA l.prog w K mg base "falling_by" 2 ["d", "most"] sp_fb := fnA (ok_fb F7 m_range A1 A2) b7 k7 (PySem.W.mg_of X G a7)
  have A8 : FnA l.prog w K mg base "counted" 3 ["kind", "most"] sp_counted := fnA (ok_counted F8 m_list m_min m_range A7 A6 A4 A5) b8 k8 (PySem.W.mg_of X G a8)
  have A9 : FnA l.prog w K mg base "counts" 4 ["kind", "most"] sp_counts := fnA (ok_counts F9 m_tuple A8) b9 k9 (PySem.W.mg_of X G a9)
  have A10 : FnA l.prog w K mg base "sizes" 1 ["parting"] sp_sizes := fnA (ok_sizes F10 m_tuple) b10 k10 (PySem.W.mg_of X G a10)
  have A11 : FnA l.prog w K mg base "turned" 1 ["parting"] sp_turned := fnA (ok_turned F11 m_len m_range m_tuple) b11 k11 (PySem.W.mg_of X G a11)
  have A12 : FnA l.prog w K mg base "partings_below" 31 ["n", "most"] (sp_pb 31) := fnA (ok_pb 31 F12 m_min m_range b12 k12 (PySem.W.mg_of X G a12)) b12 k12 (PySem.W.mg_of X G a12)
  have A13 : FnA l.prog w K mg base "partings" 32 ["n"] sp_ps := fnA (ok_ps F13 m_tuple A12) b13 k13 (PySem.W.mg_of X G a13)
  have A14 : FnA l.prog w K mg base "has_none_above" 1 ["parting", "k"] sp_na := fnA (ok_na F14 m_len) b14 k14 (PySem.W.mg_of X G a14)
  have A15 : FnA l.prog w K mg base "falls_by" 1 ["parting", "d"] sp_fa := fnA (ok_fa F15 m_len m_range) b15 k15 (PySem.W.mg_of X G a15)
  have A16 : FnA l.prog w K mg base "has_none_often" 2 ["parting", "m"] sp_no := fnA (ok_no F16 m_all A10) b16 k16 (PySem.W.mg_of X G a16)
  have A17 : FnA l.prog w K mg base "leaves_only" 1 ["parting", "m", "rests"] sp_lo := fnA (ok_lo F17 m_all) b17 k17 (PySem.W.mg_of X G a17)
  have A18 : FnA l.prog w K mg base "is_of" 3 ["kind", "parting"] sp_pi := fnA (ok_pi F18 m_len A15 A14 A16 A17 A11) b18 k18 (PySem.W.mg_of X G a18)
  have A19 : FnA l.prog w K mg base "listed" 33 ["kind", "n"] sp_li := fnA (ok_li F19 m_tuple A18 A13) b19 k19 (PySem.W.mg_of X G a19)
  have A20 : FnA l.prog w K mg base "is_whole" 1 ["thing"] sp_whole := fnA (ok_whole F20 m_bool m_int m_isinstance) b20 k20 (PySem.W.mg_of X G a20)
  have A21 : FnA l.prog w K mg base "is_within" 2 ["thing", "least", "most"] sp_within := fnA (ok_within F21 A20) b21 k21 (PySem.W.mg_of X G a21)
  have A22 : FnA l.prog w K mg base "is_size" 3 ["thing"] sp_size := fnA (ok_size F22 g_MOST_SIZE A21) b22 k22 (PySem.W.mg_of X G a22)
  have A23 : FnA l.prog w K mg base "is_divisor" 3 ["thing"] sp_div := fnA (ok_div F23 g_LEAST_DIVISOR_kinds g_MOST_DIVISOR_kinds A21) b23 k23 (PySem.W.mg_of X G a23)
  have A24 : FnA l.prog w K mg base "are_rests" 3 ["thing", "m"] sp_rests := fnA (ok_rests F24 m_isinstance m_len m_tuple A21) b24 k24 (PySem.W.mg_of X G a24)
  have A25 : FnA l.prog w K mg base "fits_word" 4 ["word", "given"] sp_fits := fnA (ok_fits F25 m_len A22 A23 A24) b25 k25 (PySem.W.mg_of X G a25)
  have A26 : FnA l.prog w K mg base "is_kind" 5 ["thing"] sp_isk := fnA (ok_isk F26 m_isinstance m_len m_str m_tuple A25) b26 k26 (PySem.W.mg_of X G a26)
  have A27 : FnA l.prog w K mg base "is_text" 1 ["thing"] sp_text := fnA (ok_text F27 m_isinstance m_len m_str g_MOST_SIGNS) b27 k27 (PySem.W.mg_of X G a27)
  have A28 : FnA l.prog w K mg base "is_number" 1 ["text"] sp_number := fnA (ok_number F28 m_all m_len g_MOST_FIGURES g_FIGURES) b28 k28 (PySem.W.mg_of X G a28)
  have A29 : FnA l.prog w K mg base "numbers_read" 2 ["words"] sp_read := fnA (ok_read F29 m_all m_int m_tuple A28) b29 k29 (PySem.W.mg_of X G a29)
  have A30 : FnA l.prog w K mg base "kind_of_words" 3 ["words"] sp_kow := fnA (ok_kow F30 m_len A29) b30 k30 (PySem.W.mg_of X G a30)
  have A31 : FnA l.prog w K mg base "read_kind" 6 ["thing"] sp_rk := fnA (ok_rk F31 A27 A30 A26) b31 k31 (PySem.W.mg_of X G a31)
  have A32 : FnA l.prog w K mg base "show_parting" 1 ["parting"] sp_shp := fnA (ok_shp F32 m_len m_str) b32 k32 (PySem.W.mg_of X G a32)
  have A33 : FnA l.prog w K mg base "number_in" 3 ["word", "least", "most"] sp_ni := fnA (ok_ni F33 m_int A28 A21) b33 k33 (PySem.W.mg_of X G a33)
  have A34 : FnA l.prog w K mg base "kind_in" 7 ["words"] sp_ki := fnA (ok_ki F34 A31) b34 k34 (PySem.W.mg_of X G a34)
  have A35 : FnA l.prog w K mg base "kind_ahead" 8 ["words", "many"] sp_ka := fnA (ok_ka F35 A34) b35 k35 (PySem.W.mg_of X G a35)
  have A36 : FnA l.prog w K mg base "parted_by_blanks" 2 ["partings"] sp_bb := fnA (ok_bb F36 A32) b36 k36 (PySem.W.mg_of X G a36)
  have A37 : FnA l.prog w K mg base "answer_count" 9 ["words"] sp_ac := fnA (ok_ac F37 m_str g_MOST_COUNTED A9 A35 A33) b37 k37 (PySem.W.mg_of X G a37)
  have A38 : FnA l.prog w K mg base "answer_list" 34 ["words"] sp_al := fnA (ok_al F38 g_MOST_LISTED A35 A19 A33 A36) b38 k38 (PySem.W.mg_of X G a38)
  have A39 : FnA l.prog w K mg base "answer" 35 ["line"] sp_an := fnA (ok_an F39 D_DEEDS yv1 (PySem.W.mg_of X G a37) yv2 (PySem.W.mg_of X G a38) A27 A37 A38) b39 k39 (PySem.W.mg_of X G a39)
  have A40 : FnA l.prog w K mg base "_law_spool" 1 ["_law_script"] (sp_spool K) := fnA (ok_spool F40 m_abs m_len) b40 k40 (PySem.W.mg_of X G a40)
  have A41 : FnA l.prog w K mg base "_law_take" 1 ["_law_spool_here", "_law_many"] sp_take := fnA (ok_take F41) b41 k41 (PySem.W.mg_of X G a41)
  have A42 : FnA l.prog w K mg base "_law_kind" 2 ["_law_spool_here", "_law_most"] sp_kind := fnA (ok_kind F42 m_range m_tuple A41) b42 k42 (PySem.W.mg_of X G a42)
  have A43 : FnA l.prog w K mg base "_law_is_of" 1 ["_law_kind_here", "_law_parting"] sp_io := fnA (ok_io F43 m_all m_len m_range m_tuple) b43 k43 (PySem.W.mg_of X G a43)
  have A44 : FnA l.prog w K mg base "_law_list" 1 ["_law_n"] sp_ll := fnA (ok_ll F44 m_range m_sorted) b44 k44 (PySem.W.mg_of X G a44)
  have A45 : FnA l.prog w K mg base "_law_text" 1 ["_law_parting"] sp_shp := fnA (ok_ltext F45 m_str) b45 k45 (PySem.W.mg_of X G a45)
  have A46 : FnA l.prog w K mg base "_law_kind_text" 1 ["_law_kind_here"] sp_show := fnA (ok_kt F46 m_str) b46 k46 (PySem.W.mg_of X G a46)
  exact ok_law F47 m_len m_range m_str A43 A42 A46 A44 A40 A41 A45 A39 A9
theorem walk {l : PySem.W.OpenLaw} {q : Program} {loose : List Str} {XP : (Str → Option Value) → Heap → Prop} {YP : World → Heap → Prop} {d : DefRec} {K : Params → PySem.W.Frag} (hn : l.most = some 63) (hdf : d.params.defaults = [])
    (hY : ∀ (w : World) (h : Heap), YP w h → (K w.params).In h)
    (F : ∀ (w : World) (mg : Str → Option Value) (fa : Addr) (h : Heap), (K w.params).In h → h.Ns mainGlobals mg → mg d.name = some (.ref fa) →
      ∃ fd : FuncData, (∀ (s : Shared) (u : Value), BindsTo s fd ⟨[u], []⟩ [("_law_script", u)]) ∧ ∀ base : Heap, (K w.params).In base → base.Ns mainGlobals mg → FnOk l.prog w (K w.params) mg base CX0 36 fa fd ["_law_script"] (sp_law (K w.params))) :
    PySem.W.WalkO q loose XP YP l.row.toRowW d [] (fun f vs => PySem.call f vs) :=
  L2.walk_of (n := 63) (k := 36) (x := "_law_script") (CX := fun _ => CX0) (sp := fun w => sp_law (K w.params)) hn (by decide) hdf ⟨rfl, by decide, by decide, rfl⟩ hY F (fun _ _ a ns hl _ hS => ⟨a, ns, rfl, hS, hl, fun _ => rfl⟩) fun _ _ _ _ _ z => z
end K72
namespace PySem.W.Fast
theorem tw17923121686369346495 : True := ⟨⟩
theorem tw13451908636494843514 : True := ⟨⟩
theorem tw17274036460157041599 : True := ⟨⟩
theorem tw7353599131251097878 : True := ⟨⟩
theorem tw11663653615469493465 : True := ⟨⟩
theorem tw12498810012526186303 : True := ⟨⟩
theorem tw11684440344690332414 : True := ⟨⟩
theorem tw5972570609250600568 : True := ⟨⟩
theorem tw12207583553459415126 : True := ⟨⟩
theorem tw17991062585247850205 : True := ⟨⟩
theorem tw1660732720580273378 : True := ⟨⟩
theorem tw6410785484188463402 : True := ⟨⟩
theorem tw15910184768089702260 : True := ⟨⟩
theorem tw13972369891646085158 : True := ⟨⟩
theorem tw3261825557701620050 : True := ⟨⟩
theorem tw9393155313556148739 : True := ⟨⟩
theorem tw222368229389056937 : True := ⟨⟩
theorem tw8585443402940200821 : True := ⟨⟩
theorem tw808795568634115938 : True := ⟨⟩
theorem tw6396042692677625664 : True := ⟨⟩
theorem tw290571641245058750 : True := ⟨⟩
theorem tw10020783221681216188 : True := ⟨⟩
theorem tw4257518015909069296 : True := ⟨⟩
theorem tw1844640266136756133 : True := ⟨⟩
theorem tw12635863147928374644 : True := ⟨⟩
theorem tw3932298098219825855 : True := ⟨⟩
theorem tw21847150187858945 : True := ⟨⟩
theorem tw1293149380396175301 : True := ⟨⟩
theorem tw10059676693777515345 : True := ⟨⟩
theorem tw8451063770560506886 : True := ⟨⟩
theorem tw1046797402423637791 : True := ⟨⟩
theorem tw6134288919740217632 : True := ⟨⟩
theorem tw12362908718798524861 : True := ⟨⟩
theorem tw3813761148229768514 : True := ⟨⟩
theorem tw5336143098167673045 : True := ⟨⟩
theorem tw5355960259179347713 : True := ⟨⟩
theorem tw6813540710748173324 : True := ⟨⟩
theorem tw12904756163691333824 : True := ⟨⟩
theorem tw12847200976822753593 : True := ⟨⟩
theorem tw14331807872987495375 : True := ⟨⟩
theorem tw2646712892657125016 : True := ⟨⟩
theorem tw4569759459689190115 : True := ⟨⟩
theorem tw16383776737122384295 : True := ⟨⟩
theorem tw12510042615814027784 : True := ⟨⟩
theorem tw3421345372374260347 : True := ⟨⟩
theorem tw9143923382146100943 : True := ⟨⟩
theorem tw11414040927876877894 : True := ⟨⟩
theorem tw17739098810567524651 : True := ⟨⟩
theorem tw10001998065086450995 : True := ⟨⟩
theorem tw1245560165185210742 : True := ⟨⟩
theorem tw16627869944900508032 : True := ⟨⟩
theorem tw3189125739870697059 : True := ⟨⟩
theorem tw6220421473250218233 : True := ⟨⟩
theorem tw17082431393950484604 : True := ⟨⟩
theorem tw15260979782253069471 : True := ⟨⟩
theorem tw18138813831022789535 : True := ⟨⟩
theorem tw4126246063187378937 : True := ⟨⟩
theorem tw2321649360119980026 : True := ⟨⟩
theorem tw8910679895984015631 : True := ⟨⟩
theorem tw2284393370570721105 : True := ⟨⟩
theorem tw17317657919891267593 : True := ⟨⟩
theorem tw9501232171120167369 : True := ⟨⟩
theorem tw15874586949063072025 : True := ⟨⟩
theorem tw5526788056518836554 : True := ⟨⟩
theorem tw5849935587017795928 : True := ⟨⟩
theorem tw7767608286850197179 : True := ⟨⟩
theorem tw13877625926641624966 : True := ⟨⟩
theorem tw17060414676269403918 : True := ⟨⟩
theorem tw4619918031088951333 : True := ⟨⟩
theorem tw16316657063317720399 : True := ⟨⟩
theorem tw13993927484870407245 : True := ⟨⟩
theorem tw10629177576910597339 : True := ⟨⟩
theorem tw9946649436484385281 : True := ⟨⟩
theorem tw14093317876374489982 : True := ⟨⟩
theorem tw13391497278672348171 : True := ⟨⟩
theorem tw16498866551597328206 : True := ⟨⟩
theorem tw9051206861670787002 : True := ⟨⟩
theorem tw10600753889992538534 : True := ⟨⟩
theorem tw9705349294986814532 : True := ⟨⟩
theorem tw12206507388287157204 : True := ⟨⟩
theorem tw10450697311555448223 : True := ⟨⟩
theorem tw1171200828597106957 : True := ⟨⟩
theorem tw2701159822848201014 : True := ⟨⟩
theorem tw5278881695362825232 : True := ⟨⟩
theorem tw1695789966814735380 : True := ⟨⟩
theorem tw690750984444861666 : True := ⟨⟩
theorem tw2843094147243900781 : True := ⟨⟩
theorem tw5971591451836158351 : True := ⟨⟩
theorem tw7657187156772043474 : True := ⟨⟩
theorem tw1932723839564244445 : True := ⟨⟩
theorem tw18400427890163820420 : True := ⟨⟩
theorem tw4370997827812462999 : True := ⟨⟩
theorem tw16149715474986446077 : True := ⟨⟩
theorem tw14252448774951016422 : True := ⟨⟩
theorem tw17240087773522474632 : True := ⟨⟩
theorem tw5927432863052816742 : True := ⟨⟩
theorem tw6667879180867841968 : True := ⟨⟩
theorem tw7942813931905259681 : True := ⟨⟩
theorem tw6644753804199652403 : True := ⟨⟩
theorem tw13689024975945496400 : True := ⟨⟩
theorem tw1481896234467033023 : True := ⟨⟩
theorem tw1659175574660934357 : True := ⟨⟩
theorem tw16462300014181249819 : True := ⟨⟩
theorem tw6714346728495742205 : True := ⟨⟩
theorem tw7277822534993081226 : True := ⟨⟩
theorem tw13084919555161860579 : True := ⟨⟩
theorem tw2322840975218506870 : True := ⟨⟩
theorem tw17310065501897514488 : True := ⟨⟩
theorem tw3615511604682843817 : True := ⟨⟩
theorem tw12612129369666261248 : True := ⟨⟩
theorem tw14328015075729899492 : True := ⟨⟩
theorem tw14614048783172925435 : True := ⟨⟩
theorem tw12981826047412348308 : True := ⟨⟩
theorem tw7271648314009515277 : True := ⟨⟩
theorem tw12512996404236742303 : True := ⟨⟩
theorem tw418209277145398748 : True := ⟨⟩
theorem tw15054552095752729612 : True := ⟨⟩
theorem tw11599117122767475600 : True := ⟨⟩
theorem tw6564521363317176341 : True := ⟨⟩
theorem tw17377215368305470462 : True := ⟨⟩
theorem tw11272626873444054770 : True := ⟨⟩
theorem tw7136737942422854815 : True := ⟨⟩
theorem tw7103125017730501610 : True := ⟨⟩
theorem tw16789153533960157392 : True := ⟨⟩
theorem tw13969405581060821889 : True := ⟨⟩
theorem tw16065537363391515892 : True := ⟨⟩
theorem tw725216045109565880 : True := ⟨⟩
theorem tw10618589507504887968 : True := ⟨⟩
theorem tw171176937391423244 : True := ⟨⟩
theorem tw5763072520097662120 : True := ⟨⟩
theorem tw16300940922800544335 : True := ⟨⟩
theorem tw12494892079158815470 : True := ⟨⟩
theorem tw8834707309733169011 : True := ⟨⟩
theorem tw9514057464652217593 : True := ⟨⟩
theorem tw6074293336680076739 : True := ⟨⟩
theorem tw14710025822842350862 : True := ⟨⟩
theorem tw8421540981034270523 : True := ⟨⟩
theorem tw14880707474636777952 : True := ⟨⟩
theorem tw4152747405184580782 : True := ⟨⟩
theorem tw17160943859161052276 : True := ⟨⟩
theorem tw17548682868451789805 : True := ⟨⟩
theorem tw1868301950400357354 : True := ⟨⟩
theorem tw17353374084350943667 : True := ⟨⟩
theorem tw18194634191465377818 : True := ⟨⟩
theorem tw9482283075585774495 : True := ⟨⟩
theorem tw1252818981998356306 : True := ⟨⟩
theorem tw7680861155641580716 : True := ⟨⟩
theorem tw5398664659402491288 : True := ⟨⟩
theorem tw18192601616964684150 : True := ⟨⟩
theorem tw16741691264158885067 : True := ⟨⟩
theorem tw16757239580890416556 : True := ⟨⟩
theorem tw2071725658744617811 : True := ⟨⟩
theorem tw13031060971684104841 : True := ⟨⟩
theorem tw14966047181897704019 : True := ⟨⟩
theorem tw5254205343336702740 : True := ⟨⟩
theorem tw14354188068262618028 : True := ⟨⟩
theorem tw502122702138876852 : True := ⟨⟩
theorem tw7866538995840109245 : True := ⟨⟩
theorem tw9005964258618083296 : True := ⟨⟩
theorem tw4952554213223826485 : True := ⟨⟩
theorem tw17613587216644807761 : True := ⟨⟩
theorem tw17104314061772672862 : True := ⟨⟩
theorem tw2690755795784089055 : True := ⟨⟩
theorem tw1666854826544801945 : True := ⟨⟩
theorem tw10277048094938609125 : True := ⟨⟩
theorem tw18439915198634868990 : True := ⟨⟩
theorem tw7103729351387068204 : True := ⟨⟩
theorem tw2403409275091431120 : True := ⟨⟩
theorem tw16098804748440752972 : True := ⟨⟩
theorem tw8873913351609170323 : True := ⟨⟩
theorem tw6765545977268237021 : True := ⟨⟩
theorem tw13504788728827069657 : True := ⟨⟩
theorem tw12821166532648077014 : True := ⟨⟩
theorem tw7393940514333380097 : True := ⟨⟩
theorem tw4908479854790530728 : True := ⟨⟩
theorem tw374376740333769813 : True := ⟨⟩
theorem tw12751025872771174585 : True := ⟨⟩
theorem tw16750076629715554667 : True := ⟨⟩
theorem tw15337995045727428815 : True := ⟨⟩
theorem tw18167569583588217646 : True := ⟨⟩
theorem tw2763067734272229477 : True := ⟨⟩
theorem tw5645635603877859624 : True := ⟨⟩
theorem tw6620071561910635515 : True := ⟨⟩
theorem tw7551839052405751994 : True := ⟨⟩
theorem tw9477276211895057479 : True := ⟨⟩
theorem tw17773732029512237571 : True := ⟨⟩
theorem tw3427086404423471379 : True := ⟨⟩
theorem tw6332239878417053591 : True := ⟨⟩
theorem tw9826664795295270354 : True := ⟨⟩
theorem tw3737030810324539958 : True := ⟨⟩
theorem tw94008317503631590 : True := ⟨⟩
theorem tw3105965487355856272 : True := ⟨⟩
theorem tw14569383104872516728 : True := ⟨⟩
theorem tw10065631725247307022 : True := ⟨⟩
theorem tw13981109028930097020 : True := ⟨⟩
theorem tw958700576508475523 : True := ⟨⟩
theorem tw12945857143326334866 : True := ⟨⟩
theorem tw12175608288246943082 : True := ⟨⟩
theorem tw14604672878119818170 : True := ⟨⟩
theorem tw11127450972087165554 : True := ⟨⟩
theorem tw16217808107663189662 : True := ⟨⟩
theorem tw76015956509910876 : True := ⟨⟩
theorem tw8328067893108118994 : True := ⟨⟩
theorem tw17620737234834567766 : True := ⟨⟩
theorem tw15619858412849192382 : True := ⟨⟩
theorem tw5942906831904997763 : True := ⟨⟩
theorem tw3303570966904824803 : True := ⟨⟩
theorem tw14132984771720955481 : True := ⟨⟩
theorem tw2322001745272057634 : True := ⟨⟩
theorem tw5835043770726587448 : True := ⟨⟩
theorem tw2881013163667189407 : True := ⟨⟩
theorem tw13359009047304006159 : True := ⟨⟩
theorem tw5506418360174807966 : True := ⟨⟩
theorem tw13691768650431129161 : True := ⟨⟩
theorem tw9537356806987947363 : True := ⟨⟩
theorem tw1656758253679293967 : True := ⟨⟩
theorem tw4542752705590951949 : True := ⟨⟩
theorem tw6512669957507125293 : True := ⟨⟩
theorem tw11976300852274866207 : True := ⟨⟩
theorem tw15971538970442888876 : True := ⟨⟩
theorem tw14299547205039936369 : True := ⟨⟩
theorem tw15051360941566481617 : True := ⟨⟩
theorem tw1548982411891156732 : True := ⟨⟩
theorem tw6426219666258782136 : True := ⟨⟩
theorem tw4378123310305946418 : True := ⟨⟩
theorem tw13987318596779231830 : True := ⟨⟩
theorem tw7297542624447708221 : True := ⟨⟩
theorem tw4396920265445077724 : True := ⟨⟩
theorem tw1726406035938554598 : True := ⟨⟩
theorem tw843872612792570152 : True := ⟨⟩
theorem tw15573645813265322742 : True := ⟨⟩
theorem tw18175993989345828734 : True := ⟨⟩
theorem tw11593281634146591217 : True := ⟨⟩
theorem tw17388533781439735022 : True := ⟨⟩
theorem tw7762574526253009689 : True := ⟨⟩
theorem tw18175444045390558195 : True := ⟨⟩
theorem tw3268722454584397489 : True := ⟨⟩
theorem tw16748067800784052975 : True := ⟨⟩
theorem tw2708078969061218336 : True := ⟨⟩
theorem tw15187592687663674705 : True := ⟨⟩
theorem tw648431945256263655 : True := ⟨⟩
theorem tw17491356019009997118 : True := ⟨⟩
theorem tw3557588980395162761 : True := ⟨⟩
theorem tw5338603162435763562 : True := ⟨⟩
theorem tw17513819732152270058 : True := ⟨⟩
theorem tw11634092752498697673 : True := ⟨⟩
theorem tw6856836401411089794 : True := ⟨⟩
theorem tw9261619614916016055 : True := ⟨⟩
theorem tw6369233554340854056 : True := ⟨⟩
theorem tw8892402378898898501 : True := ⟨⟩
theorem tw13938578503590274735 : True := ⟨⟩
theorem tw2341394172198380696 : True := ⟨⟩
theorem tw16188575785567273468 : True := ⟨⟩
theorem tw13052140313247680485 : True := ⟨⟩
theorem tw7146566121296272903 : True := ⟨⟩
theorem tw10229197479322262566 : True := ⟨⟩
theorem tw17635011385375674195 : True := ⟨⟩
theorem tw15789987385374075216 : True := ⟨⟩
theorem tw3558728190023293164 : True := ⟨⟩
theorem tw10088667595095950835 : True := ⟨⟩
theorem tw2429726473859449944 : True := ⟨⟩
theorem tw1671506862798632842 : True := ⟨⟩
theorem tw18047165835117657763 : True := ⟨⟩
theorem tw11726937658662314867 : True := ⟨⟩
theorem tw6416720996893302283 : True := ⟨⟩
theorem tw16643532697253221651 : True := ⟨⟩
theorem tw2411491274139230308 : True := ⟨⟩
theorem tw4532696278185368293 : True := ⟨⟩
theorem tw18378748741605295726 : True := ⟨⟩
theorem tw11232043539205048623 : True := ⟨⟩
theorem tw2942405899720416176 : True := ⟨⟩
theorem tw5497866058313957546 : True := ⟨⟩
theorem tw7451404707814393403 : True := ⟨⟩
theorem tw12555255462580394077 : True := ⟨⟩
theorem tw675983450815771809 : True := ⟨⟩
theorem tw11546602054769897640 : True := ⟨⟩
theorem tw8985492710567608009 : True := ⟨⟩
theorem tw12909466118957026765 : True := ⟨⟩
theorem tw5268568801849431545 : True := ⟨⟩
theorem tw16316482756092551609 : True := ⟨⟩
theorem tw1234480466221454179 : True := ⟨⟩
theorem tw720684751470052676 : True := ⟨⟩
theorem tw16854058276455550208 : True := ⟨⟩
theorem tw14720347482433098112 : True := ⟨⟩
theorem tw10887481183499536976 : True := ⟨⟩
theorem tw5348361336770654891 : True := ⟨⟩
theorem tw11423030270028884386 : True := ⟨⟩
theorem tw15858712181803746104 : True := ⟨⟩
theorem tw15453674414548500305 : True := ⟨⟩
theorem tw8291131305246947174 : True := ⟨⟩
theorem tw5947507325147626022 : True := ⟨⟩
theorem tw6585704637040432585 : True := ⟨⟩
theorem tw2664049826768403629 : True := ⟨⟩
theorem tw8030464002393540355 : True := ⟨⟩
theorem tw10043280950864437568 : True := ⟨⟩
theorem tw7222372423569182994 : True := ⟨⟩
theorem tw6093818956202363632 : True := ⟨⟩
theorem tw11567110137637775525 : True := ⟨⟩
theorem tw475975988594010993 : True := ⟨⟩
theorem tw12350622651607530672 : True := ⟨⟩
theorem tw15302434372760047372 : True := ⟨⟩
theorem tw10952128304387080442 : True := ⟨⟩
theorem tw18358507269581146273 : True := ⟨⟩
theorem tw1898660504269042232 : True := ⟨⟩
theorem tw15510554380298861700 : True := ⟨⟩
theorem tw10119658922696742034 : True := ⟨⟩
theorem tw8934941266661770862 : True := ⟨⟩
theorem tw4581053272882624743 : True := ⟨⟩
theorem tw9828564368991566446 : True := ⟨⟩
theorem tw3105629633294075817 : True := ⟨⟩
theorem tw12495119755992921847 : True := ⟨⟩
theorem tw6816849350632818598 : True := ⟨⟩
theorem tw4721069928479294035 : True := ⟨⟩
theorem tw10910762552881878928 : True := ⟨⟩
theorem tw1358355110500813806 : True := ⟨⟩
theorem tw15775374019243152164 : True := ⟨⟩
theorem tw2043714546789517550 : True := ⟨⟩
theorem tw8182074885663661076 : True := ⟨⟩
theorem tw16815165402849044847 : True := ⟨⟩
theorem tw2875533440152701406 : True := ⟨⟩
theorem tw6330372430226083960 : True := ⟨⟩
theorem tw9267907245345772178 : True := ⟨⟩
theorem tw13567957734816681953 : True := ⟨⟩
theorem tw16889223163769391836 : True := ⟨⟩
theorem tw14973978560929663316 : True := ⟨⟩
theorem tw8235904663893077982 : True := ⟨⟩
theorem tw13676428274584082523 : True := ⟨⟩
theorem tw13979573889776143719 : True := ⟨⟩
theorem tw6527798323175799172 : True := ⟨⟩
theorem tw681685454649600818 : True := ⟨⟩
theorem tw7217642940337772558 : True := ⟨⟩
theorem tw46681490745342314 : True := ⟨⟩
theorem tw9249986187977298519 : True := ⟨⟩
theorem tw16520185867371872646 : True := ⟨⟩
theorem tw7234329179919835659 : True := ⟨⟩
theorem tw17889190456687590085 : True := ⟨⟩
theorem tw10809367338307714307 : True := ⟨⟩
theorem tw8480846560138723471 : True := ⟨⟩
theorem tw6189702852566991913 : True := ⟨⟩
theorem tw6611698209446335681 : True := ⟨⟩
theorem tw17574943121533528735 : True := ⟨⟩
theorem tw8150391315248816264 : True := ⟨⟩
theorem tw2881491650124169655 : True := ⟨⟩
theorem tw5348048247758896685 : True := ⟨⟩
theorem tw560189493951407389 : True := ⟨⟩
theorem tw9411032098898847235 : True := ⟨⟩
theorem tw9354443212062743475 : True := ⟨⟩
theorem tw5334125762703181790 : True := ⟨⟩
theorem tw9015751679397586158 : True := ⟨⟩
theorem tw2540988938690841599 : True := ⟨⟩
theorem tw12229464758043277235 : True := ⟨⟩
theorem tw15674119493720771041 : True := ⟨⟩
theorem tw3347920033063127411 : True := ⟨⟩
theorem tw16464749064094829712 : True := ⟨⟩
theorem tw2616818672920782075 : True := ⟨⟩
theorem tw10512288816780831265 : True := ⟨⟩
theorem tw9334263446735673685 : True := ⟨⟩
theorem tw3214737940792676300 : True := ⟨⟩
theorem tw16775608585769928837 : True := ⟨⟩
theorem tw15819883511658794088 : True := ⟨⟩
theorem tw16462606897551448337 : True := ⟨⟩
theorem tw7132665095148497288 : True := ⟨⟩
theorem tw6322062858729913442 : True := ⟨⟩
theorem tw6588657737770523376 : True := ⟨⟩
theorem tw10872604349487694284 : True := ⟨⟩
theorem tw12448853002686024411 : True := ⟨⟩
theorem tw7282592375181480530 : True := ⟨⟩
theorem tw3890855422172861565 : True := ⟨⟩
theorem tw13011708640631620839 : True := ⟨⟩
theorem tw12712430811923963028 : True := ⟨⟩
theorem tw632478827242460443 : True := ⟨⟩
theorem tw8759846152738794383 : True := ⟨⟩
theorem tw5089177927165622486 : True := ⟨⟩
theorem tw8569113012689937838 : True := ⟨⟩
theorem tw4149631178408985808 : True := ⟨⟩
theorem tw6863657690420959888 : True := ⟨⟩
theorem tw9726572965624929779 : True := ⟨⟩
theorem tw7573598162429108808 : True := ⟨⟩
theorem tw14741746315481652891 : True := ⟨⟩
theorem tw7731156856308884759 : True := ⟨⟩
theorem tw18317080915900665038 : True := ⟨⟩
theorem tw2865085003605298624 : True := ⟨⟩
theorem tw4856721371053499570 : True := ⟨⟩
theorem tw2234157688115303675 : True := ⟨⟩
theorem tw12344141275556273726 : True := ⟨⟩
theorem tw8072124144592118686 : True := ⟨⟩
theorem tw14316245550690834053 : True := ⟨⟩
theorem tw8641068809410149020 : True := ⟨⟩
theorem tw18061641452455560257 : True := ⟨⟩
theorem tw13847900264483311803 : True := ⟨⟩
theorem tw3938366712254481594 : True := ⟨⟩
theorem tw14074468010914142242 : True := ⟨⟩
theorem tw15464587773738994287 : True := ⟨⟩
theorem tw4875466854857678556 : True := ⟨⟩
theorem tw17394090826288673417 : True := ⟨⟩
theorem tw8390999625807108490 : True := ⟨⟩
theorem tw1542205132734818120 : True := ⟨⟩
theorem tw14866055644263070696 : True := ⟨⟩
theorem tw8921897017971952692 : True := ⟨⟩
theorem tw15686682991436381365 : True := ⟨⟩
theorem tw7918462763540695051 : True := ⟨⟩
theorem tw12749205941644387053 : True := ⟨⟩
theorem tw11385271111710092309 : True := ⟨⟩
theorem tw3520020830121829706 : True := ⟨⟩
theorem tw2354684263109885381 : True := ⟨⟩
theorem tw5468700574366541185 : True := ⟨⟩
theorem tw13790484320282180002 : True := ⟨⟩
theorem tw17804404219405847999 : True := ⟨⟩
theorem tw18238240161310306768 : True := ⟨⟩
theorem tw3679496111655475441 : True := ⟨⟩
theorem tw2385486323558168027 : True := ⟨⟩
theorem tw14323174923818588252 : True := ⟨⟩
theorem tw8631752816987986900 : True := ⟨⟩
theorem tw17373972473162857175 : True := ⟨⟩
theorem tw12411699273812194111 : True := ⟨⟩
theorem tw643283573537171105 : True := ⟨⟩
theorem tw9040460829984338214 : True := ⟨⟩
theorem tw7894499619806661698 : True := ⟨⟩
theorem tw14495408674609820094 : True := ⟨⟩
theorem tw6169715568250307161 : True := ⟨⟩
theorem tw15668405780876412851 : True := ⟨⟩
theorem tw17740563182555064587 : True := ⟨⟩
theorem tw18403805303245201029 : True := ⟨⟩
theorem tw16743797144170927712 : True := ⟨⟩
theorem tw3593406415199974268 : True := ⟨⟩
theorem tw3689196058858337532 : True := ⟨⟩
theorem tw9698780071508980810 : True := ⟨⟩
theorem tw13150973756220073880 : True := ⟨⟩
theorem tw2705147227453507239 : True := ⟨⟩
theorem tw12703727794591870720 : True := ⟨⟩
theorem tw12397439445143139603 : True := ⟨⟩
theorem tw8750331424062178442 : True := ⟨⟩
theorem tw2513300138601843530 : True := ⟨⟩
theorem tw7647487244953395504 : True := ⟨⟩
theorem tw13845389179177073004 : True := ⟨⟩
theorem tw17095928071320229735 : True := ⟨⟩
theorem tw9443695571049369484 : True := ⟨⟩
theorem tw14713448996805727330 : True := ⟨⟩
theorem tw2845153254393688279 : True := ⟨⟩
theorem tw12444708241855926403 : True := ⟨⟩
theorem tw2214668810921022976 : True := ⟨⟩
theorem tw18025559743083966706 : True := ⟨⟩
theorem tw13238927401303803467 : True := ⟨⟩
theorem tw198509592111897541 : True := ⟨⟩
theorem tw13745822318082374792 : True := ⟨⟩
theorem tw550313667855591641 : True := ⟨⟩
theorem tw3199303591311376937 : True := ⟨⟩
theorem tw8417457834220673417 : True := ⟨⟩
theorem tw11199625592039175608 : True := ⟨⟩
theorem tw11735133237065106317 : True := ⟨⟩
theorem tw14358216948199306934 : True := ⟨⟩
theorem tw3131232095063097299 : True := ⟨⟩
theorem tw14653569440723147429 : True := ⟨⟩
theorem tw3787910587849719291 : True := ⟨⟩
theorem tw18229507645427164435 : True := ⟨⟩
theorem tw15221879782718552083 : True := ⟨⟩
theorem tw17041627982211750594 : True := ⟨⟩
theorem tw6064018905989490067 : True := ⟨⟩
theorem tw4622543034978709337 : True := ⟨⟩
theorem tw12282831774080483265 : True := ⟨⟩
theorem tw13431258881164400815 : True := ⟨⟩
theorem tw10166830863606903153 : True := ⟨⟩
theorem tw7734728823961796437 : True := ⟨⟩
theorem tw5848459910993273036 : True := ⟨⟩
theorem tw2672080889848893093 : True := ⟨⟩
theorem tw6115527397095899769 : True := ⟨⟩
theorem tw10840137451439416796 : True := ⟨⟩
theorem tw1535233213404162254 : True := ⟨⟩
theorem tw1791252118561182956 : True := ⟨⟩
theorem tw1954485228529215093 : True := ⟨⟩
theorem tw224513725218535255 : True := ⟨⟩
theorem tw4337784381649409543 : True := ⟨⟩
theorem tw17149117575028480839 : True := ⟨⟩
theorem tw14054435050356293826 : True := ⟨⟩
theorem tw9969916360203271731 : True := ⟨⟩
theorem tw11541284700029245201 : True := ⟨⟩
theorem tw6310081259410489716 : True := ⟨⟩
theorem tw8182504638369932047 : True := ⟨⟩
theorem tw127915883827854 : True := ⟨⟩
theorem tw17046634081715954197 : True := ⟨⟩
theorem tw397096571779850006 : True := ⟨⟩
theorem tw9795509140200820407 : True := ⟨⟩
theorem tw12713045325413146896 : True := ⟨⟩
theorem tw14429450224902658366 : True := ⟨⟩
theorem tw1110323598892334247 : True := ⟨⟩
theorem tw12517320667010442854 : True := ⟨⟩
theorem tw8345788407489207045 : True := ⟨⟩
theorem tw12858341257067644520 : True := ⟨⟩
theorem tw16205539422382150961 : True := ⟨⟩
theorem tw10991658615560333579 : True := ⟨⟩
theorem tw10990646276099765413 : True := ⟨⟩
theorem tw13390804860973980926 : True := ⟨⟩
theorem tw15993265137672752970 : True := ⟨⟩
theorem tw8765331392547733149 : True := ⟨⟩
theorem tw7285432586587948670 : True := ⟨⟩
theorem tw10794579505212184500 : True := ⟨⟩
theorem tw12010225538180434246 : True := ⟨⟩
theorem tw18344431617916401807 : True := ⟨⟩
theorem tw9410980322985888770 : True := ⟨⟩
theorem tw13868284249671409415 : True := ⟨⟩
theorem tw5437363809632842901 : True := ⟨⟩
theorem tw945146809087488606 : True := ⟨⟩
theorem tw5940166723675164417 : True := ⟨⟩
theorem tw15006023963949557927 : True := ⟨⟩
theorem tw1900462103745328387 : True := ⟨⟩
theorem tw15170602700215304979 : True := ⟨⟩
theorem tw6244414329259175468 : True := ⟨⟩
theorem tw16288523599133904091 : True := ⟨⟩
theorem tw489639306906113350 : True := ⟨⟩
theorem tw4909432539200762117 : True := ⟨⟩
theorem tw15835140681425791888 : True := ⟨⟩
theorem tw4899268881607587545 : True := ⟨⟩
theorem tw9960234543670702525 : True := ⟨⟩
theorem tw9154504635966357792 : True := ⟨⟩
theorem tw14513182137081166171 : True := ⟨⟩
theorem tw7158830848243734665 : True := ⟨⟩
theorem tw10449835054559627328 : True := ⟨⟩
theorem tw2974615725242041848 : True := ⟨⟩
theorem tw11200473677647681794 : True := ⟨⟩
theorem tw17312633970947561713 : True := ⟨⟩
theorem tw1378553737293964081 : True := ⟨⟩
theorem tw13879052946635091452 : True := ⟨⟩
theorem tw2447743768205064943 : True := ⟨⟩
theorem tw11396251784294825683 : True := ⟨⟩
theorem tw9939080786208481886 : True := ⟨⟩
theorem tw16674388856550843902 : True := ⟨⟩
theorem tw14202301997014530183 : True := ⟨⟩
theorem tw5735584625996449511 : True := ⟨⟩
theorem tw12233005182474615284 : True := ⟨⟩
theorem tw11686523691191336943 : True := ⟨⟩
theorem tw3789616370928510045 : True := ⟨⟩
theorem tw3844811222066671862 : True := ⟨⟩
theorem tw3820327499263134283 : True := ⟨⟩
theorem tw6655765988651027716 : True := ⟨⟩
theorem tw6174106705860970666 : True := ⟨⟩
theorem tw903738915827934580 : True := ⟨⟩
theorem tw14960330888317082358 : True := ⟨⟩
theorem tw7892383029042067744 : True := ⟨⟩
theorem tw2766816185967101881 : True := ⟨⟩
theorem tw11002441198776660418 : True := ⟨⟩
theorem tw11199970725405083524 : True := ⟨⟩
theorem tw9280954945072264535 : True := ⟨⟩
theorem tw2730143726341468432 : True := ⟨⟩
theorem tw12710758015668479595 : True := ⟨⟩
theorem tw8958524250371649327 : True := ⟨⟩
theorem tw2947203810154245479 : True := ⟨⟩
theorem tw18429122388365395120 : True := ⟨⟩
theorem tw3649215992417651821 : True := ⟨⟩
theorem tw9980856360093928011 : True := ⟨⟩
theorem tw9171008253433646411 : True := ⟨⟩
theorem tw5939969102541787473 : True := ⟨⟩
theorem tw804401167097813381 : True := ⟨⟩
theorem tw16854476720408997878 : True := ⟨⟩
theorem tw16083200692944172067 : True := ⟨⟩
theorem tw16965788415348308559 : True := ⟨⟩
theorem tw4428671819861475662 : True := ⟨⟩
theorem tw8133004975687869418 : True := ⟨⟩
theorem tw1872361607625945527 : True := ⟨⟩
theorem tw879317316248412897 : True := ⟨⟩
theorem tw8802611438517995149 : True := ⟨⟩
theorem tw12541746258181771853 : True := ⟨⟩
theorem tw17255746465637037273 : True := ⟨⟩
theorem tw18262394150495655424 : True := ⟨⟩
theorem tw11707558507576013485 : True := ⟨⟩
theorem tw967449367524580998 : True := ⟨⟩
theorem tw7658213752326803299 : True := ⟨⟩
theorem tw4244067234521349864 : True := ⟨⟩
theorem tw2899076733273430132 : True := ⟨⟩
theorem tw11965438054814882549 : True := ⟨⟩
theorem tw1995609233406164414 : True := ⟨⟩
theorem tw10962803319632059494 : True := ⟨⟩
theorem tw10281206976961055089 : True := ⟨⟩
theorem tw12814062262274741088 : True := ⟨⟩
theorem tw2441872143001614453 : True := ⟨⟩
theorem tw18259432468232349531 : True := ⟨⟩
theorem tw12115740488378536472 : True := ⟨⟩
theorem tw15146711959740211304 : True := ⟨⟩
theorem tw17063426382755812281 : True := ⟨⟩
theorem tw7187092184820854647 : True := ⟨⟩
theorem tw5733622005800455710 : True := ⟨⟩
theorem tw3109672040388977853 : True := ⟨⟩
theorem tw13794955998094430117 : True := ⟨⟩
theorem tw15919236626877988140 : True := ⟨⟩
theorem tw17499755043542809911 : True := ⟨⟩
theorem tw12679780975109829409 : True := ⟨⟩
theorem tw2795193902141235484 : True := ⟨⟩
theorem tw11543949917387188650 : True := ⟨⟩
theorem tw2054210756875184940 : True := ⟨⟩
theorem tw7282948610065428252 : True := ⟨⟩
theorem tw7245131089494966632 : True := ⟨⟩
theorem tw17472545310796573685 : True := ⟨⟩
theorem tw1266099097683394198 : True := ⟨⟩
theorem tw6815504420085798520 : True := ⟨⟩
theorem tw11633916213430093643 : True := ⟨⟩
theorem tw3947572786313217265 : True := ⟨⟩
theorem tw16543503493245455462 : True := ⟨⟩
theorem tw12878257538806320143 : True := ⟨⟩
theorem tw362282886302240033 : True := ⟨⟩
theorem tw6311504585412522181 : True := ⟨⟩
theorem tw14278218195432817747 : True := ⟨⟩
theorem tw16870388077039391724 : True := ⟨⟩
theorem tw13890349586500854745 : True := ⟨⟩
theorem tw6536231852408279793 : True := ⟨⟩
theorem tw6021862883958099291 : True := ⟨⟩
theorem tw17327235977150002877 : True := ⟨⟩
theorem tw12565453207185743152 : True := ⟨⟩
theorem tw16657405220314910367 : True := ⟨⟩
theorem tw1714424719856734842 : True := ⟨⟩
theorem tw363950643873423173 : True := ⟨⟩
theorem tw16286252023782237710 : True := ⟨⟩
theorem tw11181724374592443685 : True := ⟨⟩
theorem tw11341246201981040862 : True := ⟨⟩
theorem tw7131033978906300408 : True := ⟨⟩
theorem tw3537684104275393566 : True := ⟨⟩
theorem tw9296899549162319929 : True := ⟨⟩
theorem tw7408523164025451094 : True := ⟨⟩
theorem tw16112251668175879817 : True := ⟨⟩
theorem tw5359280601250537315 : True := ⟨⟩
theorem tw3546432169151810686 : True := ⟨⟩
theorem tw7378278614295913455 : True := ⟨⟩
theorem tw6213780928824202312 : True := ⟨⟩
theorem tw7442964856745369493 : True := ⟨⟩
theorem tw7781452140299978858 : True := ⟨⟩
theorem tw16951774203661624440 : True := ⟨⟩
theorem tw17310534877974725983 : True := ⟨⟩
theorem tw18030598881838560787 : True := ⟨⟩
theorem tw832836625544756003 : True := ⟨⟩
theorem tw17345061504804173268 : True := ⟨⟩
theorem tw10591261754426483277 : True := ⟨⟩
theorem tw7657830299284432775 : True := ⟨⟩
theorem tw14339512635321610345 : True := ⟨⟩
theorem tw4563116094412623279 : True := ⟨⟩
theorem tw4649181108532137390 : True := ⟨⟩
theorem tw15056249752701196163 : True := ⟨⟩
theorem tw10277711207907451393 : True := ⟨⟩
theorem tw3254196197821657542 : True := ⟨⟩
theorem tw14692392398849138290 : True := ⟨⟩
theorem tw3353576867011749944 : True := ⟨⟩
theorem tw7162072548262748433 : True := ⟨⟩
theorem tw10768620858084922666 : True := ⟨⟩
theorem tw12641183621849678078 : True := ⟨⟩
theorem tw6752643612059366645 : True := ⟨⟩
theorem tw4241818657944937173 : True := ⟨⟩
theorem tw17345596352478625328 : True := ⟨⟩
theorem tw12756604251847210749 : True := ⟨⟩
theorem tw4133022166879016237 : True := ⟨⟩
theorem tw4622331281621483496 : True := ⟨⟩
theorem tw554620959504457539 : True := ⟨⟩
theorem tw4621810096005841155 : True := ⟨⟩
theorem tw14202724597862056831 : True := ⟨⟩
theorem tw11684411420973549581 : True := ⟨⟩
theorem tw5128795566240555305 : True := ⟨⟩
theorem tw6207522342974634108 : True := ⟨⟩
theorem tw7443168684768118595 : True := ⟨⟩
theorem tw17434272321355710818 : True := ⟨⟩
theorem tw6393820104257219009 : True := ⟨⟩
theorem tw2840756685997568546 : True := ⟨⟩
theorem tw7984068069257068784 : True := ⟨⟩
theorem tw4253734686558184372 : True := ⟨⟩
theorem tw10665739874768815890 : True := ⟨⟩
theorem tw9307414002747762902 : True := ⟨⟩
theorem tw18114342962202212130 : True := ⟨⟩
theorem tw5171980663233233745 : True := ⟨⟩
theorem tw15989735493393174526 : True := ⟨⟩
theorem tw15401193666043515782 : True := ⟨⟩
theorem tw9556591365831783366 : True := ⟨⟩
theorem tw4207875055584874060 : True := ⟨⟩
theorem tw9377434472968754627 : True := ⟨⟩
theorem tw8934878992947908734 : True := ⟨⟩
theorem tw17445109534284824680 : True := ⟨⟩
theorem tw12317456149427975529 : True := ⟨⟩
theorem tw6838921375742571412 : True := ⟨⟩
theorem tw16313498179012863839 : True := ⟨⟩
theorem tw9655552709887826056 : True := ⟨⟩
theorem tw13148503987801608839 : True := ⟨⟩
theorem tw9163122278105416796 : True := ⟨⟩
theorem tw4408560122973436448 : True := ⟨⟩
theorem tw11605572916047827236 : True := ⟨⟩
theorem tw12483941440522252687 : True := ⟨⟩
theorem tw13211610464507924261 : True := ⟨⟩
theorem tw9507561154774811576 : True := ⟨⟩
theorem tw681872925709428706 : True := ⟨⟩
theorem tw1268574361487142948 : True := ⟨⟩
theorem tw8283985777639249499 : True := ⟨⟩
theorem tw782674238209305599 : True := ⟨⟩
theorem tw12977040355699721886 : True := ⟨⟩
theorem tw4356548706242492857 : True := ⟨⟩
theorem tw18288717290850554378 : True := ⟨⟩
theorem tw7743512547331211140 : True := ⟨⟩
theorem tw11447922730592914434 : True := ⟨⟩
theorem tw15930557042392988587 : True := ⟨⟩
theorem tw5652256233642389282 : True := ⟨⟩
theorem tw7874735796801749612 : True := ⟨⟩
theorem tw12262839811450157880 : True := ⟨⟩
theorem tw17904310244908215802 : True := ⟨⟩
theorem tw1934893699026529293 : True := ⟨⟩
theorem tw9544863891916563544 : True := ⟨⟩
theorem tw16961118960092843792 : True := ⟨⟩
theorem tw12041926792051255136 : True := ⟨⟩
theorem tw8069266287571258106 : True := ⟨⟩
theorem tw10205110700268125679 : True := ⟨⟩
theorem tw3847797010439314275 : True := ⟨⟩
theorem tw10531938793092325472 : True := ⟨⟩
theorem tw17816096513578005441 : True := ⟨⟩
theorem tw3660727566418156373 : True := ⟨⟩
theorem tw8685989144685050300 : True := ⟨⟩
theorem tw12424553850362440388 : True := ⟨⟩
theorem tw2321694991653049619 : True := ⟨⟩
theorem tw12483699789681811904 : True := ⟨⟩
theorem tw9409556607182397271 : True := ⟨⟩
theorem tw14730716911233368286 : True := ⟨⟩
theorem tw1306452141235309397 : True := ⟨⟩
theorem tw1619388359345711232 : True := ⟨⟩
theorem tw15099701978804408822 : True := ⟨⟩
theorem tw17007824922947946334 : True := ⟨⟩
theorem tw1231180400155205354 : True := ⟨⟩
theorem tw1096756178849478454 : True := ⟨⟩
theorem tw18200765072353578792 : True := ⟨⟩
theorem tw13681946561219930701 : True := ⟨⟩
theorem tw12081805000360911231 : True := ⟨⟩
theorem tw2990461788232550154 : True := ⟨⟩
theorem tw8166852790792138512 : True := ⟨⟩
theorem tw15542709249477944606 : True := ⟨⟩
theorem tw3853570013006376938 : True := ⟨⟩
theorem tw10982298167680570436 : True := ⟨⟩
theorem tw7178435739580014021 : True := ⟨⟩
theorem tw8768331889008922625 : True := ⟨⟩
theorem tw13730617621524381637 : True := ⟨⟩
theorem tw3194927244579664288 : True := ⟨⟩
theorem tw411928367478827425 : True := ⟨⟩
theorem tw2417620876688122340 : True := ⟨⟩
theorem tw7307480242462818547 : True := ⟨⟩
theorem tw5709422741893329868 : True := ⟨⟩
theorem tw10261811384222105342 : True := ⟨⟩
theorem tw13415361692502428519 : True := ⟨⟩
theorem tw1657106148343522138 : True := ⟨⟩
theorem tw18163113309861722515 : True := ⟨⟩
theorem tw4653027150781514887 : True := ⟨⟩
theorem tw2939671721601849088 : True := ⟨⟩
theorem tw14989595228445713702 : True := ⟨⟩
theorem tw264545234923432408 : True := ⟨⟩
theorem tw2442323652400006639 : True := ⟨⟩
theorem tw2482787814253582599 : True := ⟨⟩
theorem tw12810415998071606633 : True := ⟨⟩
theorem tw2021879007345812071 : True := ⟨⟩
theorem tw14807215639728342897 : True := ⟨⟩
theorem tw4567804711278727863 : True := ⟨⟩
theorem tw16818700186210262955 : True := ⟨⟩
theorem tw12979076489624104368 : True := ⟨⟩
theorem tw2306564022973769700 : True := ⟨⟩
theorem tw12788799888213952793 : True := ⟨⟩
theorem tw1340914908284099370 : True := ⟨⟩
theorem tw755536592145719288 : True := ⟨⟩
theorem tw9215153910451684865 : True := ⟨⟩
theorem tw17446215976388327795 : True := ⟨⟩
theorem tw17646852611988778138 : True := ⟨⟩
theorem tw5758080691070280839 : True := ⟨⟩
theorem tw12956245950511301495 : True := ⟨⟩
theorem tw7317800585534107106 : True := ⟨⟩
theorem tw9725110428160472187 : True := ⟨⟩
theorem tw9738837951441257389 : True := ⟨⟩
theorem tw870158283910738638 : True := ⟨⟩
theorem tw684618138491237638 : True := ⟨⟩
theorem tw5900155608824495029 : True := ⟨⟩
theorem tw14268643171844255605 : True := ⟨⟩
theorem tw4548546583964404158 : True := ⟨⟩
theorem tw3037563289148223265 : True := ⟨⟩
theorem tw12595520174715533492 : True := ⟨⟩
theorem tw14039649191729779282 : True := ⟨⟩
theorem tw17678379273094938405 : True := ⟨⟩
theorem tw248125675079673028 : True := ⟨⟩
theorem tw1719050600554905815 : True := ⟨⟩
theorem tw14829541856789284856 : True := ⟨⟩
theorem tw2531490804713829039 : True := ⟨⟩
theorem tw1092312799809985658 : True := ⟨⟩
theorem tw3859580945626564033 : True := ⟨⟩
theorem tw11031350191756994655 : True := ⟨⟩
theorem tw15896101421000032638 : True := ⟨⟩
theorem tw6382553027983477543 : True := ⟨⟩
theorem tw8968208330567354612 : True := ⟨⟩
theorem tw6735628127202848003 : True := ⟨⟩
theorem tw1726936450446286091 : True := ⟨⟩
theorem tw7075010951503934219 : True := ⟨⟩
theorem tw12496838536843529149 : True := ⟨⟩
theorem tw552187839174405842 : True := ⟨⟩
theorem tw13495394828255168372 : True := ⟨⟩
theorem tw6763160351960940 : True := ⟨⟩
theorem tw4055465882440897387 : True := ⟨⟩
theorem tw14053561871994054222 : True := ⟨⟩
theorem tw13259970258106954791 : True := ⟨⟩
theorem tw5973573568054713393 : True := ⟨⟩
theorem tw5017314305958259087 : True := ⟨⟩
theorem tw14297561235948572644 : True := ⟨⟩
theorem tw5489663798563136250 : True := ⟨⟩
theorem tw5017141601724233943 : True := ⟨⟩
theorem tw17635208441888475027 : True := ⟨⟩
theorem tw10411713043340517696 : True := ⟨⟩
theorem tw2285591456799166745 : True := ⟨⟩
theorem tw17049751698857521930 : True := ⟨⟩
theorem tw9623294488960178180 : True := ⟨⟩
theorem tw6136731538929522739 : True := ⟨⟩
theorem tw11596674047555070093 : True := ⟨⟩
theorem tw16934410048358118410 : True := ⟨⟩
theorem tw11033401275087405915 : True := ⟨⟩
theorem tw17209274666431911036 : True := ⟨⟩
theorem tw711133997176068019 : True := ⟨⟩
theorem tw5996469588937960361 : True := ⟨⟩
theorem tw12580810620175459705 : True := ⟨⟩
theorem tw15900956299630002736 : True := ⟨⟩
theorem tw11418528894579543862 : True := ⟨⟩
theorem tw1626589435731522228 : True := ⟨⟩
theorem tw4821881133175175373 : True := ⟨⟩
end PySem.W.Fast
open PySem PySem.W PyProof.Rows
set_option maxRecDepth 100000 in
set_option maxHeartbeats 0 in
theorem PySem.Challenge.cw_partrests_k72_counts_and_lists_answered_holds : PySem.Challenge.rw_partrests_k72_counts_and_lists_answered.Holds := by
  w_on; o_law; k_head; (case hw => w_witness2)
  k_fill
  refine K72.walk (l := PySem.Challenge.rw_partrests_k72_counts_and_lists_answered) rfl rfl (fun w h Y => PySem.W.kIn_of Y) ?F
  case F =>
    intro w mg fa h KX G hmg
    refine' K72.all_mk KX G hmg ?a1 ?l1 ?c1 ?k1 ?a2 ?l2 ?c2 ?k2 ?a3 ?l3 ?c3 ?k3 ?a4 ?l4 ?c4 ?k4 ?a5 ?l5 ?c5 ?k5 ?a6 ?l6 ?c6 ?k6 ?a7 ?l7 ?c7 ?k7 ?a8 ?l8 ?c8 ?k8 ?a9 ?l9 ?c9 ?k9 ?a10 ?l10 ?c10 ?k10 ?a11 ?l11 ?c11 ?k11 ?a12 ?l12 ?c12 ?k12 ?a13 ?l13 ?c13 ?k13 ?a14 ?l14 ?c14 ?k14 ?a15 ?l15 ?c15 ?k15 ?a16 ?l16 ?c16 ?k16 ?a17 ?l17 ?c17 ?k17 ?a18 ?l18 ?c18 ?k18 ?a19 ?l19 ?c19 ?k19 ?a20 ?l20 ?c20 ?k20 ?a21 ?l21 ?c21 ?k21 ?a22 ?l22 ?c22 ?k22 ?a23 ?l23 ?c23 ?k23 ?a24 ?l24 ?c24 ?k24 ?a25 ?l25 ?c25 ?k25 ?a26 ?l26 ?c26 ?k26 ?a27 ?l27 ?c27 ?k27 ?a28 ?l28 ?c28 ?k28 ?a29 ?l29 ?c29 ?k29 ?a30 ?l30 ?c30 ?k30 ?a31 ?l31 ?c31 ?k31 ?a32 ?l32 ?c32 ?k32 ?a33 ?l33 ?c33 ?k33 ?a34 ?l34 ?c34 ?k34 ?a35 ?l35 ?c35 ?k35 ?a36 ?l36 ?c36 ?k36 ?a37 ?l37 ?c37 ?k37 ?a38 ?l38 ?c38 ?k38 ?a39 ?l39 ?c39 ?k39 ?a40 ?l40 ?c40 ?k40 ?a41 ?l41 ?c41 ?k41 ?a42 ?l42 ?c42 ?k42 ?a43 ?l43 ?c43 ?k43 ?a44 ?l44 ?c44 ?k44 ?a45 ?l45 ?c45 ?k45 ?a46 ?l46 ?c46 ?k46 ?a47 ?l47 ?c47 ?k47 ?y1 ?y2 ?y3 ?y4 ?y5 ?y6 ?y7 ?y8 ?yd ?yk ?yh ?yv1 ?yv2 ?z1 ?z2 ?z3 ?z4 ?z5 ?z6 ?z7 ?z8 ?z9 ?z10 ?z11 ?z12
    (case a1 => k_is); (case l1 => k_is); (case c1 => k_is); (case k1 => k_is)
    (case a2 => k_is); (case l2 => k_is); (case c2 => k_is); (case k2 => k_is)
    (case a3 => k_is); (case l3 => k_is); (case c3 => k_is); (case k3 => k_is)
    (case a4 => k_is); (case l4 => k_is); (case c4 => k_is); (case k4 => k_is)
    (case a5 => k_is); (case l5 => k_is); (case c5 => k_is); (case k5 => k_is)
    (case a6 => k_is); (case l6 => k_is); (case c6 => k_is); (case k6 => k_is)
    (case a7 => k_is); (case l7 => k_is); (case c7 => k_is); (case k7 => k_is)
    (case a8 => k_is); (case l8 => k_is); (case c8 => k_is); (case k8 => k_is)
    (case a9 => k_is); (case l9 => k_is); (case c9 => k_is); (case k9 => k_is)
    (case a10 => k_is); (case l10 => k_is); (case c10 => k_is); (case k10 => k_is)
    (case a11 => k_is); (case l11 => k_is); (case c11 => k_is); (case k11 => k_is)
    (case a12 => k_is); (case l12 => k_is); (case c12 => k_is); (case k12 => k_is)
    (case a13 => k_is); (case l13 => k_is); (case c13 => k_is); (case k13 => k_is)
    (case a14 => k_is); (case l14 => k_is); (case c14 => k_is); (case k14 => k_is)
    (case a15 => k_is); (case l15 => k_is); (case c15 => k_is); (case k15 => k_is)
    (case a16 => k_is); (case l16 => k_is); (case c16 => k_is); (case k16 => k_is)
    (case a17 => k_is); (case l17 => k_is); (case c17 => k_is); (case k17 => k_is)
    (case a18 => k_is); (case l18 => k_is); (case c18 => k_is); (case k18 => k_is)
    (case a19 => k_is); (case l19 => k_is); (case c19 => k_is); (case k19 => k_is)
    (case a20 => k_is); (case l20 => k_is); (case c20 => k_is); (case k20 => k_is)
    (case a21 => k_is); (case l21 => k_is); (case c21 => k_is); (case k21 => k_is)
    (case a22 => k_is); (case l22 => k_is); (case c22 => k_is); (case k22 => k_is)
    (case a23 => k_is); (case l23 => k_is); (case c23 => k_is); (case k23 => k_is)
    (case a24 => k_is); (case l24 => k_is); (case c24 => k_is); (case k24 => k_is)
    (case a25 => k_is); (case l25 => k_is); (case c25 => k_is); (case k25 => k_is)
    (case a26 => k_is); (case l26 => k_is); (case c26 => k_is); (case k26 => k_is)
    (case a27 => k_is); (case l27 => k_is); (case c27 => k_is); (case k27 => k_is)
    (case a28 => k_is); (case l28 => k_is); (case c28 => k_is); (case k28 => k_is)
    (case a29 => k_is); (case l29 => k_is); (case c29 => k_is); (case k29 => k_is)
    (case a30 => k_is); (case l30 => k_is); (case c30 => k_is); (case k30 => k_is)
    (case a31 => k_is); (case l31 => k_is); (case c31 => k_is); (case k31 => k_is)
    (case a32 => k_is); (case l32 => k_is); (case c32 => k_is); (case k32 => k_is)
    (case a33 => k_is); (case l33 => k_is); (case c33 => k_is); (case k33 => k_is)
    (case a34 => k_is); (case l34 => k_is); (case c34 => k_is); (case k34 => k_is)
    (case a35 => k_is); (case l35 => k_is); (case c35 => k_is); (case k35 => k_is)
    (case a36 => k_is); (case l36 => k_is); (case c36 => k_is); (case k36 => k_is)
    (case a37 => k_is); (case l37 => k_is); (case c37 => k_is); (case k37 => k_is)
    (case a38 => k_is); (case l38 => k_is); (case c38 => k_is); (case k38 => k_is)
    (case a39 => k_is); (case l39 => k_is); (case c39 => k_is); (case k39 => k_is)
    (case a40 => k_is); (case l40 => k_is); (case c40 => k_is); (case k40 => k_is)
    (case a41 => k_is); (case l41 => k_is); (case c41 => k_is); (case k41 => k_is)
    (case a42 => k_is); (case l42 => k_is); (case c42 => k_is); (case k42 => k_is)
    (case a43 => k_is); (case l43 => k_is); (case c43 => k_is); (case k43 => k_is)
    (case a44 => k_is); (case l44 => k_is); (case c44 => k_is); (case k44 => k_is)
    (case a45 => k_is); (case l45 => k_is); (case c45 => k_is); (case k45 => k_is)
    (case a46 => k_is); (case l46 => k_is); (case c46 => k_is); (case k46 => k_is)
    (case a47 => k_is); (case l47 => k_is); (case c47 => k_is); (case k47 => k_is)
    (case y1 => k_is)
    (case y2 => k_is)
    (case y3 => k_is)
    (case y4 => k_is)
    (case y5 => k_is)
    (case y6 => k_is)
    (case y7 => k_is)
    (case y8 => k_is)
    (case yd => k_is)
    (case yk => with_unfolding_all rfl)
    (case yh => with_unfolding_all rfl)
    (case yv1 => with_unfolding_all rfl)
    (case yv2 => with_unfolding_all rfl)
    (case z1 => k_is)
    (case z2 => k_is)
    (case z3 => k_is)
    (case z4 => k_is)
    (case z5 => k_is)
    (case z6 => k_is)
    (case z7 => k_is)
    (case z8 => k_is)
    (case z9 => k_is)
    (case z10 => k_is)
    (case z11 => k_is)
    (case z12 => k_is)

